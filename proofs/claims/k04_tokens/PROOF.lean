import PyProof.Rows.All
import Wide.All
import OpenK.AllK
import Wide.FinOn
import HandS.ForMost
import HandS.IsInst
import HandS.Conv
import HandS.Evl
import PyProof.StrBlock2
import HandS.ExcInit
import HandS.ExcIs
import HandS.ExcField
import PySem.Challenge.RW_hushedpages_k04_tokens
set_option Elab.async false
set_option linter.all false
set_option maxRecDepth 100000
set_option maxHeartbeats 4000000
namespace Vf
open PySem PySem.Spec PyProof.Rows L2
def topS (i : Nat) : Stmt := PySem.Challenge.pw_hushedpages_k04_tokens.main.body.getD i (.Pass ⟨0, 0, 0, 0⟩)
abbrev s_tokens_of : Stmt := topS 4
theorem sc_tokens_of : FnScope ["text", "found", "at", "behind"] ["text"] (defScope s_tokens_of) := ⟨rfl, rfl, rfl, by decide +kernel, rfl, by decide +kernel, by decide +kernel⟩
abbrev s_token_end : Stmt := topS 5
theorem sc_token_end : FnScope ["text", "at"] ["text", "at"] (defScope s_token_end) := ⟨rfl, rfl, rfl, by decide +kernel, rfl, by decide +kernel, by decide +kernel⟩
abbrev s_run_end : Stmt := topS 6
theorem sc_run_end : FnScope ["text", "at", "allowed"] ["text", "at", "allowed"] (defScope s_run_end) := ⟨rfl, rfl, rfl, by decide +kernel, rfl, by decide +kernel, by decide +kernel⟩
abbrev s_law_begin : Stmt := topS 8
theorem sc_law_begin : FnScope ["_law_script"] ["_law_script"] (defScope s_law_begin) := ⟨rfl, rfl, rfl, by decide +kernel, rfl, by decide +kernel, by decide +kernel⟩
abbrev s_law_draw : Stmt := topS 9
theorem sc_law_draw : FnScope ["_law_d", "_law_many", "_law_cell", "_law_found"] ["_law_d", "_law_many"] (defScope s_law_draw) := ⟨rfl, rfl, rfl, by decide +kernel, rfl, by decide +kernel, by decide +kernel⟩
abbrev s_law_pick : Stmt := topS 10
theorem sc_law_pick : FnScope ["_law_d", "_law_row"] ["_law_d", "_law_row"] (defScope s_law_pick) := ⟨rfl, rfl, rfl, by decide +kernel, rfl, by decide +kernel, by decide +kernel⟩
abbrev s_law_rare : Stmt := topS 11
theorem sc_law_rare : FnScope ["_law_d", "_law_many"] ["_law_d", "_law_many"] (defScope s_law_rare) := ⟨rfl, rfl, rfl, by decide +kernel, rfl, by decide +kernel, by decide +kernel⟩
abbrev s_law_word : Stmt := topS 12
theorem sc_law_word : FnScope ["_law_d", "_law_low", "_law_high", "_law_long", "_law_signs", "_law_k"] ["_law_d", "_law_low", "_law_high"] (defScope s_law_word) := ⟨rfl, rfl, rfl, by decide +kernel, rfl, by decide +kernel, by decide +kernel⟩
abbrev s_law_exact : Stmt := topS 13
theorem sc_law_exact : FnScope ["_law_told", "_law_due", "_law_k"] ["_law_told", "_law_due"] (defScope s_law_exact) := ⟨rfl, rfl, rfl, by decide +kernel, rfl, by decide +kernel, by decide +kernel⟩
abbrev s_law_word_signs : Stmt := topS 14
theorem sc_law_word_signs : FnScope [] [] (defScope s_law_word_signs) := ⟨rfl, rfl, rfl, by decide +kernel, rfl, by decide +kernel, by decide +kernel⟩
abbrev s_law_run : Stmt := topS 15
theorem sc_law_run : FnScope ["_law_d", "_law_signs", "_law_size", "_law_k"] ["_law_d", "_law_signs", "_law_size"] (defScope s_law_run) := ⟨rfl, rfl, rfl, by decide +kernel, rfl, by decide +kernel, by decide +kernel⟩
abbrev s_law_some_word : Stmt := topS 16
theorem sc_law_some_word : FnScope ["_law_d", "_law_kind"] ["_law_d"] (defScope s_law_some_word) := ⟨rfl, rfl, rfl, by decide +kernel, rfl, by decide +kernel, by decide +kernel⟩
abbrev s_law_some_name : Stmt := topS 17
theorem sc_law_some_name : FnScope ["_law_d", "_law_kind", "_law_names"] ["_law_d"] (defScope s_law_some_name) := ⟨rfl, rfl, rfl, by decide +kernel, rfl, by decide +kernel, by decide +kernel⟩
abbrev s_law_odd_signs : Stmt := topS 18
theorem sc_law_odd_signs : FnScope [] [] (defScope s_law_odd_signs) := ⟨rfl, rfl, rfl, by decide +kernel, rfl, by decide +kernel, by decide +kernel⟩
abbrev s_law_runs_on : Stmt := topS 19
theorem sc_law_runs_on : FnScope ["_law_one", "_law_two"] ["_law_one", "_law_two"] (defScope s_law_runs_on) := ⟨rfl, rfl, rfl, by decide +kernel, rfl, by decide +kernel, by decide +kernel⟩
abbrev s_law_gap : Stmt := topS 20
theorem sc_law_gap : FnScope ["_law_d", "_law_needed", "_law_gap_here"] ["_law_d", "_law_needed"] (defScope s_law_gap) := ⟨rfl, rfl, rfl, by decide +kernel, rfl, by decide +kernel, by decide +kernel⟩
abbrev s_law_parts : Stmt := topS 21
theorem sc_law_parts : FnScope ["_law_d", "_law_tokens", "_law_parts_here", "_law_k", "_law_needed"] ["_law_d", "_law_tokens"] (defScope s_law_parts) := ⟨rfl, rfl, rfl, by decide +kernel, rfl, by decide +kernel, by decide +kernel⟩
abbrev s_law_loose_sign : Stmt := topS 22
theorem sc_law_loose_sign : FnScope ["_law_d", "_law_kind"] ["_law_d", "_law_kind"] (defScope s_law_loose_sign) := ⟨rfl, rfl, rfl, by decide +kernel, rfl, by decide +kernel, by decide +kernel⟩
abbrev s_law_loose_text : Stmt := topS 23
theorem sc_law_loose_text : FnScope ["_law_d", "_law_many", "_law_menu", "_law_text", "_law_k"] ["_law_d"] (defScope s_law_loose_text) := ⟨rfl, rfl, rfl, by decide +kernel, rfl, by decide +kernel, by decide +kernel⟩
abbrev s_law_walked : Stmt := topS 24
theorem sc_law_walked : FnScope ["_law_text", "_law_found", "_law_inside", "_law_sign", "_law_letter", "_law_fitting"] ["_law_text"] (defScope s_law_walked) := ⟨rfl, rfl, rfl, by decide +kernel, rfl, by decide +kernel, by decide +kernel⟩
abbrev s_law_any_token : Stmt := topS 25
theorem sc_law_any_token : FnScope ["_law_d", "_law_kind"] ["_law_d"] (defScope s_law_any_token) := ⟨rfl, rfl, rfl, by decide +kernel, rfl, by decide +kernel, by decide +kernel⟩
abbrev s_law_world : Stmt := topS 26
theorem sc_law_world : FnScope ["_law_d", "_law_text", "_law_tokens", "_law_k"] ["_law_d"] (defScope s_law_world) := ⟨rfl, rfl, rfl, by decide +kernel, rfl, by decide +kernel, by decide +kernel⟩
abbrev s_law : Stmt := topS 27
theorem sc_law : FnScope ["_law_script", "_law_d", "_law_worlds", "_law_k", "_law_text", "_law_due"] ["_law_script"] (defScope s_law) := ⟨rfl, rfl, rfl, by decide +kernel, rfl, by decide +kernel, by decide +kernel⟩
structure DefAt (K : PySem.W.Frag) (mg : Str → Option Value) (x : Str) (st : Stmt) (ps : List Str) (f : Addr) (fd : FuncData) : Prop where
  F : Fun K x x st f fd
  G : mg x = some (.ref f)
  B : Binds K fd ps []
  E : ∃ kV doc pm an cdv ct, fd = PySem.W.fnOf x x (defArgs st) (defBody st) (defScope st) .none kV doc pm an cdv ct
structure Txt (K : PySem.W.Frag) (mg : Str → Option Value) where
  a_tokens_of : Addr
  d_tokens_of : FuncData
  D_tokens_of : DefAt K mg "tokens_of" s_tokens_of ["text"] a_tokens_of d_tokens_of
  a_token_end : Addr
  d_token_end : FuncData
  D_token_end : DefAt K mg "_token_end" s_token_end ["text", "at"] a_token_end d_token_end
  a_run_end : Addr
  d_run_end : FuncData
  D_run_end : DefAt K mg "_run_end" s_run_end ["text", "at", "allowed"] a_run_end d_run_end
  a_law_begin : Addr
  d_law_begin : FuncData
  D_law_begin : DefAt K mg "_law_begin" s_law_begin ["_law_script"] a_law_begin d_law_begin
  a_law_draw : Addr
  d_law_draw : FuncData
  D_law_draw : DefAt K mg "_law_draw" s_law_draw ["_law_d", "_law_many"] a_law_draw d_law_draw
  a_law_pick : Addr
  d_law_pick : FuncData
  D_law_pick : DefAt K mg "_law_pick" s_law_pick ["_law_d", "_law_row"] a_law_pick d_law_pick
  a_law_rare : Addr
  d_law_rare : FuncData
  D_law_rare : DefAt K mg "_law_rare" s_law_rare ["_law_d", "_law_many"] a_law_rare d_law_rare
  a_law_word : Addr
  d_law_word : FuncData
  D_law_word : DefAt K mg "_law_word" s_law_word ["_law_d", "_law_low", "_law_high"] a_law_word d_law_word
  a_law_exact : Addr
  d_law_exact : FuncData
  D_law_exact : DefAt K mg "_law_exact" s_law_exact ["_law_told", "_law_due"] a_law_exact d_law_exact
  a_law_word_signs : Addr
  d_law_word_signs : FuncData
  D_law_word_signs : DefAt K mg "_law_word_signs" s_law_word_signs [] a_law_word_signs d_law_word_signs
  a_law_run : Addr
  d_law_run : FuncData
  D_law_run : DefAt K mg "_law_run" s_law_run ["_law_d", "_law_signs", "_law_size"] a_law_run d_law_run
  a_law_some_word : Addr
  d_law_some_word : FuncData
  D_law_some_word : DefAt K mg "_law_some_word" s_law_some_word ["_law_d"] a_law_some_word d_law_some_word
  a_law_some_name : Addr
  d_law_some_name : FuncData
  D_law_some_name : DefAt K mg "_law_some_name" s_law_some_name ["_law_d"] a_law_some_name d_law_some_name
  a_law_odd_signs : Addr
  d_law_odd_signs : FuncData
  D_law_odd_signs : DefAt K mg "_law_odd_signs" s_law_odd_signs [] a_law_odd_signs d_law_odd_signs
  a_law_runs_on : Addr
  d_law_runs_on : FuncData
  D_law_runs_on : DefAt K mg "_law_runs_on" s_law_runs_on ["_law_one", "_law_two"] a_law_runs_on d_law_runs_on
  a_law_gap : Addr
  d_law_gap : FuncData
  D_law_gap : DefAt K mg "_law_gap" s_law_gap ["_law_d", "_law_needed"] a_law_gap d_law_gap
  a_law_parts : Addr
  d_law_parts : FuncData
  D_law_parts : DefAt K mg "_law_parts" s_law_parts ["_law_d", "_law_tokens"] a_law_parts d_law_parts
  a_law_loose_sign : Addr
  d_law_loose_sign : FuncData
  D_law_loose_sign : DefAt K mg "_law_loose_sign" s_law_loose_sign ["_law_d", "_law_kind"] a_law_loose_sign d_law_loose_sign
  a_law_loose_text : Addr
  d_law_loose_text : FuncData
  D_law_loose_text : DefAt K mg "_law_loose_text" s_law_loose_text ["_law_d"] a_law_loose_text d_law_loose_text
  a_law_walked : Addr
  d_law_walked : FuncData
  D_law_walked : DefAt K mg "_law_walked" s_law_walked ["_law_text"] a_law_walked d_law_walked
  a_law_any_token : Addr
  d_law_any_token : FuncData
  D_law_any_token : DefAt K mg "_law_any_token" s_law_any_token ["_law_d"] a_law_any_token d_law_any_token
  a_law_world : Addr
  d_law_world : FuncData
  D_law_world : DefAt K mg "_law_world" s_law_world ["_law_d"] a_law_world d_law_world
  a_law : Addr
  d_law : FuncData
  D_law : DefAt K mg "law" s_law ["_law_script"] a_law d_law
  t_LETTERS : Tok
  m_LETTERS : mg "LETTERS" = some (.str "abcdefghijklmnopqrstuvwxyz" t_LETTERS)
  t_WORD_CHARACTERS : Tok
  m_WORD_CHARACTERS : mg "WORD_CHARACTERS" = some (.str "abcdefghijklmnopqrstuvwxyz0123456789.,:;!?'()+=<>*/" t_WORD_CHARACTERS)
  t_BLANKS : Tok
  m_BLANKS : mg "BLANKS" = some (.str " \n" t_BLANKS)
  n_bool : mg "bool" = none
  n_int : mg "int" = none
  n_isinstance : mg "isinstance" = none
  n_len : mg "len" = none
  n_list : mg "list" = none
  n_range : mg "range" = none
  n_str : mg "str" = none
  n_tuple : mg "tuple" = none
/-! ### the dice -/
/-- at d the dice, at l the script's copy -/
structure DI (d l : Addr) (H : Hp) : Prop where
  ne : l ≠ d
  sc : ∃ ns : List Int, H l = some (.lst (ns.map V.int))
  st : ∃ i b s c : Int, 0 ≤ i ∧ H d = some (.lst [.ref l, .int i, .int b, .int s, .int c])
/-- all but the dice stands -/
def Kp (d : Addr) (H H' : Hp) : Prop := ∀ b o, b ≠ d → H b = some o → H' b = some o
theorem Kp.refl (d : Addr) (H : Hp) : Kp d H H := fun _ _ _ h => h
theorem Kp.trans {d : Addr} {H H1 H2 : Hp} (a : Kp d H H1) (b : Kp d H1 H2) : Kp d H H2 := fun x o n h => b x o n (a x o n h)
theorem Kp.upd {d : Addr} {H H' : Hp} {o : HO} (a : Kp d H H') : Kp d H (upd H' d o) := fun x u n h => by
  rw [upd_ne n]; exact a x u n h
theorem Kp.new {d p : Addr} {H H' : Hp} {o : HO} (a : Kp d H H') (hp : H' p = none) : Kp d H (L2.upd H' p o) := fun x u n h => by
  have h2 := a x u n h
  rw [upd_ne (ne_of_none h2 hp)]; exact h2
theorem Kp.mut {d p : Addr} {H H' : Hp} {o : HO} (a : Kp d H H') (hp : H p = none) : Kp d H (L2.upd H' p o) := fun x u n h => by
  rw [upd_ne (ne_of_none h hp)]; exact a x u n h
theorem Kp.sq {K : PySem.W.Frag} {d a : Addr} {H H' : Hp} {xs : List V} (k : Kp d H H') (n : a ≠ d) (h : SqL K H a xs) : SqL K H' a xs := by
  rcases h with (h | ⟨o, h⟩) | h
  · exact .inl (.inl (k _ _ n h))
  · exact .inl (.inr ⟨o, k _ _ n h⟩)
  · exact .inr h
theorem DI.keep {d l : Addr} {H H' : Hp} (h : DI d l H) (e : ∀ b o, H b = some o → H' b = some o) : DI d l H' := by
  obtain ⟨n, ⟨ns, h1⟩, i, b, s, c, h0, h2⟩ := h
  exact ⟨n, ⟨ns, e _ _ h1⟩, i, b, s, c, h0, e _ _ h2⟩
theorem DI.at {d l p : Addr} {H : Hp} {o : HO} (h : DI d l H) (n1 : p ≠ d) (n2 : p ≠ l) : DI d l (upd H p o) := by
  obtain ⟨n, ⟨ns, h1⟩, i, b, s, c, h0, h2⟩ := h
  exact ⟨n, ⟨ns, by rw [upd_ne n2.symm]; exact h1⟩, i, b, s, c, h0, by rw [upd_ne n1.symm]; exact h2⟩
theorem DI.new {d l p : Addr} {H : Hp} {o : HO} (h : DI d l H) (hp : H p = none) : DI d l (upd H p o) :=
  h.keep fun b u e => by rw [upd_ne (ne_of_none e hp)]; exact e
theorem DI.nd {d l p : Addr} {H : Hp} (h : DI d l H) (hp : H p = none) : p ≠ d ∧ p ≠ l := by
  obtain ⟨n, ⟨ns, h1⟩, i, b, s, c, h0, h2⟩ := h
  exact ⟨fun e => (by rw [e, h2] at hp; cases hp), fun e => (by rw [e, h1] at hp; cases hp)⟩
theorem DI.set {d l : Addr} {H : Hp} {i b s c : Int} (h : DI d l H) (h0 : 0 ≤ i) : DI d l (upd H d (.lst [.ref l, .int i, .int b, .int s, .int c])) := by
  obtain ⟨n, ⟨ns, h1⟩, _⟩ := h
  exact ⟨n, ⟨ns, by rw [upd_ne n]; exact h1⟩, i, b, s, c, h0, upd_same⟩
section
variable {P : Program} {w : World} {K : PySem.W.Frag} {mg : Str → Option Value} {base : Heap}
/-! ### begin -/
def spBegin (K : PySem.W.Frag) : Sp := fun vs H Q _ => ∃ (a : Addr) (ns : List Int), vs = [.ref a] ∧ SqL K H a (ns.map V.int) ∧ ns.length ≤ 63 ∧
  ∀ H' d l, Same H H' → DI d l H' → Q (.ref d) H'
theorem ok_begin (T : Txt K mg) : FnOk P w K mg base CX0 1 T.a_law_begin T.d_law_begin ["_law_script"] (spBegin K) := by
  refine T.D_law_begin.F.ok sc_law_begin (fun vs H Q E h => ?_) (fun cdv A outer s H vs Q E hr h => ?_)
  · obtain ⟨a, ns, rfl, _⟩ := h
    rfl
  · obtain ⟨a, ns, rfl, hS, hl, q⟩ := h
    refine ⟨_, (pss_one (ps_ret (pe_lst (pa_cons (pe_callTy call_list_of (by rfl) T.n_list (by decide +kernel) (pa_cons (pv 0) pa_nil)) (pa_cons pe_int (pa_cons pe_int (pa_cons pe_int (pa_cons pe_int pa_nil)))))))), ?_⟩
    refine ⟨_, rfl, a, _, rfl, .inl hS, fun l nl => ?_⟩
    refine ⟨by show 5 ≤ sizeLine; decide, fun d nd => ?_⟩
    refine q _ d l (fun b o e => ?_) ?_
    · have n1 : b ≠ l := ne_of_none e nl
      have e1 : upd H l (.lst (ns.map V.int)) b = some o := by rw [upd_ne n1]; exact e
      rw [upd_ne (ne_of_none e1 nd)]
      exact e1
    · have e1 : upd H l (.lst (ns.map V.int)) l = some (.lst (ns.map V.int)) := upd_same
      have n1 : l ≠ d := ne_of_none e1 nd
      exact ⟨n1, ⟨ns, by rw [upd_ne n1]; exact e1⟩, 0, 0, 7, 0, by decide, upd_same⟩
/-! ### draw -/
def spDraw : Sp := fun vs H Q _ => ∃ (d l : Addr) (m : Int), vs = [.ref d, .int m] ∧ DI d l H ∧ m ≤ 1000000 ∧
  ∀ H' r, Kp d H H' → DI d l H' → (m < 2 → r = 0) → (2 ≤ m → 0 ≤ r ∧ r < m) → Q (.int r) H'
theorem ok_draw (T : Txt K mg) : FnOk P w K mg base CX0 1 T.a_law_draw T.d_law_draw ["_law_d", "_law_many"] spDraw := by
  refine T.D_law_draw.F.ok sc_law_draw (fun vs H Q E h => ?_) (fun cdv A outer s H vs Q E hr h => ?_)
  · obtain ⟨d, l, m, rfl, _⟩ := h
    rfl
  · obtain ⟨d, l, m, rfl, hD, hm, q⟩ := h
    refine ⟨_, (pss_cons (ps_if (pt_cmpR op_lt (pv 1) pe_int (nomark _)) (pss_one (ps_ret pe_int)) pss_nil)
      (pss_cons (ps_set (i := 2) sc_law_draw.nd rfl (.inl rfl) (pe_op op_add (pe_op op_mul (pe_ix ix_list (pv 0) pe_int (fun _ _ => rfl)) pe_int) pe_int))
      (Evl.pss_cut (ps_if (PW.pt (pw_and (pt_cmpR op_eq (pe_ix ix_list (pv 0) pe_int (fun _ _ => rfl)) pe_int (nomark _)) (pw_and1 (pt_cmpR op_lt (pe_ix ix_list (pv 0) pe_int (fun _ _ => rfl)) (pe_callB call_len_seq (by rfl) T.n_len PySem.boot_len (pa_cons (pe_ix ix_list (pv 0) pe_int (fun _ _ => rfl)) pa_nil)) (nomark _))))) (pss_cons (ps_set (i := 2) sc_law_draw.nd rfl (.inl rfl) (pe_ix ix_list (pe_ix ix_list (pv 0) pe_int (fun _ _ => rfl)) (pe_ix ix_list (pv 0) pe_int (fun _ _ => rfl)) (fun _ _ => rfl)))
      (pss_cons (ps_asg (pe_op op_add (pe_ix ix_list (pv 0) pe_int (fun _ _ => rfl)) pe_int) (pg_sub (pv 0) pe_int set_list))
      (Evl.pss_cut (ps_if (pt_cmpR op_lt (pv 2) pe_int (nomark _)) (pss_one (ps_set (i := 2) sc_law_draw.nd rfl (.inl rfl) (pe_op op_sub pe_int (pe_op op_mul pe_int (pv 2))))) pss_nil)
      (pss_one (ps_if (pt_cmpR op_ge (pv 2) pe_int (nomark _)) (pss_cons (ps_set (i := 2) sc_law_draw.nd rfl (.inl rfl) (pe_op op_and (pv 2) (pe_op op_sub (pe_op op_shl pe_int pe_int) pe_int)))
      (pss_one (ps_asg (pv 2) (pg_sub (pv 0) pe_int set_list)))) pss_nil))))) pss_nil)
      (pss_cons (ps_if (pt_cmpR op_gt (pe_ix ix_list (pv 0) pe_int (fun _ _ => rfl)) pe_int (nomark _)) (pss_cons (ps_set (i := 3) sc_law_draw.nd rfl (.inl rfl) (pe_op op_modN (pe_callTy call_int1 (by rfl) T.n_int (by decide +kernel) (pa_cons (pe_ix ix_list (pv 0) pe_int (fun _ _ => rfl)) pa_nil)) (pv 1)))
      (pss_cons (ps_asg (pe_op op_fdivN (pe_ix ix_list (pv 0) pe_int (fun _ _ => rfl)) (pv 1)) (pg_sub (pv 0) pe_int set_list))
      (pss_one (ps_ret (pv 3))))) pss_nil)
      (pss_cons (ps_asg (pe_op op_add (pe_ix ix_list (pv 0) pe_int (fun _ _ => rfl)) pe_int) (pg_sub (pv 0) pe_int set_list))
      (pss_cons (ps_asg (pe_op op_modN (pe_callTy call_int1 (by rfl) T.n_int (by decide +kernel) (pa_cons (pe_op op_add (pe_op op_add (pe_op op_mul (pe_ix ix_list (pv 0) pe_int (fun _ _ => rfl)) pe_int) (pe_op op_mul (pv 2) pe_int)) (pe_op op_mul (pe_ix ix_list (pv 0) pe_int (fun _ _ => rfl)) pe_int)) pa_nil)) pe_int) (pg_sub (pv 0) pe_int set_list))
      (pss_one (ps_ret (pe_op op_modN (pe_callTy call_int1 (by rfl) T.n_int (by decide +kernel) (pa_cons (pe_op op_modN (pe_callTy call_int1 (by rfl) T.n_int (by decide +kernel) (pa_cons (pe_op op_add (pe_op op_add (pe_op op_mul (pe_ix ix_list (pv 0) pe_int (fun _ _ => rfl)) pe_int) (pe_op op_mul (pe_ix ix_list (pv 0) pe_int (fun _ _ => rfl)) pe_int)) pe_int) pa_nil)) pe_int) pa_nil)) (pv 1)))))))))), ?_⟩
    refine ⟨_, rfl, _, _, rfl, rfl, _, rfl, ite2 (fun e => ?_) (fun e => ?_)⟩
    · have e := of_decide_eq_true e
      exact q H 0 (Kp.refl d H) hD (fun _ => rfl) (fun z => by omega)
    have hm2 : 2 ≤ m := by
      have e2 : ¬ m < 2 := fun z => e (decide_eq_true z)
      omega
    have hmN : m ≠ 0 := by omega
    have hmA : m.natAbs < 1073741824 := by omega
    have fm : ∀ z : Int, 0 ≤ z.fmod m ∧ z.fmod m < m := fun z => ⟨Int.fmod_nonneg_of_pos z (by omega), Int.fmod_lt_of_pos z (by omega)⟩
    obtain ⟨n, ⟨ns, h1⟩, i, b, s5, c, h0, h2⟩ := id hD
    -- cell = d[4] * 977 + 3
    refine ⟨_, rfl, _, _, _, _, rfl, rfl, SqL.of h2, rfl, _, _, rfl, rfl, .inr ⟨by decide, by decide⟩, _, _, rfl, rfl, ?_⟩
    refine ⟨fun σ' H' => ∃ (cell : Int) (x3 : Option V), σ' = [some (.ref d), some (.int m), some (.int cell), x3] ∧ Kp d H H' ∧ DI d l H', ?_, ?_⟩
    · -- the cell
      refine ⟨_, rfl, _, _, _, _, rfl, rfl, SqL.of h2, rfl, rfl, _, rfl, ite2 (fun e1 => ?_) (fun e1 => ?_)⟩
      · refine ⟨_, rfl, _, _, _, _, rfl, rfl, SqL.of h2, rfl, _, rfl, _, _, _, _, rfl, rfl, SqL.of h2, rfl, _, _, rfl, .inl (SqL.of h1), _, _, rfl, rfl, _, rfl, ite2 (fun e2 => ?_) (fun e2 => ?_)⟩
        · have e2 := of_decide_eq_true e2
          rw [List.length_map] at e2
          obtain ⟨j, rfl⟩ : ∃ j : Nat, i = (j : Int) := ⟨i.toNat, by omega⟩
          have hj : j < ns.length := by omega
          have gj : (ns.map V.int)[j]? = some (.int ns[j]) := by
            rw [List.getElem?_map, List.getElem?_eq_getElem hj]; rfl
          refine ⟨_, rfl, _, _, _, _, rfl, rfl, SqL.of h2, rfl, _, rfl, _, _, _, _, rfl, rfl, SqL.of h2, rfl, _, _, _, _, rfl, rfl, SqL.of h1, atI_nat gj, ?_⟩
          -- d[1] = d[1] + 1
          refine ⟨_, rfl, _, _, _, _, rfl, rfl, SqL.of h2, rfl, _, _, rfl, rfl, _, rfl, _, _, _, _, rfl, rfl, h2, rfl, ?_⟩
          have D1 := hD.set (i := (j : Int) + 1) (b := b) (s := s5) (c := c) (by omega)
          have K1 : Kp d H (upd H d (.lst [.ref l, .int ((j : Int) + 1), .int b, .int s5, .int c])) := (Kp.refl d H).upd
          refine ⟨fun σ' H' => ∃ (cell : Int) (x3 : Option V), σ' = [some (.ref d), some (.int m), some (.int cell), x3] ∧ H' = upd H d (.lst [.ref l, .int ((j : Int) + 1), .int b, .int s5, .int c]), ?_, ?_⟩
          · refine ⟨_, rfl, _, _, rfl, rfl, _, rfl, ite2 (fun _ => ?_) (fun _ => ?_)⟩
            · exact ⟨_, rfl, _, _, rfl, rfl, .inl ⟨by decide, by decide⟩, _, _, rfl, rfl, _, _, rfl, rfl⟩
            · exact ⟨_, _, rfl, rfl⟩
          · rintro σ' H' ⟨cell, x3, rfl, rfl⟩
            refine ⟨_, rfl, _, _, rfl, rfl, _, rfl, ite2 (fun _ => ?_) (fun _ => ?_)⟩
            · refine ⟨_, rfl, _, _, rfl, rfl, ⟨by decide, by decide, by decide⟩, _, _, rfl, rfl, _, _, rfl, rfl, ?_⟩
              refine ⟨_, rfl, _, rfl, _, _, _, _, rfl, rfl, upd_same, rfl, ?_⟩
              exact ⟨_, _, rfl, K1.upd, D1.set (by omega)⟩
            · exact ⟨_, _, rfl, K1, D1⟩
        · exact ⟨_, _, rfl, Kp.refl d H, hD⟩
      · exact ⟨_, _, rfl, Kp.refl d H, hD⟩
    · rintro σ' H1 ⟨cell, x3, rfl, K1, D1⟩
      obtain ⟨n, ⟨ns, h1⟩, i, b, s5, c, h0, h2⟩ := id D1
      refine ⟨_, rfl, _, _, _, _, rfl, rfl, SqL.of h2, rfl, _, _, rfl, rfl, _, rfl, ite2 (fun e1 => ?_) (fun e1 => ?_)⟩
      · refine ⟨_, rfl, _, _, _, _, rfl, rfl, SqL.of h2, rfl, .inl ⟨_, rfl, _, rfl, _, _, rfl, rfl, hmN, ?_⟩⟩
        refine ⟨_, rfl, _, _, _, _, rfl, rfl, SqL.of h2, rfl, _, rfl, _, _, rfl, rfl, ⟨hmN, hmA⟩, _, rfl, _, _, _, _, rfl, rfl, h2, rfl, ?_⟩
        exact ⟨_, rfl, q _ _ K1.upd (D1.set h0) (fun z => by omega) (fun _ => fm _)⟩
      · refine ⟨_, rfl, _, _, _, _, rfl, rfl, SqL.of h2, rfl, _, _, rfl, rfl, _, rfl, _, _, _, _, rfl, rfl, h2, rfl, ?_⟩
        refine ⟨_, rfl, _, _, _, _, rfl, rfl, SqL.of upd_same, rfl, _, _, rfl, rfl, .inr ⟨by decide, by decide⟩, _, rfl, _, _, rfl, rfl, .inr ⟨by decide, by decide⟩, _, _, rfl, rfl, _, rfl, _, _, _, _, rfl, rfl, SqL.of upd_same, rfl, _, _, rfl, rfl, .inr ⟨by decide, by decide⟩, _, _, rfl, rfl, .inl ⟨_, rfl, _, _, rfl, rfl, (by show (2147483647 : Int) ≠ 0; decide), _, rfl, _, _, _, _, rfl, rfl, upd_same, rfl, ?_⟩⟩
        refine ⟨_, rfl, _, _, _, _, rfl, rfl, SqL.of upd_same, rfl, _, _, rfl, rfl, .inr ⟨by decide, by decide⟩, _, rfl, _, _, _, _, rfl, rfl, SqL.of upd_same, rfl, _, _, rfl, rfl, .inr ⟨by decide, by decide⟩, _, _, rfl, rfl, _, _, rfl, rfl, .inl ⟨_, rfl, _, _, rfl, rfl, (by show (2147483399 : Int) ≠ 0; decide), .inl ⟨_, rfl, _, rfl, _, _, rfl, rfl, hmN, ?_⟩⟩⟩
        exact q _ _ K1.upd.upd ((D1.set h0).set h0) (fun z => by omega) (fun _ => fm _)
end
end Vf

set_option Elab.async false
set_option linter.all false
set_option maxRecDepth 100000
set_option maxHeartbeats 4000000
namespace Vf
open PySem PySem.Spec PyProof.Rows L2 TL
/-! ### the mathematics of tokens -/
def sW : Str := "abcdefghijklmnopqrstuvwxyz0123456789.,:;!?'()+=<>*/"
def sL : Str := "abcdefghijklmnopqrstuvwxyz"
def sB : Str := " \n"
def sOdd : Str := "\"#$&-ABCDEFGHIJKLMNOPQRSTUVWXYZ[\\]^_`|~"
def cW (c : Nat) : Bool := decide (c ∈ sW.cps.toList)
def cL (c : Nat) : Bool := decide (c ∈ sL.cps.toList)
def cB (c : Nat) : Bool := decide (c ∈ sB.cps.toList)
/-- the text of these signs -/
def mkS (zs : List Nat) : Str := ⟨zs.toArray⟩
def sV (zs : List Nat) : V := .str (mkS zs)
theorem mkS_cps (zs : List Nat) : (mkS zs).cps.toList = zs := rfl
theorem mkS_of (z : Str) : mkS z.cps.toList = z := rfl
theorem mkS_len (zs : List Nat) : (mkS zs).length = zs.length := by simp [mkS, Str.length]
theorem len_cps (z : Str) : z.length = z.cps.toList.length := by simp [Str.length]
theorem mkS_app (a b : List Nat) : mkS a ++ mkS b = mkS (a ++ b) := by
  have h : (mkS a ++ mkS b).cps.toList = a ++ b := by rw [Str.cps_append, Array.toList_append]; rfl
  rw [← h]
  rfl
theorem mkS_inj {a b : List Nat} (h : mkS a = mkS b) : a = b := by
  have h2 := congrArg (fun z : Str => z.cps.toList) h
  exact h2
theorem sW_list : sW.cps.toList = [97,98,99,100,101,102,103,104,105,106,107,108,109,110,111,112,113,114,115,116,117,118,119,120,121,122,48,49,50,51,52,53,54,55,56,57,46,44,58,59,33,63,39,40,41,43,61,60,62,42,47] := by decide +kernel
theorem sL_list : sL.cps.toList = [97,98,99,100,101,102,103,104,105,106,107,108,109,110,111,112,113,114,115,116,117,118,119,120,121,122] := by decide +kernel
theorem sB_list : sB.cps.toList = [32, 10] := by decide +kernel
theorem cL_W {c : Nat} (h : cL c = true) : cW c = true := by
  have h1 := of_decide_eq_true h
  refine decide_eq_true ?_
  rw [sL_list] at h1
  rw [sW_list]
  rw [show ([97,98,99,100,101,102,103,104,105,106,107,108,109,110,111,112,113,114,115,116,117,118,119,120,121,122,48,49,50,51,52,53,54,55,56,57,46,44,58,59,33,63,39,40,41,43,61,60,62,42,47] : List Nat) = [97,98,99,100,101,102,103,104,105,106,107,108,109,110,111,112,113,114,115,116,117,118,119,120,121,122] ++ [48,49,50,51,52,53,54,55,56,57,46,44,58,59,33,63,39,40,41,43,61,60,62,42,47] from rfl]
  exact List.mem_append_left _ h1
theorem cW_B {c : Nat} (h : cW c = true) : cB c = false := by
  refine decide_eq_false fun h2 => ?_
  rw [sB_list] at h2
  have h1 := of_decide_eq_true h
  rw [sW_list] at h1
  simp only [List.mem_cons, List.not_mem_nil, or_false] at h2
  rcases h2 with rfl | rfl
  · exact absurd h1 (by decide)
  · exact absurd h1 (by decide)
theorem cW_at : cW 64 = false := by
  unfold cW
  rw [sW_list]
  decide
theorem cB_at : cB 64 = false := by
  unfold cB
  rw [sB_list]
  decide
theorem cW_ne {c : Nat} (h : cW c = true) : c ≠ 64 := fun e => by
  rw [e, cW_at] at h
  cases h
theorem drop_le {α : Type} (p : α → Bool) : ∀ l : List α, (l.dropWhile p).length ≤ l.length
  | [] => Nat.le_refl _
  | c :: r => by
    rw [List.dropWhile_cons]
    split
    · exact Nat.le_trans (drop_le p r) (Nat.le_succ _)
    · exact Nat.le_refl _
/-- the tokens of a text -/
def tokF : Nat → List Nat → List (List Nat)
  | 0, _ => []
  | _ + 1, [] => []
  | n + 1, c :: r =>
    if cB c then tokF n r else if c = 64 then (c :: r.takeWhile cL) :: tokF n (r.dropWhile cL)
    else if cW c then (c :: r.takeWhile cW) :: tokF n (r.dropWhile cW) else [c] :: tokF n r
theorem tokF_more : ∀ (n m : Nat) (zs : List Nat), zs.length ≤ n → zs.length ≤ m → tokF n zs = tokF m zs
  | 0, 0, _, _, _ => rfl
  | 0, m + 1, zs, h, _ => by
    have e : zs = [] := List.length_eq_zero_iff.mp (Nat.le_zero.mp h)
    subst e
    rfl
  | n + 1, 0, zs, _, h => by
    have e : zs = [] := List.length_eq_zero_iff.mp (Nat.le_zero.mp h)
    subst e
    rfl
  | n + 1, m + 1, [], _, _ => rfl
  | n + 1, m + 1, c :: r, h1, h2 => by
    have a1 : r.length ≤ n := Nat.le_of_succ_le_succ h1
    have a2 : r.length ≤ m := Nat.le_of_succ_le_succ h2
    have d1 := drop_le cL r
    have d2 := drop_le cW r
    show (if cB c then tokF n r else if c = 64 then (c :: r.takeWhile cL) :: tokF n (r.dropWhile cL) else if cW c then (c :: r.takeWhile cW) :: tokF n (r.dropWhile cW) else [c] :: tokF n r) =
      (if cB c then tokF m r else if c = 64 then (c :: r.takeWhile cL) :: tokF m (r.dropWhile cL) else if cW c then (c :: r.takeWhile cW) :: tokF m (r.dropWhile cW) else [c] :: tokF m r)
    rw [tokF_more n m r a1 a2, tokF_more n m _ (Nat.le_trans d1 a1) (Nat.le_trans d1 a2), tokF_more n m _ (Nat.le_trans d2 a1) (Nat.le_trans d2 a2)]
def tok (zs : List Nat) : List (List Nat) := tokF zs.length zs
theorem tok_nil : tok [] = [] := rfl
theorem tok_cons (c : Nat) (r : List Nat) : tok (c :: r) = if cB c then tok r else if c = 64 then (c :: r.takeWhile cL) :: tok (r.dropWhile cL)
    else if cW c then (c :: r.takeWhile cW) :: tok (r.dropWhile cW) else [c] :: tok r := by
  show (if cB c then tokF r.length r else if c = 64 then (c :: r.takeWhile cL) :: tokF r.length (r.dropWhile cL) else if cW c then (c :: r.takeWhile cW) :: tokF r.length (r.dropWhile cW) else [c] :: tokF r.length r) = _
  rw [tokF_more r.length (r.dropWhile cL).length (r.dropWhile cL) (drop_le _ _) (Nat.le_refl _), tokF_more r.length (r.dropWhile cW).length (r.dropWhile cW) (drop_le _ _) (Nat.le_refl _)]
  rfl
/-! #### what the law's own walk has found, and how it goes on -/
def cont : Nat → List (List Nat) → List Nat → List (List Nat)
  | 1, f, r => f.dropLast ++ ((f.getLast?.getD []) ++ r.takeWhile cW) :: tok (r.dropWhile cW)
  | 2, f, r => f.dropLast ++ ((f.getLast?.getD []) ++ r.takeWhile cL) :: tok (r.dropWhile cL)
  | _, f, r => f ++ tok r
theorem cont0 (f : List (List Nat)) (r : List Nat) : cont 0 f r = f ++ tok r := rfl
theorem cont1 (g : List (List Nat)) (t r : List Nat) : cont 1 (g ++ [t]) r = g ++ (t ++ r.takeWhile cW) :: tok (r.dropWhile cW) := by
  show (g ++ [t]).dropLast ++ (((g ++ [t]).getLast?.getD []) ++ r.takeWhile cW) :: tok (r.dropWhile cW) = _
  rw [List.dropLast_concat, List.getLast?_concat]; rfl
theorem cont2 (g : List (List Nat)) (t r : List Nat) : cont 2 (g ++ [t]) r = g ++ (t ++ r.takeWhile cL) :: tok (r.dropWhile cL) := by
  show (g ++ [t]).dropLast ++ (((g ++ [t]).getLast?.getD []) ++ r.takeWhile cL) :: tok (r.dropWhile cL) = _
  rw [List.dropLast_concat, List.getLast?_concat]; rfl
/-- a sign that goes on -/
theorem cont1_on {c : Nat} (h : cW c = true) (g : List (List Nat)) (t r : List Nat) : cont 1 (g ++ [t]) (c :: r) = cont 1 (g ++ [t ++ [c]]) r := by
  rw [cont1, cont1, List.takeWhile_cons_of_pos h, List.dropWhile_cons_of_pos h, List.append_assoc]; rfl
theorem cont2_on {c : Nat} (h : cL c = true) (g : List (List Nat)) (t r : List Nat) : cont 2 (g ++ [t]) (c :: r) = cont 2 (g ++ [t ++ [c]]) r := by
  rw [cont2, cont2, List.takeWhile_cons_of_pos h, List.dropWhile_cons_of_pos h, List.append_assoc]; rfl
/-- a sign that doesn't -/
theorem cont1_off {c : Nat} (h : cW c = false) (g : List (List Nat)) (t r : List Nat) : cont 1 (g ++ [t]) (c :: r) = cont 0 (g ++ [t]) (c :: r) := by
  rw [cont1, cont0, List.takeWhile_cons_of_neg (by rw [h]; decide), List.dropWhile_cons_of_neg (by rw [h]; decide), List.append_nil, List.append_assoc]; rfl
theorem cont2_off {c : Nat} (h : cL c = false) (g : List (List Nat)) (t r : List Nat) : cont 2 (g ++ [t]) (c :: r) = cont 0 (g ++ [t]) (c :: r) := by
  rw [cont2, cont0, List.takeWhile_cons_of_neg (by rw [h]; decide), List.dropWhile_cons_of_neg (by rw [h]; decide), List.append_nil, List.append_assoc]; rfl
theorem cont_blank {c : Nat} (h : cB c = true) (f : List (List Nat)) (r : List Nat) : cont 0 f (c :: r) = cont 0 f r := by
  rw [cont0, cont0, tok_cons, if_pos h]
theorem cont_at (f : List (List Nat)) (r : List Nat) : cont 0 f (64 :: r) = cont 2 (f ++ [[64]]) r := by
  rw [cont0, cont2, tok_cons, if_neg (by rw [cB_at]; decide), if_pos rfl]; rfl
theorem cont_word {c : Nat} (h : cW c = true) (f : List (List Nat)) (r : List Nat) : cont 0 f (c :: r) = cont 1 (f ++ [[c]]) r := by
  rw [cont0, cont1, tok_cons, if_neg (by rw [cW_B h]; decide), if_neg (cW_ne h), if_pos h]; rfl
theorem cont_odd {c : Nat} (hb : cB c = false) (h : cW c = false) (ha : c ≠ 64) (f : List (List Nat)) (r : List Nat) : cont 0 f (c :: r) = cont 0 (f ++ [[c]]) r := by
  rw [cont0, cont0, tok_cons, if_neg (by rw [hb]; decide), if_neg ha, if_neg (by rw [h]; decide), List.append_assoc]; rfl
theorem cont_end1 (g : List (List Nat)) (t : List Nat) : cont 1 (g ++ [t]) [] = g ++ [t] := by
  rw [cont1]; show g ++ [t ++ []] = _; rw [List.append_nil]
theorem cont_end2 (g : List (List Nat)) (t : List Nat) : cont 2 (g ++ [t]) [] = g ++ [t] := by
  rw [cont2]; show g ++ [t ++ []] = _; rw [List.append_nil]
theorem cont_end0 (f : List (List Nat)) : cont 0 f [] = f := by
  rw [cont0, tok_nil, List.append_nil]
/-! #### tokens put together -/
/-- blanks and line feeds alone -/
def Bl (g : List Nat) : Prop := ∀ c ∈ g, cB c = true
/-- a token -/
def Tk (t : List Nat) : Prop := (∃ c, t = [c] ∧ cB c = false ∧ cW c = false ∧ c ≠ 64) ∨ (∃ r, t = 64 :: r ∧ ∀ c ∈ r, cL c = true) ∨ (t ≠ [] ∧ ∀ c ∈ t, cW c = true)
/-- the one runs on into the other -/
def runs (t u : List Nat) : Bool := if t.headD 0 = 64 then cL (u.headD 0) else cW (t.headD 0) && cW (u.headD 0)
theorem tok_gap : ∀ (g r : List Nat), Bl g → tok (g ++ r) = tok r
  | [], _, _ => rfl
  | c :: g, r, h => by
    rw [List.cons_append, tok_cons, if_pos (h c List.mem_cons_self)]
    exact tok_gap g r fun z hz => h z (List.mem_cons_of_mem _ hz)
theorem take_all {p : Nat → Bool} : ∀ (t r : List Nat), (∀ c ∈ t, p c = true) → (∀ c r', r = c :: r' → p c = false) → (t ++ r).takeWhile p = t ∧ (t ++ r).dropWhile p = r
  | [], [], _, _ => ⟨rfl, rfl⟩
  | [], c :: r, _, h => by
    have e := h c r rfl
    rw [List.nil_append, List.takeWhile_cons_of_neg (by rw [e]; decide), List.dropWhile_cons_of_neg (by rw [e]; decide)]
    exact ⟨rfl, rfl⟩
  | c :: t, r, ht, h => by
    have ⟨a, b⟩ := take_all t r (fun z hz => ht z (List.mem_cons_of_mem _ hz)) h
    rw [List.cons_append, List.takeWhile_cons_of_pos (ht c List.mem_cons_self), List.dropWhile_cons_of_pos (ht c List.mem_cons_self), a, b]
    exact ⟨rfl, rfl⟩
theorem tok_tok {t r : List Nat} (h : Tk t) (hr : r = [] ∨ runs t r = false) : tok (t ++ r) = t :: tok r := by
  rcases h with ⟨c, rfl, hb, hw, ha⟩ | ⟨u, rfl, hu⟩ | ⟨hn, hw⟩
  · show tok (c :: r) = _
    rw [tok_cons, if_neg (by rw [hb]; decide), if_neg ha, if_neg (by rw [hw]; decide)]
  · have hs : ∀ c r', r = c :: r' → cL c = false := by
      intro c r' e
      rcases hr with z | z
      · rw [z] at e; cases e
      · subst e; exact z
    have ⟨a, b⟩ := take_all u r hu hs
    rw [List.cons_append, tok_cons, if_neg (by rw [cB_at]; decide), if_pos rfl, a, b]
  · cases t with
    | nil => exact absurd rfl hn
    | cons c u =>
      have hc := hw c List.mem_cons_self
      have hs : ∀ x r', r = x :: r' → cW x = false := by
        intro x r' e
        rcases hr with z | z
        · rw [z] at e; cases e
        · subst e
          unfold runs at z
          rw [show (c :: u).headD 0 = c from rfl, if_neg (cW_ne hc), hc] at z
          exact z
      have ⟨a, b⟩ := take_all u r (fun z hz => hw z (List.mem_cons_of_mem _ hz)) hs
      rw [List.cons_append, tok_cons, if_neg (by rw [cW_B hc]; decide), if_neg (cW_ne hc), if_pos hc, a, b]
/-- tokens and the gaps behind them, put into one row -/
def mixed : List (List Nat) → List (List Nat) → List Nat
  | t :: ts, g :: gs => t ++ (g ++ mixed ts gs)
  | _, _ => []
/-- what is asked of a gap behind token k -/
def need (ts : List (List Nat)) (k : Nat) : Bool := match ts[k]?, ts[k + 1]? with
  | some t, some u => runs t u
  | _, _ => false
theorem runs_bl {t g r : List Nat} (hn : g ≠ []) (hg : Bl g) : runs t (g ++ r) = false := by
  cases g with
  | nil => exact absurd rfl hn
  | cons c g =>
    have hb := hg c List.mem_cons_self
    have hw : cW c = false := by
      cases e : cW c with
      | false => rfl
      | true => rw [cW_B e] at hb; cases hb
    have hl : cL c = false := by
      cases e : cL c with
      | false => rfl
      | true => rw [cL_W e] at hw; cases hw
    unfold runs
    rw [List.cons_append]
    show (if t.headD 0 = 64 then cL c else cW (t.headD 0) && cW c) = false
    rw [hl, hw, Bool.and_false]
    split <;> rfl
theorem runs_head {t u r : List Nat} (hu : u ≠ []) : runs t (u ++ r) = runs t u := by
  cases u with
  | nil => exact absurd rfl hu
  | cons c u => rfl
theorem Tk.ne {t : List Nat} (h : Tk t) : t ≠ [] := by
  rcases h with ⟨c, rfl, _⟩ | ⟨r, rfl, _⟩ | ⟨h, _⟩
  · exact fun e => by cases e
  · exact fun e => by cases e
  · exact h
theorem tok_mixed : ∀ (ts gs : List (List Nat)), (∀ t ∈ ts, Tk t) → gs.length = ts.length → (∀ k g, gs[k]? = some g → Bl g ∧ (need ts k = true → g ≠ [])) → tok (mixed ts gs) = ts
  | [], [], _, _, _ => rfl
  | [], _ :: _, _, h, _ => by cases h
  | _ :: _, [], _, h, _ => by cases h
  | t :: ts, g :: gs, ht, hl, hg => by
    have ih := tok_mixed ts gs (fun u hu => ht u (List.mem_cons_of_mem _ hu)) (Nat.succ.inj hl) (fun k g' e => by
      have := hg (k + 1) g' e
      exact this)
    obtain ⟨hb, hne⟩ := hg 0 g rfl
    show tok (t ++ (g ++ mixed ts gs)) = t :: ts
    rw [tok_tok (ht t List.mem_cons_self), tok_gap g _ hb, ih]
    by_cases e : g = []
    · subst e
      rw [List.nil_append]
      cases ts with
      | nil => exact .inl (by cases gs <;> rfl)
      | cons u us =>
        cases gs with
        | nil => cases hl
        | cons g2 gs2 =>
          refine .inr ?_
          show runs t (u ++ (g2 ++ mixed us gs2)) = false
          rw [runs_head (ht u (List.mem_cons_of_mem _ List.mem_cons_self)).ne]
          cases q : runs t u with
          | false => rfl
          | true => exact absurd rfl (hne q)
    · exact .inr (runs_bl e hb)
/-! #### small things -/
theorem take_succ' {α : Type} {l : List α} {i : Nat} {x : α} (h : l[i]? = some x) : l.take (i + 1) = l.take i ++ [x] := by
  rw [List.take_add_one, h]; rfl
theorem big_ok {n : Nat} (h : n ≤ 100000) : n ≤ sizeLine := Nat.le_trans h (by decide)
theorem get_sV {ts : List (List Nat)} {i : Nat} {t : List Nat} (h : ts[i]? = some t) : (ts.map sV)[i]? = some (sV t) := by
  rw [List.getElem?_map, h]; rfl
theorem drop_at {zs : List Nat} {i c : Nat} (h : zs[i]? = some c) : zs.drop i = c :: zs.drop (i + 1) := by
  have ⟨h1, h2⟩ := List.getElem?_eq_some_iff.mp h
  rw [List.drop_eq_getElem_cons h1, h2]
theorem same_mut {H H' : Hp} {p : Addr} {o : HO} (a : Same H H') (hp : H p = none) : Same H (upd H' p o) := fun x u h => by
  rw [upd_ne (ne_of_none h hp)]; exact a x u h
theorem same_upd {H H' : Hp} {p : Addr} {o : HO} (a : Same H H') (hp : H' p = none) : Same H (upd H' p o) := fun x u h => by
  have h2 := a x u h
  rw [upd_ne (ne_of_none h2 hp)]; exact h2
theorem dec_sign (c : Nat) (z : Str) (e : Nat) (hz : z = mkS [e]) : decide (V.str ⟨#[c]⟩ = V.str z) = decide (c = e) := by
  rw [hz]
  by_cases h : c = e
  · subst h; rw [decide_eq_true rfl]; exact decide_eq_true rfl
  · rw [decide_eq_false h]
    refine decide_eq_false fun q => h ?_
    have e2 : mkS [c] = mkS [e] := V.str.inj q
    have e3 := mkS_inj e2
    injection e3
theorem tf (b : Bool) : b = true ∨ b = false := by cases b <;> simp
theorem bl_of {p : Prop} [Decidable p] {b : Bool} (h : decide p = b) : V.bl (decide p) = V.bl b := congrArg V.bl h
theorem at_mk : (("@" : Str)) = mkS [64] := by decide +kernel
/-! ### texts put together -/
theorem empty_mk : (("" : Str)) = mkS [] := by decide +kernel
theorem map_sV (zss : List (List Nat)) : zss.map sV = (zss.map mkS).map V.str := by
  rw [List.map_map]; rfl
theorem sum_len : ∀ zss : List (List Nat), ((zss.map mkS).map (·.length)).sum = zss.flatten.length
  | [] => rfl
  | z :: r => by
    rw [List.map_cons, List.map_cons, List.sum_cons, sum_len r, List.flatten_cons, List.length_append, mkS_len]
theorem joinL_nil : ∀ zss : List (List Nat), joinL [] zss = zss.flatten
  | [] => rfl
  | [z] => by show z = z ++ []; rw [List.append_nil]
  | z :: y :: r => by
    show z ++ ([] ++ joinL [] (y :: r)) = z ++ (y :: r).flatten
    rw [List.nil_append, joinL_nil (y :: r)]
theorem join_mk (zss : List (List Nat)) : Txt.join ("" : Str) (zss.map mkS) = mkS zss.flatten := by
  have h : tl (Txt.join ("" : Str) (zss.map mkS)) = zss.flatten := by
    rw [join_eq, tl_join, show (zss.map mkS).map tl = zss from (by rw [List.map_map]; exact List.map_id'' (fun _ => rfl) zss), empty_mk]
    exact joinL_nil zss
  rw [← h]; rfl
theorem flat_len {B : Nat} : ∀ {zss : List (List Nat)}, (∀ z ∈ zss, z.length ≤ B) → zss.flatten.length ≤ zss.length * B
  | [], _ => Nat.zero_le _
  | z :: r, h => by
    have ih := flat_len (zss := r) fun y hy => h y (List.mem_cons_of_mem _ hy)
    have hz := h z List.mem_cons_self
    rw [List.flatten_cons, List.length_append, List.length_cons, Nat.succ_mul]
    omega
theorem flat_one : ∀ {zss : List (List Nat)}, (∀ z ∈ zss, z.length = 1) → zss.flatten.length = zss.length
  | [], _ => rfl
  | z :: r, h => by
    rw [List.flatten_cons, List.length_append, List.length_cons, flat_one fun y hy => h y (List.mem_cons_of_mem _ hy), h z List.mem_cons_self]
    omega
theorem blank_mk : ((" " : Str)) = mkS [32] := by decide +kernel
theorem feed_mk : (("\n" : Str)) = mkS [10] := by decide +kernel
end Vf

set_option Elab.async false
set_option linter.all false
set_option maxRecDepth 100000
set_option maxHeartbeats 4000000
namespace Vf
open PySem PySem.Spec PyProof.Rows L2 TL
/-- what the list of a comprehension holds: texts -/
def PvS (R : List Nat → Prop) (d l : Addr) (H : Hp) (D : Addr) (i : Nat) (H' : Hp) : Prop :=
  ∃ zss : List (List Nat), zss.length = i ∧ (∀ zs ∈ zss, R zs) ∧ Kp d H H' ∧ DI d l H' ∧ H' D = some (.lst (zss.map sV))
theorem PvS.start {R : List Nat → Prop} {d l D : Addr} {H : Hp} (hD : DI d l H) (nD : H D = none) : PvS R d l H D 0 (upd H D (.lst [])) :=
  ⟨[], rfl, (fun _ h => nomatch h), (Kp.refl d H).new nD, hD.new nD, upd_same⟩
theorem PvS.dice {R : List Nat → Prop} {d l D : Addr} {H H1 : Hp} {i : Nat} (p : PvS R d l H D i H1) : DI d l H1 := by
  obtain ⟨_, _, _, _, h, _⟩ := p
  exact h
theorem PvS.step {R : List Nat → Prop} {d l D : Addr} {H H1 H2 : Hp} {i : Nat} {zs : List Nat} (hD : DI d l H) (nD : H D = none) (p : PvS R d l H D i H1) (hi : i < 100000) (K2 : Kp d H1 H2) (D2 : DI d l H2) (r : R zs) :
    ∃ acc, H2 D = some (.lst acc) ∧ acc.length < sizeLine ∧ PvS R d l H D (i + 1) (upd H2 D (.lst (acc ++ [sV zs]))) := by
  obtain ⟨zss, hl, hR, K1, D1, e1⟩ := p
  have n1 := hD.nd nD
  have e2 : H2 D = some (.lst (zss.map sV)) := K2 _ _ n1.1 e1
  refine ⟨_, e2, ?_, zss ++ [zs], ?_, ?_, (K1.trans K2).mut nD, D2.at n1.1 n1.2, ?_⟩
  · rw [List.length_map, hl]
    exact Nat.lt_of_lt_of_le hi (by decide)
  · rw [List.length_append, hl]; rfl
  · intro z hz
    rcases List.mem_append.mp hz with h | h
    · exact hR z h
    · rw [List.mem_singleton.mp h]; exact r
  · rw [upd_same, List.map_append]; rfl
section
variable {P : Program} {w : World} {K : PySem.W.Frag} {mg : Str → Option Value} {base : Heap}
/-! ### pick, rare -/
/-- what is picked from -/
def Row (K : PySem.W.Frag) (H : Hp) (d : Addr) (row : V) (xs : List V) : Prop :=
  (∃ a, row = .ref a ∧ a ≠ d ∧ SqL K H a xs) ∨ ∃ zs, row = sV zs ∧ xs = zs.map fun c => sV [c]
def spPick (K : PySem.W.Frag) : Sp := fun vs H Q _ => ∃ (d l : Addr) (row : V) (xs : List V), vs = [.ref d, row] ∧ DI d l H ∧ Row K H d row xs ∧ 0 < xs.length ∧ xs.length ≤ 1000 ∧
  ∀ H' v, Kp d H H' → DI d l H' → v ∈ xs → Q v H'
theorem at_draw {xs : List V} {r : Int} (h : 0 < xs.length) (h1 : (xs.length : Int) < 2 → r = 0) (h2 : 2 ≤ (xs.length : Int) → 0 ≤ r ∧ r < (xs.length : Int)) :
    ∃ (j : Nat) (hj : j < xs.length), r = (j : Int) := by
  by_cases h3 : 2 ≤ (xs.length : Int)
  · have ⟨a, b⟩ := h2 h3
    exact ⟨r.toNat, by omega, by omega⟩
  · exact ⟨0, h, by rw [h1 (by omega)]; rfl⟩
theorem ok_pick (T : Txt K mg) : FnOk P w K mg base CX0 2 T.a_law_pick T.d_law_pick ["_law_d", "_law_row"] (spPick K) := by
  have G_law_draw : FnOk P w K mg base CX0 1 T.a_law_draw T.d_law_draw ["_law_d", "_law_many"] spDraw := ok_draw T
  refine T.D_law_pick.F.ok sc_law_pick (fun vs H Q E h => ?_) (fun cdv A outer s H vs Q E hr h => ?_)
  · obtain ⟨d, l, row, xs, rfl, _⟩ := h
    rfl
  · obtain ⟨d, l, row, xs, rfl, hD, hR, h0, hx, q⟩ := h
    refine ⟨_, (pss_one (ps_ret (pe_ix ix_seq (pv 1) (pe_call G_law_draw (hr.mono (by decide)) (by rfl) T.D_law_draw.G T.D_law_draw.F.kp T.D_law_draw.B .nil pass0 (pa_cons (pv 0) (pa_cons (pe_callB call_len (by rfl) T.n_len PySem.boot_len (pa_cons (pv 1) pa_nil)) pa_nil))) (fun _ _ => rfl)))), ?_⟩
    have hlen : LenV K row H xs.length := by
      rcases hR with ⟨a, rfl, _, hS⟩ | ⟨zs, rfl, rfl⟩
      · exact .inl ⟨_, hS, rfl⟩
      · rw [List.length_map] at hx ⊢
        refine ⟨?_, (mkS_len zs).symm⟩
        rw [mkS_len]
        exact Nat.le_trans hx (by decide)
    refine ⟨_, rfl, _, rfl, _, rfl, _, _, rfl, hlen, d, l, _, rfl, hD, by omega, fun H' r k D' e1 e2 => ?_⟩
    obtain ⟨j, hj, rfl⟩ := at_draw h0 e1 e2
    rcases hR with ⟨a, rfl, nd, hS⟩ | ⟨zs, rfl, rfl⟩
    · exact .inl ⟨a, xs, _, xs[j], rfl, rfl, k.sq nd hS, atI_nat (List.getElem?_eq_getElem hj), q H' _ k D' (List.getElem_mem hj)⟩
    · have hj2 : j < zs.length := by rw [List.length_map] at hj; exact hj
      refine .inr (.inr ⟨mkS zs, _, zs[j], rfl, rfl, ?_, ?_, q H' _ k D' (List.mem_map.mpr ⟨zs[j], List.getElem_mem hj2, rfl⟩)⟩)
      · rw [mkS_len]; rw [List.length_map] at hx; exact Nat.le_trans hx (by decide)
      · rw [mkS_cps]; exact atI_nat (List.getElem?_eq_getElem hj2)
def spRare : Sp := fun vs H Q _ => ∃ (d l : Addr) (m : Int), vs = [.ref d, .int m] ∧ DI d l H ∧ m ≤ 1000000 ∧ ∀ H' b, Kp d H H' → DI d l H' → Q (.bl b) H'
theorem ok_rare (T : Txt K mg) : FnOk P w K mg base CX0 2 T.a_law_rare T.d_law_rare ["_law_d", "_law_many"] spRare := by
  have G_law_draw : FnOk P w K mg base CX0 1 T.a_law_draw T.d_law_draw ["_law_d", "_law_many"] spDraw := ok_draw T
  refine T.D_law_rare.F.ok sc_law_rare (fun vs H Q E h => ?_) (fun cdv A outer s H vs Q E hr h => ?_)
  · obtain ⟨d, l, m, rfl, _⟩ := h
    rfl
  · obtain ⟨d, l, m, rfl, hD, hm, q⟩ := h
    refine ⟨_, (pss_one (ps_ret (pe_cmpR op_eq (pe_call G_law_draw (hr.mono (by decide)) (by rfl) T.D_law_draw.G T.D_law_draw.F.kp T.D_law_draw.B .nil pass0 (pa_cons (pv 0) (pa_cons (pv 1) pa_nil))) (pe_op op_fdivN (pe_op op_mul (pv 1) pe_int) pe_int) (nomark _)))), ?_⟩
    refine ⟨_, rfl, _, rfl, d, l, m, rfl, hD, hm, fun H' r k D' e1 e2 => ?_⟩
    exact ⟨_, rfl, _, _, rfl, rfl, .inr ⟨by decide, by decide⟩, _, _, rfl, rfl, ⟨by decide, by decide⟩, rfl, q H' _ k D'⟩
/-! ### run, word -/
def spRun : Sp := fun vs H Q _ => ∃ (d l : Addr) (cs : List Nat) (n : Int), vs = [.ref d, sV cs, .int n] ∧ DI d l H ∧ 0 < cs.length ∧ cs.length ≤ 1000 ∧ 0 ≤ n ∧ n ≤ 1000 ∧
  ∀ H' zs, Kp d H H' → DI d l H' → (zs.length : Int) = n → (∀ c ∈ zs, c ∈ cs) → Q (sV zs) H'
/-- texts of one sign each -/
def One (cs zs : List Nat) : Prop := ∃ c, zs = [c] ∧ c ∈ cs
theorem one_flat {cs : List Nat} : ∀ {zss : List (List Nat)}, (∀ z ∈ zss, One cs z) → zss.flatten.length = zss.length ∧ ∀ c ∈ zss.flatten, c ∈ cs
  | [], _ => ⟨rfl, fun _ h => nomatch h⟩
  | z :: r, h => by
    obtain ⟨c, rfl, hc⟩ := h z List.mem_cons_self
    have ⟨a, b⟩ := one_flat (zss := r) fun y hy => h y (List.mem_cons_of_mem _ hy)
    rw [List.flatten_cons]
    refine ⟨by rw [List.length_append, a]; show 1 + r.length = r.length + 1; omega, fun x hx => ?_⟩
    rcases List.mem_append.mp hx with e | e
    · rw [List.mem_singleton.mp e]; exact hc
    · exact b x e
theorem pick_one {d l : Addr} {cs : List Nat} {H : Hp} {Q : VK} (hD : DI d l H) (h0 : 0 < cs.length) (hx : cs.length ≤ 1000) (q : ∀ H' zs, Kp d H H' → DI d l H' → One cs zs → Q (sV zs) H') : spPick K [.ref d, sV cs] H Q E0 := by
  refine ⟨d, l, _, _, rfl, hD, .inr ⟨cs, rfl, rfl⟩, by rw [List.length_map]; exact h0, by rw [List.length_map]; exact hx, fun H' v k D' hv => ?_⟩
  obtain ⟨c, hc, rfl⟩ := List.mem_map.mp hv
  exact q H' _ k D' ⟨c, rfl, hc⟩
theorem ok_run (T : Txt K mg) : FnOk P w K mg base CX0 3 T.a_law_run T.d_law_run ["_law_d", "_law_signs", "_law_size"] spRun := by
  have G_law_pick : FnOk P w K mg base CX0 2 T.a_law_pick T.d_law_pick ["_law_d", "_law_row"] (spPick K) := ok_pick T
  refine T.D_law_run.F.ok sc_law_run (fun vs H Q E h => ?_) (fun cdv A outer s H vs Q E hr h => ?_)
  · obtain ⟨d, l, cs, n, rfl, _⟩ := h
    rfl
  · obtain ⟨d, l, cs, n, rfl, hD, h0, hx, hn0, hn, q⟩ := h
    refine ⟨_, (pss_one (ps_ret (pe_join pe_str (pe_lc (own := [("_law_k", 3)]) (g := gName 3) (tt := tYes) rfl sc_law_run.nd (pi_range1 (by rfl) T.n_range (pa_cons (pv 2) pa_nil)) (blkOk_by (own := [("_law_k", 3)]) (N := ["_law_d", "_law_signs", "_law_size", "_law_k"]) (sc := defScope s_law_run) (by decide +kernel)) (fun _ _ _ _ _ => (pg_name (i := 3) sc_law_run.nd rfl (.inl rfl))) (fun _ _ _ _ _ => pts_nil) (fun _ _ _ _ _ => (pe_call G_law_pick (hr.mono (by decide)) (by rfl) T.D_law_pick.G T.D_law_pick.F.kp T.D_law_pick.B .nil pass0 (pa_cons (pv 0) (pa_cons (pv 1) pa_nil)))))))), ?_⟩
    refine ⟨⟨_, rfl⟩, _, rfl, n, rfl, by omega, by omega, ?_⟩
    refine fun D nD => lc_range (lo := 0) (n := n.toNat) (PvS (One cs) d l H D) (PvS.start hD nD) (fun i H1 hi p => ⟨rfl, ?_⟩) (fun H' p => ?_)
    · exact ⟨_, rfl, _, rfl, pick_one p.dice h0 hx fun H2 zs k2 d2 r => p.step hD nD (by omega) k2 d2 r⟩
    · obtain ⟨zss, hl, hR, K1, D1, e1⟩ := p
      have ⟨f1, f2⟩ := one_flat hR
      refine ⟨_, D, zss.map mkS, rfl, rfl, .inl (SqL.of (by rw [e1, map_sV])), ?_, ?_⟩
      · rw [sum_len, f1, show (("" : Str)).length = 0 from by rw [empty_mk, mkS_len]; rfl]; omega
      · rw [join_mk]
        exact q H' _ K1 D1 (by rw [f1, hl]; omega) f2
def spWord : Sp := fun vs H Q _ => ∃ (d l : Addr) (lo hi : Int), vs = [.ref d, .int lo, .int hi] ∧ DI d l H ∧ 0 ≤ lo ∧ lo ≤ hi ∧ hi ≤ 900 ∧
  ∀ H' zs, Kp d H H' → DI d l H' → lo ≤ (zs.length : Int) → (zs.length : Int) ≤ hi → (∀ c ∈ zs, cW c = true) → Q (sV zs) H'
theorem ok_word (T : Txt K mg) : FnOk P w K mg base CX0 3 T.a_law_word T.d_law_word ["_law_d", "_law_low", "_law_high"] spWord := by
  have G_law_draw : FnOk P w K mg base CX0 1 T.a_law_draw T.d_law_draw ["_law_d", "_law_many"] spDraw := ok_draw T
  have G_law_pick : FnOk P w K mg base CX0 2 T.a_law_pick T.d_law_pick ["_law_d", "_law_row"] (spPick K) := ok_pick T
  refine T.D_law_word.F.ok sc_law_word (fun vs H Q E h => ?_) (fun cdv A outer s H vs Q E hr h => ?_)
  · obtain ⟨d, l, lo, hi, rfl, _⟩ := h
    rfl
  · obtain ⟨d, l, lo, hi, rfl, hD, h0, hlo, hhi, q⟩ := h
    refine ⟨_, (pss_cons (ps_set (i := 3) sc_law_word.nd rfl (.inl rfl) (pe_op op_add (pv 1) (pe_call G_law_draw (hr.mono (by decide)) (by rfl) T.D_law_draw.G T.D_law_draw.F.kp T.D_law_draw.B .nil pass0 (pa_cons (pv 0) (pa_cons (pe_op op_add (pe_op op_sub (pv 2) (pv 1)) pe_int) pa_nil)))))
      (pss_cons (ps_set (i := 4) sc_law_word.nd rfl (.inr rfl) (pe_call G_law_pick (hr.mono (by decide)) (by rfl) T.D_law_pick.G T.D_law_pick.F.kp T.D_law_pick.B .nil pass0 (pa_cons (pv 0) (pa_cons (pe_lst (pa_cons pe_str (pa_cons pe_str (pa_cons pe_str (pa_cons pe_str (pa_cons pe_str (pa_cons pe_str pa_nil))))))) pa_nil))))
      (pss_one (ps_ret (pe_join pe_str (pe_lc (own := [("_law_k", 5)]) (g := gName 5) (tt := tYes) rfl sc_law_word.nd (pi_range1 (by rfl) T.n_range (pa_cons (pv 3) pa_nil)) (blkOk_by (own := [("_law_k", 5)]) (N := ["_law_d", "_law_low", "_law_high", "_law_long", "_law_signs", "_law_k"]) (sc := defScope s_law_word) (by decide +kernel)) (fun _ _ _ _ _ => (pg_name (i := 5) sc_law_word.nd rfl (.inl rfl))) (fun _ _ _ _ _ => pts_nil) (fun _ _ _ _ _ => (pe_call G_law_pick (hr.mono (by decide)) (by rfl) T.D_law_pick.G T.D_law_pick.F.kp T.D_law_pick.B .nil pass0 (pa_cons (pv 0) (pa_cons (pv 4) pa_nil)))))))))), ?_⟩
    refine ⟨_, rfl, _, rfl, _, rfl, _, rfl, _, _, rfl, rfl, _, _, rfl, rfl, d, l, _, rfl, hD, by omega, fun H1 r K1 D1 r1 r2 => ?_⟩
    have hr0 : 0 ≤ r ∧ r ≤ hi - lo := by
      by_cases z : hi - lo + 1 < 2
      · have := r1 z; omega
      · have := r2 (by omega); omega
    refine ⟨_, _, rfl, rfl, ?_⟩
    refine ⟨_, rfl, ⟨by show 6 ≤ sizeLine; decide, fun p np => ?_⟩⟩
    refine ⟨d, l, _, _, rfl, D1.new np, .inl ⟨p, rfl, (D1.nd np).1, SqL.of upd_same⟩, by show 0 < 6; decide, by show 6 ≤ 1000; decide, fun H2 v K2 D2 hv => ?_⟩
    have hz : ∃ z : Str, v = .str z ∧ (0 < z.cps.toList.length ∧ z.cps.toList.length ≤ 1000 ∧ z.cps.toList.all cW = true) := by
      simp only [List.mem_cons, List.not_mem_nil, or_false] at hv
      rcases hv with rfl | rfl | rfl | rfl | rfl | rfl <;> exact ⟨_, rfl, by decide +kernel⟩
    obtain ⟨z, rfl, hz0, hz1, hz2⟩ := hz
    have K3 : Kp d H H2 := (K1.new np).trans K2
    refine ⟨⟨_, rfl⟩, _, rfl, _, rfl, by omega, by omega, ?_⟩
    refine fun D nD => lc_range (lo := 0) (n := (lo + r).toNat) (PvS (One z.cps.toList) d l H2 D) (PvS.start D2 nD) (fun i H1 hi p => ⟨rfl, ?_⟩) (fun H' p => ?_)
    · exact ⟨_, rfl, _, rfl, pick_one (cs := z.cps.toList) p.dice hz0 hz1 fun H2 zs k2 d2 r => p.step D2 nD (by omega) k2 d2 r⟩
    · obtain ⟨zss, hl, hR, K4, D4, e1⟩ := p
      have ⟨f1, f2⟩ := one_flat hR
      refine ⟨_, D, zss.map mkS, rfl, rfl, .inl (SqL.of (by rw [e1, map_sV])), ?_, ?_⟩
      · rw [sum_len, f1, show (("" : Str)).length = 0 from by rw [empty_mk, mkS_len]; rfl]; omega
      · rw [join_mk]
        exact q H' _ (K3.trans K4) D4 (by rw [f1, hl]; omega) (by rw [f1, hl]; omega) fun c hc => List.all_eq_true.mp hz2 c (f2 c hc)
end
end Vf

set_option Elab.async false
set_option linter.all false
set_option maxRecDepth 100000
set_option maxHeartbeats 4000000
namespace Vf
open PySem PySem.Spec PyProof.Rows L2 TL
/-- texts that the dice make, no argument but the dice -/
def spStr (R : List Nat → Prop) : Sp := fun vs H Q _ => ∃ (d l : Addr), vs = [.ref d] ∧ DI d l H ∧ ∀ H' zs, Kp d H H' → DI d l H' → R zs → Q (sV zs) H'
def spC (z : Str) : Sp := fun vs H Q _ => vs = [] ∧ Q (.str z) H
def RWord (zs : List Nat) : Prop := zs ≠ [] ∧ zs.length ≤ 16 ∧ ∀ c ∈ zs, cW c = true
def RName (zs : List Nat) : Prop := zs ≠ [] ∧ zs.length ≤ 8 ∧ ∀ c ∈ zs, cL c = true
def RTok (zs : List Nat) : Prop := Tk zs ∧ zs.length ≤ 60
theorem ne_of_len {zs : List Nat} {n : Int} (h : (zs.length : Int) = n) (h0 : 0 < n) : zs ≠ [] := fun e => by
  rw [e] at h
  have : (([] : List Nat).length : Int) = 0 := rfl
  omega
theorem mem_cW {c : Nat} (h : c ∈ sW.cps.toList) : cW c = true := decide_eq_true h
theorem mem_cL {c : Nat} (h : c ∈ sL.cps.toList) : cL c = true := decide_eq_true h
theorem sW_n : sW.cps.toList.length = 51 := by decide +kernel
theorem sL_n : sL.cps.toList.length = 26 := by decide +kernel
theorem sOdd_n : sOdd.cps.toList.length = 39 := by decide +kernel
def sNames : Str := ("let hole page note key head par list item table row cell show over up low fence grid line" : Str) ++ (" figure label contents index" : Str)
theorem names_ok : ∀ y ∈ Txt.split sNames (" " : Str), (y.cps.toList.length ≠ 0 ∧ y.cps.toList.length ≤ 8) ∧ y.cps.toList.all cL = true := by decide +kernel
theorem names_n : 0 < (Txt.split sNames (" " : Str)).length ∧ (Txt.split sNames (" " : Str)).length ≤ 1000 := by decide +kernel
section
variable {P : Program} {w : World} {K : PySem.W.Frag} {mg : Str → Option Value} {base : Heap}
theorem ok_word_signs (T : Txt K mg) : FnOk P w K mg base CX0 1 T.a_law_word_signs T.d_law_word_signs [] (spC sW) := by
  refine T.D_law_word_signs.F.ok sc_law_word_signs (fun vs H Q E h => ?_) (fun cdv A outer s H vs Q E hr h => ?_)
  · obtain ⟨rfl, _⟩ := h
    rfl
  · obtain ⟨rfl, q⟩ := h
    exact ⟨_, (pss_one (ps_ret pe_str)), q⟩
theorem ok_odd_signs (T : Txt K mg) : FnOk P w K mg base CX0 1 T.a_law_odd_signs T.d_law_odd_signs [] (spC sOdd) := by
  refine T.D_law_odd_signs.F.ok sc_law_odd_signs (fun vs H Q E h => ?_) (fun cdv A outer s H vs Q E hr h => ?_)
  · obtain ⟨rfl, _⟩ := h
    rfl
  · obtain ⟨rfl, q⟩ := h
    exact ⟨_, (pss_one (ps_ret pe_str)), q⟩
theorem ok_some_word (T : Txt K mg) : FnOk P w K mg base CX0 4 T.a_law_some_word T.d_law_some_word ["_law_d"] (spStr RWord) := by
  have G_law_draw : FnOk P w K mg base CX0 1 T.a_law_draw T.d_law_draw ["_law_d", "_law_many"] spDraw := ok_draw T
  have G_law_run : FnOk P w K mg base CX0 3 T.a_law_run T.d_law_run ["_law_d", "_law_signs", "_law_size"] spRun := ok_run T
  have G_law_word : FnOk P w K mg base CX0 3 T.a_law_word T.d_law_word ["_law_d", "_law_low", "_law_high"] spWord := ok_word T
  have G_law_word_signs : FnOk P w K mg base CX0 1 T.a_law_word_signs T.d_law_word_signs [] (spC sW) := ok_word_signs T
  refine T.D_law_some_word.F.ok sc_law_some_word (fun vs H Q E h => ?_) (fun cdv A outer s H vs Q E hr h => ?_)
  · obtain ⟨d, l, rfl, _⟩ := h
    rfl
  · obtain ⟨d, l, rfl, hD, q⟩ := h
    refine ⟨_, (pss_cons (ps_set (i := 1) sc_law_some_word.nd rfl (.inl rfl) (pe_call G_law_draw (hr.mono (by decide)) (by rfl) T.D_law_draw.G T.D_law_draw.F.kp T.D_law_draw.B .nil pass0 (pa_cons (pv 0) (pa_cons pe_int pa_nil))))
      (pss_cons (ps_if (pt_cmpR op_eq (pv 1) pe_int (nomark _)) (pss_one (ps_ret (pe_call G_law_run (hr.mono (by decide)) (by rfl) T.D_law_run.G T.D_law_run.F.kp T.D_law_run.B .nil pass0 (pa_cons (pv 0) (pa_cons (pe_call0 G_law_word_signs (hr.mono (by decide)) (by rfl) T.D_law_word_signs.G T.D_law_word_signs.F.kp T.D_law_word_signs.B .nil pass0) (pa_cons (pe_op op_add pe_int (pe_call G_law_draw (hr.mono (by decide)) (by rfl) T.D_law_draw.G T.D_law_draw.F.kp T.D_law_draw.B .nil pass0 (pa_cons (pv 0) (pa_cons pe_int pa_nil)))) pa_nil)))))) pss_nil)
      (pss_cons (ps_if (pt_cmpR op_eq (pv 1) pe_int (nomark _)) (pss_one (ps_ret (pe_call G_law_run (hr.mono (by decide)) (by rfl) T.D_law_run.G T.D_law_run.F.kp T.D_law_run.B .nil pass0 (pa_cons (pv 0) (pa_cons (pe_call0 G_law_word_signs (hr.mono (by decide)) (by rfl) T.D_law_word_signs.G T.D_law_word_signs.F.kp T.D_law_word_signs.B .nil pass0) (pa_cons (pe_op op_add pe_int (pe_call G_law_draw (hr.mono (by decide)) (by rfl) T.D_law_draw.G T.D_law_draw.F.kp T.D_law_draw.B .nil pass0 (pa_cons (pv 0) (pa_cons pe_int pa_nil)))) pa_nil)))))) pss_nil)
      (pss_one (ps_ret (pe_call G_law_word (hr.mono (by decide)) (by rfl) T.D_law_word.G T.D_law_word.F.kp T.D_law_word.B .nil pass0 (pa_cons (pv 0) (pa_cons pe_int (pa_cons pe_int pa_nil))))))))), ?_⟩
    refine ⟨_, rfl, d, l, _, rfl, hD, by decide, fun H1 r K1 D1 _ r2 => ?_⟩
    have fin : ∀ (a : Int) (m : Int) (H2 : Hp) (r : Int), 1 ≤ a → 0 ≤ r → a + r ≤ 16 → Kp d H H2 → DI d l H2 → spRun [.ref d, .str sW, .int (a + r)] H2 Q E0 := by
      intro a m H2 r ha h0 h16 K2 D2
      refine ⟨d, l, sW.cps.toList, _, rfl, D2, by rw [sW_n]; decide, by rw [sW_n]; decide, by omega, by omega, fun H3 zs K3 D3 el hc => ?_⟩
      exact q H3 zs (K2.trans K3) D3 ⟨ne_of_len el (by omega), by omega, fun c h => mem_cW (hc c h)⟩
    refine ⟨_, rfl, rfl, _, rfl, ite2 (fun _ => ?_) (fun _ => ?_)⟩
    · refine ⟨_, rfl, rfl, _, rfl, d, l, _, rfl, D1, by decide, fun H2 r' K2 D2 _ e2 => ?_⟩
      have e3 := e2 (by decide)
      exact ⟨_, _, rfl, rfl, fin 1 16 H2 r' (by decide) e3.1 (by omega) (K1.trans K2) D2⟩
    · refine ⟨_, rfl, rfl, _, rfl, ite2 (fun _ => ?_) (fun _ => ?_)⟩
      · refine ⟨_, rfl, rfl, _, rfl, d, l, _, rfl, D1, by decide, fun H2 r' K2 D2 _ e2 => ?_⟩
        have e3 := e2 (by decide)
        exact ⟨_, _, rfl, rfl, fin 15 2 H2 r' (by decide) e3.1 (by omega) (K1.trans K2) D2⟩
      · refine ⟨_, rfl, d, l, _, _, rfl, D1, by decide, by decide, by decide, fun H2 zs K2 D2 l1 l2 hc => ?_⟩
        refine q H2 zs (K1.trans K2) D2 ⟨fun e => ?_, by omega, hc⟩
        rw [e] at l1
        exact absurd l1 (by decide)
theorem ok_some_name (T : Txt K mg) : FnOk P w K mg base CX0 4 T.a_law_some_name T.d_law_some_name ["_law_d"] (spStr RName) := by
  have G_law_draw : FnOk P w K mg base CX0 1 T.a_law_draw T.d_law_draw ["_law_d", "_law_many"] spDraw := ok_draw T
  have G_law_pick : FnOk P w K mg base CX0 2 T.a_law_pick T.d_law_pick ["_law_d", "_law_row"] (spPick K) := ok_pick T
  have G_law_run : FnOk P w K mg base CX0 3 T.a_law_run T.d_law_run ["_law_d", "_law_signs", "_law_size"] spRun := ok_run T
  refine T.D_law_some_name.F.ok sc_law_some_name (fun vs H Q E h => ?_) (fun cdv A outer s H vs Q E hr h => ?_)
  · obtain ⟨d, l, rfl, _⟩ := h
    rfl
  · obtain ⟨d, l, rfl, hD, q⟩ := h
    refine ⟨_, (pss_cons (ps_set (i := 1) sc_law_some_name.nd rfl (.inl rfl) (pe_call G_law_draw (hr.mono (by decide)) (by rfl) T.D_law_draw.G T.D_law_draw.F.kp T.D_law_draw.B .nil pass0 (pa_cons (pv 0) (pa_cons pe_int pa_nil))))
      (pss_cons (ps_if (pt_cmpR op_eq (pv 1) pe_int (nomark _)) (pss_one (ps_ret (pe_call G_law_run (hr.mono (by decide)) (by rfl) T.D_law_run.G T.D_law_run.F.kp T.D_law_run.B .nil pass0 (pa_cons (pv 0) (pa_cons pe_str (pa_cons (pe_op op_add pe_int (pe_call G_law_draw (hr.mono (by decide)) (by rfl) T.D_law_draw.G T.D_law_draw.F.kp T.D_law_draw.B .nil pass0 (pa_cons (pv 0) (pa_cons pe_int pa_nil)))) pa_nil)))))) pss_nil)
      (pss_cons (ps_if (pt_cmpR op_eq (pv 1) pe_int (nomark _)) (pss_one (ps_ret (pe_call G_law_run (hr.mono (by decide)) (by rfl) T.D_law_run.G T.D_law_run.F.kp T.D_law_run.B .nil pass0 (pa_cons (pv 0) (pa_cons pe_str (pa_cons (pe_op op_add pe_int (pe_call G_law_draw (hr.mono (by decide)) (by rfl) T.D_law_draw.G T.D_law_draw.F.kp T.D_law_draw.B .nil pass0 (pa_cons (pv 0) (pa_cons pe_int pa_nil)))) pa_nil)))))) pss_nil)
      (pss_cons (ps_if (pt_cmpR op_eq (pv 1) pe_int (nomark _)) (pss_cons (ps_set (i := 2) sc_law_some_name.nd rfl (.inl rfl) pe_str)
      (pss_one (ps_ret (pe_call G_law_pick (hr.mono (by decide)) (by rfl) T.D_law_pick.G T.D_law_pick.F.kp T.D_law_pick.B .nil pass0 (pa_cons (pv 0) (pa_cons (pe_split (pe_op op_add_str (pv 2) pe_str) pe_str) pa_nil)))))) pss_nil)
      (pss_one (ps_ret (pe_call G_law_run (hr.mono (by decide)) (by rfl) T.D_law_run.G T.D_law_run.F.kp T.D_law_run.B .nil pass0 (pa_cons (pv 0) (pa_cons pe_str (pa_cons (pe_op op_add pe_int (pe_call G_law_draw (hr.mono (by decide)) (by rfl) T.D_law_draw.G T.D_law_draw.F.kp T.D_law_draw.B .nil pass0 (pa_cons (pv 0) (pa_cons pe_int pa_nil)))) pa_nil)))))))))), ?_⟩
    refine ⟨_, rfl, d, l, _, rfl, hD, by decide, fun H1 r K1 D1 _ r2 => ?_⟩
    have fin : ∀ (z : Str) (a : Int) (H2 : Hp) (r : Int), z.cps.toList.length ≠ 0 → z.cps.toList.length ≤ 1000 → z.cps.toList.all cL = true → 1 ≤ a → 0 ≤ r → a + r ≤ 8 → Kp d H H2 → DI d l H2 → spRun [.ref d, .str z, .int (a + r)] H2 Q E0 := by
      intro z a H2 r hz0 hz1 hz ha h0 h16 K2 D2
      refine ⟨d, l, z.cps.toList, _, rfl, D2, by omega, hz1, by omega, by omega, fun H3 zs K3 D3 el hc => ?_⟩
      exact q H3 zs (K2.trans K3) D3 ⟨ne_of_len el (by omega), by omega, fun c h => List.all_eq_true.mp hz c (hc c h)⟩
    refine ⟨_, rfl, rfl, _, rfl, ite2 (fun _ => ?_) (fun _ => ?_)⟩
    · refine ⟨_, rfl, _, rfl, d, l, _, rfl, D1, by decide, fun H2 r' K2 D2 _ e2 => ?_⟩
      have e3 := e2 (by decide)
      exact ⟨_, _, rfl, rfl, fin _ 1 H2 r' (by decide +kernel) (by decide +kernel) (by decide +kernel) (by decide) e3.1 (by omega) (K1.trans K2) D2⟩
    refine ⟨_, rfl, rfl, _, rfl, ite2 (fun _ => ?_) (fun _ => ?_)⟩
    · refine ⟨_, rfl, _, rfl, d, l, _, rfl, D1, by decide, fun H2 r' K2 D2 _ e2 => ?_⟩
      have e3 := e2 (by decide)
      exact ⟨_, _, rfl, rfl, fin _ 7 H2 r' (by decide +kernel) (by decide +kernel) (by decide +kernel) (by decide) e3.1 (by omega) (K1.trans K2) D2⟩
    refine ⟨_, rfl, rfl, _, rfl, ite2 (fun _ => ?_) (fun _ => ?_)⟩
    · refine ⟨_, rfl, _, rfl, _, _, rfl, rfl, by decide +kernel, ⟨_, rfl⟩, sNames, (" " : Str), rfl, rfl, by decide +kernel, by decide +kernel, fun p np => ?_⟩
      refine ⟨d, l, _, (Txt.split sNames (" " : Str)).map V.str, rfl, D1.new np, .inl ⟨p, rfl, (D1.nd np).1, SqL.of upd_same⟩, by rw [List.length_map]; exact names_n.1, by rw [List.length_map]; exact names_n.2, fun H2 v K2 D2 hv => ?_⟩
      obtain ⟨y, hy, rfl⟩ := List.mem_map.mp hv
      have ⟨⟨y1, y2⟩, y3⟩ := names_ok y hy
      exact q H2 y.cps.toList ((K1.new np).trans K2) D2 ⟨fun e => y1 (by rw [e]; rfl), y2, fun c h => List.all_eq_true.mp y3 c h⟩
    · refine ⟨_, rfl, _, rfl, d, l, _, rfl, D1, by decide, fun H2 r' K2 D2 _ e2 => ?_⟩
      have e3 := e2 (by decide)
      exact ⟨_, _, rfl, rfl, fin _ 1 H2 r' (by decide +kernel) (by decide +kernel) (by decide +kernel) (by decide) e3.1 (by omega) (K1.trans K2) D2⟩
theorem ok_any_token (T : Txt K mg) : FnOk P w K mg base CX0 5 T.a_law_any_token T.d_law_any_token ["_law_d"] (spStr RTok) := by
  have G_law_draw : FnOk P w K mg base CX0 1 T.a_law_draw T.d_law_draw ["_law_d", "_law_many"] spDraw := ok_draw T
  have G_law_pick : FnOk P w K mg base CX0 2 T.a_law_pick T.d_law_pick ["_law_d", "_law_row"] (spPick K) := ok_pick T
  have G_law_run : FnOk P w K mg base CX0 3 T.a_law_run T.d_law_run ["_law_d", "_law_signs", "_law_size"] spRun := ok_run T
  have G_law_word_signs : FnOk P w K mg base CX0 1 T.a_law_word_signs T.d_law_word_signs [] (spC sW) := ok_word_signs T
  have G_law_odd_signs : FnOk P w K mg base CX0 1 T.a_law_odd_signs T.d_law_odd_signs [] (spC sOdd) := ok_odd_signs T
  have G_law_some_name : FnOk P w K mg base CX0 4 T.a_law_some_name T.d_law_some_name ["_law_d"] (spStr RName) := ok_some_name T
  have G_law_some_word : FnOk P w K mg base CX0 4 T.a_law_some_word T.d_law_some_word ["_law_d"] (spStr RWord) := ok_some_word T
  refine T.D_law_any_token.F.ok sc_law_any_token (fun vs H Q E h => ?_) (fun cdv A outer s H vs Q E hr h => ?_)
  · obtain ⟨d, l, rfl, _⟩ := h
    rfl
  · obtain ⟨d, l, rfl, hD, q⟩ := h
    refine ⟨_, (pss_cons (ps_set (i := 1) sc_law_any_token.nd rfl (.inl rfl) (pe_call G_law_draw (hr.mono (by decide)) (by rfl) T.D_law_draw.G T.D_law_draw.F.kp T.D_law_draw.B .nil pass0 (pa_cons (pv 0) (pa_cons pe_int pa_nil))))
      (pss_cons (ps_if (pt_cmpR op_eq (pv 1) pe_int (nomark _)) (pss_one (ps_ret (pe_call G_law_pick (hr.mono (by decide)) (by rfl) T.D_law_pick.G T.D_law_pick.F.kp T.D_law_pick.B .nil pass0 (pa_cons (pv 0) (pa_cons pe_str pa_nil))))) pss_nil)
      (pss_cons (ps_if (pt_cmpR op_eq (pv 1) pe_int (nomark _)) (pss_one (ps_ret (pe_call G_law_pick (hr.mono (by decide)) (by rfl) T.D_law_pick.G T.D_law_pick.F.kp T.D_law_pick.B .nil pass0 (pa_cons (pv 0) (pa_cons (pe_call0 G_law_odd_signs (hr.mono (by decide)) (by rfl) T.D_law_odd_signs.G T.D_law_odd_signs.F.kp T.D_law_odd_signs.B .nil pass0) pa_nil))))) pss_nil)
      (pss_cons (ps_if (pt_cmpR op_eq (pv 1) pe_int (nomark _)) (pss_one (ps_ret (pe_call G_law_run (hr.mono (by decide)) (by rfl) T.D_law_run.G T.D_law_run.F.kp T.D_law_run.B .nil pass0 (pa_cons (pv 0) (pa_cons (pe_call0 G_law_word_signs (hr.mono (by decide)) (by rfl) T.D_law_word_signs.G T.D_law_word_signs.F.kp T.D_law_word_signs.B .nil pass0) (pa_cons (pe_op op_add pe_int (pe_call G_law_draw (hr.mono (by decide)) (by rfl) T.D_law_draw.G T.D_law_draw.F.kp T.D_law_draw.B .nil pass0 (pa_cons (pv 0) (pa_cons pe_int pa_nil)))) pa_nil)))))) pss_nil)
      (pss_cons (ps_if (pt_cmpR op_eq (pv 1) pe_int (nomark _)) (pss_one (ps_ret (pe_op op_add_str pe_str (pe_call G_law_run (hr.mono (by decide)) (by rfl) T.D_law_run.G T.D_law_run.F.kp T.D_law_run.B .nil pass0 (pa_cons (pv 0) (pa_cons pe_str (pa_cons (pe_call G_law_draw (hr.mono (by decide)) (by rfl) T.D_law_draw.G T.D_law_draw.F.kp T.D_law_draw.B .nil pass0 (pa_cons (pv 0) (pa_cons pe_int pa_nil))) pa_nil))))))) pss_nil)
      (pss_cons (ps_if (pt_cmpR op_eq (pv 1) pe_int (nomark _)) (pss_one (ps_ret (pe_op op_add_str pe_str (pe_call G_law_run (hr.mono (by decide)) (by rfl) T.D_law_run.G T.D_law_run.F.kp T.D_law_run.B .nil pass0 (pa_cons (pv 0) (pa_cons pe_str (pa_cons (pe_op op_add pe_int (pe_call G_law_draw (hr.mono (by decide)) (by rfl) T.D_law_draw.G T.D_law_draw.F.kp T.D_law_draw.B .nil pass0 (pa_cons (pv 0) (pa_cons pe_int pa_nil)))) pa_nil))))))) pss_nil)
      (pss_cons (ps_if (pt_cmpR op_eq (pv 1) pe_int (nomark _)) (pss_one (ps_ret (pe_op op_add_str pe_str (pe_call G_law_some_name (hr.mono (by decide)) (by rfl) T.D_law_some_name.G T.D_law_some_name.F.kp T.D_law_some_name.B .nil pass0 (pa_cons (pv 0) pa_nil))))) pss_nil)
      (pss_one (ps_ret (pe_call G_law_some_word (hr.mono (by decide)) (by rfl) T.D_law_some_word.G T.D_law_some_word.F.kp T.D_law_some_word.B .nil pass0 (pa_cons (pv 0) pa_nil))))))))))), ?_⟩
    refine ⟨_, rfl, d, l, _, rfl, hD, by decide, fun H1 r K1 D1 _ r2 => ?_⟩
    -- '@' and letters
    have atq : ∀ H2 zs, Kp d H H2 → DI d l H2 → zs.length ≤ 50 → (∀ c ∈ zs, cL c = true) → (("@" : Str)).length + (mkS zs).length ≤ sizeLine ∧ Q (.str (("@" : Str) ++ mkS zs)) H2 := by
      intro H2 zs K2 D2 hl hc
      rw [at_mk, mkS_app, mkS_len, mkS_len]
      refine ⟨Nat.le_trans (show [64].length + zs.length ≤ 100 by show 1 + zs.length ≤ 100; omega) (by decide), ?_⟩
      exact q H2 _ K2 D2 ⟨.inr (.inl ⟨zs, rfl, hc⟩), by show zs.length + 1 ≤ 60; omega⟩
    have sg : ∀ (cs : List Nat), cs.length ≠ 0 → cs.length ≤ 1000 → (∀ c ∈ cs, cB c = false ∧ cW c = false ∧ c ≠ 64) → spPick K [.ref d, sV cs] H1 Q E0 := by
      intro cs h0 hx hc
      refine pick_one D1 (by omega) hx fun H2 zs K2 D2 ho => ?_
      obtain ⟨c, rfl, hm⟩ := ho
      exact q H2 _ (K1.trans K2) D2 ⟨.inl ⟨c, rfl, hc c hm⟩, by show 1 ≤ 60; decide⟩
    have odd_ok : ∀ c ∈ sOdd.cps.toList, cB c = false ∧ cW c = false ∧ c ≠ 64 := by decide +kernel
    have br_ok : ∀ c ∈ (("{}" : Str)).cps.toList, cB c = false ∧ cW c = false ∧ c ≠ 64 := by decide +kernel
    refine ⟨_, rfl, rfl, _, rfl, ite2 (fun _ => ?_) (fun _ => ?_)⟩
    · exact ⟨_, rfl, sg (("{}" : Str)).cps.toList (by decide +kernel) (by decide +kernel) br_ok⟩
    refine ⟨_, rfl, rfl, _, rfl, ite2 (fun _ => ?_) (fun _ => ?_)⟩
    · exact ⟨_, rfl, rfl, sg sOdd.cps.toList (by decide +kernel) (by decide +kernel) odd_ok⟩
    refine ⟨_, rfl, rfl, _, rfl, ite2 (fun _ => ?_) (fun _ => ?_)⟩
    · refine ⟨_, rfl, rfl, _, rfl, d, l, _, rfl, D1, by decide, fun H2 r' K2 D2 _ e2 => ?_⟩
      have e3 := e2 (by decide)
      refine ⟨_, _, rfl, rfl, d, l, sW.cps.toList, _, rfl, D2, by rw [sW_n]; decide, by rw [sW_n]; decide, by omega, by omega, fun H3 zs K3 D3 el hc => ?_⟩
      exact q H3 zs ((K1.trans K2).trans K3) D3 ⟨.inr (.inr ⟨ne_of_len el (by omega), fun c h => mem_cW (hc c h)⟩), by omega⟩
    refine ⟨_, rfl, rfl, _, rfl, ite2 (fun _ => ?_) (fun _ => ?_)⟩
    · refine ⟨_, rfl, _, rfl, d, l, _, rfl, D1, by decide, fun H2 r' K2 D2 _ e2 => ?_⟩
      have e3 := e2 (by decide)
      refine ⟨d, l, sL.cps.toList, _, rfl, D2, by rw [sL_n]; decide, by rw [sL_n]; decide, by omega, by omega, fun H3 zs K3 D3 el hc => ?_⟩
      exact ⟨_, _, rfl, rfl, atq H3 zs ((K1.trans K2).trans K3) D3 (by omega) fun c h => mem_cL (hc c h)⟩
    refine ⟨_, rfl, rfl, _, rfl, ite2 (fun _ => ?_) (fun _ => ?_)⟩
    · refine ⟨_, rfl, _, rfl, d, l, _, rfl, D1, by decide, fun H2 r' K2 D2 _ e2 => ?_⟩
      have e3 := e2 (by decide)
      refine ⟨_, _, rfl, rfl, d, l, sL.cps.toList, _, rfl, D2, by rw [sL_n]; decide, by rw [sL_n]; decide, by omega, by omega, fun H3 zs K3 D3 el hc => ?_⟩
      exact ⟨_, _, rfl, rfl, atq H3 zs ((K1.trans K2).trans K3) D3 (by omega) fun c h => mem_cL (hc c h)⟩
    refine ⟨_, rfl, rfl, _, rfl, ite2 (fun _ => ?_) (fun _ => ?_)⟩
    · refine ⟨_, rfl, d, l, rfl, D1, fun H2 zs K2 D2 hz => ?_⟩
      exact ⟨_, _, rfl, rfl, atq H2 zs (K1.trans K2) D2 (by have := hz.2.1; omega) hz.2.2⟩
    · refine ⟨_, rfl, d, l, rfl, D1, fun H2 zs K2 D2 hz => ?_⟩
      exact q H2 zs (K1.trans K2) D2 ⟨.inr (.inr ⟨hz.1, hz.2.2⟩), by have := hz.2.1; omega⟩
end
end Vf

set_option Elab.async false
set_option linter.all false
set_option maxRecDepth 100000
set_option maxHeartbeats 4000000
namespace Vf
open PySem PySem.Spec PyProof.Rows L2 TL
/-! ### text times int -/
theorem mul_ok {z : Str} {n : Int} (h2 : 2 ≤ n) (hn : n ≤ 1000) (hz : z.length ≤ 10000) : MulOk z n := by
  refine ⟨?_, fun _ _ => ?_, fun _ _ => ?_⟩
  · rw [decide_eq_false (by omega), decide_eq_false (by omega)]; rfl
  · have h3 : (9000000 : Int) ≤ (2 ^ 63 - 1) / n := (Int.le_ediv_iff_mul_le (by omega)).mpr (by omega)
    omega
  · have e : n.toNat ≤ 1000 := by omega
    have h4 : z.length * n.toNat ≤ 10000 * 1000 := Nat.mul_le_mul hz e
    show decide (sizeLine < z.length * n.toNat) = false
    exact decide_eq_false (Nat.not_lt.mpr (Nat.le_trans h4 (by decide)))
theorem mul_len {z : Str} {n : Int} (h2 : 2 ≤ n) : (Txt.mul z n).length ≤ z.length * n.toNat := by
  unfold Txt.mul
  rw [if_neg (by omega)]
  split
  · have h : 1 ≤ n.toNat := by omega
    calc z.length = z.length * 1 := (Nat.mul_one _).symm
      _ ≤ z.length * n.toNat := Nat.mul_le_mul_left _ h
  · show ((List.replicate n.toNat z.cps).foldl (· ++ ·) #[]).size ≤ z.cps.size * n.toNat
    rw [size_reps]
    show 0 + n.toNat * z.cps.size ≤ _
    rw [Nat.zero_add, Nat.mul_comm]
    exact Nat.le_refl _
theorem op_mul_str {X : Cx} : OpR X (binaryOp .Mult) (fun x y H Q => ∃ z n, x = .str z ∧ y = .int n ∧ MulOk z n ∧ Q (.str (Txt.mul z n)) H) := by
  intro pins s σ H x y v u Q I rx ry h
  obtain ⟨z, n, rfl, rfl, hm, q⟩ := h
  obtain ⟨t, rfl⟩ := rx
  obtain ⟨t', rfl⟩ := ry
  exact SB.mul hm fun t' k => ⟨.str (Txt.mul z n), H, I.tok _, ⟨_, rfl⟩, q⟩
/-! ### tokens and gaps by turns -/
def inter : List (List Nat) → List (List Nat) → List (List Nat)
  | t :: ts, g :: gs => t :: g :: inter ts gs
  | _, _ => []
theorem inter_flat : ∀ ts gs : List (List Nat), (inter ts gs).flatten = mixed ts gs
  | t :: ts, g :: gs => by
    show t ++ (g ++ (inter ts gs).flatten) = t ++ (g ++ mixed ts gs)
    rw [inter_flat ts gs]
  | [], _ => rfl
  | _ :: _, [] => rfl
theorem inter_snoc : ∀ (ts gs : List (List Nat)) (t g : List Nat), gs.length = ts.length → inter (ts ++ [t]) (gs ++ [g]) = inter ts gs ++ [t, g]
  | [], [], _, _, _ => rfl
  | [], _ :: _, _, _, h => by cases h
  | _ :: _, [], _, _, h => by cases h
  | t0 :: ts, g0 :: gs, t, g, h => by
    show t0 :: g0 :: inter (ts ++ [t]) (gs ++ [g]) = t0 :: g0 :: (inter ts gs ++ [t, g])
    rw [inter_snoc ts gs t g (Nat.succ.inj h)]
theorem inter_len : ∀ ts gs : List (List Nat), (inter ts gs).length ≤ 2 * ts.length
  | t :: ts, g :: gs => by
    have := inter_len ts gs
    show (inter ts gs).length + 1 + 1 ≤ 2 * (ts.length + 1)
    omega
  | [], _ => Nat.zero_le _
  | _ :: _, [] => Nat.zero_le _
section
variable {P : Program} {w : World} {K : PySem.W.Frag} {mg : Str → Option Value} {base : Heap}
/-! ### runs_on, gap, parts -/
def spRunsOn : Sp := fun vs H Q _ => ∃ (t u : List Nat), vs = [sV t, sV u] ∧ t ≠ [] ∧ u ≠ [] ∧ t.length ≤ 100000 ∧ u.length ≤ 100000 ∧ Q (.bl (runs t u)) H
theorem head_at {t : List Nat} (h : t ≠ []) : atI t 0 = some (t.headD 0) := by
  cases t with
  | nil => exact absurd rfl h
  | cons c r => exact atI_nat (j := 0) rfl
theorem dec_at (c : Nat) : decide (V.str ⟨#[c]⟩ = V.str ("@" : Str)) = decide (c = 64) := by
  rw [at_mk]
  by_cases h : c = 64
  · subst h; rfl
  · rw [decide_eq_false h]
    refine decide_eq_false fun e => h ?_
    have e2 : mkS [c] = mkS [64] := V.str.inj e
    have e3 := mkS_inj e2
    injection e3
theorem ok_runs_on (T : Txt K mg) : FnOk P w K mg base CX0 2 T.a_law_runs_on T.d_law_runs_on ["_law_one", "_law_two"] spRunsOn := by
  have G_law_word_signs : FnOk P w K mg base CX0 1 T.a_law_word_signs T.d_law_word_signs [] (spC sW) := ok_word_signs T
  refine T.D_law_runs_on.F.ok sc_law_runs_on (fun vs H Q E h => ?_) (fun cdv A outer s H vs Q E hr h => ?_)
  · obtain ⟨t, u, rfl, _⟩ := h
    rfl
  · obtain ⟨t, u, rfl, ht, hu, lt, lu, q⟩ := h
    refine ⟨_, (pss_cons (ps_if (pt_cmpR op_eq (pe_ix ix_str (pv 0) pe_int (fun _ _ => rfl)) pe_str (nomark _)) (pss_one (ps_ret (pe_cmpR op_in_sign (pe_ix ix_str (pv 1) pe_int (fun _ _ => rfl)) pe_str (by rfl)))) pss_nil)
      (pss_one (ps_ret (pe_and (pe_cmpR op_in_sign (pe_ix ix_str (pv 0) pe_int (fun _ _ => rfl)) (pe_call0 G_law_word_signs (hr.mono (by decide)) (by rfl) T.D_law_word_signs.G T.D_law_word_signs.F.kp T.D_law_word_signs.B .nil pass0) (by rfl)) (pe_one (pe_cmpR op_in_sign (pe_ix ix_str (pv 1) pe_int (fun _ _ => rfl)) (pe_call0 G_law_word_signs (hr.mono (by decide)) (by rfl) T.D_law_word_signs.G T.D_law_word_signs.F.kp T.D_law_word_signs.B .nil pass0) (by rfl))))))), ?_⟩
    have zt : (mkS t).length ≤ sizeLine := by rw [mkS_len]; exact big_ok lt
    have zu : (mkS u).length ≤ sizeLine := by rw [mkS_len]; exact big_ok lu
    refine ⟨_, rfl, mkS t, 0, _, rfl, rfl, zt, head_at ht, rfl, _, rfl, ?_⟩
    rw [dec_at]
    refine ite2 (fun e => ?_) (fun e => ?_)
    · have e1 : t.headD 0 = 64 := of_decide_eq_true e
      refine ⟨_, rfl, mkS u, 0, _, rfl, rfl, zu, head_at hu, _, _, rfl, rfl, ?_⟩
      have e2 : runs t u = cL (u.headD 0) := by unfold runs; rw [if_pos e1]
      rw [e2] at q
      exact q
    · have e1 : ¬ t.headD 0 = 64 := fun z => e (decide_eq_true z)
      have e2 : runs t u = (cW (t.headD 0) && cW (u.headD 0)) := by unfold runs; rw [if_neg e1]
      rw [e2] at q
      refine ⟨_, rfl, mkS t, 0, _, rfl, rfl, zt, head_at ht, rfl, _, _, rfl, rfl, _, rfl, ?_⟩
      show if cW (t.headD 0) = true then _ else _
      cases e3 : cW (t.headD 0) with
      | true =>
        rw [e3] at q
        exact ⟨_, rfl, mkS u, 0, _, rfl, rfl, zu, head_at hu, rfl, _, _, rfl, rfl, q⟩
      | false =>
        rw [e3] at q
        exact q
def spGap : Sp := fun vs H Q _ => ∃ (d l : Addr) (b : Bool), vs = [.ref d, .bl b] ∧ DI d l H ∧ ∀ H' zs, Kp d H H' → DI d l H' → Bl zs → zs.length ≤ 3 → (b = true → zs ≠ []) → Q (sV zs) H'
theorem ok_gap (T : Txt K mg) : FnOk P w K mg base CX0 3 T.a_law_gap T.d_law_gap ["_law_d", "_law_needed"] spGap := by
  have G_law_pick : FnOk P w K mg base CX0 2 T.a_law_pick T.d_law_pick ["_law_d", "_law_row"] (spPick K) := ok_pick T
  refine T.D_law_gap.F.ok sc_law_gap (fun vs H Q E h => ?_) (fun cdv A outer s H vs Q E hr h => ?_)
  · obtain ⟨d, l, b, rfl, _⟩ := h
    rfl
  · obtain ⟨d, l, b, rfl, hD, q⟩ := h
    refine ⟨_, (pss_cons (ps_set (i := 2) sc_law_gap.nd rfl (.inl rfl) (pe_call G_law_pick (hr.mono (by decide)) (by rfl) T.D_law_pick.G T.D_law_pick.F.kp T.D_law_pick.B .nil pass0 (pa_cons (pv 0) (pa_cons (pe_lst (pa_cons pe_str (pa_cons pe_str (pa_cons pe_str (pa_cons pe_str (pa_cons pe_str (pa_cons pe_str (pa_cons pe_str (pa_cons pe_str pa_nil))))))))) pa_nil))))
      (pss_one (ps_ret (pe_ifExp (PW.pt (pw_and (pt_val (pv 1)) (pw_and1 (pt_cmpR op_eq (pv 2) pe_str (nomark _))))) pe_str (pv 2))))), ?_⟩
    refine ⟨_, rfl, by show 8 ≤ sizeLine; decide, fun p np => ?_⟩
    refine ⟨d, l, _, _, rfl, hD.new np, .inl ⟨p, rfl, (hD.nd np).1, SqL.of upd_same⟩, by show 0 < 8; decide, by show 8 ≤ 1000; decide, fun H2 v K2 D2 hv => ?_⟩
    have hz : ∃ z : Str, v = .str z ∧ (z.cps.toList.all cB = true ∧ z.cps.toList.length ≤ 3) := by
      simp only [List.mem_cons, List.not_mem_nil, or_false] at hv
      rcases hv with rfl | rfl | rfl | rfl | rfl | rfl | rfl | rfl <;> exact ⟨_, rfl, by decide +kernel⟩
    obtain ⟨z, rfl, hz1, hz2⟩ := hz
    have K3 : Kp d H H2 := ((Kp.refl d H).new np).trans K2
    have hB : Bl z.cps.toList := fun c hc => List.all_eq_true.mp hz1 c hc
    have sp1 : Q (.str (" " : Str)) H2 := q H2 (" " : Str).cps.toList K3 D2 (fun c hc => List.all_eq_true.mp (by decide +kernel : (" " : Str).cps.toList.all cB = true) c hc) (by decide +kernel) (fun _ => by decide +kernel)
    cases b with
    | true =>
      refine ⟨_, rfl, _, rfl, _, rfl, rfl, _, rfl, ?_⟩
      refine ite2 (fun e => ?_) (fun e => ?_)
      · exact sp1
      · refine ⟨_, rfl, q H2 z.cps.toList K3 D2 hB hz2 fun _ e0 => e (decide_eq_true ?_)⟩
        have e1 : z = mkS [] := by rw [← mkS_of z, e0]
        rw [e1, empty_mk]
    | false =>
      exact ⟨_, rfl, _, rfl, _, rfl, q H2 z.cps.toList K3 D2 hB hz2 fun z => nomatch z⟩
def spParts (K : PySem.W.Frag) : Sp := fun vs H Q _ => ∃ (d l t : Addr) (ts : List (List Nat)), vs = [.ref d, .ref t] ∧ DI d l H ∧ t ≠ d ∧ SqL K H t (ts.map sV) ∧ ts.length ≤ 20000 ∧ (∀ z ∈ ts, z ≠ [] ∧ z.length ≤ 1000) ∧
  ∀ H' p g0 gs, Kp d H H' → DI d l H' → H p = none → H' p = some (.lst ((g0 :: inter ts gs).map sV)) → Bl g0 → g0.length ≤ 3 → gs.length = ts.length →
    (∀ k g, gs[k]? = some g → (Bl g ∧ (need ts k = true → g ≠ [])) ∧ g.length ≤ 3) → Q (.ref p) H'
theorem ok_parts (T : Txt K mg) : FnOk P w K mg base CX0 4 T.a_law_parts T.d_law_parts ["_law_d", "_law_tokens"] (spParts K) := by
  have G_law_gap : FnOk P w K mg base CX0 3 T.a_law_gap T.d_law_gap ["_law_d", "_law_needed"] spGap := ok_gap T
  have G_law_runs_on : FnOk P w K mg base CX0 2 T.a_law_runs_on T.d_law_runs_on ["_law_one", "_law_two"] spRunsOn := ok_runs_on T
  refine T.D_law_parts.F.ok sc_law_parts (fun vs H Q E h => ?_) (fun cdv A outer s H vs Q E hr h => ?_)
  · obtain ⟨d, l, t, ts, rfl, _⟩ := h
    rfl
  · obtain ⟨d, l, t, ts, rfl, hD, htd, hS, hl, hts, q⟩ := h
    refine ⟨_, (pss_cons (ps_set (i := 2) sc_law_parts.nd rfl (.inl rfl) (pe_lst (pa_cons (pe_call G_law_gap (hr.mono (by decide)) (by rfl) T.D_law_gap.G T.D_law_gap.F.kp T.D_law_gap.B .nil pass0 (pa_cons (pv 0) (pa_cons pe_bl pa_nil))) pa_nil)))
      (pss_cons (ps_for PassesOwn.never rfl (pi_range1 (by rfl) T.n_range (pa_cons (pe_callB call_len_seq (by rfl) T.n_len PySem.boot_len (pa_cons (pv 1) pa_nil)) pa_nil)) (pg_name (i := 3) sc_law_parts.nd rfl (.inl rfl)) (pss_cons (ps_set (i := 4) sc_law_parts.nd rfl (.inl rfl) (pe_and (pe_cmpR op_lt (pe_op op_add (pv 3) pe_int) (pe_callB call_len_seq (by rfl) T.n_len PySem.boot_len (pa_cons (pv 1) pa_nil)) (nomark _)) (pe_one (pe_call G_law_runs_on (hr.mono (by decide)) (by rfl) T.D_law_runs_on.G T.D_law_runs_on.F.kp T.D_law_runs_on.B .nil pass0 (pa_cons (pe_ix ix_list (pv 1) (pv 3) (fun _ _ => rfl)) (pa_cons (pe_ix ix_list (pv 1) (pe_op op_add (pv 3) pe_int) (fun _ _ => rfl)) pa_nil))))))
      (pss_cons (ps_expr (pe_bm PySem.F.plainAttrs_list PySem.F.slot_list_append PySem.F.type_list_append mt_append (pv 2) (pa_cons (pe_ix ix_list (pv 1) (pv 3) (fun _ _ => rfl)) pa_nil)))
      (pss_one (ps_expr (pe_bm PySem.F.plainAttrs_list PySem.F.slot_list_append PySem.F.type_list_append mt_append (pv 2) (pa_cons (pe_call G_law_gap (hr.mono (by decide)) (by rfl) T.D_law_gap.G T.D_law_gap.F.kp T.D_law_gap.B .nil pass0 (pa_cons (pv 0) (pa_cons (pv 4) pa_nil))) pa_nil)))))))
      (pss_one (ps_ret (pv 2))))), ?_⟩
    refine ⟨_, rfl, d, l, _, rfl, hD, fun H1 g0 K1 D1 b0 l0 _ => ⟨by show 1 ≤ sizeLine; decide, fun p np => ?_⟩⟩
    have hn := D1.nd np
    have npH : H p = none := by
      cases e : H p with
      | none => rfl
      | some o => rw [K1 p o hn.1 e] at np; cases np
    have S1 : SqL K (upd H1 p (.lst [sV g0])) t (ts.map sV) := (K1.new np).sq htd hS
    refine ⟨_, rfl, t, _, rfl, .inl S1, _, rfl, by rw [List.length_map]; omega, by rw [List.length_map]; omega, ?_⟩
    refine for_range (lo := 0) (n := ((ts.map sV).length : Int).toNat) (fun i σ' H' => ∃ (gs : List (List Nat)) (x3 x4 : Option V), σ' = [some (.ref d), some (.ref t), some (.ref p), x3, x4] ∧ Kp d H H' ∧ DI d l H' ∧ H' p = some (.lst ((g0 :: inter (ts.take i) gs).map sV)) ∧ gs.length = i ∧
      (∀ k g, gs[k]? = some g → (Bl g ∧ (need ts k = true → g ≠ [])) ∧ g.length ≤ 3))
      ⟨[], none, none, rfl, K1.new np, D1.new np, upd_same, rfl, fun k g e => by simp at e⟩ ?_ ?_
    · rintro i σ' H2 hi ⟨gs, x3, x4, rfl, K2, D2, e2, el, hg⟩
      have hi2 : i < ts.length := by rw [List.length_map] at hi; omega
      have hS2 : SqL K H2 t (ts.map sV) := K2.sq htd hS
      have gi : ts[i]? = some ts[i] := List.getElem?_eq_getElem hi2
      have ev0 : ((0 : Int) + (i : Int)) = (i : Int) := Int.zero_add _
      -- needed
      refine ⟨_, rfl, _, _, rfl, rfl, _, rfl, t, _, rfl, .inl hS2, _, _, rfl, rfl, _, rfl, ?_⟩
      have hne : ∀ b : Bool, b = need ts i → (b = true → need ts i = true) := fun b e z => by rw [← e]; exact z
      -- what follows, for the right answer
      have goon : ∀ (b : Bool), b = need ts i → ∀ (Nx : L2.St → Hp → Prop), (∀ (g : List Nat) (H3 : Hp), Kp d H H3 → DI d l H3 → H3 p = some (.lst ((g0 :: inter (ts.take (i + 1)) (gs ++ [g])).map sV)) → Bl g → (need ts i = true → g ≠ []) → g.length ≤ 3 → Nx [some (.ref d), some (.ref t), some (.ref p), some (.int (0 + (i : Int))), some (.bl b)] H3) →
          ∀ (H2' : Hp), H2' p = some (.lst ((g0 :: inter (ts.take i) gs).map sV ++ [sV ts[i]])) → Kp d H H2' → DI d l H2' →
          spGap [.ref d, .bl b] H2' (fun y H3 => ∃ (l : Addr) (xs : List V) (y' : V), V.ref p = .ref l ∧ [y] = [y'] ∧ H3 l = some (.lst xs) ∧ xs.length < sizeLine ∧ Nx [some (.ref d), some (.ref t), some (.ref p), some (.int (0 + (i : Int))), some (.bl b)] (upd H3 l (.lst (xs ++ [y'])))) E0 := by
        intro b hb Nx hN H2' e3 K3 D3
        refine ⟨d, l, b, rfl, D3, fun H4 g K4 D4 bg lg ng => ?_⟩
        have e4 : H4 p = some (.lst ((g0 :: inter (ts.take i) gs).map sV ++ [sV ts[i]])) := K4 _ _ hn.1 e3
        refine ⟨p, _, _, rfl, rfl, e4, ?_, ?_⟩
        · have := inter_len (ts.take i) gs
          rw [List.length_append, List.length_map, List.length_cons]
          rw [List.length_take] at this
          refine Nat.lt_of_lt_of_le (show _ < 100000 from ?_) (by decide)
          show (inter (ts.take i) gs).length + 1 + 1 < 100000
          omega
        · refine hN g _ ((K3.trans K4).mut npH) (D4.at hn.1 hn.2) ?_ bg (fun z => ng (by rw [hb]; exact z)) lg
          rw [upd_same, take_succ' gi, inter_snoc _ _ _ _ (by rw [List.length_take]; omega), ← List.cons_append, List.map_append, List.append_assoc]
          rfl
      have fin : ∀ (b : Bool), b = need ts i → ∀ (σ4 : L2.St) (g : List Nat) (H3 : Hp), σ4 = [some (.ref d), some (.ref t), some (.ref p), some (.int (0 + (i : Int))), some (.bl b)] → Kp d H H3 → DI d l H3 → H3 p = some (.lst ((g0 :: inter (ts.take (i + 1)) (gs ++ [g])).map sV)) → Bl g → (need ts i = true → g ≠ []) → g.length ≤ 3 →
          ∃ (gs : List (List Nat)) (x3 x4 : Option V), σ4 = [some (.ref d), some (.ref t), some (.ref p), x3, x4] ∧ Kp d H H3 ∧ DI d l H3 ∧ H3 p = some (.lst ((g0 :: inter (ts.take (i + 1)) gs).map sV)) ∧ gs.length = i + 1 ∧ (∀ k g, gs[k]? = some g → (Bl g ∧ (need ts k = true → g ≠ [])) ∧ g.length ≤ 3) := by
        intro b hb σ4 g H3 e4 K3 D3 e3 bg ng lg
        refine ⟨gs ++ [g], _, _, e4, K3, D3, e3, by rw [List.length_append, el]; rfl, fun k g' e => ?_⟩
        by_cases hk : k < gs.length
        · rw [List.getElem?_append_left hk] at e
          exact hg k g' e
        · rw [List.getElem?_append_right (by omega)] at e
          have hk2 : k - gs.length = 0 := by
            have := (List.getElem?_eq_some_iff.mp e).1
            simp at this
            omega
          rw [hk2] at e
          have eg : g = g' := Option.some.inj e
          have ek : k = i := by omega
          subst eg ek
          exact ⟨⟨bg, ng⟩, lg⟩
      have app : ∀ (b : Bool), b = need ts i → ∀ (Nx : L2.St → Hp → Prop), (∀ σ4 H3, (∃ (gs : List (List Nat)) (x3 x4 : Option V), σ4 = [some (.ref d), some (.ref t), some (.ref p), x3, x4] ∧ Kp d H H3 ∧ DI d l H3 ∧ H3 p = some (.lst ((g0 :: inter (ts.take (i + 1)) gs).map sV)) ∧ gs.length = i + 1 ∧ (∀ k g, gs[k]? = some g → (Bl g ∧ (need ts k = true → g ≠ [])) ∧ g.length ≤ 3)) → Nx σ4 H3) →
          ∀ (H2' : Hp), H2' p = some (.lst ((g0 :: inter (ts.take i) gs).map sV ++ [sV ts[i]])) → Kp d H H2' → DI d l H2' →
          spGap [.ref d, .bl b] H2' (fun y H3 => ∃ (l : Addr) (xs : List V) (y' : V), V.ref p = .ref l ∧ [y] = [y'] ∧ H3 l = some (.lst xs) ∧ xs.length < sizeLine ∧ Nx [some (.ref d), some (.ref t), some (.ref p), some (.int (0 + (i : Int))), some (.bl b)] (upd H3 l (.lst (xs ++ [y'])))) E0 :=
        fun b hb Nx hN => goon b hb Nx fun g H3 K3 D3 e3 bg ng lg => hN _ H3 (fin b hb _ g H3 rfl K3 D3 e3 bg ng lg)
      have Dp2 : ∀ o, DI d l (upd H2 p o) := fun o => D2.at hn.1 hn.2
      have Kp2 : ∀ o, Kp d H (upd H2 p o) := fun o => K2.mut npH
      have sz1 : ((g0 :: inter (ts.take i) gs).map sV).length < sizeLine := by
        have := inter_len (ts.take i) gs
        rw [List.length_map, List.length_cons]
        rw [List.length_take] at this
        refine Nat.lt_of_lt_of_le (show _ < 100000 from ?_) (by decide)
        omega
      by_cases hi3 : i + 1 < ts.length
      · have e1 : decide ((0 : Int) + (i : Int) + 1 < (((ts.map sV).length : Nat) : Int)) = true := decide_eq_true (by rw [List.length_map]; omega)
        rw [e1]
        have gi2 : ts[i + 1]? = some ts[i + 1] := List.getElem?_eq_getElem hi3
        have hb : runs ts[i] ts[i + 1] = need ts i := by unfold need; rw [gi, gi2]
        have t1 := hts _ (List.getElem_mem hi2)
        have t2 := hts _ (List.getElem_mem hi3)
        refine ⟨_, rfl, _, rfl, t, _, _, _, rfl, rfl, hS2, at_of ev0 (get_sV gi), _, rfl, _, rfl, _, _, rfl, rfl, t, _, _, _, rfl, rfl, hS2, at_of (j := i + 1) (by omega) (get_sV gi2), ts[i], ts[i + 1], rfl, t1.1, t2.1, by omega, by omega, ?_⟩
        refine ⟨.ref p, rfl, .inl ⟨rfl, _, .inl (.inl e2)⟩, _, rfl, _, rfl, t, _, _, _, rfl, rfl, hS2, at_of ev0 (get_sV gi), p, _, _, rfl, rfl, e2, sz1, ?_⟩
        refine ⟨.ref p, rfl, .inl ⟨rfl, _, .inl (.inl upd_same)⟩, _, rfl, _, rfl, ?_⟩
        exact app _ hb _ (fun σ4 H3 h => h) _ upd_same (Kp2 _) (Dp2 _)
      · have e1 : decide ((0 : Int) + (i : Int) + 1 < (((ts.map sV).length : Nat) : Int)) = false := decide_eq_false (by rw [List.length_map]; omega)
        rw [e1]
        have hb : false = need ts i := by
          unfold need
          rw [List.getElem?_eq_none (l := ts) (i := i + 1) (by omega), gi]
        refine ⟨.ref p, rfl, .inl ⟨rfl, _, .inl (.inl e2)⟩, _, rfl, _, rfl, t, _, _, _, rfl, rfl, hS2, at_of ev0 (get_sV gi), p, _, _, rfl, rfl, e2, sz1, ?_⟩
        refine ⟨.ref p, rfl, .inl ⟨rfl, _, .inl (.inl upd_same)⟩, _, rfl, _, rfl, ?_⟩
        exact app _ hb _ (fun σ4 H3 h => h) _ upd_same (Kp2 _) (Dp2 _)
    · rintro σ' H2 ⟨gs, x3, x4, rfl, K2, D2, e2, el, hg⟩
      have el2 : gs.length = ts.length := by rw [List.length_map] at el; omega
      have et : ts.take ((ts.map sV).length : Int).toNat = ts := List.take_of_length_le (by rw [List.length_map]; omega)
      rw [et] at e2
      exact ⟨_, rfl, q H2 p g0 gs K2 D2 npH e2 b0 l0 el2 hg⟩
def spWalked : Sp := fun vs H Q _ => ∃ z : Str, vs = [.str z] ∧ z.length ≤ 100000 ∧ ∀ H' p, Same H H' → H p = none → H' p = some (.tup ((tok z.cps.toList).map sV)) → Q (.ref p) H'
end
end Vf

set_option Elab.async false
set_option linter.all false
set_option maxRecDepth 100000
set_option maxHeartbeats 4000000
namespace Vf
open PySem PySem.Spec PyProof.Rows L2 TL
section
variable {P : Program} {w : World} {K : PySem.W.Frag} {mg : Str → Option Value} {base : Heap}
/-! ### loose texts -/
def spSign : Sp := fun vs H Q _ => ∃ (d l : Addr) (z : Str), vs = [.ref d, .str z] ∧ DI d l H ∧ ∀ H' zs, Kp d H H' → DI d l H' → zs.length = 1 → Q (sV zs) H'
theorem ok_loose_sign (T : Txt K mg) : FnOk P w K mg base CX0 3 T.a_law_loose_sign T.d_law_loose_sign ["_law_d", "_law_kind"] spSign := by
  have G_law_pick : FnOk P w K mg base CX0 2 T.a_law_pick T.d_law_pick ["_law_d", "_law_row"] (spPick K) := ok_pick T
  have G_law_word_signs : FnOk P w K mg base CX0 1 T.a_law_word_signs T.d_law_word_signs [] (spC sW) := ok_word_signs T
  have G_law_odd_signs : FnOk P w K mg base CX0 1 T.a_law_odd_signs T.d_law_odd_signs [] (spC sOdd) := ok_odd_signs T
  refine T.D_law_loose_sign.F.ok sc_law_loose_sign (fun vs H Q E h => ?_) (fun cdv A outer s H vs Q E hr h => ?_)
  · obtain ⟨d, l, z, rfl, _⟩ := h
    rfl
  · obtain ⟨d, l, z, rfl, hD, q⟩ := h
    have one : ∀ y : Str, y.cps.toList.length = 1 → Q (.str y) H := fun y hy => q H y.cps.toList (Kp.refl d H) hD hy
    have pk : ∀ cs : List Nat, 0 < cs.length → cs.length ≤ 1000 → spPick K [.ref d, sV cs] H Q E0 := fun cs h0 h1 => pick_one hD h0 h1 fun H2 zs K2 D2 ho => by
      obtain ⟨c, rfl, _⟩ := ho
      exact q H2 _ K2 D2 rfl
    refine ⟨_, (pss_cons (ps_if (pt_cmpR op_eq (pv 1) pe_str (nomark _)) (pss_one (ps_ret pe_str)) pss_nil)
      (pss_cons (ps_if (pt_cmpR op_eq (pv 1) pe_str (nomark _)) (pss_one (ps_ret pe_str)) pss_nil)
      (pss_cons (ps_if (pt_cmpR op_eq (pv 1) pe_str (nomark _)) (pss_one (ps_ret pe_str)) pss_nil)
      (pss_cons (ps_if (pt_cmpR op_eq (pv 1) pe_str (nomark _)) (pss_one (ps_ret (pe_call G_law_pick (hr.mono (by decide)) (by rfl) T.D_law_pick.G T.D_law_pick.F.kp T.D_law_pick.B .nil pass0 (pa_cons (pv 0) (pa_cons pe_str pa_nil))))) pss_nil)
      (pss_cons (ps_if (pt_cmpR op_eq (pv 1) pe_str (nomark _)) (pss_one (ps_ret (pe_call G_law_pick (hr.mono (by decide)) (by rfl) T.D_law_pick.G T.D_law_pick.F.kp T.D_law_pick.B .nil pass0 (pa_cons (pv 0) (pa_cons (pe_call0 G_law_odd_signs (hr.mono (by decide)) (by rfl) T.D_law_odd_signs.G T.D_law_odd_signs.F.kp T.D_law_odd_signs.B .nil pass0) pa_nil))))) pss_nil)
      (pss_cons (ps_if (pt_cmpR op_eq (pv 1) pe_str (nomark _)) (pss_one (ps_ret (pe_call G_law_pick (hr.mono (by decide)) (by rfl) T.D_law_pick.G T.D_law_pick.F.kp T.D_law_pick.B .nil pass0 (pa_cons (pv 0) (pa_cons pe_str pa_nil))))) pss_nil)
      (pss_one (ps_ret (pe_call G_law_pick (hr.mono (by decide)) (by rfl) T.D_law_pick.G T.D_law_pick.F.kp T.D_law_pick.B .nil pass0 (pa_cons (pv 0) (pa_cons (pe_call0 G_law_word_signs (hr.mono (by decide)) (by rfl) T.D_law_word_signs.G T.D_law_word_signs.F.kp T.D_law_word_signs.B .nil pass0) pa_nil))))))))))), ?_⟩
    refine ⟨_, rfl, rfl, _, rfl, ite2 (fun _ => ?_) (fun _ => ?_)⟩
    · exact one _ (by decide +kernel)
    refine ⟨_, rfl, rfl, _, rfl, ite2 (fun _ => ?_) (fun _ => ?_)⟩
    · exact one _ (by decide +kernel)
    refine ⟨_, rfl, rfl, _, rfl, ite2 (fun _ => ?_) (fun _ => ?_)⟩
    · exact one _ (by decide +kernel)
    refine ⟨_, rfl, rfl, _, rfl, ite2 (fun _ => ?_) (fun _ => ?_)⟩
    · exact ⟨_, rfl, pk ("{}" : Str).cps.toList (by decide +kernel) (by decide +kernel)⟩
    refine ⟨_, rfl, rfl, _, rfl, ite2 (fun _ => ?_) (fun _ => ?_)⟩
    · exact ⟨_, rfl, rfl, pk sOdd.cps.toList (by decide +kernel) (by decide +kernel)⟩
    refine ⟨_, rfl, rfl, _, rfl, ite2 (fun _ => ?_) (fun _ => ?_)⟩
    · exact ⟨_, rfl, pk sL.cps.toList (by decide +kernel) (by decide +kernel)⟩
    · exact ⟨_, rfl, rfl, pk sW.cps.toList (by decide +kernel) (by decide +kernel)⟩
theorem one_len : ∀ {zss : List (List Nat)}, (∀ z ∈ zss, z.length = 1) → zss.flatten.length = zss.length := flat_one
theorem ok_loose_text (T : Txt K mg) : FnOk P w K mg base CX0 4 T.a_law_loose_text T.d_law_loose_text ["_law_d"] (spStr fun zs => zs.length ≤ 2000) := by
  have G_law_draw : FnOk P w K mg base CX0 1 T.a_law_draw T.d_law_draw ["_law_d", "_law_many"] spDraw := ok_draw T
  have G_law_pick : FnOk P w K mg base CX0 2 T.a_law_pick T.d_law_pick ["_law_d", "_law_row"] (spPick K) := ok_pick T
  have G_law_rare : FnOk P w K mg base CX0 2 T.a_law_rare T.d_law_rare ["_law_d", "_law_many"] spRare := ok_rare T
  have G_law_loose_sign : FnOk P w K mg base CX0 3 T.a_law_loose_sign T.d_law_loose_sign ["_law_d", "_law_kind"] spSign := ok_loose_sign T
  refine T.D_law_loose_text.F.ok sc_law_loose_text (fun vs H Q E h => ?_) (fun cdv A outer s H vs Q E hr h => ?_)
  · obtain ⟨d, l, rfl, _⟩ := h
    rfl
  · obtain ⟨d, l, rfl, hD, q⟩ := h
    refine ⟨_, (pss_cons (ps_set (i := 1) sc_law_loose_text.nd rfl (.inl rfl) (pe_call G_law_draw (hr.mono (by decide)) (by rfl) T.D_law_draw.G T.D_law_draw.F.kp T.D_law_draw.B .nil pass0 (pa_cons (pv 0) (pa_cons pe_int pa_nil))))
      (pss_cons (ps_set (i := 2) sc_law_loose_text.nd rfl (.inr rfl) (pe_call G_law_pick (hr.mono (by decide)) (by rfl) T.D_law_pick.G T.D_law_pick.F.kp T.D_law_pick.B .nil pass0 (pa_cons (pv 0) (pa_cons (pe_lst (pa_cons pe_str (pa_cons pe_str (pa_cons pe_str (pa_cons pe_str pa_nil))))) pa_nil))))
      (pss_cons (ps_set (i := 3) sc_law_loose_text.nd rfl (.inl rfl) (pe_join pe_str (pe_lc (own := [("_law_k", 4)]) (g := gName 4) (tt := tYes) rfl sc_law_loose_text.nd (pi_range1 (by rfl) T.n_range (pa_cons (pv 1) pa_nil)) (blkOk_by (own := [("_law_k", 4)]) (N := ["_law_d", "_law_many", "_law_menu", "_law_text", "_law_k"]) (sc := defScope s_law_loose_text) (by decide +kernel)) (fun _ _ _ _ _ => (pg_name (i := 4) sc_law_loose_text.nd rfl (.inl rfl))) (fun _ _ _ _ _ => pts_nil) (fun _ _ _ _ _ => (pe_call G_law_loose_sign (hr.mono (by decide)) (by rfl) T.D_law_loose_sign.G T.D_law_loose_sign.F.kp T.D_law_loose_sign.B .nil pass0 (pa_cons (pv 0) (pa_cons (pe_call G_law_pick (hr.mono (by decide)) (by rfl) T.D_law_pick.G T.D_law_pick.F.kp T.D_law_pick.B .nil pass0 (pa_cons (pv 0) (pa_cons (pv 2) pa_nil))) pa_nil)))))))
      (pss_cons (ps_if (pt_val (pe_call G_law_rare (hr.mono (by decide)) (by rfl) T.D_law_rare.G T.D_law_rare.F.kp T.D_law_rare.B .nil pass0 (pa_cons (pv 0) (pa_cons pe_int pa_nil)))) (pss_one (ps_ret (pe_op op_mul_str (pv 3) (pe_op op_add pe_int (pe_call G_law_draw (hr.mono (by decide)) (by rfl) T.D_law_draw.G T.D_law_draw.F.kp T.D_law_draw.B .nil pass0 (pa_cons (pv 0) (pa_cons pe_int pa_nil))))))) pss_nil)
      (pss_one (ps_ret (pv 3))))))), ?_⟩
    refine ⟨_, rfl, d, l, _, rfl, hD, by decide, fun H1 r K1 D1 _ r2 => ?_⟩
    have r3 := r2 (by decide)
    refine ⟨_, rfl, by show 4 ≤ sizeLine; decide, fun p np => ?_⟩
    refine ⟨d, l, _, _, rfl, D1.new np, .inl ⟨p, rfl, (D1.nd np).1, SqL.of upd_same⟩, by show 0 < 4; decide, by show 4 ≤ 1000; decide, fun H2 v K2 D2 hv => ?_⟩
    have hz : ∃ z : Str, v = .str z ∧ (0 < z.cps.toList.length ∧ z.cps.toList.length ≤ 1000) := by
      simp only [List.mem_cons, List.not_mem_nil, or_false] at hv
      rcases hv with rfl | rfl | rfl | rfl <;> exact ⟨_, rfl, by decide +kernel⟩
    obtain ⟨z, rfl, hz0, hz1⟩ := hz
    have K3 : Kp d H H2 := (K1.new np).trans K2
    refine ⟨⟨_, rfl⟩, _, rfl, r, rfl, by omega, by omega, ?_⟩
    refine fun D nD => lc_range (lo := 0) (n := r.toNat) (PvS (fun zs => zs.length = 1) d l H2 D) (PvS.start D2 nD) (fun i H3 hi p => ⟨rfl, ?_⟩) (fun H4 p => ?_)
    · refine ⟨_, rfl, _, rfl, _, rfl, pick_one (cs := z.cps.toList) p.dice hz0 hz1 fun H4 zs k4 d4 _ => ?_⟩
      exact ⟨d, l, _, rfl, d4, fun H5 zs' k5 d5 e5 => p.step D2 nD (by omega) (k4.trans k5) d5 e5⟩
    · obtain ⟨zss, hl, hR, K4, D4, e4⟩ := p
      have f1 := one_len hR
      refine ⟨_, D, zss.map mkS, rfl, rfl, .inl (SqL.of (by rw [e4, map_sV])), ?_, ?_⟩
      · rw [sum_len, f1, show (("" : Str)).length = 0 from by rw [empty_mk, mkS_len]; rfl]; omega
      · rw [join_mk]
        have K5 := K3.trans K4
        refine ⟨_, rfl, d, l, _, rfl, D4, by decide, fun H5 b K6 D6 => ⟨b, rfl, ?_⟩⟩
        cases b with
        | true =>
          refine ⟨_, rfl, _, rfl, d, l, _, rfl, D6, by decide, fun H7 r' K7 D7 _ e7 => ?_⟩
          have e8 := e7 (by decide)
          refine ⟨_, _, rfl, rfl, mkS zss.flatten, 2 + r', rfl, rfl, mul_ok (by omega) (by omega) (by rw [mkS_len]; omega), ?_⟩
          refine q H7 (Txt.mul (mkS zss.flatten) (2 + r')).cps.toList ((K5.trans K6).trans K7) D7 ?_
          have h1 := mul_len (z := mkS zss.flatten) (n := 2 + r') (by omega)
          show (Txt.mul (mkS zss.flatten) (2 + r')).cps.toList.length ≤ 2000
          rw [← len_cps]
          refine Nat.le_trans h1 ?_
          rw [mkS_len]
          exact Nat.le_trans (Nat.mul_le_mul (show zss.flatten.length ≤ 49 by omega) (show (2 + r').toNat ≤ 21 by omega)) (by decide)
        | false =>
          exact ⟨_, rfl, q H5 _ (K5.trans K6) D6 (by omega)⟩
/-! ### the law's own walk -/
/-- how the walk stands -/
def WalkI (ins : Nat) (f : List (List Nat)) (r zs : List Nat) : Prop := (ins = 0 ∨ ((ins = 1 ∨ ins = 2) ∧ f ≠ [])) ∧ cont ins f r = tok zs
theorem last_of {f : List (List Nat)} (h : f ≠ []) : ∃ g t, f = g ++ [t] := ⟨f.dropLast, f.getLast h, (List.dropLast_concat_getLast h).symm⟩
theorem cB_iff (c : Nat) : cB c = (decide (c = 32) || decide (c = 10)) := by
  unfold cB
  rw [sB_list]
  by_cases h : c = 32
  · subst h; rfl
  · by_cases h2 : c = 10
    · subst h2; rfl
    · rw [decide_eq_false h, decide_eq_false h2]
      refine decide_eq_false fun q => ?_
      simp only [List.mem_cons, List.not_mem_nil, or_false] at q
      rcases q with q | q
      · exact h q
      · exact h2 q
theorem ok_walked (T : Txt K mg) : FnOk P w K mg base CX0 2 T.a_law_walked T.d_law_walked ["_law_text"] spWalked := by
  have G_law_word_signs : FnOk P w K mg base CX0 1 T.a_law_word_signs T.d_law_word_signs [] (spC sW) := ok_word_signs T
  refine T.D_law_walked.F.ok sc_law_walked (fun vs H Q E h => ?_) (fun cdv A outer s H vs Q E hr h => ?_)
  · obtain ⟨z, rfl, _⟩ := h
    rfl
  · obtain ⟨z, rfl, hz, q⟩ := h
    refine ⟨_, (pss_cons (ps_set (i := 1) sc_law_walked.nd rfl (.inl rfl) (pe_lst pa_nil))
      (pss_cons (ps_set (i := 2) sc_law_walked.nd rfl (.inl rfl) pe_int)
      (pss_cons (ps_for PassesOwn.never rfl (pi_str (pv 0)) (pg_name (i := 3) sc_law_walked.nd rfl (.inl rfl)) (pss_cons (ps_set (i := 4) sc_law_walked.nd rfl (.inl rfl) (pe_cmpR op_in_sign (pv 3) pe_str (by rfl)))
      (pss_cons (ps_set (i := 5) sc_law_walked.nd rfl (.inl rfl) (pe_cmpR op_in_sign (pv 3) (pe_call0 G_law_word_signs (hr.mono (by decide)) (by rfl) T.D_law_word_signs.G T.D_law_word_signs.F.kp T.D_law_word_signs.B .nil pass0) (by rfl)))
      (Evl.pss_cut (ps_if (PW.pt (pw_or (PW.pt (pw_and (pt_cmpR op_eq (pv 2) pe_int (nomark _)) (pw_and1 (pt_val (pv 5))))) (pw_or1 (PW.pt (pw_and (pt_cmpR op_eq (pv 2) pe_int (nomark _)) (pw_and1 (pt_val (pv 4)))))))) (pss_cons (ps_asg (pe_op op_add_str (pe_ix ix_list (pv 1) (pe_un un_neg pe_int) (fun _ _ => rfl)) (pv 3)) (pg_sub (pv 1) (pe_un un_neg pe_int) set_list))
      (pss_one ps_continue)) pss_nil)
      (pss_cons (ps_set (i := 2) sc_law_walked.nd rfl (.inl rfl) pe_int)
      (pss_cons (ps_if (PW.pt (pw_or (pt_cmpR op_eq (pv 3) pe_str (nomark _)) (pw_or1 (pt_cmpR op_eq (pv 3) pe_str (nomark _))))) (pss_one ps_continue) pss_nil)
      (pss_cons (ps_expr (pe_bm PySem.F.plainAttrs_list PySem.F.slot_list_append PySem.F.type_list_append mt_append (pv 1) (pa_cons (pv 3) pa_nil)))
      (pss_cons (ps_if (pt_val (pv 5)) (pss_one (ps_set (i := 2) sc_law_walked.nd rfl (.inl rfl) pe_int)) pss_nil)
      (pss_one (ps_if (pt_cmpR op_eq (pv 3) pe_str (nomark _)) (pss_one (ps_set (i := 2) sc_law_walked.nd rfl (.inl rfl) pe_int)) pss_nil))))))))))
      (pss_one (ps_ret (pe_callTy call_tuple_of (by rfl) T.n_tuple (by decide +kernel) (pa_cons (pv 1) pa_nil))))))), ?_⟩
    refine ⟨by show 0 ≤ sizeLine; decide, fun p np => ?_⟩
    have hsz : z.cps.toList.length ≤ 100000 := by rw [← len_cps]; exact hz
    have hsz2 : z.cps.size = z.cps.toList.length := by simp
    refine ⟨_, rfl, z, rfl, fun i m σ H1 => i + m = z.cps.toList.length ∧ ∃ (ins : Nat) (f : List (List Nat)) (x3 x4 x5 : Option V), σ = [some (.str z), some (.ref p), some (.int (ins : Int)), x3, x4, x5] ∧ H1 p = some (.lst (f.map sV)) ∧ Same H H1 ∧ f.length ≤ i ∧ (∀ t ∈ f, t.length ≤ i) ∧ WalkI ins f (z.cps.toList.drop i) z.cps.toList,
      ⟨_, Nat.zero_add _, 0, [], none, none, none, rfl, upd_same, same_upd (Same.refl H) np, Nat.le_refl _, (fun _ h => nomatch h), .inl rfl, rfl⟩, fun i m σ H1 hW => ?_⟩
    obtain ⟨him, ins, f, x3, x4, x5, rfl, e1, s1, fl, ft, hI, hC⟩ := hW
    by_cases hi : i < z.cps.toList.length
    · have gc : z.cps.toList[i]? = some z.cps.toList[i] := List.getElem?_eq_getElem hi
      refine .inr ⟨by show i < z.cps.size; rw [hsz2]; exact hi, fun σ' H' => ∃ (ins : Nat) (f : List (List Nat)) (x3 x4 x5 : Option V), σ' = [some (.str z), some (.ref p), some (.int (ins : Int)), x3, x4, x5] ∧ H' p = some (.lst (f.map sV)) ∧ Same H H' ∧ f.length ≤ i + 1 ∧ (∀ t ∈ f, t.length ≤ i + 1) ∧ WalkI ins f (z.cps.toList.drop (i + 1)) z.cps.toList, fun σ' H' hN => ?_, fun x H' hy => ?_⟩
      · exact ⟨m - 1, by omega, by omega, hN⟩
      · obtain ⟨rfl, c, hc, rfl⟩ := hy
        have hc2 : z.cps.toList[i]? = some c := by rw [← hc]; simp
        rw [drop_at hc2] at hC
        -- letter, fitting
        refine ⟨_, rfl, c, _, rfl, rfl, ?_⟩
        refine ⟨_, rfl, rfl, c, sW, rfl, rfl, ?_⟩
        -- what the rest does where the sign does not go on
        have off : cont 0 f (c :: z.cps.toList.drop (i + 1)) = tok z.cps.toList → ∃ (ins : Nat) (f' : List (List Nat)), f' = (if cB c then f else f ++ [[c]]) ∧ ins = (if cB c then 0 else if c = 64 then 2 else if cW c then 1 else 0) ∧ WalkI ins f' (z.cps.toList.drop (i + 1)) z.cps.toList := by
          intro h
          refine ⟨_, _, rfl, rfl, ?_⟩
          by_cases hb : cB c = true
          · rw [if_pos hb, if_pos hb]
            exact ⟨.inl rfl, by rw [← cont_blank hb]; exact h⟩
          · have hb2 : cB c = false := by cases e : cB c with
              | true => exact absurd e hb
              | false => rfl
            rw [if_neg hb, if_neg hb]
            by_cases ha : c = 64
            · rw [if_pos ha]
              subst ha
              exact ⟨.inr ⟨.inr rfl, by simp⟩, by rw [← cont_at]; exact h⟩
            · rw [if_neg ha]
              cases hw : cW c with
              | true => rw [if_pos rfl]; exact ⟨.inr ⟨.inl rfl, by simp⟩, by rw [← cont_word hw]; exact h⟩
              | false => rw [if_neg (by decide)]; exact ⟨.inl rfl, by rw [← cont_odd hb2 hw ha]; exact h⟩
        have hgrow : ∀ g t, f = g ++ [t] → (g ++ [t ++ [c]]).length ≤ i + 1 ∧ ∀ u ∈ g ++ [t ++ [c]], u.length ≤ i + 1 := by
          intro g t e
          subst e
          refine ⟨by rw [List.length_append] at fl ⊢; simp at fl ⊢; omega, fun u hu => ?_⟩
          rcases List.mem_append.mp hu with h | h
          · exact Nat.le_succ_of_le (ft u (List.mem_append_left _ h))
          · rw [List.mem_singleton.mp h, List.length_append]
            have := ft t (List.mem_append_right _ (List.mem_singleton.mpr rfl))
            show t.length + 1 ≤ i + 1
            omega
        -- found[-1] = found[-1] + sign
        have last : ∀ (g : List (List Nat)) (t : List Nat), f = g ++ [t] → H' p = some (.lst (g.map sV ++ [sV t])) ∧ (mkS t).length + (mkS [c]).length ≤ sizeLine ∧ ixN (g.map sV ++ [sV t]).length (-1) = some g.length ∧
            (g.map sV ++ [sV t]).set g.length (V.str (mkS t ++ mkS [c])) = (g ++ [t ++ [c]]).map sV := by
          intro g t e
          have lt : t.length ≤ i := ft t (by rw [e]; exact List.mem_append_right _ (List.mem_singleton.mpr rfl))
          refine ⟨by rw [e1, e, List.map_append]; rfl, ?_, ?_, ?_⟩
          · rw [mkS_len, mkS_len]
            refine Nat.le_trans (show t.length + [c].length ≤ 200000 from ?_) (by decide)
            show t.length + 1 ≤ 200000
            omega
          · unfold ixN
            rw [if_neg (by decide), if_pos (by rw [List.length_append]; show -(((g.map sV).length + 1 : Nat) : Int) ≤ -1; omega), List.length_append, List.length_map]
            show some ((-1 : Int) + ((g.length + 1 : Nat) : Int)).toNat = some g.length
            congr 1
            omega
          · rw [mkS_app, List.set_append_right _ _ (by rw [List.length_map]; exact Nat.le_refl _), List.length_map, Nat.sub_self, List.map_append]
            rfl
        refine ⟨fun σ' H2 => σ' = [some (.str z), some (.ref p), some (.int (ins : Int)), some (.str ⟨#[c]⟩), some (.bl (cL c)), some (.bl (cW c))] ∧ H2 = H' ∧ cont 0 f (c :: z.cps.toList.drop (i + 1)) = tok z.cps.toList, ?_, ?_⟩
        · have ni : ∀ (a b : Int), a ≠ b → V.bl (decide (V.int a = V.int b)) = V.bl false := fun a b h => congrArg V.bl (decide_eq_false fun e => h (V.int.inj e))
          have yi : ∀ (a b : Int), a = b → V.bl (decide (V.int a = V.int b)) = V.bl true := fun a b h => congrArg V.bl (decide_eq_true (congrArg V.int h))
          rcases hI with rfl | ⟨rfl | rfl, hf⟩
          · exact ⟨_, rfl, rfl, false, ni _ _ (by decide), _, rfl, rfl, false, ni _ _ (by decide), rfl, rfl, hC⟩
          · obtain ⟨g, t, e⟩ := last_of hf
            rcases tf (cW c) with hw | hw
            ·
              obtain ⟨l1, l2, l3, l4⟩ := last g t e
              refine ⟨_, rfl, rfl, true, yi _ _ (by decide), _, rfl, true, congrArg V.bl hw, ?_⟩
              refine ⟨_, rfl, 1, rfl, p, _, -1, sV t, rfl, rfl, SqL.of l1, atI_last _ _, _, rfl, mkS t, mkS [c], rfl, rfl, l2, ?_⟩
              refine ⟨_, rfl, 1, rfl, p, _, -1, g.length, rfl, rfl, l1, l3, ?_⟩
              rw [l4]
              refine ⟨1, g ++ [t ++ [c]], _, _, _, rfl, upd_same, same_mut s1 np, (hgrow g t e).1, (hgrow g t e).2, .inr ⟨.inl rfl, by simp⟩, ?_⟩
              rw [e, cont1_on hw] at hC
              exact hC
            ·
              refine ⟨_, rfl, rfl, true, yi _ _ (by decide), _, rfl, false, congrArg V.bl hw, _, rfl, rfl, false, ni _ _ (by decide), rfl, rfl, ?_⟩
              rw [e, cont1_off hw] at hC
              rw [e]
              exact hC
          · obtain ⟨g, t, e⟩ := last_of hf
            rcases tf (cL c) with hw | hw
            ·
              obtain ⟨l1, l2, l3, l4⟩ := last g t e
              refine ⟨_, rfl, rfl, false, ni _ _ (by decide), _, rfl, rfl, true, yi _ _ (by decide), _, rfl, true, congrArg V.bl hw, ?_⟩
              refine ⟨_, rfl, 1, rfl, p, _, -1, sV t, rfl, rfl, SqL.of l1, atI_last _ _, _, rfl, mkS t, mkS [c], rfl, rfl, l2, ?_⟩
              refine ⟨_, rfl, 1, rfl, p, _, -1, g.length, rfl, rfl, l1, l3, ?_⟩
              rw [l4]
              refine ⟨2, g ++ [t ++ [c]], _, _, _, rfl, upd_same, same_mut s1 np, (hgrow g t e).1, (hgrow g t e).2, .inr ⟨.inr rfl, by simp⟩, ?_⟩
              rw [e, cont2_on hw] at hC
              exact hC
            ·
              refine ⟨_, rfl, rfl, false, ni _ _ (by decide), _, rfl, rfl, true, yi _ _ (by decide), _, rfl, false, congrArg V.bl hw, rfl, rfl, ?_⟩
              rw [e, cont2_off hw] at hC
              rw [e]
              exact hC
        · rintro σ' H2 ⟨rfl, rfl, h0⟩
          obtain ⟨ins', f', ef, ei, hI'⟩ := off h0
          have fl' : f.length ≤ i + 1 := by omega
          have ft' : ∀ t ∈ f, t.length ≤ i + 1 := fun t ht => Nat.le_succ_of_le (ft t ht)
          by_cases h32 : c = 32
          · have hb : cB c = true := by rw [cB_iff, decide_eq_true h32]; rfl
            rw [if_pos hb] at ef ei
            subst ef ei
            exact ⟨_, rfl, rfl, true, congrArg V.bl ((dec_sign c _ 32 blank_mk).trans (decide_eq_true h32)), 0, f', _, _, _, rfl, e1, s1, fl', ft', hI'⟩
          by_cases h10 : c = 10
          · have hb : cB c = true := by rw [cB_iff, decide_eq_true h10, Bool.or_true]
            rw [if_pos hb] at ef ei
            subst ef ei
            exact ⟨_, rfl, rfl, false, congrArg V.bl ((dec_sign c _ 32 blank_mk).trans (decide_eq_false h32)), _, rfl, rfl, true, congrArg V.bl ((dec_sign c _ 10 feed_mk).trans (decide_eq_true h10)), 0, f', _, _, _, rfl, e1, s1, fl', ft', hI'⟩
          have hb : ¬ cB c = true := by rw [cB_iff, decide_eq_false h32, decide_eq_false h10]; decide
          rw [if_neg hb] at ef ei
          subst ef
          have fl2 : (f ++ [[c]]).length ≤ i + 1 := by rw [List.length_append]; show f.length + 1 ≤ i + 1; omega
          have ft2 : ∀ t ∈ f ++ [[c]], t.length ≤ i + 1 := fun t ht => by
            rcases List.mem_append.mp ht with h | h
            · exact ft' t h
            · rw [List.mem_singleton.mp h]; show 1 ≤ i + 1; omega
          refine ⟨_, rfl, rfl, false, congrArg V.bl ((dec_sign c _ 32 blank_mk).trans (decide_eq_false h32)), _, rfl, rfl, false, congrArg V.bl ((dec_sign c _ 10 feed_mk).trans (decide_eq_false h10)), ?_⟩
          refine ⟨.ref p, rfl, .inl ⟨rfl, _, .inl (.inl e1)⟩, _, rfl, p, _, _, rfl, rfl, e1, ?_, ?_⟩
          · rw [List.length_map]
            exact Nat.lt_of_le_of_lt fl (Nat.lt_of_lt_of_le hi (Nat.le_trans hsz (by decide)))
          · have e2 : upd H2 p (.lst (f.map sV ++ [.str ⟨#[c]⟩])) p = some (.lst ((f ++ [[c]]).map sV)) := by rw [upd_same, List.map_append]; rfl
            have s2 : Same H (upd H2 p (.lst (f.map sV ++ [.str ⟨#[c]⟩]))) := same_mut s1 np
            cases hw : cW c with
            | true =>
              have h64 : c ≠ 64 := cW_ne hw
              rw [if_neg h64, if_pos hw] at ei
              subst ei
              exact ⟨_, rfl, true, rfl, _, rfl, rfl, false, congrArg V.bl ((dec_sign c _ 64 at_mk).trans (decide_eq_false h64)), 1, _, _, _, _, rfl, e2, s2, fl2, ft2, hI'⟩
            | false =>
              rw [hw, if_neg Bool.false_ne_true] at ei
              by_cases h64 : c = 64
              · rw [if_pos h64] at ei
                subst ei
                exact ⟨_, rfl, false, rfl, _, rfl, rfl, true, congrArg V.bl ((dec_sign c _ 64 at_mk).trans (decide_eq_true h64)), 2, _, _, _, _, rfl, e2, s2, fl2, ft2, hI'⟩
              · rw [if_neg h64] at ei
                subst ei
                exact ⟨_, rfl, false, rfl, _, rfl, rfl, false, congrArg V.bl ((dec_sign c _ 64 at_mk).trans (decide_eq_false h64)), 0, _, _, _, _, rfl, e2, s2, fl2, ft2, hI'⟩
    · have ei : i = z.cps.toList.length := by omega
      refine .inl ⟨by show z.cps.size ≤ i; omega, ?_⟩
      have ef : f = tok z.cps.toList := by
        rw [ei, List.drop_length] at hC
        rcases hI with rfl | ⟨rfl | rfl, hf⟩
        · rw [cont_end0] at hC; exact hC
        · obtain ⟨g, t, rfl⟩ := last_of hf
          rw [cont_end1] at hC; exact hC
        · obtain ⟨g, t, rfl⟩ := last_of hf
          rw [cont_end2] at hC; exact hC
      refine ⟨_, rfl, p, _, rfl, .inl ⟨SqL.of e1, fun u nu => ?_⟩⟩
      refine q _ u (same_upd s1 nu) (s1.free nu) ?_
      rw [upd_same, ef]
end
end Vf

set_option Elab.async false
set_option linter.all false
set_option maxRecDepth 100000
set_option maxHeartbeats 4000000
namespace Vf
open PySem PySem.Spec PyProof.Rows L2 TL
theorem take_tw (p : Nat → Bool) : ∀ r : List Nat, r.take (r.takeWhile p).length = r.takeWhile p ∧ r.drop (r.takeWhile p).length = r.dropWhile p
  | [] => ⟨rfl, rfl⟩
  | c :: r => by
    have ⟨a, b⟩ := take_tw p r
    cases h : p c with
    | true =>
      rw [List.takeWhile_cons_of_pos h, List.dropWhile_cons_of_pos h]
      exact ⟨congrArg (List.cons c) a, b⟩
    | false =>
      rw [List.takeWhile_cons_of_neg (by rw [h]; decide), List.dropWhile_cons_of_neg (by rw [h]; decide)]
      exact ⟨rfl, rfl⟩
theorem tw_le (p : Nat → Bool) : ∀ r : List Nat, (r.takeWhile p).length ≤ r.length
  | [] => Nat.le_refl _
  | c :: r => by
    cases h : p c with
    | true => rw [List.takeWhile_cons_of_pos h]; exact Nat.succ_le_succ (tw_le p r)
    | false => rw [List.takeWhile_cons_of_neg (by rw [h]; decide)]; exact Nat.zero_le _
/-- where the token that begins at place i ends -/
def tend (zs : List Nat) (i : Nat) : Nat := match zs.drop i with
  | [] => i
  | c :: r => if c = 64 then i + 1 + (r.takeWhile cL).length else if cW c then i + 1 + (r.takeWhile cW).length else i + 1
theorem tend_le {zs : List Nat} {i : Nat} (h : i < zs.length) : i < tend zs i ∧ tend zs i ≤ zs.length := by
  have hd := drop_at (List.getElem?_eq_getElem h)
  have hl : (zs.drop (i + 1)).length = zs.length - (i + 1) := List.length_drop
  have h1 := tw_le cL (zs.drop (i + 1))
  have h2 := tw_le cW (zs.drop (i + 1))
  have et : tend zs i = if zs[i] = 64 then i + 1 + ((zs.drop (i + 1)).takeWhile cL).length else if cW zs[i] then i + 1 + ((zs.drop (i + 1)).takeWhile cW).length else i + 1 := by
    unfold tend
    rw [hd]
  by_cases c1 : zs[i] = 64
  · rw [if_pos c1] at et; omega
  · rw [if_neg c1] at et
    by_cases c2 : cW zs[i] = true
    · rw [if_pos c2] at et; omega
    · rw [if_neg c2] at et; omega
theorem tok_step {zs : List Nat} {i c : Nat} (h : zs[i]? = some c) (hb : cB c = false) : tok (zs.drop i) = (zs.drop i).take (tend zs i - i) :: tok (zs.drop (tend zs i)) := by
  have hd := drop_at h
  unfold tend
  rw [hd]
  show tok (c :: _) = (c :: _).take ((if _ then _ else _) - i) :: tok (zs.drop (if _ then _ else _))
  rw [tok_cons, if_neg (by rw [hb]; decide)]
  have e0 : ∀ n, (i + 1 + n) - i = n + 1 := fun n => by omega
  have e1 : ∀ n, zs.drop (i + 1 + n) = (zs.drop (i + 1)).drop n := fun n => by rw [List.drop_drop]
  have ⟨a1, b1⟩ := take_tw cL (zs.drop (i + 1))
  have ⟨a2, b2⟩ := take_tw cW (zs.drop (i + 1))
  by_cases h1 : c = 64
  · rw [if_pos h1, if_pos h1, e0, e1, List.take_succ_cons, a1, b1]
  · rw [if_neg h1, if_neg h1]
    by_cases h2 : cW c = true
    · rw [if_pos h2, if_pos h2, e0, e1, List.take_succ_cons, a2, b2]
    · rw [if_neg h2, if_neg h2, show i + 1 - i = 0 + 1 from by omega, List.take_succ_cons, List.take_zero]
theorem cut_mk {z : Str} {i e : Nat} (h1 : i ≤ z.cps.toList.length) (h2 : e ≤ z.cps.toList.length) : cutS z (some (i : Int)) (some (e : Int)) = mkS ((z.cps.toList.drop i).take (e - i)) := by
  unfold cutS
  rw [HT.sIx_nat, HT.sIx_nat, len_cps, Nat.min_eq_left h1, Nat.min_eq_left h2]
  rfl
section
variable {P : Program} {w : World} {K : PySem.W.Frag} {mg : Str → Option Value} {base : Heap}
/-! ### the program -/
def spRunEnd : Sp := fun vs H Q _ => ∃ (z a : Str) (i : Nat), vs = [.str z, .int (i : Int), .str a] ∧ i ≤ z.cps.toList.length ∧ z.length ≤ 100000 ∧
  Q (.int ((i + ((z.cps.toList.drop i).takeWhile fun c => decide (c ∈ a.cps.toList)).length : Nat) : Int)) H
theorem ok_run_end (T : Txt K mg) : FnOk P w K mg base CX0 1 T.a_run_end T.d_run_end ["text", "at", "allowed"] spRunEnd := by
  refine T.D_run_end.F.ok sc_run_end (fun vs H Q E h => ?_) (fun cdv A outer s H vs Q E hr h => ?_)
  · obtain ⟨z, a, i, rfl, _⟩ := h
    rfl
  · obtain ⟨z, a, i, rfl, hi, hz, q⟩ := h
    refine ⟨_, (pss_cons (ps_while PassesOwn.never (PW.pt (pw_and (pt_cmpR op_lt (pv 1) (pe_callB call_len_str (by rfl) T.n_len PySem.boot_len (pa_cons (pv 0) pa_nil)) (nomark _)) (pw_and1 (pt_cmpR op_in_sign (pe_ix ix_str (pv 0) (pv 1) (fun _ _ => rfl)) (pv 2) (by rfl))))) (pss_one (ps_aug (i := 1) sc_run_end.nd rfl (.inl rfl) pe_int ip_add)))
      (pss_one (ps_ret (pv 1)))), ?_⟩
    have hsz : z.cps.toList.length ≤ 100000 := by rw [← len_cps]; exact hz
    have hzl : z.length ≤ sizeLine := big_ok hz
    refine ⟨fun m σ H' => H' = H ∧ ∃ j : Nat, m = z.cps.toList.length - j ∧ j ≤ z.cps.toList.length ∧ σ = [some (.str z), some (.int (j : Int)), some (.str a)] ∧
      j + ((z.cps.toList.drop j).takeWhile fun c => decide (c ∈ a.cps.toList)).length = i + ((z.cps.toList.drop i).takeWhile fun c => decide (c ∈ a.cps.toList)).length,
      ⟨_, rfl, i, rfl, hi, rfl, rfl⟩, fun m σ H' hW => ?_⟩
    obtain ⟨rfl, j, rfl, hj, rfl, e⟩ := hW
    by_cases h1 : j < z.cps.toList.length
    · have gc : z.cps.toList[j]? = some z.cps.toList[j] := List.getElem?_eq_getElem h1
      rw [drop_at gc] at e
      refine ⟨_, rfl, _, rfl, z, rfl, hzl, _, _, rfl, rfl, true, bl_of (decide_eq_true (by rw [len_cps]; omega)), _, rfl, _, rfl, z, _, _, rfl, rfl, hzl, atI_nat gc, _, rfl, _, _, rfl, rfl, ?_⟩
      rcases tf (decide (z.cps.toList[j] ∈ a.cps.toList)) with h2 | h2
      · rw [List.takeWhile_cons_of_pos (p := fun c => decide (c ∈ a.cps.toList)) h2] at e
        refine ⟨true, bl_of h2, fun σ' H1 => H1 = H' ∧ ∃ j' : Nat, j' = j + 1 ∧ σ' = [some (.str z), some (.int (j' : Int)), some (.str a)], fun σ' H1 hN => ?_, ?_⟩
        · obtain ⟨rfl, j', rfl, rfl⟩ := hN
          exact ⟨_, by omega, rfl, j + 1, rfl, h1, rfl, by rw [← e]; show _ = j + (_ + 1); omega⟩
        · exact ⟨_, rfl, _, _, rfl, rfl, rfl, j + 1, rfl, rfl⟩
      · rw [List.takeWhile_cons_of_neg (p := fun c => decide (c ∈ a.cps.toList)) (by rw [h2]; decide)] at e
        refine ⟨false, bl_of h2, _, rfl, ?_⟩
        rw [← e] at q
        exact q
    · have ej : j = z.cps.toList.length := by omega
      refine ⟨_, rfl, _, rfl, z, rfl, hzl, _, _, rfl, rfl, false, bl_of (decide_eq_false (by rw [len_cps]; omega)), _, rfl, ?_⟩
      rw [List.drop_of_length_le (by omega)] at e
      rw [← e] at q
      exact q
def spTokenEnd : Sp := fun vs H Q _ => ∃ (z : Str) (i : Nat), vs = [.str z, .int (i : Int)] ∧ i < z.cps.toList.length ∧ z.length ≤ 100000 ∧ Q (.int (tend z.cps.toList i : Int)) H
theorem ok_token_end (T : Txt K mg) : FnOk P w K mg base CX0 2 T.a_token_end T.d_token_end ["text", "at"] spTokenEnd := by
  have G_run_end : FnOk P w K mg base CX0 1 T.a_run_end T.d_run_end ["text", "at", "allowed"] spRunEnd := ok_run_end T
  refine T.D_token_end.F.ok sc_token_end (fun vs H Q E h => ?_) (fun cdv A outer s H vs Q E hr h => ?_)
  · obtain ⟨z, i, rfl, _⟩ := h
    rfl
  · obtain ⟨z, i, rfl, hi, hz, q⟩ := h
    refine ⟨_, (pss_cons (ps_if (pt_cmpR op_eq (pe_ix ix_str (pv 0) (pv 1) (fun _ _ => rfl)) pe_str (nomark _)) (pss_one (ps_ret (pe_call G_run_end (hr.mono (by decide)) (by rfl) T.D_run_end.G T.D_run_end.F.kp T.D_run_end.B .nil pass0 (pa_cons (pv 0) (pa_cons (pe_op op_add (pv 1) pe_int) (pa_cons (pe_glob (v := .str "abcdefghijklmnopqrstuvwxyz") (by rfl) T.m_LETTERS ⟨_, rfl⟩) pa_nil)))))) pss_nil)
      (pss_cons (ps_if (pt_cmpR op_in_sign (pe_ix ix_str (pv 0) (pv 1) (fun _ _ => rfl)) (pe_glob (v := .str "abcdefghijklmnopqrstuvwxyz0123456789.,:;!?'()+=<>*/") (by rfl) T.m_WORD_CHARACTERS ⟨_, rfl⟩) (by rfl)) (pss_one (ps_ret (pe_call G_run_end (hr.mono (by decide)) (by rfl) T.D_run_end.G T.D_run_end.F.kp T.D_run_end.B .nil pass0 (pa_cons (pv 0) (pa_cons (pv 1) (pa_cons (pe_glob (v := .str "abcdefghijklmnopqrstuvwxyz0123456789.,:;!?'()+=<>*/") (by rfl) T.m_WORD_CHARACTERS ⟨_, rfl⟩) pa_nil)))))) pss_nil)
      (pss_one (ps_ret (pe_op op_add (pv 1) pe_int))))), ?_⟩
    have hzl : z.length ≤ sizeLine := big_ok hz
    have gc : z.cps.toList[i]? = some z.cps.toList[i] := List.getElem?_eq_getElem hi
    have hd := drop_at gc
    have et : tend z.cps.toList i = if z.cps.toList[i] = 64 then i + 1 + ((z.cps.toList.drop (i + 1)).takeWhile cL).length else if cW z.cps.toList[i] then i + 1 + ((z.cps.toList.drop (i + 1)).takeWhile cW).length else i + 1 := by
      unfold tend
      rw [hd]
    refine ⟨_, rfl, _, rfl, z, _, _, rfl, rfl, hzl, atI_nat gc, rfl, ?_⟩
    by_cases h1 : z.cps.toList[i] = 64
    · rw [if_pos h1] at et
      refine ⟨true, bl_of ((dec_sign _ _ 64 at_mk).trans (decide_eq_true h1)), _, rfl, _, rfl, _, _, rfl, rfl, z, _, i + 1, rfl, hi, hz, ?_⟩
      rw [et] at q
      exact q
    · rw [if_neg h1] at et
      refine ⟨false, bl_of ((dec_sign _ _ 64 at_mk).trans (decide_eq_false h1)), _, rfl, _, rfl, z, _, _, rfl, rfl, hzl, atI_nat gc, _, _, rfl, rfl, ?_⟩
      rcases tf (cW z.cps.toList[i]) with h2 | h2
      · rw [if_pos h2] at et
        refine ⟨true, congrArg V.bl h2, _, rfl, _, rfl, z, _, i, rfl, by omega, hz, ?_⟩
        rw [et] at q
        have e3 : i + ((z.cps.toList.drop i).takeWhile cW).length = i + 1 + ((z.cps.toList.drop (i + 1)).takeWhile cW).length := by
          rw [hd, List.takeWhile_cons_of_pos h2]
          show i + (_ + 1) = _
          omega
        rw [← e3] at q
        exact q
      · rw [if_neg (by rw [h2]; decide)] at et
        refine ⟨false, congrArg V.bl h2, _, rfl, _, _, rfl, rfl, ?_⟩
        rw [et] at q
        exact q
theorem ok_tokens_of (T : Txt K mg) : FnOk P w K mg base CX0 3 T.a_tokens_of T.d_tokens_of ["text"] spWalked := by
  have G_token_end : FnOk P w K mg base CX0 2 T.a_token_end T.d_token_end ["text", "at"] spTokenEnd := ok_token_end T
  refine T.D_tokens_of.F.ok sc_tokens_of (fun vs H Q E h => ?_) (fun cdv A outer s H vs Q E hr h => ?_)
  · obtain ⟨z, rfl, _⟩ := h
    rfl
  · obtain ⟨z, rfl, hz, q⟩ := h
    refine ⟨_, (pss_cons (ps_set (i := 1) sc_tokens_of.nd rfl (.inl rfl) (pe_lst pa_nil))
      (pss_cons (ps_set (i := 2) sc_tokens_of.nd rfl (.inl rfl) pe_int)
      (pss_cons (ps_while PassesOwn.never (pt_cmpR op_lt (pv 2) (pe_callB call_len_str (by rfl) T.n_len PySem.boot_len (pa_cons (pv 0) pa_nil)) (nomark _)) (pss_one (ps_if (pt_cmpR op_in_sign (pe_ix ix_str (pv 0) (pv 2) (fun _ _ => rfl)) (pe_glob (v := .str " \n") (by rfl) T.m_BLANKS ⟨_, rfl⟩) (by rfl)) (pss_one (ps_aug (i := 2) sc_tokens_of.nd rfl (.inl rfl) pe_int ip_add)) (pss_cons (ps_set (i := 3) sc_tokens_of.nd rfl (.inl rfl) (pe_call G_token_end (hr.mono (by decide)) (by rfl) T.D_token_end.G T.D_token_end.F.kp T.D_token_end.B .nil pass0 (pa_cons (pv 0) (pa_cons (pv 2) pa_nil))))
      (pss_cons (ps_expr (pe_bm PySem.F.plainAttrs_list PySem.F.slot_list_append PySem.F.type_list_append mt_append (pv 1) (pa_cons (pe_slice sl_str (pv 0) (po_some (pv 2)) (po_some (pv 3))) pa_nil)))
      (pss_one (ps_set (i := 2) sc_tokens_of.nd rfl (.inl rfl) (pv 3))))))))
      (pss_one (ps_ret (pe_callTy call_tuple_of (by rfl) T.n_tuple (by decide +kernel) (pa_cons (pv 1) pa_nil))))))), ?_⟩
    have hzl : z.length ≤ sizeLine := big_ok hz
    have hsz : z.cps.toList.length ≤ 100000 := by rw [← len_cps]; exact hz
    refine ⟨by show 0 ≤ sizeLine; decide, fun p np => ?_⟩
    refine ⟨fun m σ H' => ∃ (j : Nat) (f : List (List Nat)) (x3 : Option V), m = z.cps.toList.length - j ∧ j ≤ z.cps.toList.length ∧ σ = [some (.str z), some (.ref p), some (.int (j : Int)), x3] ∧ H' p = some (.lst (f.map sV)) ∧ Same H H' ∧ f.length ≤ j ∧
      f ++ tok (z.cps.toList.drop j) = tok z.cps.toList,
      ⟨_, 0, [], none, rfl, Nat.zero_le _, rfl, upd_same, same_upd (Same.refl H) np, Nat.le_refl _, rfl⟩, fun m σ H' hW => ?_⟩
    obtain ⟨j, f, x3, rfl, hj, rfl, e1, s1, fl, hf⟩ := hW
    by_cases h1 : j < z.cps.toList.length
    · have gc : z.cps.toList[j]? = some z.cps.toList[j] := List.getElem?_eq_getElem h1
      refine ⟨_, rfl, _, rfl, z, rfl, hzl, _, _, rfl, rfl, true, bl_of (decide_eq_true (by rw [len_cps]; omega)), ?_⟩
      refine ⟨fun σ' H1 => ∃ (j' : Nat) (f : List (List Nat)) (x3 : Option V), j < j' ∧ j' ≤ z.cps.toList.length ∧ σ' = [some (.str z), some (.ref p), some (.int (j' : Int)), x3] ∧ H1 p = some (.lst (f.map sV)) ∧ Same H H1 ∧ f.length ≤ j' ∧ f ++ tok (z.cps.toList.drop j') = tok z.cps.toList, fun σ' H1 hN => ?_, ?_⟩
      · obtain ⟨j', f', x3', l1, l2, rfl, r⟩ := hN
        exact ⟨_, by omega, j', f', x3', rfl, l2, rfl, r⟩
      · refine ⟨_, rfl, _, rfl, z, _, _, rfl, rfl, hzl, atI_nat gc, _, _, rfl, rfl, ?_⟩
        rcases tf (cB z.cps.toList[j]) with h2 | h2
        · refine ⟨true, congrArg V.bl h2, _, rfl, _, _, rfl, rfl, j + 1, f, x3, Nat.lt_succ_self _, h1, rfl, e1, s1, by omega, ?_⟩
          rw [drop_at gc, tok_cons, if_pos h2] at hf
          exact hf
        · have ⟨t1, t2⟩ := tend_le h1
          refine ⟨false, congrArg V.bl h2, _, rfl, _, rfl, z, j, rfl, h1, hz, ?_⟩
          refine ⟨.ref p, rfl, .inl ⟨rfl, _, .inl (.inl e1)⟩, _, rfl, ⟨_, rfl, _, rfl, _, rfl, _, rfl, z, rfl, hzl, ?_⟩⟩
          refine ⟨p, _, _, rfl, rfl, e1, ?_, ?_⟩
          · rw [List.length_map]
            exact Nat.lt_of_le_of_lt fl (Nat.lt_of_lt_of_le h1 (Nat.le_trans hsz (by decide)))
          · refine ⟨_, rfl, tend z.cps.toList j, f ++ [(z.cps.toList.drop j).take (tend z.cps.toList j - j)], _, t1, t2, rfl, ?_, same_mut s1 np, ?_, ?_⟩
            · rw [upd_same, List.map_append, cut_mk hj t2]; rfl
            · rw [List.length_append]; show f.length + 1 ≤ _; omega
            · rw [tok_step gc h2] at hf
              rw [List.append_assoc]
              exact hf
    · refine ⟨_, rfl, _, rfl, z, rfl, hzl, _, _, rfl, rfl, false, bl_of (decide_eq_false (by rw [len_cps]; omega)), ?_⟩
      rw [List.drop_of_length_le (by omega), tok_nil, List.append_nil] at hf
      refine ⟨_, rfl, p, _, rfl, .inl ⟨SqL.of e1, fun u nu => ?_⟩⟩
      refine q _ u (same_upd s1 nu) (s1.free nu) ?_
      rw [upd_same, hf]
end
end Vf

set_option Elab.async false
set_option linter.all false
set_option maxRecDepth 100000
set_option maxHeartbeats 4000000
namespace Vf
open PySem PySem.Spec PyProof.Rows L2 TL
/-- two values are the same data, at most n - 1 tuples deep -/
def Eqv : Nat → Hp → V → V → Prop
  | 0, _, _, _ => False
  | n + 1, H, v, u => ((∃ z, v = .str z ∧ u = .str z) ∨ (∃ i, v = .int i ∧ u = .int i) ∨ (v = .non ∧ u = .non)) ∨
      ∃ (a b : Addr) (xs ys : List V), v = .ref a ∧ u = .ref b ∧ H a = some (.tup xs) ∧ H b = some (.tup ys) ∧ xs.length = ys.length ∧ xs.length ≤ 100000 ∧ ∀ (i : Nat) x y, xs[i]? = some x → ys[i]? = some y → Eqv n H x y
def spExact (n : Nat) : Sp := fun vs H Q _ => ∃ (v u : V), vs = [v, u] ∧ Eqv n H v u ∧ Q (.bl true) H
theorem eq_self {H : Hp} {Q : VK} {x : V} (q : Q (.bl true) H) : Q (.bl (decide (x = x))) H := by
  rw [decide_eq_true rfl]; exact q
section
variable {P : Program} {w : World} {K : PySem.W.Frag} {mg : Str → Option Value} {base : Heap}
theorem ok_exact (T : Txt K mg) : ∀ n : Nat, FnOk P w K mg base CX0 (n + 1) T.a_law_exact T.d_law_exact ["_law_told", "_law_due"] (spExact n)
  | 0 => by
    refine T.D_law_exact.F.ok sc_law_exact (fun vs H Q E h => ?_) (fun cdv A outer s H vs Q E hr h => ?_)
    · obtain ⟨v, u, rfl, _⟩ := h
      rfl
    · obtain ⟨v, u, rfl, hE, q⟩ := h
      exact hE.elim
  | n + 1 => by
    have G_law_exact : FnOk P w K mg base CX0 (n + 1) T.a_law_exact T.d_law_exact ["_law_told", "_law_due"] (spExact n) := ok_exact T n
    refine T.D_law_exact.F.ok sc_law_exact (fun vs H Q E h => ?_) (fun cdv A outer s H vs Q E hr h => ?_)
    · obtain ⟨v, u, rfl, _⟩ := h
      rfl
    · obtain ⟨v, u, rfl, hE, q⟩ := h
      refine ⟨_, (pss_cons (ps_if (pt_val (pe_callB call_isi (by rfl) T.n_isinstance (by decide +kernel) (pa_cons (pv 1) (pa_cons (pe_bltn (v := .ty "tuple") (by rfl) T.n_tuple (by decide +kernel) rfl) pa_nil)))) (pss_cons (ps_if (PW.pt (pw_or (pt_not (pt_val (pe_callB call_isi (by rfl) T.n_isinstance (by decide +kernel) (pa_cons (pv 0) (pa_cons (pe_bltn (v := .ty "tuple") (by rfl) T.n_tuple (by decide +kernel) rfl) pa_nil))))) (pw_or1 (pt_cmpR op_ne (pe_callB call_len (by rfl) T.n_len PySem.boot_len (pa_cons (pv 0) pa_nil)) (pe_callB call_len (by rfl) T.n_len PySem.boot_len (pa_cons (pv 1) pa_nil)) (nomark _))))) (pss_one (ps_ret pe_bl)) pss_nil)
      (pss_cons (ps_for PassesOwn.never rfl (pi_range1 (by rfl) T.n_range (pa_cons (pe_callB call_len (by rfl) T.n_len PySem.boot_len (pa_cons (pv 1) pa_nil)) pa_nil)) (pg_name (i := 2) sc_law_exact.nd rfl (.inl rfl)) (pss_one (ps_if (pt_not (pt_val (pe_call G_law_exact hr (by rfl) T.D_law_exact.G T.D_law_exact.F.kp T.D_law_exact.B .nil pass0 (pa_cons (pe_ix ix_seq (pv 0) (pv 2) (fun _ _ => rfl)) (pa_cons (pe_ix ix_seq (pv 1) (pv 2) (fun _ _ => rfl)) pa_nil))))) (pss_one (ps_ret pe_bl)) pss_nil)))
      (pss_one (ps_ret pe_bl)))) pss_nil)
      (pss_cons (ps_if (pt_cmpR op_isN (pv 1) pe_non (nomark _)) (pss_one (ps_ret (pe_cmpR op_isN (pv 0) pe_non (nomark _)))) pss_nil)
      (pss_cons (ps_if (pt_val (pe_callB call_isi (by rfl) T.n_isinstance (by decide +kernel) (pa_cons (pv 1) (pa_cons (pe_bltn (v := .ty "bool") (by rfl) T.n_bool (by decide +kernel) rfl) pa_nil)))) (pss_one (ps_ret (pe_and (pe_callB call_isi (by rfl) T.n_isinstance (by decide +kernel) (pa_cons (pv 0) (pa_cons (pe_bltn (v := .ty "bool") (by rfl) T.n_bool (by decide +kernel) rfl) pa_nil))) (pe_one (pe_cmpR op_eq (pv 0) (pv 1) (nomark _)))))) pss_nil)
      (pss_cons (ps_if (pt_val (pe_callB call_isi (by rfl) T.n_isinstance (by decide +kernel) (pa_cons (pv 1) (pa_cons (pe_bltn (v := .ty "int") (by rfl) T.n_int (by decide +kernel) rfl) pa_nil)))) (pss_one (ps_ret (pe_and (pe_callB call_isi (by rfl) T.n_isinstance (by decide +kernel) (pa_cons (pv 0) (pa_cons (pe_bltn (v := .ty "int") (by rfl) T.n_int (by decide +kernel) rfl) pa_nil))) (pe_and (pe_not (pe_callB call_isi (by rfl) T.n_isinstance (by decide +kernel) (pa_cons (pv 0) (pa_cons (pe_bltn (v := .ty "bool") (by rfl) T.n_bool (by decide +kernel) rfl) pa_nil)))) (pe_one (pe_cmpR op_eq (pv 0) (pv 1) (nomark _))))))) pss_nil)
      (pss_one (ps_ret (pe_and (pe_callB call_isi (by rfl) T.n_isinstance (by decide +kernel) (pa_cons (pv 0) (pa_cons (pe_bltn (v := .ty "str") (by rfl) T.n_str (by decide +kernel) rfl) pa_nil))) (pe_one (pe_cmpR op_eq (pv 0) (pv 1) (nomark _)))))))))), ?_⟩
      rcases hE with (⟨z, rfl, rfl⟩ | ⟨i, rfl, rfl⟩ | ⟨rfl, rfl⟩) | ⟨a, b, xs, ys, rfl, rfl, ha, hb, el, en, hE⟩
      · refine ⟨_, rfl, _, _, .type "str", .type "tuple", false, rfl, .ty _, .base (.str _), kit_ty (by decide +kernel), _, rfl, ?_⟩
        refine ⟨_, rfl, rfl, false, bl_of (decide_eq_false (fun e => by cases e)), ?_⟩
        refine ⟨_, rfl, _, _, .type "str", .type "bool", false, rfl, .ty _, .base (.str _), kit_ty (by decide +kernel), _, rfl, ?_⟩
        refine ⟨_, rfl, _, _, .type "str", .type "int", false, rfl, .ty _, .base (.str _), kit_ty (by decide +kernel), _, rfl, ?_⟩
        exact ⟨_, rfl, _, _, .type "str", .type "str", true, rfl, .ty _, .base (.str _), kit_ty (by decide +kernel), true, rfl, _, rfl, _, rfl, rfl, eq_self q⟩
      · refine ⟨_, rfl, _, _, .type "int", .type "tuple", false, rfl, .ty _, .base (.int _), kit_ty (by decide +kernel), _, rfl, ?_⟩
        refine ⟨_, rfl, rfl, false, bl_of (decide_eq_false (fun e => by cases e)), ?_⟩
        refine ⟨_, rfl, _, _, .type "int", .type "bool", false, rfl, .ty _, .base (.int _), kit_ty (by decide +kernel), _, rfl, ?_⟩
        refine ⟨_, rfl, _, _, .type "int", .type "int", true, rfl, .ty _, .base (.int _), kit_ty (by decide +kernel), _, rfl, ?_⟩
        exact ⟨_, rfl, _, _, .type "int", .type "int", true, rfl, .ty _, .base (.int _), kit_ty (by decide +kernel), true, rfl, _, rfl, _, _, .type "int", .type "bool", false, rfl, .ty _, .base (.int _), kit_ty (by decide +kernel), false, rfl, true, rfl, _, rfl, _, rfl, rfl, eq_self q⟩
      · refine ⟨_, rfl, _, _, .type "NoneType", .type "tuple", false, rfl, .ty _, .base .non, kit_ty (by decide +kernel), _, rfl, ?_⟩
        exact ⟨_, rfl, rfl, true, bl_of (decide_eq_true rfl), _, rfl, rfl, eq_self q⟩
      · refine ⟨_, rfl, _, _, .type "tuple", .type "tuple", true, rfl, .ty _, .base (.tup hb), kit_ty (by decide +kernel), _, rfl, ?_⟩
        refine ⟨_, rfl, _, _, .type "tuple", .type "tuple", true, rfl, .ty _, .base (.tup ha), kit_ty (by decide +kernel), _, rfl, ?_⟩
        refine ⟨_, rfl, _, _, rfl, .inr ⟨_, SqT.of ha, rfl⟩, _, rfl, _, _, rfl, .inr ⟨_, SqT.of hb, rfl⟩, rfl, false, ?_, ?_⟩
        · rw [el, decide_eq_true rfl]; rfl
        refine ⟨_, rfl, _, _, rfl, .inr ⟨_, SqT.of hb, rfl⟩, _, rfl, by omega, by omega, ?_⟩
        refine for_range (lo := 0) (n := ((ys.length : Nat) : Int).toNat) (fun i σ' H' => H' = H ∧ ∃ x2 : Option V, σ' = [some (.ref a), some (.ref b), x2]) ⟨rfl, none, rfl⟩ ?_ ?_
        · rintro i σ' H' hi ⟨rfl, x2, rfl⟩
          have hi2 : i < ys.length := by omega
          have hi1 : i < xs.length := by omega
          have gx : xs[i]? = some xs[i] := List.getElem?_eq_getElem hi1
          have gy : ys[i]? = some ys[i] := List.getElem?_eq_getElem hi2
          have e0 : ((0 : Int) + (i : Int)) = (i : Int) := Int.zero_add _
          refine ⟨_, rfl, _, rfl, .inr (.inl ⟨a, xs, _, _, rfl, rfl, SqT.of ha, at_of e0 gx, ?_⟩)⟩
          refine ⟨_, rfl, _, rfl, .inr (.inl ⟨b, ys, _, _, rfl, rfl, SqT.of hb, at_of e0 gy, ?_⟩)⟩
          exact ⟨_, _, rfl, hE i _ _ gx gy, true, rfl, rfl, _, rfl⟩
        · rintro σ' H' ⟨rfl, x2, rfl⟩
          exact q
end
end Vf

set_option Elab.async false
set_option linter.all false
set_option maxRecDepth 100000
set_option maxHeartbeats 4000000
namespace Vf
open PySem PySem.Spec PyProof.Rows L2 TL
section
variable {P : Program} {w : World} {K : PySem.W.Frag} {mg : Str → Option Value} {base : Heap}
/-! ### a world -/
def WAt (H : Hp) (p : Addr) : Prop := ∃ (zs : List Nat) (t : Addr), H p = some (.tup [sV zs, .ref t]) ∧ H t = some (.tup ((tok zs).map sV)) ∧ zs.length ≤ 100000
theorem WAt.same {H H' : Hp} {p : Addr} (h : WAt H p) (s : Same H H') : WAt H' p := by
  obtain ⟨zs, t, a, b, c⟩ := h
  exact ⟨zs, t, s _ _ a, s _ _ b, c⟩
theorem WAt.kp {d l : Addr} {H H' : Hp} {p : Addr} (h : WAt H p) (hD : DI d l H) (s : Kp d H H') : WAt H' p := by
  obtain ⟨zs, t, a, b, c⟩ := h
  obtain ⟨_, _, _, _, _, _, _, e⟩ := hD
  exact ⟨zs, t, s _ _ (fun z => by rw [z, e] at a; cases a) a, s _ _ (fun z => by rw [z, e] at b; cases b) b, c⟩
def spWorld : Sp := fun vs H Q _ => ∃ (d l : Addr), vs = [.ref d] ∧ DI d l H ∧ ∀ H' p, Kp d H H' → DI d l H' → WAt H' p → Q (.ref p) H'
theorem mem_parts {ts gs : List (List Nat)} {g0 : List Nat} {B : Nat} (h0 : g0.length ≤ B) (ht : ∀ t ∈ ts, t.length ≤ B) (hg : ∀ (k : Nat) g, gs[k]? = some g → g.length ≤ B) : ∀ z ∈ g0 :: inter ts gs, z.length ≤ B := by
  intro z hz
  rcases List.mem_cons.mp hz with rfl | h
  · exact h0
  · clear hz h0 g0
    induction ts generalizing gs with
    | nil => cases h
    | cons t ts ih =>
      cases gs with
      | nil => cases h
      | cons g gs =>
        rcases List.mem_cons.mp h with rfl | h
        · exact ht _ List.mem_cons_self
        rcases List.mem_cons.mp h with rfl | h
        · exact hg 0 _ rfl
        · exact ih (fun u hu => ht u (List.mem_cons_of_mem _ hu)) (fun k g' e => hg (k + 1) g' e) h
theorem ok_world (T : Txt K mg) : FnOk P w K mg base CX0 6 T.a_law_world T.d_law_world ["_law_d"] spWorld := by
  have G_law_draw : FnOk P w K mg base CX0 1 T.a_law_draw T.d_law_draw ["_law_d", "_law_many"] spDraw := ok_draw T
  have G_law_loose_text : FnOk P w K mg base CX0 4 T.a_law_loose_text T.d_law_loose_text ["_law_d"] (spStr fun zs => zs.length ≤ 2000) := ok_loose_text T
  have G_law_walked : FnOk P w K mg base CX0 2 T.a_law_walked T.d_law_walked ["_law_text"] spWalked := ok_walked T
  have G_law_any_token : FnOk P w K mg base CX0 5 T.a_law_any_token T.d_law_any_token ["_law_d"] (spStr RTok) := ok_any_token T
  have G_law_parts : FnOk P w K mg base CX0 4 T.a_law_parts T.d_law_parts ["_law_d", "_law_tokens"] (spParts K) := ok_parts T
  refine T.D_law_world.F.ok sc_law_world (fun vs H Q E h => ?_) (fun cdv A outer s H vs Q E hr h => ?_)
  · obtain ⟨d, l, rfl, _⟩ := h
    rfl
  · obtain ⟨d, l, rfl, hD, q⟩ := h
    refine ⟨_, (pss_cons (ps_if (pt_cmpR op_eq (pe_call G_law_draw (hr.mono (by decide)) (by rfl) T.D_law_draw.G T.D_law_draw.F.kp T.D_law_draw.B .nil pass0 (pa_cons (pv 0) (pa_cons pe_int pa_nil))) pe_int (nomark _)) (pss_cons (ps_set (i := 1) sc_law_world.nd rfl (.inl rfl) (pe_call G_law_loose_text (hr.mono (by decide)) (by rfl) T.D_law_loose_text.G T.D_law_loose_text.F.kp T.D_law_loose_text.B .nil pass0 (pa_cons (pv 0) pa_nil)))
      (pss_one (ps_ret (pe_tup (pa_cons (pv 1) (pa_cons (pe_call G_law_walked (hr.mono (by decide)) (by rfl) T.D_law_walked.G T.D_law_walked.F.kp T.D_law_walked.B .nil pass0 (pa_cons (pv 1) pa_nil)) pa_nil)))))) pss_nil)
      (pss_cons (ps_setLc (i := 2) (own := [("_law_k", 3)]) (g := gName 3) (tt := tYes) rfl sc_law_world.nd rfl rfl (sw_true rfl rfl rfl (by decide +kernel)) (pi_range1 (by rfl) T.n_range (pa_cons (pe_call G_law_draw (hr.mono (by decide)) (by rfl) T.D_law_draw.G T.D_law_draw.F.kp T.D_law_draw.B .nil pass0 (pa_cons (pv 0) (pa_cons pe_int pa_nil))) pa_nil)) (blkOk_by (own := [("_law_k", 3)]) (N := ["_law_d", "_law_text", "_law_tokens", "_law_k"]) (sc := defScope s_law_world) (by decide +kernel)) (fun _ _ _ _ _ => (pg_name (i := 3) sc_law_world.nd rfl (.inl rfl))) (fun _ _ _ _ _ => pts_nil) (fun _ _ _ _ _ => (pe_call G_law_any_token (hr.mono (by decide)) (by rfl) T.D_law_any_token.G T.D_law_any_token.F.kp T.D_law_any_token.B .nil pass0 (pa_cons (pv 0) pa_nil))))
      (pss_one (ps_ret (pe_tup (pa_cons (pe_join pe_str (pe_call G_law_parts (hr.mono (by decide)) (by rfl) T.D_law_parts.G T.D_law_parts.F.kp T.D_law_parts.B .nil pass0 (pa_cons (pv 0) (pa_cons (pv 2) pa_nil)))) (pa_cons (pe_callTy call_tuple_of (by rfl) T.n_tuple (by decide +kernel) (pa_cons (pv 2) pa_nil)) pa_nil))))))), ?_⟩
    refine ⟨_, rfl, d, l, _, rfl, hD, by decide, fun H1 r K1 D1 _ r2 => ?_⟩
    refine ⟨rfl, _, rfl, ite2 (fun _ => ?_) (fun _ => ?_)⟩
    · refine ⟨_, rfl, d, l, rfl, D1, fun H2 zs K2 D2 (lz : zs.length ≤ 2000) => ?_⟩
      refine ⟨_, rfl, _, rfl, mkS zs, rfl, by rw [mkS_len]; omega, fun H3 t s3 nt e3 => ?_⟩
      refine ⟨by show 2 ≤ sizeLine; decide, fun p np => ?_⟩
      have D3 : DI d l H3 := D2.keep s3
      have K3 : Kp d H H3 := (K1.trans K2).trans fun b o _ e => s3 b o e
      refine q _ p (K3.new np) (D3.new np) ⟨zs, t, upd_same, ?_, by omega⟩
      rw [upd_ne (ne_of_none e3 np), e3, mkS_cps]
    · refine ⟨_, rfl, d, l, _, rfl, D1, by decide, fun H2 r' K2 D2 _ e2 => ?_⟩
      have e3 := e2 (by decide)
      refine ⟨r', rfl, by omega, by omega, ?_⟩
      refine fun D nD => lc_range (lo := 0) (n := r'.toNat) (PvS RTok d l H2 D) (PvS.start D2 nD) (fun i H3 hi p => ⟨rfl, ?_⟩) (fun H4 p => ?_)
      · exact ⟨_, rfl, d, l, rfl, p.dice, fun H5 zs' k5 d5 e5 => p.step D2 nD (by omega) k5 d5 e5⟩
      · obtain ⟨ts, hl, hR, K4, D4, e4⟩ := p
        have nn := D2.nd nD
        refine ⟨⟨_, rfl⟩, _, rfl, _, rfl, d, l, D, ts, rfl, D4, nn.1, SqL.of e4, by omega, fun z hz => ⟨(hR z hz).1.ne, by have := (hR z hz).2; omega⟩, fun H5 p g0 gs K5 D5 np5 e5 b0 l0 gl hg => ?_⟩
        have hB : ∀ z ∈ g0 :: inter ts gs, z.length ≤ 60 := mem_parts (by omega) (fun t ht => (hR t ht).2) (fun k g e => by have := (hg k g e).2; omega)
        have fl := flat_len hB
        have il := inter_len ts gs
        rw [List.length_cons] at fl
        have fl2 : (g0 :: inter ts gs).flatten.length ≤ 3000 := Nat.le_trans fl (Nat.le_trans (Nat.mul_le_mul_right 60 (show (inter ts gs).length + 1 ≤ 50 by omega)) (by decide))
        refine ⟨_, p, (g0 :: inter ts gs).map mkS, rfl, rfl, .inl (SqL.of (by rw [e5, map_sV])), ?_, ?_⟩
        · rw [sum_len, show (("" : Str)).length = 0 from by rw [empty_mk, mkS_len]; rfl]; omega
        · rw [join_mk]
          have e6 : H5 D = some (.lst (ts.map sV)) := K5 _ _ nn.1 e4
          refine ⟨_, rfl, D, _, rfl, .inl ⟨SqL.of e6, fun t nt => ?_⟩⟩
          refine ⟨by show 2 ≤ sizeLine; decide, fun p2 np2 => ?_⟩
          have e7 : tok (g0 :: inter ts gs).flatten = ts := by
            rw [List.flatten_cons, inter_flat, tok_gap _ _ b0]
            exact tok_mixed ts gs (fun t ht => (hR t ht).1) gl (fun k g e => (hg k g e).1)
          have K6 : Kp d H H5 := ((K1.trans K2).trans K4).trans K5
          refine q _ p2 ((K6.new nt).new np2) ((D5.new nt).new np2) ⟨_, t, upd_same, ?_, by omega⟩
          rw [upd_ne (ne_of_none upd_same np2), upd_same, e7]
end
end Vf

set_option Elab.async false
set_option linter.all false
set_option maxRecDepth 100000
set_option maxHeartbeats 4000000
namespace Vf
open PySem PySem.Spec PyProof.Rows L2 TL
section
variable {P : Program} {w : World} {K : PySem.W.Frag} {mg : Str → Option Value} {base : Heap}
def spLaw (K : PySem.W.Frag) : Sp := fun vs H Q _ => ∃ (a : Addr) (ns : List Int), vs = [.ref a] ∧ SqL K H a (ns.map V.int) ∧ ns.length ≤ 63 ∧ ∀ H', Q (.bl true) H'
theorem eqv_strs {H : Hp} {a b : Addr} {ts : List (List Nat)} (ha : H a = some (.tup (ts.map sV))) (hb : H b = some (.tup (ts.map sV))) (hl : ts.length ≤ 100000) : Eqv 2 H (.ref a) (.ref b) := by
  refine .inr ⟨a, b, _, _, rfl, rfl, ha, hb, rfl, by rw [List.length_map]; exact hl, fun i x y ex ey => ?_⟩
  have e : x = y := Option.some.inj (ex.symm.trans ey)
  subst e
  rw [List.getElem?_map] at ex
  cases h : ts[i]? with
  | none => rw [h] at ex; cases ex
  | some t =>
    rw [h] at ex
    have e2 : sV t = x := Option.some.inj ex
    exact .inl (.inl ⟨mkS t, e2.symm, e2.symm⟩)
theorem tok_le : ∀ (n : Nat) (zs : List Nat), (tokF n zs).length ≤ zs.length
  | 0, zs => Nat.zero_le _
  | n + 1, [] => Nat.le_refl _
  | n + 1, c :: r => by
    have d1 := drop_le cL r
    have d2 := drop_le cW r
    have h1 := tok_le n r
    have h2 := tok_le n (r.dropWhile cL)
    have h3 := tok_le n (r.dropWhile cW)
    show (if cB c then tokF n r else if c = 64 then (c :: r.takeWhile cL) :: tokF n (r.dropWhile cL) else if cW c then (c :: r.takeWhile cW) :: tokF n (r.dropWhile cW) else [c] :: tokF n r).length ≤ r.length + 1
    split
    · omega
    · split
      · rw [List.length_cons]; omega
      · split
        · rw [List.length_cons]; omega
        · rw [List.length_cons]; omega
theorem ok_law (T : Txt K mg) : FnOk P w K mg base CX0 7 T.a_law T.d_law ["_law_script"] (spLaw K) := by
  have G_law_begin : FnOk P w K mg base CX0 1 T.a_law_begin T.d_law_begin ["_law_script"] (spBegin K) := ok_begin T
  have G_law_world : FnOk P w K mg base CX0 6 T.a_law_world T.d_law_world ["_law_d"] spWorld := ok_world T
  have G_tokens_of : FnOk P w K mg base CX0 3 T.a_tokens_of T.d_tokens_of ["text"] spWalked := ok_tokens_of T
  have G_law_exact : FnOk P w K mg base CX0 3 T.a_law_exact T.d_law_exact ["_law_told", "_law_due"] (spExact 2) := ok_exact T 2
  refine T.D_law.F.ok sc_law (fun vs H Q E h => ?_) (fun cdv A outer s H vs Q E hr h => ?_)
  · obtain ⟨a, ns, rfl, _⟩ := h
    rfl
  · obtain ⟨a, ns, rfl, hS, hl, q⟩ := h
    refine ⟨_, (pss_cons (ps_set (i := 1) sc_law.nd rfl (.inl rfl) (pe_call G_law_begin (hr.mono (by decide)) (by rfl) T.D_law_begin.G T.D_law_begin.F.kp T.D_law_begin.B .nil pass0 (pa_cons (pv 0) pa_nil)))
      (pss_cons (ps_set (i := 2) sc_law.nd rfl (.inl rfl) (pe_lst (pa_cons (pe_call G_law_world (hr.mono (by decide)) (by rfl) T.D_law_world.G T.D_law_world.F.kp T.D_law_world.B .nil pass0 (pa_cons (pv 1) pa_nil)) (pa_cons (pe_call G_law_world (hr.mono (by decide)) (by rfl) T.D_law_world.G T.D_law_world.F.kp T.D_law_world.B .nil pass0 (pa_cons (pv 1) pa_nil)) pa_nil))))
      (pss_cons (ps_for PassesOwn.never rfl (pi_tup (pe_tup (pa_cons pe_int (pa_cons pe_int (pa_cons pe_int pa_nil))))) (pg_name (i := 3) sc_law.nd rfl (.inl rfl)) (pss_cons (ps_asg (pe_ix ix_list (pv 2) (pv 3) (fun _ _ => rfl)) (pg_tup (by rfl) (pgs_cons (pg_name (i := 4) sc_law.nd rfl (.inl rfl)) (pgs_cons (pg_name (i := 5) sc_law.nd rfl (.inl rfl)) pgs_nil))))
      (pss_one (ps_if (pt_not (pt_val (pe_call G_law_exact (hr.mono (by decide)) (by rfl) T.D_law_exact.G T.D_law_exact.F.kp T.D_law_exact.B .nil pass0 (pa_cons (pe_call G_tokens_of (hr.mono (by decide)) (by rfl) T.D_tokens_of.G T.D_tokens_of.F.kp T.D_tokens_of.B .nil pass0 (pa_cons (pv 4) pa_nil)) (pa_cons (pv 5) pa_nil))))) (pss_one (ps_ret pe_bl)) pss_nil))))
      (pss_one (ps_ret pe_bl))))), ?_⟩
    refine ⟨_, rfl, a, ns, rfl, hS, hl, fun H1 d l s1 D1 => ?_⟩
    refine ⟨_, rfl, d, l, rfl, D1, fun H2 p1 K2 D2 w2 => ?_⟩
    refine ⟨_, rfl, d, l, rfl, D2, fun H3 p2 K3 D3 w3 => ?_⟩
    have w2' : WAt H3 p1 := w2.kp D2 K3
    refine ⟨by show 2 ≤ sizeLine; decide, fun wl nw => ?_⟩
    have s3 : Same H3 (upd H3 wl (.lst [.ref p1, .ref p2])) := same_upd (Same.refl H3) nw
    refine ⟨by show 3 ≤ sizeLine; decide, fun r nr => ?_⟩
    have s4 : Same (upd H3 wl (.lst [.ref p1, .ref p2])) (upd (upd H3 wl (.lst [.ref p1, .ref p2])) r (.tup [.int 0, .int 1, .int 0])) := same_upd (Same.refl _) nr
    refine ⟨r, rfl, ⟨_, SqT.of upd_same⟩, ?_⟩
    refine for_tup (K := K) (a := r) (xs := [.int 0, .int 1, .int 0]) (fun i σ' H' => ∃ x3 x4 x5 : Option V, σ' = [some (.ref a), some (.ref d), some (.ref wl), x3, x4, x5] ∧ H' wl = some (.lst [.ref p1, .ref p2]) ∧ H' r = some (.tup [.int 0, .int 1, .int 0]) ∧ WAt H' p1 ∧ WAt H' p2)
      ⟨none, none, none, rfl, s4 _ _ upd_same, upd_same, (w2'.same s3).same s4, (w3.same s3).same s4⟩ ?_ ?_ ?_
    · rintro i σ' H' _ ⟨_, _, _, _, _, hr', _⟩
      exact SqT.of hr'
    · rintro i x σ' H' hx ⟨x3, x4, x5, rfl, hw, hr', v1, v2⟩
      obtain ⟨k, p, ex, ep, vp⟩ : ∃ (k : Nat) (p : Addr), x = .int (k : Int) ∧ ([V.ref p1, V.ref p2] : List V)[k]? = some (.ref p) ∧ WAt H' p := by
        match i, hx with
        | 0, hx => exact ⟨0, p1, (Option.some.inj hx).symm, rfl, v1⟩
        | 1, hx => exact ⟨1, p2, (Option.some.inj hx).symm, rfl, v2⟩
        | 2, hx => exact ⟨0, p1, (Option.some.inj hx).symm, rfl, v1⟩
        | _ + 3, hx => cases hx
      subst ex
      obtain ⟨zs, t, e1, e2, lz⟩ := id vp
      refine ⟨_, rfl, _, rfl, wl, _, _, _, rfl, rfl, SqL.of hw, atI_nat ep, p, _, rfl, SqT.of e1, rfl, _, _, rfl, _, _, rfl, rfl, ?_⟩
      refine ⟨_, rfl, mkS zs, rfl, by rw [mkS_len]; exact lz, fun H4 u s5 nu e4 => ?_⟩
      have e5 : H4 t = some (.tup ((tok zs).map sV)) := s5 _ _ e2
      refine ⟨_, rfl, _, _, rfl, eqv_strs e4 e5 (Nat.le_trans (tok_le _ _) lz), true, rfl, ?_⟩
      exact ⟨_, _, _, rfl, s5 _ _ hw, s5 _ _ hr', v1.same s5, v2.same s5⟩
    · rintro σ' H' ⟨_, _, _, rfl, _⟩
      exact q H'
end
theorem all_mk {l : PySem.W.OpenLaw} {w : World} {K : PySem.W.Frag} {h : Heap} {mg : Str → Option Value} {fa : Addr} (X : K.In h) (G : h.Ns mainGlobals mg) (hfa : mg "law" = some (.ref fa))
    {f_tokens_of : Addr} {od_tokens_of an_tokens_of : Option Addr} {sl_tokens_of : Array (Option Value)} {oc_tokens_of kV_tokens_of dc_tokens_of pm_tokens_of cd_tokens_of ct_tokens_of : Value}
    (a_tokens_of : PySem.W.nsIn K mainGlobals "tokens_of" = some (some (.ref f_tokens_of))) (l_tokens_of : K.lookup f_tokens_of = some ⟨oc_tokens_of, od_tokens_of, .func (PySem.W.fnOf "tokens_of" "tokens_of" (defArgs s_tokens_of) (defBody s_tokens_of) (defScope s_tokens_of) .none kV_tokens_of dc_tokens_of pm_tokens_of an_tokens_of cd_tokens_of ct_tokens_of), sl_tokens_of⟩) (c_tokens_of : PySem.W.codeIn K cd_tokens_of "tokens_of" = true) (k_tokens_of : PySem.W.keepIn K (.ref f_tokens_of) = true)
    {f_token_end : Addr} {od_token_end an_token_end : Option Addr} {sl_token_end : Array (Option Value)} {oc_token_end kV_token_end dc_token_end pm_token_end cd_token_end ct_token_end : Value}
    (a_token_end : PySem.W.nsIn K mainGlobals "_token_end" = some (some (.ref f_token_end))) (l_token_end : K.lookup f_token_end = some ⟨oc_token_end, od_token_end, .func (PySem.W.fnOf "_token_end" "_token_end" (defArgs s_token_end) (defBody s_token_end) (defScope s_token_end) .none kV_token_end dc_token_end pm_token_end an_token_end cd_token_end ct_token_end), sl_token_end⟩) (c_token_end : PySem.W.codeIn K cd_token_end "_token_end" = true) (k_token_end : PySem.W.keepIn K (.ref f_token_end) = true)
    {f_run_end : Addr} {od_run_end an_run_end : Option Addr} {sl_run_end : Array (Option Value)} {oc_run_end kV_run_end dc_run_end pm_run_end cd_run_end ct_run_end : Value}
    (a_run_end : PySem.W.nsIn K mainGlobals "_run_end" = some (some (.ref f_run_end))) (l_run_end : K.lookup f_run_end = some ⟨oc_run_end, od_run_end, .func (PySem.W.fnOf "_run_end" "_run_end" (defArgs s_run_end) (defBody s_run_end) (defScope s_run_end) .none kV_run_end dc_run_end pm_run_end an_run_end cd_run_end ct_run_end), sl_run_end⟩) (c_run_end : PySem.W.codeIn K cd_run_end "_run_end" = true) (k_run_end : PySem.W.keepIn K (.ref f_run_end) = true)
    {f_law_begin : Addr} {od_law_begin an_law_begin : Option Addr} {sl_law_begin : Array (Option Value)} {oc_law_begin kV_law_begin dc_law_begin pm_law_begin cd_law_begin ct_law_begin : Value}
    (a_law_begin : PySem.W.nsIn K mainGlobals "_law_begin" = some (some (.ref f_law_begin))) (l_law_begin : K.lookup f_law_begin = some ⟨oc_law_begin, od_law_begin, .func (PySem.W.fnOf "_law_begin" "_law_begin" (defArgs s_law_begin) (defBody s_law_begin) (defScope s_law_begin) .none kV_law_begin dc_law_begin pm_law_begin an_law_begin cd_law_begin ct_law_begin), sl_law_begin⟩) (c_law_begin : PySem.W.codeIn K cd_law_begin "_law_begin" = true) (k_law_begin : PySem.W.keepIn K (.ref f_law_begin) = true)
    {f_law_draw : Addr} {od_law_draw an_law_draw : Option Addr} {sl_law_draw : Array (Option Value)} {oc_law_draw kV_law_draw dc_law_draw pm_law_draw cd_law_draw ct_law_draw : Value}
    (a_law_draw : PySem.W.nsIn K mainGlobals "_law_draw" = some (some (.ref f_law_draw))) (l_law_draw : K.lookup f_law_draw = some ⟨oc_law_draw, od_law_draw, .func (PySem.W.fnOf "_law_draw" "_law_draw" (defArgs s_law_draw) (defBody s_law_draw) (defScope s_law_draw) .none kV_law_draw dc_law_draw pm_law_draw an_law_draw cd_law_draw ct_law_draw), sl_law_draw⟩) (c_law_draw : PySem.W.codeIn K cd_law_draw "_law_draw" = true) (k_law_draw : PySem.W.keepIn K (.ref f_law_draw) = true)
    {f_law_pick : Addr} {od_law_pick an_law_pick : Option Addr} {sl_law_pick : Array (Option Value)} {oc_law_pick kV_law_pick dc_law_pick pm_law_pick cd_law_pick ct_law_pick : Value}
    (a_law_pick : PySem.W.nsIn K mainGlobals "_law_pick" = some (some (.ref f_law_pick))) (l_law_pick : K.lookup f_law_pick = some ⟨oc_law_pick, od_law_pick, .func (PySem.W.fnOf "_law_pick" "_law_pick" (defArgs s_law_pick) (defBody s_law_pick) (defScope s_law_pick) .none kV_law_pick dc_law_pick pm_law_pick an_law_pick cd_law_pick ct_law_pick), sl_law_pick⟩) (c_law_pick : PySem.W.codeIn K cd_law_pick "_law_pick" = true) (k_law_pick : PySem.W.keepIn K (.ref f_law_pick) = true)
    {f_law_rare : Addr} {od_law_rare an_law_rare : Option Addr} {sl_law_rare : Array (Option Value)} {oc_law_rare kV_law_rare dc_law_rare pm_law_rare cd_law_rare ct_law_rare : Value}
    (a_law_rare : PySem.W.nsIn K mainGlobals "_law_rare" = some (some (.ref f_law_rare))) (l_law_rare : K.lookup f_law_rare = some ⟨oc_law_rare, od_law_rare, .func (PySem.W.fnOf "_law_rare" "_law_rare" (defArgs s_law_rare) (defBody s_law_rare) (defScope s_law_rare) .none kV_law_rare dc_law_rare pm_law_rare an_law_rare cd_law_rare ct_law_rare), sl_law_rare⟩) (c_law_rare : PySem.W.codeIn K cd_law_rare "_law_rare" = true) (k_law_rare : PySem.W.keepIn K (.ref f_law_rare) = true)
    {f_law_word : Addr} {od_law_word an_law_word : Option Addr} {sl_law_word : Array (Option Value)} {oc_law_word kV_law_word dc_law_word pm_law_word cd_law_word ct_law_word : Value}
    (a_law_word : PySem.W.nsIn K mainGlobals "_law_word" = some (some (.ref f_law_word))) (l_law_word : K.lookup f_law_word = some ⟨oc_law_word, od_law_word, .func (PySem.W.fnOf "_law_word" "_law_word" (defArgs s_law_word) (defBody s_law_word) (defScope s_law_word) .none kV_law_word dc_law_word pm_law_word an_law_word cd_law_word ct_law_word), sl_law_word⟩) (c_law_word : PySem.W.codeIn K cd_law_word "_law_word" = true) (k_law_word : PySem.W.keepIn K (.ref f_law_word) = true)
    {f_law_exact : Addr} {od_law_exact an_law_exact : Option Addr} {sl_law_exact : Array (Option Value)} {oc_law_exact kV_law_exact dc_law_exact pm_law_exact cd_law_exact ct_law_exact : Value}
    (a_law_exact : PySem.W.nsIn K mainGlobals "_law_exact" = some (some (.ref f_law_exact))) (l_law_exact : K.lookup f_law_exact = some ⟨oc_law_exact, od_law_exact, .func (PySem.W.fnOf "_law_exact" "_law_exact" (defArgs s_law_exact) (defBody s_law_exact) (defScope s_law_exact) .none kV_law_exact dc_law_exact pm_law_exact an_law_exact cd_law_exact ct_law_exact), sl_law_exact⟩) (c_law_exact : PySem.W.codeIn K cd_law_exact "_law_exact" = true) (k_law_exact : PySem.W.keepIn K (.ref f_law_exact) = true)
    {f_law_word_signs : Addr} {od_law_word_signs an_law_word_signs : Option Addr} {sl_law_word_signs : Array (Option Value)} {oc_law_word_signs kV_law_word_signs dc_law_word_signs pm_law_word_signs cd_law_word_signs ct_law_word_signs : Value}
    (a_law_word_signs : PySem.W.nsIn K mainGlobals "_law_word_signs" = some (some (.ref f_law_word_signs))) (l_law_word_signs : K.lookup f_law_word_signs = some ⟨oc_law_word_signs, od_law_word_signs, .func (PySem.W.fnOf "_law_word_signs" "_law_word_signs" (defArgs s_law_word_signs) (defBody s_law_word_signs) (defScope s_law_word_signs) .none kV_law_word_signs dc_law_word_signs pm_law_word_signs an_law_word_signs cd_law_word_signs ct_law_word_signs), sl_law_word_signs⟩) (c_law_word_signs : PySem.W.codeIn K cd_law_word_signs "_law_word_signs" = true) (k_law_word_signs : PySem.W.keepIn K (.ref f_law_word_signs) = true)
    {f_law_run : Addr} {od_law_run an_law_run : Option Addr} {sl_law_run : Array (Option Value)} {oc_law_run kV_law_run dc_law_run pm_law_run cd_law_run ct_law_run : Value}
    (a_law_run : PySem.W.nsIn K mainGlobals "_law_run" = some (some (.ref f_law_run))) (l_law_run : K.lookup f_law_run = some ⟨oc_law_run, od_law_run, .func (PySem.W.fnOf "_law_run" "_law_run" (defArgs s_law_run) (defBody s_law_run) (defScope s_law_run) .none kV_law_run dc_law_run pm_law_run an_law_run cd_law_run ct_law_run), sl_law_run⟩) (c_law_run : PySem.W.codeIn K cd_law_run "_law_run" = true) (k_law_run : PySem.W.keepIn K (.ref f_law_run) = true)
    {f_law_some_word : Addr} {od_law_some_word an_law_some_word : Option Addr} {sl_law_some_word : Array (Option Value)} {oc_law_some_word kV_law_some_word dc_law_some_word pm_law_some_word cd_law_some_word ct_law_some_word : Value}
    (a_law_some_word : PySem.W.nsIn K mainGlobals "_law_some_word" = some (some (.ref f_law_some_word))) (l_law_some_word : K.lookup f_law_some_word = some ⟨oc_law_some_word, od_law_some_word, .func (PySem.W.fnOf "_law_some_word" "_law_some_word" (defArgs s_law_some_word) (defBody s_law_some_word) (defScope s_law_some_word) .none kV_law_some_word dc_law_some_word pm_law_some_word an_law_some_word cd_law_some_word ct_law_some_word), sl_law_some_word⟩) (c_law_some_word : PySem.W.codeIn K cd_law_some_word "_law_some_word" = true) (k_law_some_word : PySem.W.keepIn K (.ref f_law_some_word) = true)
    {f_law_some_name : Addr} {od_law_some_name an_law_some_name : Option Addr} {sl_law_some_name : Array (Option Value)} {oc_law_some_name kV_law_some_name dc_law_some_name pm_law_some_name cd_law_some_name ct_law_some_name : Value}
    (a_law_some_name : PySem.W.nsIn K mainGlobals "_law_some_name" = some (some (.ref f_law_some_name))) (l_law_some_name : K.lookup f_law_some_name = some ⟨oc_law_some_name, od_law_some_name, .func (PySem.W.fnOf "_law_some_name" "_law_some_name" (defArgs s_law_some_name) (defBody s_law_some_name) (defScope s_law_some_name) .none kV_law_some_name dc_law_some_name pm_law_some_name an_law_some_name cd_law_some_name ct_law_some_name), sl_law_some_name⟩) (c_law_some_name : PySem.W.codeIn K cd_law_some_name "_law_some_name" = true) (k_law_some_name : PySem.W.keepIn K (.ref f_law_some_name) = true)
    {f_law_odd_signs : Addr} {od_law_odd_signs an_law_odd_signs : Option Addr} {sl_law_odd_signs : Array (Option Value)} {oc_law_odd_signs kV_law_odd_signs dc_law_odd_signs pm_law_odd_signs cd_law_odd_signs ct_law_odd_signs : Value}
    (a_law_odd_signs : PySem.W.nsIn K mainGlobals "_law_odd_signs" = some (some (.ref f_law_odd_signs))) (l_law_odd_signs : K.lookup f_law_odd_signs = some ⟨oc_law_odd_signs, od_law_odd_signs, .func (PySem.W.fnOf "_law_odd_signs" "_law_odd_signs" (defArgs s_law_odd_signs) (defBody s_law_odd_signs) (defScope s_law_odd_signs) .none kV_law_odd_signs dc_law_odd_signs pm_law_odd_signs an_law_odd_signs cd_law_odd_signs ct_law_odd_signs), sl_law_odd_signs⟩) (c_law_odd_signs : PySem.W.codeIn K cd_law_odd_signs "_law_odd_signs" = true) (k_law_odd_signs : PySem.W.keepIn K (.ref f_law_odd_signs) = true)
    {f_law_runs_on : Addr} {od_law_runs_on an_law_runs_on : Option Addr} {sl_law_runs_on : Array (Option Value)} {oc_law_runs_on kV_law_runs_on dc_law_runs_on pm_law_runs_on cd_law_runs_on ct_law_runs_on : Value}
    (a_law_runs_on : PySem.W.nsIn K mainGlobals "_law_runs_on" = some (some (.ref f_law_runs_on))) (l_law_runs_on : K.lookup f_law_runs_on = some ⟨oc_law_runs_on, od_law_runs_on, .func (PySem.W.fnOf "_law_runs_on" "_law_runs_on" (defArgs s_law_runs_on) (defBody s_law_runs_on) (defScope s_law_runs_on) .none kV_law_runs_on dc_law_runs_on pm_law_runs_on an_law_runs_on cd_law_runs_on ct_law_runs_on), sl_law_runs_on⟩) (c_law_runs_on : PySem.W.codeIn K cd_law_runs_on "_law_runs_on" = true) (k_law_runs_on : PySem.W.keepIn K (.ref f_law_runs_on) = true)
    {f_law_gap : Addr} {od_law_gap an_law_gap : Option Addr} {sl_law_gap : Array (Option Value)} {oc_law_gap kV_law_gap dc_law_gap pm_law_gap cd_law_gap ct_law_gap : Value}
    (a_law_gap : PySem.W.nsIn K mainGlobals "_law_gap" = some (some (.ref f_law_gap))) (l_law_gap : K.lookup f_law_gap = some ⟨oc_law_gap, od_law_gap, .func (PySem.W.fnOf "_law_gap" "_law_gap" (defArgs s_law_gap) (defBody s_law_gap) (defScope s_law_gap) .none kV_law_gap dc_law_gap pm_law_gap an_law_gap cd_law_gap ct_law_gap), sl_law_gap⟩) (c_law_gap : PySem.W.codeIn K cd_law_gap "_law_gap" = true) (k_law_gap : PySem.W.keepIn K (.ref f_law_gap) = true)
    {f_law_parts : Addr} {od_law_parts an_law_parts : Option Addr} {sl_law_parts : Array (Option Value)} {oc_law_parts kV_law_parts dc_law_parts pm_law_parts cd_law_parts ct_law_parts : Value}
    (a_law_parts : PySem.W.nsIn K mainGlobals "_law_parts" = some (some (.ref f_law_parts))) (l_law_parts : K.lookup f_law_parts = some ⟨oc_law_parts, od_law_parts, .func (PySem.W.fnOf "_law_parts" "_law_parts" (defArgs s_law_parts) (defBody s_law_parts) (defScope s_law_parts) .none kV_law_parts dc_law_parts pm_law_parts an_law_parts cd_law_parts ct_law_parts), sl_law_parts⟩) (c_law_parts : PySem.W.codeIn K cd_law_parts "_law_parts" = true) (k_law_parts : PySem.W.keepIn K (.ref f_law_parts) = true)
    {f_law_loose_sign : Addr} {od_law_loose_sign an_law_loose_sign : Option Addr} {sl_law_loose_sign : Array (Option Value)} {oc_law_loose_sign kV_law_loose_sign dc_law_loose_sign pm_law_loose_sign cd_law_loose_sign ct_law_loose_sign : Value}
    (a_law_loose_sign : PySem.W.nsIn K mainGlobals "_law_loose_sign" = some (some (.ref f_law_loose_sign))) (l_law_loose_sign : K.lookup f_law_loose_sign = some ⟨oc_law_loose_sign, od_law_loose_sign, .func (PySem.W.fnOf "_law_loose_sign" "_law_loose_sign" (defArgs s_law_loose_sign) (defBody s_law_loose_sign) (defScope s_law_loose_sign) .none kV_law_loose_sign dc_law_loose_sign pm_law_loose_sign an_law_loose_sign cd_law_loose_sign ct_law_loose_sign), sl_law_loose_sign⟩) (c_law_loose_sign : PySem.W.codeIn K cd_law_loose_sign "_law_loose_sign" = true) (k_law_loose_sign : PySem.W.keepIn K (.ref f_law_loose_sign) = true)
    {f_law_loose_text : Addr} {od_law_loose_text an_law_loose_text : Option Addr} {sl_law_loose_text : Array (Option Value)} {oc_law_loose_text kV_law_loose_text dc_law_loose_text pm_law_loose_text cd_law_loose_text ct_law_loose_text : Value}
    (a_law_loose_text : PySem.W.nsIn K mainGlobals "_law_loose_text" = some (some (.ref f_law_loose_text))) (l_law_loose_text : K.lookup f_law_loose_text = some ⟨oc_law_loose_text, od_law_loose_text, .func (PySem.W.fnOf "_law_loose_text" "_law_loose_text" (defArgs s_law_loose_text) (defBody s_law_loose_text) (defScope s_law_loose_text) .none kV_law_loose_text dc_law_loose_text pm_law_loose_text an_law_loose_text cd_law_loose_text ct_law_loose_text), sl_law_loose_text⟩) (c_law_loose_text : PySem.W.codeIn K cd_law_loose_text "_law_loose_text" = true) (k_law_loose_text : PySem.W.keepIn K (.ref f_law_loose_text) = true)
    {f_law_walked : Addr} {od_law_walked an_law_walked : Option Addr} {sl_law_walked : Array (Option Value)} {oc_law_walked kV_law_walked dc_law_walked pm_law_walked cd_law_walked ct_law_walked : Value}
    (a_law_walked : PySem.W.nsIn K mainGlobals "_law_walked" = some (some (.ref f_law_walked))) (l_law_walked : K.lookup f_law_walked = some ⟨oc_law_walked, od_law_walked, .func (PySem.W.fnOf "_law_walked" "_law_walked" (defArgs s_law_walked) (defBody s_law_walked) (defScope s_law_walked) .none kV_law_walked dc_law_walked pm_law_walked an_law_walked cd_law_walked ct_law_walked), sl_law_walked⟩) (c_law_walked : PySem.W.codeIn K cd_law_walked "_law_walked" = true) (k_law_walked : PySem.W.keepIn K (.ref f_law_walked) = true)
    {f_law_any_token : Addr} {od_law_any_token an_law_any_token : Option Addr} {sl_law_any_token : Array (Option Value)} {oc_law_any_token kV_law_any_token dc_law_any_token pm_law_any_token cd_law_any_token ct_law_any_token : Value}
    (a_law_any_token : PySem.W.nsIn K mainGlobals "_law_any_token" = some (some (.ref f_law_any_token))) (l_law_any_token : K.lookup f_law_any_token = some ⟨oc_law_any_token, od_law_any_token, .func (PySem.W.fnOf "_law_any_token" "_law_any_token" (defArgs s_law_any_token) (defBody s_law_any_token) (defScope s_law_any_token) .none kV_law_any_token dc_law_any_token pm_law_any_token an_law_any_token cd_law_any_token ct_law_any_token), sl_law_any_token⟩) (c_law_any_token : PySem.W.codeIn K cd_law_any_token "_law_any_token" = true) (k_law_any_token : PySem.W.keepIn K (.ref f_law_any_token) = true)
    {f_law_world : Addr} {od_law_world an_law_world : Option Addr} {sl_law_world : Array (Option Value)} {oc_law_world kV_law_world dc_law_world pm_law_world cd_law_world ct_law_world : Value}
    (a_law_world : PySem.W.nsIn K mainGlobals "_law_world" = some (some (.ref f_law_world))) (l_law_world : K.lookup f_law_world = some ⟨oc_law_world, od_law_world, .func (PySem.W.fnOf "_law_world" "_law_world" (defArgs s_law_world) (defBody s_law_world) (defScope s_law_world) .none kV_law_world dc_law_world pm_law_world an_law_world cd_law_world ct_law_world), sl_law_world⟩) (c_law_world : PySem.W.codeIn K cd_law_world "_law_world" = true) (k_law_world : PySem.W.keepIn K (.ref f_law_world) = true)
    {f_law : Addr} {od_law an_law : Option Addr} {sl_law : Array (Option Value)} {oc_law kV_law dc_law pm_law cd_law ct_law : Value}
    (a_law : PySem.W.nsIn K mainGlobals "law" = some (some (.ref f_law))) (l_law : K.lookup f_law = some ⟨oc_law, od_law, .func (PySem.W.fnOf "law" "law" (defArgs s_law) (defBody s_law) (defScope s_law) .none kV_law dc_law pm_law an_law cd_law ct_law), sl_law⟩) (c_law : PySem.W.codeIn K cd_law "law" = true) (k_law : PySem.W.keepIn K (.ref f_law) = true)
    {t_LETTERS : Tok} (m_LETTERS : PySem.W.nsIn K mainGlobals "LETTERS" = some (some (.str "abcdefghijklmnopqrstuvwxyz" t_LETTERS)))
    {t_WORD_CHARACTERS : Tok} (m_WORD_CHARACTERS : PySem.W.nsIn K mainGlobals "WORD_CHARACTERS" = some (some (.str "abcdefghijklmnopqrstuvwxyz0123456789.,:;!?'()+=<>*/" t_WORD_CHARACTERS)))
    {t_BLANKS : Tok} (m_BLANKS : PySem.W.nsIn K mainGlobals "BLANKS" = some (some (.str " \n" t_BLANKS)))
    (n_bool : PySem.W.nsIn K mainGlobals "bool" = some none)
    (n_int : PySem.W.nsIn K mainGlobals "int" = some none)
    (n_isinstance : PySem.W.nsIn K mainGlobals "isinstance" = some none)
    (n_len : PySem.W.nsIn K mainGlobals "len" = some none)
    (n_list : PySem.W.nsIn K mainGlobals "list" = some none)
    (n_range : PySem.W.nsIn K mainGlobals "range" = some none)
    (n_str : PySem.W.nsIn K mainGlobals "str" = some none)
    (n_tuple : PySem.W.nsIn K mainGlobals "tuple" = some none)
    : ∃ fd : FuncData, (∀ (s : Shared) (v : Value), BindsTo s fd ⟨[v], []⟩ [("_law_script", v)]) ∧ ∀ base : Heap, K.In base → base.Ns mainGlobals mg → FnOk l.prog w K mg base CX0 7 fa fd ["_law_script"] (spLaw K) := by
  have e := hfa.symm.trans (PySem.W.mg_of X G a_law)
  cases e
  have F_tokens_of := fun_mk (st := s_tokens_of) l_tokens_of c_tokens_of k_tokens_of
  have b_tokens_of := F_tokens_of.binds (ps := ["text"]) fun _ _ _ _ _ _ us hl => match us, hl with | [_], _ => rfl
  have F_token_end := fun_mk (st := s_token_end) l_token_end c_token_end k_token_end
  have b_token_end := F_token_end.binds (ps := ["text", "at"]) fun _ _ _ _ _ _ us hl => match us, hl with | [_, _], _ => rfl
  have F_run_end := fun_mk (st := s_run_end) l_run_end c_run_end k_run_end
  have b_run_end := F_run_end.binds (ps := ["text", "at", "allowed"]) fun _ _ _ _ _ _ us hl => match us, hl with | [_, _, _], _ => rfl
  have F_law_begin := fun_mk (st := s_law_begin) l_law_begin c_law_begin k_law_begin
  have b_law_begin := F_law_begin.binds (ps := ["_law_script"]) fun _ _ _ _ _ _ us hl => match us, hl with | [_], _ => rfl
  have F_law_draw := fun_mk (st := s_law_draw) l_law_draw c_law_draw k_law_draw
  have b_law_draw := F_law_draw.binds (ps := ["_law_d", "_law_many"]) fun _ _ _ _ _ _ us hl => match us, hl with | [_, _], _ => rfl
  have F_law_pick := fun_mk (st := s_law_pick) l_law_pick c_law_pick k_law_pick
  have b_law_pick := F_law_pick.binds (ps := ["_law_d", "_law_row"]) fun _ _ _ _ _ _ us hl => match us, hl with | [_, _], _ => rfl
  have F_law_rare := fun_mk (st := s_law_rare) l_law_rare c_law_rare k_law_rare
  have b_law_rare := F_law_rare.binds (ps := ["_law_d", "_law_many"]) fun _ _ _ _ _ _ us hl => match us, hl with | [_, _], _ => rfl
  have F_law_word := fun_mk (st := s_law_word) l_law_word c_law_word k_law_word
  have b_law_word := F_law_word.binds (ps := ["_law_d", "_law_low", "_law_high"]) fun _ _ _ _ _ _ us hl => match us, hl with | [_, _, _], _ => rfl
  have F_law_exact := fun_mk (st := s_law_exact) l_law_exact c_law_exact k_law_exact
  have b_law_exact := F_law_exact.binds (ps := ["_law_told", "_law_due"]) fun _ _ _ _ _ _ us hl => match us, hl with | [_, _], _ => rfl
  have F_law_word_signs := fun_mk (st := s_law_word_signs) l_law_word_signs c_law_word_signs k_law_word_signs
  have b_law_word_signs := F_law_word_signs.binds (ps := []) fun _ _ _ _ _ _ us hl => match us, hl with | [], _ => rfl
  have F_law_run := fun_mk (st := s_law_run) l_law_run c_law_run k_law_run
  have b_law_run := F_law_run.binds (ps := ["_law_d", "_law_signs", "_law_size"]) fun _ _ _ _ _ _ us hl => match us, hl with | [_, _, _], _ => rfl
  have F_law_some_word := fun_mk (st := s_law_some_word) l_law_some_word c_law_some_word k_law_some_word
  have b_law_some_word := F_law_some_word.binds (ps := ["_law_d"]) fun _ _ _ _ _ _ us hl => match us, hl with | [_], _ => rfl
  have F_law_some_name := fun_mk (st := s_law_some_name) l_law_some_name c_law_some_name k_law_some_name
  have b_law_some_name := F_law_some_name.binds (ps := ["_law_d"]) fun _ _ _ _ _ _ us hl => match us, hl with | [_], _ => rfl
  have F_law_odd_signs := fun_mk (st := s_law_odd_signs) l_law_odd_signs c_law_odd_signs k_law_odd_signs
  have b_law_odd_signs := F_law_odd_signs.binds (ps := []) fun _ _ _ _ _ _ us hl => match us, hl with | [], _ => rfl
  have F_law_runs_on := fun_mk (st := s_law_runs_on) l_law_runs_on c_law_runs_on k_law_runs_on
  have b_law_runs_on := F_law_runs_on.binds (ps := ["_law_one", "_law_two"]) fun _ _ _ _ _ _ us hl => match us, hl with | [_, _], _ => rfl
  have F_law_gap := fun_mk (st := s_law_gap) l_law_gap c_law_gap k_law_gap
  have b_law_gap := F_law_gap.binds (ps := ["_law_d", "_law_needed"]) fun _ _ _ _ _ _ us hl => match us, hl with | [_, _], _ => rfl
  have F_law_parts := fun_mk (st := s_law_parts) l_law_parts c_law_parts k_law_parts
  have b_law_parts := F_law_parts.binds (ps := ["_law_d", "_law_tokens"]) fun _ _ _ _ _ _ us hl => match us, hl with | [_, _], _ => rfl
  have F_law_loose_sign := fun_mk (st := s_law_loose_sign) l_law_loose_sign c_law_loose_sign k_law_loose_sign
  have b_law_loose_sign := F_law_loose_sign.binds (ps := ["_law_d", "_law_kind"]) fun _ _ _ _ _ _ us hl => match us, hl with | [_, _], _ => rfl
  have F_law_loose_text := fun_mk (st := s_law_loose_text) l_law_loose_text c_law_loose_text k_law_loose_text
  have b_law_loose_text := F_law_loose_text.binds (ps := ["_law_d"]) fun _ _ _ _ _ _ us hl => match us, hl with | [_], _ => rfl
  have F_law_walked := fun_mk (st := s_law_walked) l_law_walked c_law_walked k_law_walked
  have b_law_walked := F_law_walked.binds (ps := ["_law_text"]) fun _ _ _ _ _ _ us hl => match us, hl with | [_], _ => rfl
  have F_law_any_token := fun_mk (st := s_law_any_token) l_law_any_token c_law_any_token k_law_any_token
  have b_law_any_token := F_law_any_token.binds (ps := ["_law_d"]) fun _ _ _ _ _ _ us hl => match us, hl with | [_], _ => rfl
  have F_law_world := fun_mk (st := s_law_world) l_law_world c_law_world k_law_world
  have b_law_world := F_law_world.binds (ps := ["_law_d"]) fun _ _ _ _ _ _ us hl => match us, hl with | [_], _ => rfl
  have F_law := fun_mk (st := s_law) l_law c_law k_law
  have b_law := F_law.binds (ps := ["_law_script"]) fun _ _ _ _ _ _ us hl => match us, hl with | [_], _ => rfl
  exact ⟨PySem.W.fnOf "law" "law" (defArgs s_law) (defBody s_law) (defScope s_law) .none kV_law dc_law pm_law an_law cd_law ct_law, fun s v => .of_eq rfl, fun base _ _ => ok_law (T := {
    a_tokens_of := _,
    d_tokens_of := _,
    D_tokens_of := ⟨F_tokens_of, PySem.W.mg_of X G a_tokens_of, b_tokens_of, ⟨_, _, _, _, _, _, rfl⟩⟩,
    a_token_end := _,
    d_token_end := _,
    D_token_end := ⟨F_token_end, PySem.W.mg_of X G a_token_end, b_token_end, ⟨_, _, _, _, _, _, rfl⟩⟩,
    a_run_end := _,
    d_run_end := _,
    D_run_end := ⟨F_run_end, PySem.W.mg_of X G a_run_end, b_run_end, ⟨_, _, _, _, _, _, rfl⟩⟩,
    a_law_begin := _,
    d_law_begin := _,
    D_law_begin := ⟨F_law_begin, PySem.W.mg_of X G a_law_begin, b_law_begin, ⟨_, _, _, _, _, _, rfl⟩⟩,
    a_law_draw := _,
    d_law_draw := _,
    D_law_draw := ⟨F_law_draw, PySem.W.mg_of X G a_law_draw, b_law_draw, ⟨_, _, _, _, _, _, rfl⟩⟩,
    a_law_pick := _,
    d_law_pick := _,
    D_law_pick := ⟨F_law_pick, PySem.W.mg_of X G a_law_pick, b_law_pick, ⟨_, _, _, _, _, _, rfl⟩⟩,
    a_law_rare := _,
    d_law_rare := _,
    D_law_rare := ⟨F_law_rare, PySem.W.mg_of X G a_law_rare, b_law_rare, ⟨_, _, _, _, _, _, rfl⟩⟩,
    a_law_word := _,
    d_law_word := _,
    D_law_word := ⟨F_law_word, PySem.W.mg_of X G a_law_word, b_law_word, ⟨_, _, _, _, _, _, rfl⟩⟩,
    a_law_exact := _,
    d_law_exact := _,
    D_law_exact := ⟨F_law_exact, PySem.W.mg_of X G a_law_exact, b_law_exact, ⟨_, _, _, _, _, _, rfl⟩⟩,
    a_law_word_signs := _,
    d_law_word_signs := _,
    D_law_word_signs := ⟨F_law_word_signs, PySem.W.mg_of X G a_law_word_signs, b_law_word_signs, ⟨_, _, _, _, _, _, rfl⟩⟩,
    a_law_run := _,
    d_law_run := _,
    D_law_run := ⟨F_law_run, PySem.W.mg_of X G a_law_run, b_law_run, ⟨_, _, _, _, _, _, rfl⟩⟩,
    a_law_some_word := _,
    d_law_some_word := _,
    D_law_some_word := ⟨F_law_some_word, PySem.W.mg_of X G a_law_some_word, b_law_some_word, ⟨_, _, _, _, _, _, rfl⟩⟩,
    a_law_some_name := _,
    d_law_some_name := _,
    D_law_some_name := ⟨F_law_some_name, PySem.W.mg_of X G a_law_some_name, b_law_some_name, ⟨_, _, _, _, _, _, rfl⟩⟩,
    a_law_odd_signs := _,
    d_law_odd_signs := _,
    D_law_odd_signs := ⟨F_law_odd_signs, PySem.W.mg_of X G a_law_odd_signs, b_law_odd_signs, ⟨_, _, _, _, _, _, rfl⟩⟩,
    a_law_runs_on := _,
    d_law_runs_on := _,
    D_law_runs_on := ⟨F_law_runs_on, PySem.W.mg_of X G a_law_runs_on, b_law_runs_on, ⟨_, _, _, _, _, _, rfl⟩⟩,
    a_law_gap := _,
    d_law_gap := _,
    D_law_gap := ⟨F_law_gap, PySem.W.mg_of X G a_law_gap, b_law_gap, ⟨_, _, _, _, _, _, rfl⟩⟩,
    a_law_parts := _,
    d_law_parts := _,
    D_law_parts := ⟨F_law_parts, PySem.W.mg_of X G a_law_parts, b_law_parts, ⟨_, _, _, _, _, _, rfl⟩⟩,
    a_law_loose_sign := _,
    d_law_loose_sign := _,
    D_law_loose_sign := ⟨F_law_loose_sign, PySem.W.mg_of X G a_law_loose_sign, b_law_loose_sign, ⟨_, _, _, _, _, _, rfl⟩⟩,
    a_law_loose_text := _,
    d_law_loose_text := _,
    D_law_loose_text := ⟨F_law_loose_text, PySem.W.mg_of X G a_law_loose_text, b_law_loose_text, ⟨_, _, _, _, _, _, rfl⟩⟩,
    a_law_walked := _,
    d_law_walked := _,
    D_law_walked := ⟨F_law_walked, PySem.W.mg_of X G a_law_walked, b_law_walked, ⟨_, _, _, _, _, _, rfl⟩⟩,
    a_law_any_token := _,
    d_law_any_token := _,
    D_law_any_token := ⟨F_law_any_token, PySem.W.mg_of X G a_law_any_token, b_law_any_token, ⟨_, _, _, _, _, _, rfl⟩⟩,
    a_law_world := _,
    d_law_world := _,
    D_law_world := ⟨F_law_world, PySem.W.mg_of X G a_law_world, b_law_world, ⟨_, _, _, _, _, _, rfl⟩⟩,
    a_law := _,
    d_law := _,
    D_law := ⟨F_law, PySem.W.mg_of X G a_law, b_law, ⟨_, _, _, _, _, _, rfl⟩⟩,
    t_LETTERS := _,
    m_LETTERS := PySem.W.mg_of X G m_LETTERS,
    t_WORD_CHARACTERS := _,
    m_WORD_CHARACTERS := PySem.W.mg_of X G m_WORD_CHARACTERS,
    t_BLANKS := _,
    m_BLANKS := PySem.W.mg_of X G m_BLANKS,
    n_bool := PySem.W.mg_none_of X G n_bool,
    n_int := PySem.W.mg_none_of X G n_int,
    n_isinstance := PySem.W.mg_none_of X G n_isinstance,
    n_len := PySem.W.mg_none_of X G n_len,
    n_list := PySem.W.mg_none_of X G n_list,
    n_range := PySem.W.mg_none_of X G n_range,
    n_str := PySem.W.mg_none_of X G n_str,
    n_tuple := PySem.W.mg_none_of X G n_tuple })⟩
end Vf
open PySem PySem.W PyProof.Rows
set_option maxHeartbeats 0 in
theorem PySem.Challenge.cw_hushedpages_k04_tokens_holds : PySem.Challenge.rw_hushedpages_k04_tokens.Holds := by
  w_on; o_law; k_head; (case hw => w_witness2)
  k_fill
  refine L2.walk_of (l := PySem.Challenge.rw_hushedpages_k04_tokens) (n := 63) (k := 7) (x := "_law_script") (CX := fun _ => L2.CX0) (sp := fun w => Vf.spLaw _) rfl (by decide) rfl ⟨rfl, by decide, by decide⟩ (fun w h Y => PySem.W.kIn_of Y) ?F (fun _ _ a ns hl _ hS => ⟨a, ns, rfl, hS, hl, fun _ => rfl⟩) (fun _ _ _ _ _ h => h)
  case F =>
    intro w mg fa h KX G hmg
    refine' Vf.all_mk KX G hmg ?a_tokens_of ?l_tokens_of ?c_tokens_of ?k_tokens_of ?a_token_end ?l_token_end ?c_token_end ?k_token_end ?a_run_end ?l_run_end ?c_run_end ?k_run_end ?a_law_begin ?l_law_begin ?c_law_begin ?k_law_begin ?a_law_draw ?l_law_draw ?c_law_draw ?k_law_draw ?a_law_pick ?l_law_pick ?c_law_pick ?k_law_pick ?a_law_rare ?l_law_rare ?c_law_rare ?k_law_rare ?a_law_word ?l_law_word ?c_law_word ?k_law_word ?a_law_exact ?l_law_exact ?c_law_exact ?k_law_exact ?a_law_word_signs ?l_law_word_signs ?c_law_word_signs ?k_law_word_signs ?a_law_run ?l_law_run ?c_law_run ?k_law_run ?a_law_some_word ?l_law_some_word ?c_law_some_word ?k_law_some_word ?a_law_some_name ?l_law_some_name ?c_law_some_name ?k_law_some_name ?a_law_odd_signs ?l_law_odd_signs ?c_law_odd_signs ?k_law_odd_signs ?a_law_runs_on ?l_law_runs_on ?c_law_runs_on ?k_law_runs_on ?a_law_gap ?l_law_gap ?c_law_gap ?k_law_gap ?a_law_parts ?l_law_parts ?c_law_parts ?k_law_parts ?a_law_loose_sign ?l_law_loose_sign ?c_law_loose_sign ?k_law_loose_sign ?a_law_loose_text ?l_law_loose_text ?c_law_loose_text ?k_law_loose_text ?a_law_walked ?l_law_walked ?c_law_walked ?k_law_walked ?a_law_any_token ?l_law_any_token ?c_law_any_token ?k_law_any_token ?a_law_world ?l_law_world ?c_law_world ?k_law_world ?a_law ?l_law ?c_law ?k_law ?m_LETTERS ?m_WORD_CHARACTERS ?m_BLANKS ?n_bool ?n_int ?n_isinstance ?n_len ?n_list ?n_range ?n_str ?n_tuple
    (case a_tokens_of => k_is)
    (case l_tokens_of => k_is)
    (case c_tokens_of => k_is)
    (case k_tokens_of => k_is)
    (case a_token_end => k_is)
    (case l_token_end => k_is)
    (case c_token_end => k_is)
    (case k_token_end => k_is)
    (case a_run_end => k_is)
    (case l_run_end => k_is)
    (case c_run_end => k_is)
    (case k_run_end => k_is)
    (case a_law_begin => k_is)
    (case l_law_begin => k_is)
    (case c_law_begin => k_is)
    (case k_law_begin => k_is)
    (case a_law_draw => k_is)
    (case l_law_draw => k_is)
    (case c_law_draw => k_is)
    (case k_law_draw => k_is)
    (case a_law_pick => k_is)
    (case l_law_pick => k_is)
    (case c_law_pick => k_is)
    (case k_law_pick => k_is)
    (case a_law_rare => k_is)
    (case l_law_rare => k_is)
    (case c_law_rare => k_is)
    (case k_law_rare => k_is)
    (case a_law_word => k_is)
    (case l_law_word => k_is)
    (case c_law_word => k_is)
    (case k_law_word => k_is)
    (case a_law_exact => k_is)
    (case l_law_exact => k_is)
    (case c_law_exact => k_is)
    (case k_law_exact => k_is)
    (case a_law_word_signs => k_is)
    (case l_law_word_signs => k_is)
    (case c_law_word_signs => k_is)
    (case k_law_word_signs => k_is)
    (case a_law_run => k_is)
    (case l_law_run => k_is)
    (case c_law_run => k_is)
    (case k_law_run => k_is)
    (case a_law_some_word => k_is)
    (case l_law_some_word => k_is)
    (case c_law_some_word => k_is)
    (case k_law_some_word => k_is)
    (case a_law_some_name => k_is)
    (case l_law_some_name => k_is)
    (case c_law_some_name => k_is)
    (case k_law_some_name => k_is)
    (case a_law_odd_signs => k_is)
    (case l_law_odd_signs => k_is)
    (case c_law_odd_signs => k_is)
    (case k_law_odd_signs => k_is)
    (case a_law_runs_on => k_is)
    (case l_law_runs_on => k_is)
    (case c_law_runs_on => k_is)
    (case k_law_runs_on => k_is)
    (case a_law_gap => k_is)
    (case l_law_gap => k_is)
    (case c_law_gap => k_is)
    (case k_law_gap => k_is)
    (case a_law_parts => k_is)
    (case l_law_parts => k_is)
    (case c_law_parts => k_is)
    (case k_law_parts => k_is)
    (case a_law_loose_sign => k_is)
    (case l_law_loose_sign => k_is)
    (case c_law_loose_sign => k_is)
    (case k_law_loose_sign => k_is)
    (case a_law_loose_text => k_is)
    (case l_law_loose_text => k_is)
    (case c_law_loose_text => k_is)
    (case k_law_loose_text => k_is)
    (case a_law_walked => k_is)
    (case l_law_walked => k_is)
    (case c_law_walked => k_is)
    (case k_law_walked => k_is)
    (case a_law_any_token => k_is)
    (case l_law_any_token => k_is)
    (case c_law_any_token => k_is)
    (case k_law_any_token => k_is)
    (case a_law_world => k_is)
    (case l_law_world => k_is)
    (case c_law_world => k_is)
    (case k_law_world => k_is)
    (case a_law => k_is)
    (case l_law => k_is)
    (case c_law => k_is)
    (case k_law => k_is)
    (case m_LETTERS => k_is)
    (case m_WORD_CHARACTERS => k_is)
    (case m_BLANKS => k_is)
    (case n_bool => k_is)
    (case n_int => k_is)
    (case n_isinstance => k_is)
    (case n_len => k_is)
    (case n_list => k_is)
    (case n_range => k_is)
    (case n_str => k_is)
    (case n_tuple => k_is)
