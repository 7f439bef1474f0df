import PyProof.Rows.All
import Wide.All
import OpenK.AllK
import Wide.FinOn
import HandS.ForMost
import HandS.IsInst
import HandS.Conv
import HandS.Evl
import PyProof.StrBlock2
import HandS.ExcInit
import HandS.ExcIs
import HandS.ExcField
import HandS.Wide
import HandS.TupSets
import HandS.DictTup
import HandS.More
import HandS.Walk
import HandS.StrMore
import HandS.TupAny
import PySem.Challenge.RW_hushedpages_k20_shapes
set_option Elab.async false
set_option linter.all false
set_option maxRecDepth 100000
set_option maxHeartbeats 4000000
namespace Vf
open PySem PySem.Spec PyProof.Rows L2
def topS (i : Nat) : Stmt := PySem.Challenge.pw_hushedpages_k20_shapes.main.body.getD i (.Pass ⟨0, 0, 0, 0⟩)
abbrev s_width_of : Stmt := topS 1
theorem sc_width_of : FnScope ["style", "sign"] ["style", "sign"] (defScope s_width_of) := ⟨rfl, rfl, rfl, by decide +kernel, rfl, by decide +kernel, by decide +kernel⟩
abbrev s_cut_of : Stmt := topS 2
theorem sc_cut_of : FnScope ["style", "sign", "next_sign"] ["style", "sign", "next_sign"] (defScope s_cut_of) := ⟨rfl, rfl, rfl, by decide +kernel, rfl, by decide +kernel, by decide +kernel⟩
abbrev s_break_price : Stmt := topS 3
theorem sc_break_price : FnScope ["style", "sign", "next_sign"] ["style", "sign", "next_sign"] (defScope s_break_price) := ⟨rfl, rfl, rfl, by decide +kernel, rfl, by decide +kernel, by decide +kernel⟩
abbrev s_told : Stmt := topS 4
theorem sc_told : FnScope ["rows", "key", "otherwise", "low", "high", "middle"] ["rows", "key", "otherwise"] (defScope s_told) := ⟨rfl, rfl, rfl, by decide +kernel, rfl, by decide +kernel, by decide +kernel⟩
abbrev s_shape_of : Stmt := topS 6
theorem sc_shape_of : FnScope ["style", "word", "partings", "at", "left", "right"] ["style", "word"] (defScope s_shape_of) := ⟨rfl, rfl, rfl, by decide +kernel, rfl, by decide +kernel, by decide +kernel⟩
abbrev s_parting_places : Stmt := topS 7
theorem sc_parting_places : FnScope ["style", "word", "at"] ["style", "word"] (defScope s_parting_places) := ⟨rfl, rfl, rfl, by decide +kernel, rfl, by decide +kernel, by decide +kernel⟩
abbrev s_piece_width : Stmt := topS 8
theorem sc_piece_width : FnScope ["shape", "first", "last", "width", "partings"] ["shape", "first", "last"] (defScope s_piece_width) := ⟨rfl, rfl, rfl, by decide +kernel, rfl, by decide +kernel, by decide +kernel⟩
abbrev s_u_piece_width : Stmt := topS 9
theorem sc_u_piece_width : FnScope ["style", "word", "first", "behind", "width", "at"] ["style", "word", "first", "behind"] (defScope s_u_piece_width) := ⟨rfl, rfl, rfl, by decide +kernel, rfl, by decide +kernel, by decide +kernel⟩
abbrev s_width_at : Stmt := topS 10
theorem sc_width_at : FnScope ["style", "word", "at", "behind"] ["style", "word", "at", "behind"] (defScope s_width_at) := ⟨rfl, rfl, rfl, by decide +kernel, rfl, by decide +kernel, by decide +kernel⟩
abbrev s_law_begin : Stmt := topS 12
theorem sc_law_begin : FnScope ["_law_script"] ["_law_script"] (defScope s_law_begin) := ⟨rfl, rfl, rfl, by decide +kernel, rfl, by decide +kernel, by decide +kernel⟩
abbrev s_law_draw : Stmt := topS 13
theorem sc_law_draw : FnScope ["_law_d", "_law_many", "_law_cell", "_law_found"] ["_law_d", "_law_many"] (defScope s_law_draw) := ⟨rfl, rfl, rfl, by decide +kernel, rfl, by decide +kernel, by decide +kernel⟩
abbrev s_law_pick : Stmt := topS 14
theorem sc_law_pick : FnScope ["_law_d", "_law_row"] ["_law_d", "_law_row"] (defScope s_law_pick) := ⟨rfl, rfl, rfl, by decide +kernel, rfl, by decide +kernel, by decide +kernel⟩
abbrev s_law_piece : Stmt := topS 15
theorem sc_law_piece : FnScope ["_law_style", "_law_word", "_law_first", "_law_behind", "_law_signs", "_law_k", "_law_wide", "_law_one", "_law_w", "_law_two", "_law_cut"] ["_law_style", "_law_word", "_law_first", "_law_behind"] (defScope s_law_piece) := ⟨rfl, rfl, rfl, by decide +kernel, rfl, by decide +kernel, by decide +kernel⟩
abbrev s_law_places : Stmt := topS 16
theorem sc_law_places : FnScope ["_law_style", "_law_word", "_law_found", "_law_k", "_law_one", "_law_two", "_law_price"] ["_law_style", "_law_word"] (defScope s_law_places) := ⟨rfl, rfl, rfl, by decide +kernel, rfl, by decide +kernel, by decide +kernel⟩
abbrev s_law_shape : Stmt := topS 17
theorem sc_law_shape : FnScope ["_law_style", "_law_word", "_law_partings", "_law_k", "_law_price", "_law_left"] ["_law_style", "_law_word"] (defScope s_law_shape) := ⟨rfl, rfl, rfl, by decide +kernel, rfl, by decide +kernel, by decide +kernel⟩
abbrev s_law_exact : Stmt := topS 18
theorem sc_law_exact : FnScope ["_law_told", "_law_due", "_law_k"] ["_law_told", "_law_due"] (defScope s_law_exact) := ⟨rfl, rfl, rfl, by decide +kernel, rfl, by decide +kernel, by decide +kernel⟩
abbrev s_law_some_word : Stmt := topS 19
theorem sc_law_some_word : FnScope ["_law_d", "_law_signs", "_law_long", "_law_k"] ["_law_d"] (defScope s_law_some_word) := ⟨rfl, rfl, rfl, by decide +kernel, rfl, by decide +kernel, by decide +kernel⟩
abbrev s_law_style_for : Stmt := topS 20
theorem sc_law_style_for : FnScope ["_law_d", "_law_words", "_law_wide", "_law_sign", "_law_cuts", "_law_breaks", "_law_word", "_law_k", "_law_pair", "_law_widths", "_law_cut_rows", "_law_break_rows"] ["_law_d", "_law_words"] (defScope s_law_style_for) := ⟨rfl, rfl, rfl, by decide +kernel, rfl, by decide +kernel, by decide +kernel⟩
abbrev s_law_pieces_right : Stmt := topS 21
theorem sc_law_pieces_right : FnScope ["_law_style", "_law_word", "_law_shape_here", "_law_ends", "_law_last", "_law_i", "_law_j", "_law_told", "_law_place", "_law_price"] ["_law_style", "_law_word", "_law_shape_here"] (defScope s_law_pieces_right) := ⟨rfl, rfl, rfl, by decide +kernel, rfl, by decide +kernel, by decide +kernel⟩
abbrev s_law : Stmt := topS 22
theorem sc_law : FnScope ["_law_script", "_law_d", "_law_words", "_law_styles", "_law_style", "_law_word", "_law_shape_here"] ["_law_script"] (defScope s_law) := ⟨rfl, rfl, rfl, by decide +kernel, rfl, by decide +kernel, by decide +kernel⟩
structure DefAt (K : PySem.W.Frag) (mg : Str → Option Value) (x : Str) (st : Stmt) (ps : List Str) (f : Addr) (fd : FuncData) : Prop where
  F : Fun K x x st f fd
  G : mg x = some (.ref f)
  B : Binds K fd ps []
  E : ∃ kV doc pm an cdv ct, fd = PySem.W.fnOf x x (defArgs st) (defBody st) (defScope st) .none kV doc pm an cdv ct
structure Txt (K : PySem.W.Frag) (mg : Str → Option Value) where
  a_width_of : Addr
  d_width_of : FuncData
  D_width_of : DefAt K mg "width_of" s_width_of ["style", "sign"] a_width_of d_width_of
  a_cut_of : Addr
  d_cut_of : FuncData
  D_cut_of : DefAt K mg "cut_of" s_cut_of ["style", "sign", "next_sign"] a_cut_of d_cut_of
  a_break_price : Addr
  d_break_price : FuncData
  D_break_price : DefAt K mg "break_price" s_break_price ["style", "sign", "next_sign"] a_break_price d_break_price
  a_told : Addr
  d_told : FuncData
  D_told : DefAt K mg "_told" s_told ["rows", "key", "otherwise"] a_told d_told
  a_shape_of : Addr
  d_shape_of : FuncData
  D_shape_of : DefAt K mg "shape_of" s_shape_of ["style", "word"] a_shape_of d_shape_of
  a_parting_places : Addr
  d_parting_places : FuncData
  D_parting_places : DefAt K mg "parting_places" s_parting_places ["style", "word"] a_parting_places d_parting_places
  a_piece_width : Addr
  d_piece_width : FuncData
  D_piece_width : DefAt K mg "piece_width" s_piece_width ["shape", "first", "last"] a_piece_width d_piece_width
  a_u_piece_width : Addr
  d_u_piece_width : FuncData
  D_u_piece_width : DefAt K mg "_piece_width" s_u_piece_width ["style", "word", "first", "behind"] a_u_piece_width d_u_piece_width
  a_width_at : Addr
  d_width_at : FuncData
  D_width_at : DefAt K mg "_width_at" s_width_at ["style", "word", "at", "behind"] a_width_at d_width_at
  a_law_begin : Addr
  d_law_begin : FuncData
  D_law_begin : DefAt K mg "_law_begin" s_law_begin ["_law_script"] a_law_begin d_law_begin
  a_law_draw : Addr
  d_law_draw : FuncData
  D_law_draw : DefAt K mg "_law_draw" s_law_draw ["_law_d", "_law_many"] a_law_draw d_law_draw
  a_law_pick : Addr
  d_law_pick : FuncData
  D_law_pick : DefAt K mg "_law_pick" s_law_pick ["_law_d", "_law_row"] a_law_pick d_law_pick
  a_law_piece : Addr
  d_law_piece : FuncData
  D_law_piece : DefAt K mg "_law_piece" s_law_piece ["_law_style", "_law_word", "_law_first", "_law_behind"] a_law_piece d_law_piece
  a_law_places : Addr
  d_law_places : FuncData
  D_law_places : DefAt K mg "_law_places" s_law_places ["_law_style", "_law_word"] a_law_places d_law_places
  a_law_shape : Addr
  d_law_shape : FuncData
  D_law_shape : DefAt K mg "_law_shape" s_law_shape ["_law_style", "_law_word"] a_law_shape d_law_shape
  a_law_exact : Addr
  d_law_exact : FuncData
  D_law_exact : DefAt K mg "_law_exact" s_law_exact ["_law_told", "_law_due"] a_law_exact d_law_exact
  a_law_some_word : Addr
  d_law_some_word : FuncData
  D_law_some_word : DefAt K mg "_law_some_word" s_law_some_word ["_law_d"] a_law_some_word d_law_some_word
  a_law_style_for : Addr
  d_law_style_for : FuncData
  D_law_style_for : DefAt K mg "_law_style_for" s_law_style_for ["_law_d", "_law_words"] a_law_style_for d_law_style_for
  a_law_pieces_right : Addr
  d_law_pieces_right : FuncData
  D_law_pieces_right : DefAt K mg "_law_pieces_right" s_law_pieces_right ["_law_style", "_law_word", "_law_shape_here"] a_law_pieces_right d_law_pieces_right
  a_law : Addr
  d_law : FuncData
  D_law : DefAt K mg "law" s_law ["_law_script"] a_law d_law
  n_bool : mg "bool" = none
  n_int : mg "int" = none
  n_isinstance : mg "isinstance" = none
  n_len : mg "len" = none
  n_list : mg "list" = none
  n_range : mg "range" = none
  n_sorted : mg "sorted" = none
  n_str : mg "str" = none
  n_sum : mg "sum" = none
  n_tuple : mg "tuple" = none
/-! ### the dice -/
/-- at d the dice, at l the script's copy -/
structure DI (d l : Addr) (H : Hp) : Prop where
  ne : l ≠ d
  sc : ∃ ns : List Int, H l = some (.lst (ns.map V.int))
  st : ∃ i b s c : Int, 0 ≤ i ∧ H d = some (.lst [.ref l, .int i, .int b, .int s, .int c])
/-- all but the dice stands -/
def Kp (d : Addr) (H H' : Hp) : Prop := ∀ b o, b ≠ d → H b = some o → H' b = some o
theorem Kp.refl (d : Addr) (H : Hp) : Kp d H H := fun _ _ _ h => h
theorem Kp.trans {d : Addr} {H H1 H2 : Hp} (a : Kp d H H1) (b : Kp d H1 H2) : Kp d H H2 := fun x o n h => b x o n (a x o n h)
theorem Kp.upd {d : Addr} {H H' : Hp} {o : HO} (a : Kp d H H') : Kp d H (upd H' d o) := fun x u n h => by
  rw [upd_ne n]; exact a x u n h
theorem Kp.new {d p : Addr} {H H' : Hp} {o : HO} (a : Kp d H H') (hp : H' p = none) : Kp d H (L2.upd H' p o) := fun x u n h => by
  have h2 := a x u n h
  rw [upd_ne (ne_of_none h2 hp)]; exact h2
theorem Kp.mut {d p : Addr} {H H' : Hp} {o : HO} (a : Kp d H H') (hp : H p = none) : Kp d H (L2.upd H' p o) := fun x u n h => by
  rw [upd_ne (ne_of_none h hp)]; exact a x u n h
theorem Kp.sq {K : PySem.W.Frag} {d a : Addr} {H H' : Hp} {xs : List V} (k : Kp d H H') (n : a ≠ d) (h : SqL K H a xs) : SqL K H' a xs := by
  rcases h with (h | ⟨o, h⟩) | h
  · exact .inl (.inl (k _ _ n h))
  · exact .inl (.inr ⟨o, k _ _ n h⟩)
  · exact .inr h
theorem DI.keep {d l : Addr} {H H' : Hp} (h : DI d l H) (e : ∀ b o, H b = some o → H' b = some o) : DI d l H' := by
  obtain ⟨n, ⟨ns, h1⟩, i, b, s, c, h0, h2⟩ := h
  exact ⟨n, ⟨ns, e _ _ h1⟩, i, b, s, c, h0, e _ _ h2⟩
theorem DI.at {d l p : Addr} {H : Hp} {o : HO} (h : DI d l H) (n1 : p ≠ d) (n2 : p ≠ l) : DI d l (upd H p o) := by
  obtain ⟨n, ⟨ns, h1⟩, i, b, s, c, h0, h2⟩ := h
  exact ⟨n, ⟨ns, by rw [upd_ne n2.symm]; exact h1⟩, i, b, s, c, h0, by rw [upd_ne n1.symm]; exact h2⟩
theorem DI.new {d l p : Addr} {H : Hp} {o : HO} (h : DI d l H) (hp : H p = none) : DI d l (upd H p o) :=
  h.keep fun b u e => by rw [upd_ne (ne_of_none e hp)]; exact e
theorem DI.nd {d l p : Addr} {H : Hp} (h : DI d l H) (hp : H p = none) : p ≠ d ∧ p ≠ l := by
  obtain ⟨n, ⟨ns, h1⟩, i, b, s, c, h0, h2⟩ := h
  exact ⟨fun e => (by rw [e, h2] at hp; cases hp), fun e => (by rw [e, h1] at hp; cases hp)⟩
theorem DI.set {d l : Addr} {H : Hp} {i b s c : Int} (h : DI d l H) (h0 : 0 ≤ i) : DI d l (upd H d (.lst [.ref l, .int i, .int b, .int s, .int c])) := by
  obtain ⟨n, ⟨ns, h1⟩, _⟩ := h
  exact ⟨n, ⟨ns, by rw [upd_ne n]; exact h1⟩, i, b, s, c, h0, upd_same⟩
section
variable {P : Program} {w : World} {K : PySem.W.Frag} {mg : Str → Option Value} {base : Heap}
/-! ### begin -/
def spBegin (K : PySem.W.Frag) : Sp := fun vs H Q _ => ∃ (a : Addr) (ns : List Int), vs = [.ref a] ∧ SqL K H a (ns.map V.int) ∧ ns.length ≤ 63 ∧
  ∀ H' d l, Same H H' → DI d l H' → Q (.ref d) H'
theorem ok_begin (T : Txt K mg) : FnOk P w K mg base CX0 1 T.a_law_begin T.d_law_begin ["_law_script"] (spBegin K) := by
  refine T.D_law_begin.F.ok sc_law_begin (fun vs H Q E h => ?_) (fun cdv A outer s H vs Q E hr h => ?_)
  · obtain ⟨a, ns, rfl, _⟩ := h
    rfl
  · obtain ⟨a, ns, rfl, hS, hl, q⟩ := h
    refine ⟨_, (pss_one (ps_ret (pe_lst (pa_cons (pe_callTy call_list_of (by rfl) T.n_list (by decide +kernel) (pa_cons (pv 0) pa_nil)) (pa_cons pe_int (pa_cons pe_int (pa_cons pe_int (pa_cons pe_int pa_nil)))))))), ?_⟩
    refine ⟨_, rfl, a, _, rfl, .inl hS, fun l nl => ?_⟩
    refine ⟨by show 5 ≤ sizeLine; decide, fun d nd => ?_⟩
    refine q _ d l (fun b o e => ?_) ?_
    · have n1 : b ≠ l := ne_of_none e nl
      have e1 : upd H l (.lst (ns.map V.int)) b = some o := by rw [upd_ne n1]; exact e
      rw [upd_ne (ne_of_none e1 nd)]
      exact e1
    · have e1 : upd H l (.lst (ns.map V.int)) l = some (.lst (ns.map V.int)) := upd_same
      have n1 : l ≠ d := ne_of_none e1 nd
      exact ⟨n1, ⟨ns, by rw [upd_ne n1]; exact e1⟩, 0, 0, 7, 0, by decide, upd_same⟩
/-! ### draw -/
def spDraw : Sp := fun vs H Q _ => ∃ (d l : Addr) (m : Int), vs = [.ref d, .int m] ∧ DI d l H ∧ m ≤ 1000000 ∧
  ∀ H' r, Kp d H H' → DI d l H' → (m < 2 → r = 0) → (2 ≤ m → 0 ≤ r ∧ r < m) → Q (.int r) H'
theorem ok_draw (T : Txt K mg) : FnOk P w K mg base CX0 1 T.a_law_draw T.d_law_draw ["_law_d", "_law_many"] spDraw := by
  refine T.D_law_draw.F.ok sc_law_draw (fun vs H Q E h => ?_) (fun cdv A outer s H vs Q E hr h => ?_)
  · obtain ⟨d, l, m, rfl, _⟩ := h
    rfl
  · obtain ⟨d, l, m, rfl, hD, hm, q⟩ := h
    refine ⟨_, (pss_cons (ps_if (pt_cmpR op_lt (pv 1) pe_int (nomark _)) (pss_one (ps_ret pe_int)) pss_nil)
      (pss_cons (ps_set (i := 2) sc_law_draw.nd rfl (.inl rfl) (pe_op op_add (pe_op op_mul (pe_ix ix_list (pv 0) pe_int (fun _ _ => rfl)) pe_int) pe_int))
      (Evl.pss_cut (ps_if (PW.pt (pw_and (pt_cmpR op_eq (pe_ix ix_list (pv 0) pe_int (fun _ _ => rfl)) pe_int (nomark _)) (pw_and1 (pt_cmpR op_lt (pe_ix ix_list (pv 0) pe_int (fun _ _ => rfl)) (pe_callB call_len_seq (by rfl) T.n_len PySem.boot_len (pa_cons (pe_ix ix_list (pv 0) pe_int (fun _ _ => rfl)) pa_nil)) (nomark _))))) (pss_cons (ps_set (i := 2) sc_law_draw.nd rfl (.inl rfl) (pe_ix ix_list (pe_ix ix_list (pv 0) pe_int (fun _ _ => rfl)) (pe_ix ix_list (pv 0) pe_int (fun _ _ => rfl)) (fun _ _ => rfl)))
      (pss_cons (ps_asg (pe_op op_add (pe_ix ix_list (pv 0) pe_int (fun _ _ => rfl)) pe_int) (pg_sub (pv 0) pe_int set_list))
      (Evl.pss_cut (ps_if (pt_cmpR op_lt (pv 2) pe_int (nomark _)) (pss_one (ps_set (i := 2) sc_law_draw.nd rfl (.inl rfl) (pe_op op_sub pe_int (pe_op op_mul pe_int (pv 2))))) pss_nil)
      (pss_one (ps_if (pt_cmpR op_ge (pv 2) pe_int (nomark _)) (pss_cons (ps_set (i := 2) sc_law_draw.nd rfl (.inl rfl) (pe_op op_and (pv 2) (pe_op op_sub (pe_op op_shl pe_int pe_int) pe_int)))
      (pss_one (ps_asg (pv 2) (pg_sub (pv 0) pe_int set_list)))) pss_nil))))) pss_nil)
      (pss_cons (ps_if (pt_cmpR op_gt (pe_ix ix_list (pv 0) pe_int (fun _ _ => rfl)) pe_int (nomark _)) (pss_cons (ps_set (i := 3) sc_law_draw.nd rfl (.inl rfl) (pe_op op_modN (pe_callTy call_int1 (by rfl) T.n_int (by decide +kernel) (pa_cons (pe_ix ix_list (pv 0) pe_int (fun _ _ => rfl)) pa_nil)) (pv 1)))
      (pss_cons (ps_asg (pe_op op_fdivN (pe_ix ix_list (pv 0) pe_int (fun _ _ => rfl)) (pv 1)) (pg_sub (pv 0) pe_int set_list))
      (pss_one (ps_ret (pv 3))))) pss_nil)
      (pss_cons (ps_asg (pe_op op_add (pe_ix ix_list (pv 0) pe_int (fun _ _ => rfl)) pe_int) (pg_sub (pv 0) pe_int set_list))
      (pss_cons (ps_asg (pe_op op_modN (pe_callTy call_int1 (by rfl) T.n_int (by decide +kernel) (pa_cons (pe_op op_add (pe_op op_add (pe_op op_mul (pe_ix ix_list (pv 0) pe_int (fun _ _ => rfl)) pe_int) (pe_op op_mul (pv 2) pe_int)) (pe_op op_mul (pe_ix ix_list (pv 0) pe_int (fun _ _ => rfl)) pe_int)) pa_nil)) pe_int) (pg_sub (pv 0) pe_int set_list))
      (pss_one (ps_ret (pe_op op_modN (pe_callTy call_int1 (by rfl) T.n_int (by decide +kernel) (pa_cons (pe_op op_modN (pe_callTy call_int1 (by rfl) T.n_int (by decide +kernel) (pa_cons (pe_op op_add (pe_op op_add (pe_op op_mul (pe_ix ix_list (pv 0) pe_int (fun _ _ => rfl)) pe_int) (pe_op op_mul (pe_ix ix_list (pv 0) pe_int (fun _ _ => rfl)) pe_int)) pe_int) pa_nil)) pe_int) pa_nil)) (pv 1)))))))))), ?_⟩
    refine ⟨_, rfl, _, _, rfl, rfl, _, rfl, ite2 (fun e => ?_) (fun e => ?_)⟩
    · have e := of_decide_eq_true e
      exact q H 0 (Kp.refl d H) hD (fun _ => rfl) (fun z => by omega)
    have hm2 : 2 ≤ m := by
      have e2 : ¬ m < 2 := fun z => e (decide_eq_true z)
      omega
    have hmN : m ≠ 0 := by omega
    have hmA : m.natAbs < 1073741824 := by omega
    have fm : ∀ z : Int, 0 ≤ z.fmod m ∧ z.fmod m < m := fun z => ⟨Int.fmod_nonneg_of_pos z (by omega), Int.fmod_lt_of_pos z (by omega)⟩
    obtain ⟨n, ⟨ns, h1⟩, i, b, s5, c, h0, h2⟩ := id hD
    -- cell = d[4] * 977 + 3
    refine ⟨_, rfl, _, _, _, _, rfl, rfl, SqL.of h2, rfl, _, _, rfl, rfl, .inr ⟨by decide, by decide⟩, _, _, rfl, rfl, ?_⟩
    refine ⟨fun σ' H' => ∃ (cell : Int) (x3 : Option V), σ' = [some (.ref d), some (.int m), some (.int cell), x3] ∧ Kp d H H' ∧ DI d l H', ?_, ?_⟩
    · -- the cell
      refine ⟨_, rfl, _, _, _, _, rfl, rfl, SqL.of h2, rfl, rfl, _, rfl, ite2 (fun e1 => ?_) (fun e1 => ?_)⟩
      · refine ⟨_, rfl, _, _, _, _, rfl, rfl, SqL.of h2, rfl, _, rfl, _, _, _, _, rfl, rfl, SqL.of h2, rfl, _, _, rfl, .inl (SqL.of h1), _, _, rfl, rfl, _, rfl, ite2 (fun e2 => ?_) (fun e2 => ?_)⟩
        · have e2 := of_decide_eq_true e2
          rw [List.length_map] at e2
          obtain ⟨j, rfl⟩ : ∃ j : Nat, i = (j : Int) := ⟨i.toNat, by omega⟩
          have hj : j < ns.length := by omega
          have gj : (ns.map V.int)[j]? = some (.int ns[j]) := by
            rw [List.getElem?_map, List.getElem?_eq_getElem hj]; rfl
          refine ⟨_, rfl, _, _, _, _, rfl, rfl, SqL.of h2, rfl, _, rfl, _, _, _, _, rfl, rfl, SqL.of h2, rfl, _, _, _, _, rfl, rfl, SqL.of h1, atI_nat gj, ?_⟩
          -- d[1] = d[1] + 1
          refine ⟨_, rfl, _, _, _, _, rfl, rfl, SqL.of h2, rfl, _, _, rfl, rfl, _, rfl, _, _, _, _, rfl, rfl, h2, rfl, ?_⟩
          have D1 := hD.set (i := (j : Int) + 1) (b := b) (s := s5) (c := c) (by omega)
          have K1 : Kp d H (upd H d (.lst [.ref l, .int ((j : Int) + 1), .int b, .int s5, .int c])) := (Kp.refl d H).upd
          refine ⟨fun σ' H' => ∃ (cell : Int) (x3 : Option V), σ' = [some (.ref d), some (.int m), some (.int cell), x3] ∧ H' = upd H d (.lst [.ref l, .int ((j : Int) + 1), .int b, .int s5, .int c]), ?_, ?_⟩
          · refine ⟨_, rfl, _, _, rfl, rfl, _, rfl, ite2 (fun _ => ?_) (fun _ => ?_)⟩
            · exact ⟨_, rfl, _, _, rfl, rfl, .inl ⟨by decide, by decide⟩, _, _, rfl, rfl, _, _, rfl, rfl⟩
            · exact ⟨_, _, rfl, rfl⟩
          · rintro σ' H' ⟨cell, x3, rfl, rfl⟩
            refine ⟨_, rfl, _, _, rfl, rfl, _, rfl, ite2 (fun _ => ?_) (fun _ => ?_)⟩
            · refine ⟨_, rfl, _, _, rfl, rfl, ⟨by decide, by decide, by decide⟩, _, _, rfl, rfl, _, _, rfl, rfl, ?_⟩
              refine ⟨_, rfl, _, rfl, _, _, _, _, rfl, rfl, upd_same, rfl, ?_⟩
              exact ⟨_, _, rfl, K1.upd, D1.set (by omega)⟩
            · exact ⟨_, _, rfl, K1, D1⟩
        · exact ⟨_, _, rfl, Kp.refl d H, hD⟩
      · exact ⟨_, _, rfl, Kp.refl d H, hD⟩
    · rintro σ' H1 ⟨cell, x3, rfl, K1, D1⟩
      obtain ⟨n, ⟨ns, h1⟩, i, b, s5, c, h0, h2⟩ := id D1
      refine ⟨_, rfl, _, _, _, _, rfl, rfl, SqL.of h2, rfl, _, _, rfl, rfl, _, rfl, ite2 (fun e1 => ?_) (fun e1 => ?_)⟩
      · refine ⟨_, rfl, _, _, _, _, rfl, rfl, SqL.of h2, rfl, .inl ⟨_, rfl, _, rfl, _, _, rfl, rfl, hmN, ?_⟩⟩
        refine ⟨_, rfl, _, _, _, _, rfl, rfl, SqL.of h2, rfl, _, rfl, _, _, rfl, rfl, ⟨hmN, hmA⟩, _, rfl, _, _, _, _, rfl, rfl, h2, rfl, ?_⟩
        exact ⟨_, rfl, q _ _ K1.upd (D1.set h0) (fun z => by omega) (fun _ => fm _)⟩
      · refine ⟨_, rfl, _, _, _, _, rfl, rfl, SqL.of h2, rfl, _, _, rfl, rfl, _, rfl, _, _, _, _, rfl, rfl, h2, rfl, ?_⟩
        refine ⟨_, rfl, _, _, _, _, rfl, rfl, SqL.of upd_same, rfl, _, _, rfl, rfl, .inr ⟨by decide, by decide⟩, _, rfl, _, _, rfl, rfl, .inr ⟨by decide, by decide⟩, _, _, rfl, rfl, _, rfl, _, _, _, _, rfl, rfl, SqL.of upd_same, rfl, _, _, rfl, rfl, .inr ⟨by decide, by decide⟩, _, _, rfl, rfl, .inl ⟨_, rfl, _, _, rfl, rfl, (by show (2147483647 : Int) ≠ 0; decide), _, rfl, _, _, _, _, rfl, rfl, upd_same, rfl, ?_⟩⟩
        refine ⟨_, rfl, _, _, _, _, rfl, rfl, SqL.of upd_same, rfl, _, _, rfl, rfl, .inr ⟨by decide, by decide⟩, _, rfl, _, _, _, _, rfl, rfl, SqL.of upd_same, rfl, _, _, rfl, rfl, .inr ⟨by decide, by decide⟩, _, _, rfl, rfl, _, _, rfl, rfl, .inl ⟨_, rfl, _, _, rfl, rfl, (by show (2147483399 : Int) ≠ 0; decide), .inl ⟨_, rfl, _, rfl, _, _, rfl, rfl, hmN, ?_⟩⟩⟩
        exact q _ _ K1.upd.upd ((D1.set h0).set h0) (fun z => by omega) (fun _ => fm _)
end
end Vf

set_option Elab.async false
set_option linter.all false
set_option maxRecDepth 100000
set_option maxHeartbeats 4000000
namespace Vf
open PySem PySem.Spec PyProof.Rows L2 TL
/-! ### the mathematics of tokens -/
def sW : Str := "abcdefghijklmnopqrstuvwxyz0123456789.,:;!?'()+=<>*/"
def sL : Str := "abcdefghijklmnopqrstuvwxyz"
def sB : Str := " \n"
def sOdd : Str := "\"#$&-ABCDEFGHIJKLMNOPQRSTUVWXYZ[\\]^_`|~"
def cW (c : Nat) : Bool := decide (c ∈ sW.cps.toList)
def cL (c : Nat) : Bool := decide (c ∈ sL.cps.toList)
def cB (c : Nat) : Bool := decide (c ∈ sB.cps.toList)
/-- the text of these signs -/
def mkS (zs : List Nat) : Str := ⟨zs.toArray⟩
def sV (zs : List Nat) : V := .str (mkS zs)
theorem mkS_cps (zs : List Nat) : (mkS zs).cps.toList = zs := rfl
theorem mkS_of (z : Str) : mkS z.cps.toList = z := rfl
theorem mkS_len (zs : List Nat) : (mkS zs).length = zs.length := by simp [mkS, Str.length]
theorem len_cps (z : Str) : z.length = z.cps.toList.length := by simp [Str.length]
theorem mkS_app (a b : List Nat) : mkS a ++ mkS b = mkS (a ++ b) := by
  have h : (mkS a ++ mkS b).cps.toList = a ++ b := by rw [Str.cps_append, Array.toList_append]; rfl
  rw [← h]
  rfl
theorem mkS_inj {a b : List Nat} (h : mkS a = mkS b) : a = b := by
  have h2 := congrArg (fun z : Str => z.cps.toList) h
  exact h2
theorem sW_list : sW.cps.toList = [97,98,99,100,101,102,103,104,105,106,107,108,109,110,111,112,113,114,115,116,117,118,119,120,121,122,48,49,50,51,52,53,54,55,56,57,46,44,58,59,33,63,39,40,41,43,61,60,62,42,47] := by decide +kernel
theorem sL_list : sL.cps.toList = [97,98,99,100,101,102,103,104,105,106,107,108,109,110,111,112,113,114,115,116,117,118,119,120,121,122] := by decide +kernel
theorem sB_list : sB.cps.toList = [32, 10] := by decide +kernel
theorem cL_W {c : Nat} (h : cL c = true) : cW c = true := by
  have h1 := of_decide_eq_true h
  refine decide_eq_true ?_
  rw [sL_list] at h1
  rw [sW_list]
  rw [show ([97,98,99,100,101,102,103,104,105,106,107,108,109,110,111,112,113,114,115,116,117,118,119,120,121,122,48,49,50,51,52,53,54,55,56,57,46,44,58,59,33,63,39,40,41,43,61,60,62,42,47] : List Nat) = [97,98,99,100,101,102,103,104,105,106,107,108,109,110,111,112,113,114,115,116,117,118,119,120,121,122] ++ [48,49,50,51,52,53,54,55,56,57,46,44,58,59,33,63,39,40,41,43,61,60,62,42,47] from rfl]
  exact List.mem_append_left _ h1
theorem cW_B {c : Nat} (h : cW c = true) : cB c = false := by
  refine decide_eq_false fun h2 => ?_
  rw [sB_list] at h2
  have h1 := of_decide_eq_true h
  rw [sW_list] at h1
  simp only [List.mem_cons, List.not_mem_nil, or_false] at h2
  rcases h2 with rfl | rfl
  · exact absurd h1 (by decide)
  · exact absurd h1 (by decide)
theorem cW_at : cW 64 = false := by
  unfold cW
  rw [sW_list]
  decide
theorem cB_at : cB 64 = false := by
  unfold cB
  rw [sB_list]
  decide
theorem cW_ne {c : Nat} (h : cW c = true) : c ≠ 64 := fun e => by
  rw [e, cW_at] at h
  cases h
theorem drop_le {α : Type} (p : α → Bool) : ∀ l : List α, (l.dropWhile p).length ≤ l.length
  | [] => Nat.le_refl _
  | c :: r => by
    rw [List.dropWhile_cons]
    split
    · exact Nat.le_trans (drop_le p r) (Nat.le_succ _)
    · exact Nat.le_refl _
/-- the tokens of a text -/
def tokF : Nat → List Nat → List (List Nat)
  | 0, _ => []
  | _ + 1, [] => []
  | n + 1, c :: r =>
    if cB c then tokF n r else if c = 64 then (c :: r.takeWhile cL) :: tokF n (r.dropWhile cL)
    else if cW c then (c :: r.takeWhile cW) :: tokF n (r.dropWhile cW) else [c] :: tokF n r
theorem tokF_more : ∀ (n m : Nat) (zs : List Nat), zs.length ≤ n → zs.length ≤ m → tokF n zs = tokF m zs
  | 0, 0, _, _, _ => rfl
  | 0, m + 1, zs, h, _ => by
    have e : zs = [] := List.length_eq_zero_iff.mp (Nat.le_zero.mp h)
    subst e
    rfl
  | n + 1, 0, zs, _, h => by
    have e : zs = [] := List.length_eq_zero_iff.mp (Nat.le_zero.mp h)
    subst e
    rfl
  | n + 1, m + 1, [], _, _ => rfl
  | n + 1, m + 1, c :: r, h1, h2 => by
    have a1 : r.length ≤ n := Nat.le_of_succ_le_succ h1
    have a2 : r.length ≤ m := Nat.le_of_succ_le_succ h2
    have d1 := drop_le cL r
    have d2 := drop_le cW r
    show (if cB c then tokF n r else if c = 64 then (c :: r.takeWhile cL) :: tokF n (r.dropWhile cL) else if cW c then (c :: r.takeWhile cW) :: tokF n (r.dropWhile cW) else [c] :: tokF n r) =
      (if cB c then tokF m r else if c = 64 then (c :: r.takeWhile cL) :: tokF m (r.dropWhile cL) else if cW c then (c :: r.takeWhile cW) :: tokF m (r.dropWhile cW) else [c] :: tokF m r)
    rw [tokF_more n m r a1 a2, tokF_more n m _ (Nat.le_trans d1 a1) (Nat.le_trans d1 a2), tokF_more n m _ (Nat.le_trans d2 a1) (Nat.le_trans d2 a2)]
def tok (zs : List Nat) : List (List Nat) := tokF zs.length zs
theorem tok_nil : tok [] = [] := rfl
theorem tok_cons (c : Nat) (r : List Nat) : tok (c :: r) = if cB c then tok r else if c = 64 then (c :: r.takeWhile cL) :: tok (r.dropWhile cL)
    else if cW c then (c :: r.takeWhile cW) :: tok (r.dropWhile cW) else [c] :: tok r := by
  show (if cB c then tokF r.length r else if c = 64 then (c :: r.takeWhile cL) :: tokF r.length (r.dropWhile cL) else if cW c then (c :: r.takeWhile cW) :: tokF r.length (r.dropWhile cW) else [c] :: tokF r.length r) = _
  rw [tokF_more r.length (r.dropWhile cL).length (r.dropWhile cL) (drop_le _ _) (Nat.le_refl _), tokF_more r.length (r.dropWhile cW).length (r.dropWhile cW) (drop_le _ _) (Nat.le_refl _)]
  rfl
/-! #### what the law's own walk has found, and how it goes on -/
def cont : Nat → List (List Nat) → List Nat → List (List Nat)
  | 1, f, r => f.dropLast ++ ((f.getLast?.getD []) ++ r.takeWhile cW) :: tok (r.dropWhile cW)
  | 2, f, r => f.dropLast ++ ((f.getLast?.getD []) ++ r.takeWhile cL) :: tok (r.dropWhile cL)
  | _, f, r => f ++ tok r
theorem cont0 (f : List (List Nat)) (r : List Nat) : cont 0 f r = f ++ tok r := rfl
theorem cont1 (g : List (List Nat)) (t r : List Nat) : cont 1 (g ++ [t]) r = g ++ (t ++ r.takeWhile cW) :: tok (r.dropWhile cW) := by
  show (g ++ [t]).dropLast ++ (((g ++ [t]).getLast?.getD []) ++ r.takeWhile cW) :: tok (r.dropWhile cW) = _
  rw [List.dropLast_concat, List.getLast?_concat]; rfl
theorem cont2 (g : List (List Nat)) (t r : List Nat) : cont 2 (g ++ [t]) r = g ++ (t ++ r.takeWhile cL) :: tok (r.dropWhile cL) := by
  show (g ++ [t]).dropLast ++ (((g ++ [t]).getLast?.getD []) ++ r.takeWhile cL) :: tok (r.dropWhile cL) = _
  rw [List.dropLast_concat, List.getLast?_concat]; rfl
/-- a sign that goes on -/
theorem cont1_on {c : Nat} (h : cW c = true) (g : List (List Nat)) (t r : List Nat) : cont 1 (g ++ [t]) (c :: r) = cont 1 (g ++ [t ++ [c]]) r := by
  rw [cont1, cont1, List.takeWhile_cons_of_pos h, List.dropWhile_cons_of_pos h, List.append_assoc]; rfl
theorem cont2_on {c : Nat} (h : cL c = true) (g : List (List Nat)) (t r : List Nat) : cont 2 (g ++ [t]) (c :: r) = cont 2 (g ++ [t ++ [c]]) r := by
  rw [cont2, cont2, List.takeWhile_cons_of_pos h, List.dropWhile_cons_of_pos h, List.append_assoc]; rfl
/-- a sign that doesn't -/
theorem cont1_off {c : Nat} (h : cW c = false) (g : List (List Nat)) (t r : List Nat) : cont 1 (g ++ [t]) (c :: r) = cont 0 (g ++ [t]) (c :: r) := by
  rw [cont1, cont0, List.takeWhile_cons_of_neg (by rw [h]; decide), List.dropWhile_cons_of_neg (by rw [h]; decide), List.append_nil, List.append_assoc]; rfl
theorem cont2_off {c : Nat} (h : cL c = false) (g : List (List Nat)) (t r : List Nat) : cont 2 (g ++ [t]) (c :: r) = cont 0 (g ++ [t]) (c :: r) := by
  rw [cont2, cont0, List.takeWhile_cons_of_neg (by rw [h]; decide), List.dropWhile_cons_of_neg (by rw [h]; decide), List.append_nil, List.append_assoc]; rfl
theorem cont_blank {c : Nat} (h : cB c = true) (f : List (List Nat)) (r : List Nat) : cont 0 f (c :: r) = cont 0 f r := by
  rw [cont0, cont0, tok_cons, if_pos h]
theorem cont_at (f : List (List Nat)) (r : List Nat) : cont 0 f (64 :: r) = cont 2 (f ++ [[64]]) r := by
  rw [cont0, cont2, tok_cons, if_neg (by rw [cB_at]; decide), if_pos rfl]; rfl
theorem cont_word {c : Nat} (h : cW c = true) (f : List (List Nat)) (r : List Nat) : cont 0 f (c :: r) = cont 1 (f ++ [[c]]) r := by
  rw [cont0, cont1, tok_cons, if_neg (by rw [cW_B h]; decide), if_neg (cW_ne h), if_pos h]; rfl
theorem cont_odd {c : Nat} (hb : cB c = false) (h : cW c = false) (ha : c ≠ 64) (f : List (List Nat)) (r : List Nat) : cont 0 f (c :: r) = cont 0 (f ++ [[c]]) r := by
  rw [cont0, cont0, tok_cons, if_neg (by rw [hb]; decide), if_neg ha, if_neg (by rw [h]; decide), List.append_assoc]; rfl
theorem cont_end1 (g : List (List Nat)) (t : List Nat) : cont 1 (g ++ [t]) [] = g ++ [t] := by
  rw [cont1]; show g ++ [t ++ []] = _; rw [List.append_nil]
theorem cont_end2 (g : List (List Nat)) (t : List Nat) : cont 2 (g ++ [t]) [] = g ++ [t] := by
  rw [cont2]; show g ++ [t ++ []] = _; rw [List.append_nil]
theorem cont_end0 (f : List (List Nat)) : cont 0 f [] = f := by
  rw [cont0, tok_nil, List.append_nil]
/-! #### tokens put together -/
/-- blanks and line feeds alone -/
def Bl (g : List Nat) : Prop := ∀ c ∈ g, cB c = true
/-- a token -/
def Tk (t : List Nat) : Prop := (∃ c, t = [c] ∧ cB c = false ∧ cW c = false ∧ c ≠ 64) ∨ (∃ r, t = 64 :: r ∧ ∀ c ∈ r, cL c = true) ∨ (t ≠ [] ∧ ∀ c ∈ t, cW c = true)
/-- the one runs on into the other -/
def runs (t u : List Nat) : Bool := if t.headD 0 = 64 then cL (u.headD 0) else cW (t.headD 0) && cW (u.headD 0)
theorem tok_gap : ∀ (g r : List Nat), Bl g → tok (g ++ r) = tok r
  | [], _, _ => rfl
  | c :: g, r, h => by
    rw [List.cons_append, tok_cons, if_pos (h c List.mem_cons_self)]
    exact tok_gap g r fun z hz => h z (List.mem_cons_of_mem _ hz)
theorem take_all {p : Nat → Bool} : ∀ (t r : List Nat), (∀ c ∈ t, p c = true) → (∀ c r', r = c :: r' → p c = false) → (t ++ r).takeWhile p = t ∧ (t ++ r).dropWhile p = r
  | [], [], _, _ => ⟨rfl, rfl⟩
  | [], c :: r, _, h => by
    have e := h c r rfl
    rw [List.nil_append, List.takeWhile_cons_of_neg (by rw [e]; decide), List.dropWhile_cons_of_neg (by rw [e]; decide)]
    exact ⟨rfl, rfl⟩
  | c :: t, r, ht, h => by
    have ⟨a, b⟩ := take_all t r (fun z hz => ht z (List.mem_cons_of_mem _ hz)) h
    rw [List.cons_append, List.takeWhile_cons_of_pos (ht c List.mem_cons_self), List.dropWhile_cons_of_pos (ht c List.mem_cons_self), a, b]
    exact ⟨rfl, rfl⟩
theorem tok_tok {t r : List Nat} (h : Tk t) (hr : r = [] ∨ runs t r = false) : tok (t ++ r) = t :: tok r := by
  rcases h with ⟨c, rfl, hb, hw, ha⟩ | ⟨u, rfl, hu⟩ | ⟨hn, hw⟩
  · show tok (c :: r) = _
    rw [tok_cons, if_neg (by rw [hb]; decide), if_neg ha, if_neg (by rw [hw]; decide)]
  · have hs : ∀ c r', r = c :: r' → cL c = false := by
      intro c r' e
      rcases hr with z | z
      · rw [z] at e; cases e
      · subst e; exact z
    have ⟨a, b⟩ := take_all u r hu hs
    rw [List.cons_append, tok_cons, if_neg (by rw [cB_at]; decide), if_pos rfl, a, b]
  · cases t with
    | nil => exact absurd rfl hn
    | cons c u =>
      have hc := hw c List.mem_cons_self
      have hs : ∀ x r', r = x :: r' → cW x = false := by
        intro x r' e
        rcases hr with z | z
        · rw [z] at e; cases e
        · subst e
          unfold runs at z
          rw [show (c :: u).headD 0 = c from rfl, if_neg (cW_ne hc), hc] at z
          exact z
      have ⟨a, b⟩ := take_all u r (fun z hz => hw z (List.mem_cons_of_mem _ hz)) hs
      rw [List.cons_append, tok_cons, if_neg (by rw [cW_B hc]; decide), if_neg (cW_ne hc), if_pos hc, a, b]
/-- tokens and the gaps behind them, put into one row -/
def mixed : List (List Nat) → List (List Nat) → List Nat
  | t :: ts, g :: gs => t ++ (g ++ mixed ts gs)
  | _, _ => []
/-- what is asked of a gap behind token k -/
def need (ts : List (List Nat)) (k : Nat) : Bool := match ts[k]?, ts[k + 1]? with
  | some t, some u => runs t u
  | _, _ => false
theorem runs_bl {t g r : List Nat} (hn : g ≠ []) (hg : Bl g) : runs t (g ++ r) = false := by
  cases g with
  | nil => exact absurd rfl hn
  | cons c g =>
    have hb := hg c List.mem_cons_self
    have hw : cW c = false := by
      cases e : cW c with
      | false => rfl
      | true => rw [cW_B e] at hb; cases hb
    have hl : cL c = false := by
      cases e : cL c with
      | false => rfl
      | true => rw [cL_W e] at hw; cases hw
    unfold runs
    rw [List.cons_append]
    show (if t.headD 0 = 64 then cL c else cW (t.headD 0) && cW c) = false
    rw [hl, hw, Bool.and_false]
    split <;> rfl
theorem runs_head {t u r : List Nat} (hu : u ≠ []) : runs t (u ++ r) = runs t u := by
  cases u with
  | nil => exact absurd rfl hu
  | cons c u => rfl
theorem Tk.ne {t : List Nat} (h : Tk t) : t ≠ [] := by
  rcases h with ⟨c, rfl, _⟩ | ⟨r, rfl, _⟩ | ⟨h, _⟩
  · exact fun e => by cases e
  · exact fun e => by cases e
  · exact h
theorem tok_mixed : ∀ (ts gs : List (List Nat)), (∀ t ∈ ts, Tk t) → gs.length = ts.length → (∀ k g, gs[k]? = some g → Bl g ∧ (need ts k = true → g ≠ [])) → tok (mixed ts gs) = ts
  | [], [], _, _, _ => rfl
  | [], _ :: _, _, h, _ => by cases h
  | _ :: _, [], _, h, _ => by cases h
  | t :: ts, g :: gs, ht, hl, hg => by
    have ih := tok_mixed ts gs (fun u hu => ht u (List.mem_cons_of_mem _ hu)) (Nat.succ.inj hl) (fun k g' e => by
      have := hg (k + 1) g' e
      exact this)
    obtain ⟨hb, hne⟩ := hg 0 g rfl
    show tok (t ++ (g ++ mixed ts gs)) = t :: ts
    rw [tok_tok (ht t List.mem_cons_self), tok_gap g _ hb, ih]
    by_cases e : g = []
    · subst e
      rw [List.nil_append]
      cases ts with
      | nil => exact .inl (by cases gs <;> rfl)
      | cons u us =>
        cases gs with
        | nil => cases hl
        | cons g2 gs2 =>
          refine .inr ?_
          show runs t (u ++ (g2 ++ mixed us gs2)) = false
          rw [runs_head (ht u (List.mem_cons_of_mem _ List.mem_cons_self)).ne]
          cases q : runs t u with
          | false => rfl
          | true => exact absurd rfl (hne q)
    · exact .inr (runs_bl e hb)
/-! #### small things -/
theorem take_succ' {α : Type} {l : List α} {i : Nat} {x : α} (h : l[i]? = some x) : l.take (i + 1) = l.take i ++ [x] := by
  rw [List.take_add_one, h]; rfl
theorem big_ok {n : Nat} (h : n ≤ 100000) : n ≤ sizeLine := Nat.le_trans h (by decide)
theorem get_sV {ts : List (List Nat)} {i : Nat} {t : List Nat} (h : ts[i]? = some t) : (ts.map sV)[i]? = some (sV t) := by
  rw [List.getElem?_map, h]; rfl
theorem drop_at {zs : List Nat} {i c : Nat} (h : zs[i]? = some c) : zs.drop i = c :: zs.drop (i + 1) := by
  have ⟨h1, h2⟩ := List.getElem?_eq_some_iff.mp h
  rw [List.drop_eq_getElem_cons h1, h2]
theorem same_mut {H H' : Hp} {p : Addr} {o : HO} (a : Same H H') (hp : H p = none) : Same H (upd H' p o) := fun x u h => by
  rw [upd_ne (ne_of_none h hp)]; exact a x u h
theorem same_upd {H H' : Hp} {p : Addr} {o : HO} (a : Same H H') (hp : H' p = none) : Same H (upd H' p o) := fun x u h => by
  have h2 := a x u h
  rw [upd_ne (ne_of_none h2 hp)]; exact h2
theorem dec_sign (c : Nat) (z : Str) (e : Nat) (hz : z = mkS [e]) : decide (V.str ⟨#[c]⟩ = V.str z) = decide (c = e) := by
  rw [hz]
  by_cases h : c = e
  · subst h; rw [decide_eq_true rfl]; exact decide_eq_true rfl
  · rw [decide_eq_false h]
    refine decide_eq_false fun q => h ?_
    have e2 : mkS [c] = mkS [e] := V.str.inj q
    have e3 := mkS_inj e2
    injection e3
theorem tf (b : Bool) : b = true ∨ b = false := by cases b <;> simp
theorem bl_of {p : Prop} [Decidable p] {b : Bool} (h : decide p = b) : V.bl (decide p) = V.bl b := congrArg V.bl h
theorem at_mk : (("@" : Str)) = mkS [64] := by decide +kernel
/-! ### texts put together -/
theorem empty_mk : (("" : Str)) = mkS [] := by decide +kernel
theorem map_sV (zss : List (List Nat)) : zss.map sV = (zss.map mkS).map V.str := by
  rw [List.map_map]; rfl
theorem sum_len : ∀ zss : List (List Nat), ((zss.map mkS).map (·.length)).sum = zss.flatten.length
  | [] => rfl
  | z :: r => by
    rw [List.map_cons, List.map_cons, List.sum_cons, sum_len r, List.flatten_cons, List.length_append, mkS_len]
theorem joinL_nil : ∀ zss : List (List Nat), joinL [] zss = zss.flatten
  | [] => rfl
  | [z] => by show z = z ++ []; rw [List.append_nil]
  | z :: y :: r => by
    show z ++ ([] ++ joinL [] (y :: r)) = z ++ (y :: r).flatten
    rw [List.nil_append, joinL_nil (y :: r)]
theorem join_mk (zss : List (List Nat)) : Txt.join ("" : Str) (zss.map mkS) = mkS zss.flatten := by
  have h : tl (Txt.join ("" : Str) (zss.map mkS)) = zss.flatten := by
    rw [join_eq, tl_join, show (zss.map mkS).map tl = zss from (by rw [List.map_map]; exact List.map_id'' (fun _ => rfl) zss), empty_mk]
    exact joinL_nil zss
  rw [← h]; rfl
theorem flat_len {B : Nat} : ∀ {zss : List (List Nat)}, (∀ z ∈ zss, z.length ≤ B) → zss.flatten.length ≤ zss.length * B
  | [], _ => Nat.zero_le _
  | z :: r, h => by
    have ih := flat_len (zss := r) fun y hy => h y (List.mem_cons_of_mem _ hy)
    have hz := h z List.mem_cons_self
    rw [List.flatten_cons, List.length_append, List.length_cons, Nat.succ_mul]
    omega
theorem flat_one : ∀ {zss : List (List Nat)}, (∀ z ∈ zss, z.length = 1) → zss.flatten.length = zss.length
  | [], _ => rfl
  | z :: r, h => by
    rw [List.flatten_cons, List.length_append, List.length_cons, flat_one fun y hy => h y (List.mem_cons_of_mem _ hy), h z List.mem_cons_self]
    omega
theorem blank_mk : ((" " : Str)) = mkS [32] := by decide +kernel
theorem feed_mk : (("\n" : Str)) = mkS [10] := by decide +kernel
end Vf

set_option Elab.async false
set_option linter.all false
set_option maxRecDepth 100000
set_option maxHeartbeats 4000000
namespace Vf
open PySem PySem.Spec PyProof.Rows L2
/-! ### tuples of signs, sorted -/
inductive SgsAre : List Value → List Nat → Prop
  | nil : SgsAre [] []
  | cons (c : Nat) (t : Tok) {vs : List Value} {cs : List Nat} : SgsAre vs cs → SgsAre (.str ⟨#[c]⟩ t :: vs) (c :: cs)
theorem SgsAre.length {vs : List Value} {cs : List Nat} (h : SgsAre vs cs) : vs.length = cs.length := by
  induction h with
  | nil => rfl
  | cons c t _ ih => rw [List.length_cons, List.length_cons, ih]
theorem sgs_of : ∀ {cs : List Nat} {us : List Value}, Vals (cs.map fun c => V.str ⟨#[c]⟩) us → SgsAre us cs
  | [], _, .nil => .nil
  | c :: cs, _, .cons r t => by
    obtain ⟨k, rfl⟩ := r
    exact .cons c k (sgs_of t)
theorem sgs_uniq {vs : List Value} {cs ds : List Nat} (h : SgsAre vs cs) (h2 : SgsAre vs ds) : cs = ds := by
  induction h generalizing ds with
  | nil => cases h2; rfl
  | cons c t _ ih =>
    cases h2 with
    | cons d t2 h2 => rw [ih h2]
def TupSg (h : Heap) (v : Value) (cs : List Nat) : Prop := ∃ a xs, v = .ref a ∧ IsTup h a xs ∧ SgsAre xs.toList cs
theorem TupSg.keeps {h h' : Heap} {v : Value} {cs : List Nat} (x : TupSg h v cs) (k : ∀ b o, h.get? b = some o → o.cls = .type "tuple" → h'.get? b = some o) : TupSg h' v cs := by
  obtain ⟨a, xs, e, ⟨o, ho, hc, hd⟩, i⟩ := x
  exact ⟨a, xs, e, ⟨o, k _ _ ho hc, hc, hd⟩, i⟩
theorem TupSg.uniq {h : Heap} {v : Value} {cs ds : List Nat} (x : TupSg h v cs) (y : TupSg h v ds) : cs = ds := by
  obtain ⟨a, xs, e, ⟨o, ho, hc, n, hd⟩, i⟩ := x
  obtain ⟨a2, ys, e2, ⟨o2, ho2, hc2, n2, hd2⟩, i2⟩ := y
  rw [e] at e2
  cases e2
  rw [ho] at ho2
  cases ho2
  rw [hd] at hd2
  injection hd2 with h1 h2
  subst h1
  exact sgs_uniq i i2
def nats (cs : List Nat) : List Int := cs.map fun c : Nat => (c : Int)
open Classical in
/-- the signs of a tuple, read off the heap -/
noncomputable def sgsOf (h : Heap) (v : Value) : List Nat := if x : ∃ cs, TupSg h v cs then x.choose else []
theorem TupSg.sgs {h : Heap} {v : Value} {cs : List Nat} (x : TupSg h v cs) : sgsOf h v = cs := by
  have y : ∃ cs, TupSg h v cs := ⟨cs, x⟩
  unfold sgsOf
  rw [dif_pos y]
  exact y.choose_spec.uniq x
section
variable {prog : Program} {w : World} {A : Around} {E : Value → Shared → Prop} {s : Shared} {Q : Bool → Shared → Prop}
theorem oneLt_sg (b : Bool) {p q : Nat} {t u : Tok} (h : Q (decide (p < q)) s) : wpAny (model prog w) A (oneLt' b (.str ⟨#[p]⟩ t) (.str ⟨#[q]⟩ u)) Q E s := by
  have e : decide ((⟨#[p]⟩ : Str).cps.toList < (⟨#[q]⟩ : Str).cps.toList) = decide (p < q) := by
    refine decide_eq_decide.mpr ?_
    show [p] < [q] ↔ p < q
    rw [List.cons_lt_cons_iff]
    constructor
    · rintro (h | ⟨_, h⟩)
      · exact h
      · exact absurd h (List.lt_irrefl _)
    · exact fun h => .inl h
  cases b with
  | true => exact oneLt_str (by rw [e]; exact h)
  | false => exact PySem.W.kat_one _ _ (PyProof.Rows.lt_str (Q := PySem.W.BoolBack Q) (by rw [e]; exact h))
theorem lex_sgs {B : Int} {b : Bool} {xs ys : List Value} {cs ds : List Nat} (i : Nat) (hx : SgsAre xs cs) (hy : SgsAre ys ds) (hl : cs.length = ds.length) (h1 : TS.Bd B (nats cs)) (h2 : TS.Bd B (nats ds))
    (h : Q (decide (TS.code B (nats cs) < TS.code B (nats ds))) s) : PySem.W.KatLex prog w A b false Q (xs.zip ys) i s := by
  induction hx generalizing ys ds i with
  | nil =>
    cases hy with
    | nil =>
      have e : decide (TS.code B (nats []) < TS.code B (nats [])) = false := decide_eq_false (Int.lt_irrefl _)
      rw [e] at h
      exact PySem.W.kat_nil h
    | cons d u hy => simp at hl
  | @cons c t xs cs hx ih =>
    cases hy with
    | nil => simp at hl
    | @cons d u ys ds hy =>
      have hl' : cs.length = ds.length := by simpa using hl
      have hl2 : (nats cs).length = (nats ds).length := by unfold nats; rw [List.length_map, List.length_map, hl']
      show PySem.W.KatLex prog w A b false Q ((Value.str ⟨#[c]⟩ t, Value.str ⟨#[d]⟩ u) :: xs.zip ys) i s
      refine PySem.W.kat_cons (wpAny_eqBool_str ?_)
      by_cases e : c = d
      · subst e
        rw [decide_eq_true rfl]
        have dd : decide (TS.code B (nats (c :: cs)) < TS.code B (nats (c :: ds))) = decide (TS.code B (nats cs) < TS.code B (nats ds)) := decide_eq_decide.mpr (TS.code_same (d := (c : Int)) hl2)
        rw [dd] at h
        exact PySem.W.kat_yes (ih (i + 1) hy hl' h1.tail h2.tail h)
      · have ne : ¬ ((⟨#[c]⟩ : Str) = ⟨#[d]⟩) := fun z => e (by injection z with z; injection z with z; injection z)
        rw [decide_eq_false ne]
        refine PySem.W.kat_no (oneLt_sg _ ?_)
        have dd : decide (TS.code B (nats (c :: cs)) < TS.code B (nats (d :: ds))) = decide (c < d) := by
          refine decide_eq_decide.mpr ⟨fun x => ?_, fun x => TS.code_lt (d := (c : Int)) (e := (d : Int)) hl2 h1.tail h2.tail (by omega)⟩
          rcases Nat.lt_trichotomy c d with y | y | y
          · exact y
          · exact absurd y e
          · have := TS.code_lt hl2.symm h2.tail h1.tail (show ((d : Nat) : Int) < (c : Int) by omega)
            have x2 : TS.code B ((c : Int) :: nats cs) < TS.code B ((d : Int) :: nats ds) := x
            omega
        rw [dd] at h
        exact h
end
def TupsSg (h : Heap) (d : Nat) (B : Int) (vs : List Value) : Prop := ∀ v, v ∈ vs → ∃ cs, TupSg h v cs ∧ cs.length = d ∧ TS.Bd B (nats cs)
theorem TupsSg.keeps {h h' : Heap} {d : Nat} {B : Int} {vs : List Value} (x : TupsSg h d B vs) (k : ∀ b o, h.get? b = some o → o.cls = .type "tuple" → h'.get? b = some o) : TupsSg h' d B vs := fun v hv =>
  let ⟨ns, t, r⟩ := x v hv; ⟨ns, t.keeps k, r⟩
theorem firsts_sg {h : Heap} {d : Nat} {B : Int} (hd : 1 ≤ d) : ∀ vs : List Value, TupsSg h d B vs → ∃ fs, PySem.W.KatTups h vs fs ∧ fs.length = vs.length ∧ ∀ f, f ∈ fs → ∃ z t, f = Value.str z t
  | [], _ => ⟨[], PySem.W.KatTups.nil, rfl, fun f hf => by simp at hf⟩
  | v :: vs, x => by
    obtain ⟨fs, k, hl, hi⟩ := firsts_sg hd vs fun u hu => x u (List.mem_cons_of_mem _ hu)
    obtain ⟨cs, ⟨a, xs, rfl, ⟨o, ho, hc, n, hdt⟩, i⟩, hn, _⟩ := x v (List.mem_cons_self ..)
    cases q : xs.toList with
    | nil =>
      rw [q] at i
      have l := i.length
      rw [List.length_nil, hn] at l
      omega
    | cons y ys =>
      rw [q] at i
      cases i with
      | cons c t i2 =>
        refine ⟨.str ⟨#[c]⟩ t :: fs, PySem.W.KatTups.cons ho hc hdt ?_ k, by simp [hl], ?_⟩
        · have z := congrArg (fun l : List Value => l[0]?) q
          simpa using z
        · intro f hf
          rcases List.mem_cons.mp hf with rfl | hf
          · exact ⟨_, t, rfl⟩
          · exact hi f hf
section
variable {prog : Program} {w : World} {A : Around} {E : Value → Shared → Prop} {s : Shared}
theorem kind_sg {d : Nat} {B : Int} {vs : List Value} (hd : 1 ≤ d) (h2 : 2 ≤ vs.length) (x : TupsSg s.heap d B vs) (r : Value → Int) (hr : ∀ v, v ∈ vs → ∀ cs, TupSg s.heap v cs → r v = TS.code B (nats cs)) (Q : SortKind → Shared → Prop)
    (h : ∀ κ, TS.Cmp prog w A s κ (pairsOf vs) r → Q κ s) : wpAny (model prog w) A (keyKind' vs.toArray) Q E s := by
  obtain ⟨fs, k, hl, hi⟩ := firsts_sg hd vs x
  refine PySem.W.kat_kind (T := Value.type "str") k (by omega) (fun f hf => ?_) rfl (h _ ?_)
  · obtain ⟨n, t, rfl⟩ := hi f hf
    exact PySem.W.Looks.of_pure rfl
  · intro p q hp hq Q' E' hQ
    rw [pairsOf_toList] at hp hq
    obtain ⟨ns, tp, lp, bp⟩ := x _ (mem_zip_self hp).2
    obtain ⟨ms, tq, lq, bq⟩ := x _ (mem_zip_self hq).2
    have ep := hr _ (mem_zip_self hp).2 _ tp
    have eq2 := hr _ (mem_zip_self hq).2 _ tq
    have hQ' : Q' (decide (TS.code B (nats ns) < TS.code B (nats ms))) s := by
      have z : decide (r p.1 < r q.1) = decide (TS.code B (nats ns) < TS.code B (nats ms)) := by rw [ep, eq2]
      rw [← z]; exact hQ
    obtain ⟨a, xs, e1, ⟨o, ho, hc, n, hdt⟩, i⟩ := tp
    obtain ⟨a', ys, e2, ⟨o', ho', hc', n', hdt'⟩, i'⟩ := tq
    rw [e1, e2]
    refine PySem.W.kat_lt ho hdt ho' hdt' ?_
    have sz : decide (xs.size < ys.size) = false := by
      have l1 := i.length
      have l2 := i'.length
      rw [Array.length_toList] at l1 l2
      exact decide_eq_false (by omega)
    rw [sz]
    exact lex_sgs 0 i i' (by omega) bp bq hQ'
/-- list.sort of a list of tuples of signs -/
theorem sort_sgs {a : Addr} {vs : List Value} {n d : Nat} {B : Int} {P : PySem.Fin → Shared → Prop} (ho : s.heap.get? a = some (seqObj "list" vs.toArray n)) (h64 : vs.length < 64) (hd : 1 ≤ d) (x : TupsSg s.heap d B vs)
    (r : Value → Int) (hr : ∀ v, v ∈ vs → ∀ cs, TupSg s.heap v cs → r v = TS.code B (nats cs))
    (h : ∀ out : Array Value, out.toList.Perm vs → out.toList.Pairwise (fun u v => r u ≤ r v) → P (.done (.ret .none)) { s with heap := sortedHeap s.heap a vs out }) :
    wpAny (model prog w) A (Builtin.«list.sort» ⟨[.ref a], []⟩) P E s := by
  have keep : ∀ b o, s.heap.get? b = some o → o.cls = .type "tuple" → (TS.midHeap s.heap a vs).get? b = some o := fun b o e hc => by
    refine TS.midHeap_old ?_ e
    rintro rfl
    rw [ho] at e
    have e' : seqObj "list" vs.toArray n = o := Option.some.inj e
    rw [← e'] at hc
    have c' : Value.type "list" = Value.type "tuple" := hc
    injection c' with c''
    exact absurd c'' (by decide)
  refine SK.plain_sort (r := r) ho h64 (fun h2 Q hQ => ?_) fun ps out h1 h2 h3 => ?_
  · refine kind_sg (s := { s with heap := TS.midHeap s.heap a vs }) hd h2 (x.keeps keep) r (fun v hv cs t => ?_) Q hQ
    obtain ⟨cs0, t0, _⟩ := x v hv
    have e : cs = cs0 := t.uniq (t0.keeps keep)
    rw [e]
    exact hr v hv cs0 t0
  · obtain ⟨p, o⟩ := TS.out_rank h1 h2 h3
    exact h out p o
end
section
variable {X : Cx}
/-- sorted(d) of a dict with fewer than 64 keys, all tuples of two signs -/
def rSortedDS : List V → Hp → VK → Prop := fun xs H Q => ∃ (a : Addr) (kvs : List (List Key × V)) (ks : List (Nat × Nat)), xs = [.ref a] ∧ Rd H a (.dT kvs) ∧ kvs.map (·.1) = ks.map (fun k => [Sum.inr ⟨#[k.1]⟩, Sum.inr ⟨#[k.2]⟩]) ∧ ks.length < 64 ∧ (∀ k ∈ ks, k.1 < 2000000 ∧ k.2 < 2000000) ∧
    ∀ (ys : List (Addr × Nat × Nat)) (p : Addr), (ys.map (·.2)).Perm ks → (ys.map (·.2)).Pairwise (fun a b => a.1 < b.1 ∨ (a.1 = b.1 ∧ a.2 ≤ b.2)) → (∀ y ∈ ys, H y.1 = some (.tup [.str ⟨#[y.2.1]⟩, .str ⟨#[y.2.2]⟩])) → H p = none → Q (.ref p) (upd H p (.lst (ys.map fun y => V.ref y.1)))
theorem perm_lift {α β : Type} {f : α → β} : ∀ {l : List α} {m : List β}, m.Perm (l.map f) → ∃ l' : List α, l'.Perm l ∧ l'.map f = m := by
  intro l m h
  generalize e : l.map f = n at h
  induction h generalizing l with
  | nil =>
    cases l with
    | nil => exact ⟨[], .nil, rfl⟩
    | cons _ _ => cases e
  | @cons x l1 l2 h ih =>
    cases l with
    | nil => cases e
    | cons y r =>
      injection e with e1 e2
      obtain ⟨l', p, q⟩ := ih e2
      exact ⟨y :: l', p.cons y, by rw [List.map_cons, q, e1]⟩
  | swap x y r =>
    match l, e with
    | a :: b :: l, e =>
      injection e with e1 e2
      injection e2 with e2 e3
      exact ⟨b :: a :: l, .swap a b l, by rw [List.map_cons, List.map_cons, e1, e2, e3]⟩
  | trans h1 h2 ih1 ih2 =>
    obtain ⟨l', p, q⟩ := ih2 e
    obtain ⟨l'', p2, q2⟩ := ih1 q
    exact ⟨l'', p2.trans p, q2⟩
theorem call_sortedDS (hcalm : X.calm = true) : CallR X (.builtin "sorted") rSortedDS := by
  intro pins s σ H xs us Q I r q
  obtain ⟨d, kvs, ks0, ex, hd, hks, h64, hbd, q⟩ := q
  subst ex
  obtain ⟨u, rfl, rx⟩ := r.one
  cases rx
  obtain ⟨z, hs, ks, pr, o, es, ep, ho, hx, hdt, he, hn⟩ := (show ObjOk X.prog X.w H s.heap d (.dT kvs) from hd.ok I.hok)
  have l1 : es.size = ks.length := size_of_entries he
  have l2 : kvs.length = ks.length := Paired.length pr
  have l3 : kvs.length = ks0.length := by
    have e := congrArg List.length hks
    rw [List.length_map, List.length_map] at e
    exact e
  have hK : IsKeys H kvs (ks.map fun x => x.2.1) := isKeys_of pr
  generalize hbs : (ks.map fun x => x.2.1) = bs at hK
  have lb : bs.length = ks0.length := by rw [← hbs, List.length_map, ← l2, l3]
  have hb : ∀ (j : Nat) (b : Addr), bs[j]? = some b → ∃ k : Nat × Nat, ks0[j]? = some k ∧ H b = some (.tup [.str ⟨#[k.1]⟩, .str ⟨#[k.2]⟩]) := by
    intro j b hj
    obtain ⟨y, hy, hyb⟩ := L2.DX.pget hK hj
    have hj2 : j < ks0.length := by rw [← lb]; exact (List.getElem?_eq_some_iff.mp hj).1
    refine ⟨ks0[j], List.getElem?_eq_getElem hj2, ?_⟩
    have e := congrArg (fun l => l[j]?) hks
    simp only [List.getElem?_map, hy, List.getElem?_eq_getElem hj2, Option.map_some] at e
    have e2 := Option.some.inj e
    rw [hyb, e2]; rfl
  have hz : ∀ y ∈ bs.zip ks0, H y.1 = some (.tup [.str ⟨#[y.2.1]⟩, .str ⟨#[y.2.2]⟩]) := by
    intro y hy
    obtain ⟨j, hj⟩ := List.mem_iff_getElem?.mp hy
    rw [List.getElem?_zip_eq_some] at hj
    obtain ⟨k, hk, e⟩ := hb j y.1 hj.1
    rw [hj.2] at hk
    have := Option.some.inj hk
    rw [e, this]
  have hzs : (bs.zip ks0).map (·.2) = ks0 := List.map_snd_zip (by omega)
  have hzf : (bs.zip ks0).map (fun y => Value.ref y.1) = bs.map Value.ref := by
    have := congrArg (List.map Value.ref) (List.map_fst_zip (l₁ := bs) (l₂ := ks0) (by omega))
    rw [List.map_map] at this
    exact this
  refine Calls.call_function_entry PyProof.Rows.kind_sorted PyProof.Rows.plain_sorted PyProof.Rows.entry_sorted (PyProof.Rows.args_sorted1 _) ?_
  unfold Builtin.«sorted»
  refine wpAny_bind (m := checkCount "sorted" 1 1 _) (wpAny_pure ?_)
  refine wpAny_bind (PySem.W.kdu_collect (A := X.A.in1) (kdl_raw hs hx hdt) (I.ok.hd hcalm) ho (by omega) fun h' tk acc kp it => ?_)
  have ea : acc.toList = ks.map fun x => Value.ref x.2.1 := by
    have hl : acc.toList.length = ks.length := by rw [Array.length_toList, it.1]; exact l1
    apply List.ext_getElem?
    intro j
    rw [List.getElem?_map]
    cases hj : acc.toList[j]? with
    | none =>
      have h1 := List.getElem?_eq_none_iff.mp hj
      rw [List.getElem?_eq_none (by omega)]
      all_goals rfl
    | some v =>
      obtain ⟨en, hen, hv⟩ := it.2 j v (by rw [← Array.getElem?_toList]; exact hj)
      have qe := entry_at he j
      rw [hen] at qe
      cases hb : ks[j]? with
      | none =>
        rw [hb] at qe
        exact nomatch (show some en = none from qe)
      | some b =>
        rw [hb] at qe
        have e2 : en = entryOfKey (tupleKind (mixKind X.prog X.w)) b := Option.some.inj qe
        rw [hv, e2]
        all_goals rfl
  have eb : acc.toList = (bs.zip ks0).map fun y => Value.ref y.1 := by rw [ea, hzf, ← hbs, List.map_map]; all_goals rfl
  have lz : (bs.zip ks0).length = ks0.length := by rw [List.length_zip]; omega
  have I1 : Inv X pins σ H { s with heap := h', toks := tk } := I.kept kp
  have tsg : ∀ y ∈ bs.zip ks0, TupSg h' (.ref y.1) [y.2.1, y.2.2] := by
    intro y hy
    obtain ⟨its, rv, ht, _⟩ := I1.tuple (.inl (.inl (hz y hy)))
    exact ⟨y.1, its.toArray, rfl, ht, by simpa using sgs_of (cs := [y.2.1, y.2.2]) rv⟩
  have bd : ∀ y ∈ bs.zip ks0, y.2.1 < 2000000 ∧ y.2.2 < 2000000 := fun y hy => hbd y.2 (by rw [← hzs]; exact List.mem_map.mpr ⟨y, hy, rfl⟩)
  rw [eb]
  refine wpAny_bind (wpAny_newList ?_ (by rw [List.length_map, lz, sizeLine_eq]; omega))
  have hoL : (h'.push (seqObj "list" ((bs.zip ks0).map fun y => Value.ref y.1).toArray 0)).get? h'.objs.size = some (seqObj "list" ((bs.zip ks0).map fun y => Value.ref y.1).toArray 0) := Heap.get?_push_size _ rfl
  show wpAny _ _ _ _ _ { s with heap := h'.push (seqObj "list" ((bs.zip ks0).map fun y => Value.ref y.1).toArray 0), toks := tk }
  have keep : ∀ b o, h'.get? b = some o → o.cls = .type "tuple" → (h'.push (seqObj "list" ((bs.zip ks0).map fun y => Value.ref y.1).toArray 0)).get? b = some o := fun b o e _ => Heap.get?_push_of_some _ e
  have hsg : ∀ v ∈ (bs.zip ks0).map (fun y => Value.ref y.1), ∃ cs, TupSg h' v cs ∧ cs.length = 2 ∧ TS.Bd 2000000 (nats cs) := by
    intro v hv
    obtain ⟨y, hy, rfl⟩ := List.mem_map.mp hv
    refine ⟨_, tsg y hy, rfl, fun m hm => ?_⟩
    have b := bd y hy
    have hm : m ∈ [((y.2.1 : Nat) : Int), ((y.2.2 : Nat) : Int)] := hm
    simp only [List.mem_cons, List.not_mem_nil, or_false] at hm
    rcases hm with rfl | rfl <;> omega
  refine wpAny_bind (wpAny_holding (wpAny_call_entry PyProof.Rows.slot_list_sort ⟨_, hoL, rfl⟩ PyProof.Rows.entry_list_sort
    (sort_sgs (s := { s with heap := h'.push (seqObj "list" ((bs.zip ks0).map fun y => Value.ref y.1).toArray 0), toks := tk }) (d := 2) (B := 2000000) hoL (by rw [List.length_map, lz]; exact h64) (by decide)
      (fun v hv => by obtain ⟨cs, t, r⟩ := hsg v hv; exact ⟨cs, t.keeps keep, r⟩) (fun v => TS.code 2000000 (nats (sgsOf h' v))) (fun v hv cs t => by
        obtain ⟨cs0, t0, _⟩ := hsg v hv
        have e : cs = cs0 := t.uniq (t0.keeps keep)
        rw [e]
        show TS.code 2000000 (nats (sgsOf h' v)) = _
        rw [t0.sgs]) fun out g1 g2 => ⟨_, rfl, ?_⟩)
    (PyProof.Rows.args_list_sort _)))
  obtain ⟨ys, p1, p2⟩ := perm_lift g1
  have ym : ∀ y ∈ ys, y ∈ bs.zip ks0 := fun y hy => p1.mem_iff.mp hy
  obtain ⟨e', he'⟩ := PyProof.Rows.sortedHeap_at (vs := (bs.zip ks0).map fun y => Value.ref y.1) (out := out) hoL
  have hlen : (ys.map fun y => V.ref y.1).length ≤ sizeLine := by
    rw [List.length_map, p1.length_eq, lz]
    exact Nat.le_trans (Nat.le_of_lt h64) (by decide)
  have vr : ∀ l : List (Addr × Nat × Nat), Vals (l.map fun y => V.ref y.1) (l.map fun y => Value.ref y.1) := fun l => by
    induction l with
    | nil => exact .nil
    | cons y r ih => exact .cons rfl ih
  refine wpAny_pure ⟨_, rfl, .ref h'.objs.size, upd H h'.objs.size (.lst (ys.map fun y => V.ref y.1)), I1.laid (t' := tk) (fun b u e => ?_) (Nat.le_refl _)
    (show ObjOk X.prog X.w _ _ _ (.lst (ys.map fun y => V.ref y.1)) from ⟨hlen, out.toList, e', by rw [← p2]; exact vr ys, by rw [Array.toArray_toList]; exact he'⟩), rfl, q ys _ ?_ ?_ (fun y hy => hz y (ym y hy)) (I1.hok.fresh (Nat.le_refl _))⟩
  · have hb : b < h'.objs.size := Heap.lt_size e
    rw [PyProof.Rows.sortedHeap_old (Nat.ne_of_lt hb) (by rw [size_push']; exact Nat.lt_succ_of_lt hb)]
    exact Heap.get?_push_of_some _ e
  · rw [← hzs]; exact p1.map _
  · rw [← p2, List.pairwise_map] at g2
    rw [List.pairwise_map]
    refine List.Pairwise.imp_of_mem (fun {x y} hx hy h => ?_) g2
    rw [(tsg x (ym x hx)).sgs, (tsg y (ym y hy)).sgs] at h
    have b1 := bd x (ym x hx)
    have b2 := bd y (ym y hy)
    have h : ((x.2.1 : Nat) : Int) * 2000000 ^ 1 + (((x.2.2 : Nat) : Int) * 2000000 ^ 0 + 0) ≤ ((y.2.1 : Nat) : Int) * 2000000 ^ 1 + (((y.2.2 : Nat) : Int) * 2000000 ^ 0 + 0) := h
    omega
end

/-! ### t < u of tuples of texts -/
def lexS : List Str → List Str → Bool
  | [], [] => false
  | [], _ :: _ => true
  | _ :: _, [] => false
  | x :: xs, y :: ys => if x = y then lexS xs ys else decide (x.cps.toList < y.cps.toList)
section
open PySem.SeqAt
open PySem.AutoSeq1 (wpAny_loadPart')
open PySem.MeetsSeq PySem.MeetsSeq2 PySem.MeetsSeq3
theorem tuple_lt_strs (l b : Addr) (items items2 : Array Value) (n n2 : Nat) (dd dd2 : Option Addr) (sl sl2 : Array (Option Value)) (ns ms : List Str) (hi : StrsAre items.toList ns) (hj : StrsAre items2.toList ms) :
    Meets (Builtin.«tuple.__lt__» ⟨[.ref l, .ref b], []⟩)
      (fun _ R s => s.heap.get? l = some { cls := .type "tuple", dict := dd, data := .seq items n, slots := sl } ∧ s.heap.get? b = some { cls := .type "tuple", dict := dd2, data := .seq items2 n2, slots := sl2 } ∧
        R (.ok (.ret (.bool (lexS ns ms)))) s) :=
  .of_wp fun prog w A R s h => by
    obtain ⟨hp, g, d, tk, os⟩ := s; obtain ⟨hl, hb, h⟩ := h
    have f2 := AutoSeq1.sub_tuple_tuple
    have z1 : items.size = ns.length := by rw [← hi.length]; simp
    have z2 : items2.size = ms.length := by rw [← hj.length]; simp
    wp_walk using wpAny_loadPart' hl, wpAny_loadPart' hb, wpAny_forIn_list _ (fun rest b s' => b.1 = none ∧ s' = ⟨hp, g, d, tk, os⟩ ∧ ∃ (vs ws : List Value) (ns' ms' : List Str), rest = vs.zip ws ∧
      StrsAre vs ns' ∧ StrsAre ws ms' ∧ ns'.length + items2.size = ms'.length + items.size ∧ R (.ok (.ret (.bool (lexS ns' ms')))) ⟨hp, g, d, tk, os⟩) _
    case turn =>
      rintro ⟨y, x⟩ rest b s' ⟨hb', rfl, vs, ws, ns', ms', hz, hvi, hwi, hlen, hR⟩
      cases hvi with
      | nil => rw [List.zip_nil_left] at hz; cases hz
      | cons a t hvi' =>
        cases hwi with
        | nil => rw [List.zip_nil_right] at hz; cases hz
        | cons c u hwi' =>
          rw [List.zip_cons_cons] at hz
          injection hz with hyx hrest
          injection hyx with hy hx
          subst hy hx
          have e0 : ∀ p q : List Str, lexS (a :: p) (c :: q) = if a = c then lexS p q else decide (a.cps.toList < c.cps.toList) := fun _ _ => rfl
          rw [e0] at hR
          simp only [List.length_cons] at hlen
          have he := SeqAt.EqAt.str_str (A := A.in1) (s := ⟨hp, g, d, tk, os⟩) a t c u
          by_cases e : a = c
          · rw [show (a == c) = true from beq_iff_eq.mpr e] at he
            refine wpAny_bind (he prog w _ _ ?_)
            rw [if_pos e] at hR
            wp_walk
            exact ⟨rfl, rfl, _, _, _, _, hrest, hvi', hwi', by omega, hR⟩
          · rw [show (a == c) = false from beq_eq_false_iff_ne.mpr e] at he
            refine wpAny_bind (he prog w _ _ ?_)
            rw [if_neg e] at hR
            have hri := DT.rcLt_str A.in1 ⟨hp, g, d, tk, os⟩ a t c u prog w
            wp_walk using hri
            exact ⟨_, rfl, by simpa using hR⟩
    case fin =>
      rintro ⟨b1, b2⟩ s' ⟨hb', rfl, vs, ws, ns', ms', hz, hvi, hwi, hlen, hR⟩
      simp only at hb'
      subst hb'
      have hv : lexS ns' ms' = decide (items.size < items2.size) := by
        cases hvi with
        | nil =>
          cases hwi with
          | nil =>
            simp only [List.length_nil] at hlen
            exact (decide_eq_false (by omega)).symm
          | cons c u hw =>
            simp only [List.length_nil, List.length_cons] at hlen
            exact (decide_eq_true (by omega)).symm
        | cons a t hv =>
          cases hwi with
          | nil =>
            simp only [List.length_nil, List.length_cons] at hlen
            exact (decide_eq_false (by omega)).symm
          | cons c u hw =>
            rw [List.zip_cons_cons] at hz
            cases hz
      rw [hv] at hR
      wp_walk
      exact ⟨_, rfl, by simpa [Builtin.Tuple.tupleCompareSizes] using hR⟩
    case h =>
      exact ⟨rfl, rfl, items.toList, items2.toList, ns, ms, rfl, hi, hj, by omega, h⟩
end
section
variable {prog : Program} {w : World} {A : Around} {E : Value → Shared → Prop} {s : Shared}
theorem lt_tupStrs {l b : Addr} {items items2 : Array Value} {ns ms : List Str} {Q : Value → Shared → Prop} (hl : IsTup s.heap l items) (hb : IsTup s.heap b items2) (hi : StrsAre items.toList ns) (hj : StrsAre items2.toList ms)
    (hu : A.units < cLine) (h : Q (.bool (lexS ns ms)) s) : wpAny (model prog w) A (compareOp .Lt (.ref l) (.ref b)) Q E s := by
  obtain ⟨⟨cls, dd, data, sl⟩, ho, hc, n, hd⟩ := id hl
  obtain ⟨⟨cls2, dd2, data2, sl2⟩, ho2, hc2, n2, hd2⟩ := id hb
  simp only at hc hd hc2 hd2
  subst hc hd hc2 hd2
  exact richCompare_meets_room (op := .Lt) ⟨_, ho, rfl⟩ ⟨_, ho2, rfl⟩ PySem.F.slot_tuple_lt PySem.F.entry_tuple_lt (PySem.F.args_tuple_lt_2 _ _) (tuple_lt_strs l b items items2 n n2 dd dd2 sl sl2 ns ms hi hj)
    ⟨ho, ho2, show Value.bool (lexS ns ms) ≠ Value.notImplemented ∧ Q (.bool (lexS ns ms)) s from ⟨(fun x => nomatch x), h⟩⟩ hu
end
theorem strsAre_of : ∀ {ns : List Str} {us : List Value}, Vals (ns.map V.str) us → StrsAre us ns
  | [], _, .nil => .nil
  | c :: cs, _, .cons r t => by
    obtain ⟨k, rfl⟩ := r
    exact .cons c k (strsAre_of t)
def rLtS (K : PySem.W.Frag) : R2 := fun x y H Q => ∃ (a b : Addr) (ns ms : List Str), x = .ref a ∧ y = .ref b ∧ SqT K H a (ns.map V.str) ∧ SqT K H b (ms.map V.str) ∧ Q (.bl (lexS ns ms)) H
theorem op_ltS {X : Cx} (hu : X.A.units < cLine) : OpR X (compareOp .Lt) (rLtS X.K) := by
  intro pins s σ H x y v u Q I rx ry h
  obtain ⟨a, b, ns, ms, rfl, rfl, ha, hb, q⟩ := h
  cases rx
  cases ry
  obtain ⟨its, r1, p1, _⟩ := I.tuple ha
  obtain ⟨its2, r2, p2, _⟩ := I.tuple hb
  exact lt_tupStrs p1 p2 (by simpa using strsAre_of r1) (by simpa using strsAre_of r2) hu ⟨.bl (lexS ns ms), H, I, rfl, q⟩
end Vf

set_option Elab.async false
set_option linter.all false
set_option maxRecDepth 100000
set_option maxHeartbeats 4000000
namespace Vf
open PySem PySem.Spec PyProof.Rows L2 TL
/-! ### styles, pieces, shapes: the mathematics -/
theorem at_map {α β : Type} {f : α → β} {l : List α} {i : Nat} {y : β} (h : (l.map f)[i]? = some y) : ∃ x, l[i]? = some x ∧ f x = y := by
  rw [List.getElem?_map] at h
  cases e : l[i]? with
  | none => rw [e] at h; cases h
  | some x => rw [e] at h; exact ⟨x, rfl, Option.some.inj h⟩
theorem drop_y {α : Type} {l : List α} {i : Nat} {x : α} (h : l[i]? = some x) : l.drop i = x :: l.drop (i + 1) := by
  have ⟨h1, h2⟩ := List.getElem?_eq_some_iff.mp h
  rw [List.drop_eq_getElem_cons h1, h2]
theorem lt_s {n : Nat} (h : n < 100000) : n < sizeLine := Nat.lt_of_lt_of_le h (by decide)
def sg1 (c : Nat) : Str := ⟨#[c]⟩
def sgn (c : Nat) : V := sV [c]
def look {κ β : Type} [DecidableEq κ] (L : List (κ × β)) (k : κ) : Option β := (L.find? fun r => decide (r.1 = k)).map (·.2)
theorem look_nil {κ β : Type} [DecidableEq κ] (k : κ) : look ([] : List (κ × β)) k = none := rfl
theorem look_hit {κ β : Type} [DecidableEq κ] {r : κ × β} {L : List (κ × β)} : look (r :: L) r.1 = some r.2 := by
  unfold look
  rw [List.find?_cons_of_pos (by simp)]; rfl
theorem look_miss {κ β : Type} [DecidableEq κ] {r : κ × β} {L : List (κ × β)} {k : κ} (h : r.1 ≠ k) : look (r :: L) k = look L k := by
  unfold look
  rw [List.find?_cons_of_neg (by simpa using h)]
theorem look_none {κ β : Type} [DecidableEq κ] {L : List (κ × β)} {k : κ} (h : ∀ r ∈ L, r.1 ≠ k) : look L k = none := by
  induction L with
  | nil => rfl
  | cons r L ih => rw [look_miss (h r List.mem_cons_self)]; exact ih fun x hx => h x (List.mem_cons_of_mem _ hx)
theorem look_mem {κ β : Type} [DecidableEq κ] {L : List (κ × β)} {k : κ} {x : β} (h : look L k = some x) : (k, x) ∈ L := by
  induction L with
  | nil => cases h
  | cons r L ih =>
    by_cases e : r.1 = k
    · subst e
      rw [look_hit] at h
      have : r.2 = x := Option.some.inj h
      subst this
      exact List.mem_cons_self
    · rw [look_miss e] at h
      exact List.mem_cons_of_mem _ (ih h)
theorem look_map {κ κ' β β' : Type} [DecidableEq κ] [DecidableEq κ'] {f : κ → κ'} {g : β → β'} (hf : ∀ a b, f a = f b → a = b) (L : List (κ × β)) (k : κ) : look (L.map fun r => (f r.1, g r.2)) (f k) = (look L k).map g := by
  induction L with
  | nil => rfl
  | cons r L ih =>
    by_cases e : r.1 = k
    · subst e
      rw [look_hit, List.map_cons]
      exact look_hit (r := (f r.1, g r.2))
    · rw [look_miss e, List.map_cons, look_miss (r := (f r.1, g r.2)) (fun z => e (hf _ _ z)), ih]
theorem look_at {κ β : Type} [DecidableEq κ] {L : List (κ × β)} {i : Nat} {r : κ × β} (h : L[i]? = some r) (hb : ∀ (j : Nat) q, j < i → L[j]? = some q → q.1 ≠ r.1) : look L r.1 = some r.2 := by
  induction L generalizing i with
  | nil => simp at h
  | cons q L ih =>
    cases i with
    | zero =>
      have h : q = r := by simpa using h
      subst h
      exact look_hit
    | succ i =>
      rw [look_miss (hb 0 q (Nat.succ_pos _) rfl)]
      exact ih (i := i) (by simpa using h) fun j q hj hq => hb (j + 1) q (Nat.succ_lt_succ hj) (by simpa using hq)
def lexN : List Nat → List Nat → Bool
  | [], [] => false
  | [], _ :: _ => true
  | _ :: _, [] => false
  | x :: xs, y :: ys => if x = y then lexN xs ys else decide (x < y)
theorem lexN_irr : ∀ k : List Nat, lexN k k = false
  | [] => rfl
  | x :: xs => by
    show (if x = x then _ else _) = false
    rw [if_pos rfl]; exact lexN_irr xs
theorem lexN_ne {a b : List Nat} (h : lexN a b = true) : a ≠ b := fun e => by rw [e, lexN_irr] at h; cases h
theorem lexN_trans : ∀ {a b c : List Nat}, lexN a b = true → lexN b c = true → lexN a c = true
  | [], [], _, h, _ => by cases h
  | [], _ :: _, [], _, h => by cases h
  | [], _ :: _, _ :: _, _, _ => rfl
  | _ :: _, [], _, h, _ => by cases h
  | _ :: _, _ :: _, [], _, h => by cases h
  | x :: xs, y :: ys, z :: zs, h1, h2 => by
    have h1 : (if x = y then lexN xs ys else decide (x < y)) = true := h1
    have h2 : (if y = z then lexN ys zs else decide (y < z)) = true := h2
    show (if x = z then lexN xs zs else decide (x < z)) = true
    by_cases e1 : x = y
    · rw [if_pos e1] at h1
      by_cases e2 : y = z
      · rw [if_pos e2] at h2
        rw [if_pos (e1.trans e2)]; exact lexN_trans h1 h2
      · rw [if_neg e2] at h2
        rw [if_neg (fun e => e2 (e1.symm.trans e)), e1]; exact h2
    · rw [if_neg e1] at h1
      have l1 := of_decide_eq_true h1
      by_cases e2 : y = z
      · rw [if_neg (fun e => e1 (e.trans e2.symm)), ← e2]; exact h1
      · rw [if_neg e2] at h2
        have l2 := of_decide_eq_true h2
        rw [if_neg (by omega)]
        exact decide_eq_true (by omega)
theorem lexN_total : ∀ {a b : List Nat}, a ≠ b → lexN a b = true ∨ lexN b a = true
  | [], [], h => absurd rfl h
  | [], _ :: _, _ => .inl rfl
  | _ :: _, [], _ => .inr rfl
  | x :: xs, y :: ys, h => by
    show (if x = y then lexN xs ys else decide (x < y)) = true ∨ (if y = x then lexN ys xs else decide (y < x)) = true
    by_cases e : x = y
    · rw [if_pos e, if_pos e.symm]
      exact lexN_total fun z => h (by rw [e, z])
    · rw [if_neg e, if_neg (Ne.symm e)]
      rcases Nat.lt_trichotomy x y with l | l | l
      · exact .inl (decide_eq_true l)
      · exact absurd l e
      · exact .inr (decide_eq_true l)
theorem lexS_map : ∀ a b : List Nat, lexS (a.map sg1) (b.map sg1) = lexN a b
  | [], [] => rfl
  | [], _ :: _ => rfl
  | _ :: _, [] => rfl
  | x :: xs, y :: ys => by
    show (if sg1 x = sg1 y then lexS (xs.map sg1) (ys.map sg1) else decide ((sg1 x).cps.toList < (sg1 y).cps.toList)) = if x = y then lexN xs ys else decide (x < y)
    have e1 : sg1 x = sg1 y ↔ x = y := ⟨fun z => by have := congrArg (fun t : Str => t.cps.toList) z; exact (List.cons.inj this).1, fun z => by rw [z]⟩
    by_cases e : x = y
    · rw [if_pos (e1.mpr e), if_pos e, lexS_map xs ys]
    · rw [if_neg (fun z => e (e1.mp z)), if_neg e]
      refine decide_eq_decide.mpr ?_
      show [x] < [y] ↔ x < y
      rw [List.cons_lt_cons_iff]
      constructor
      · rintro (h | ⟨_, h⟩)
        · exact h
        · exact absurd h (List.lt_irrefl _)
      · exact fun h => .inl h
/-- rows by strictly ascending keys -/
def Asc {β : Type} (L : List (List Nat × β)) : Prop := L.Pairwise fun p q => lexN p.1 q.1 = true
theorem Asc.lt {β : Type} {L : List (List Nat × β)} (h : Asc L) {i j : Nat} {p q : List Nat × β} (hp : L[i]? = some p) (hq : L[j]? = some q) (hij : i < j) : lexN p.1 q.1 = true := by
  obtain ⟨p1, e1⟩ := List.getElem?_eq_some_iff.mp hp
  obtain ⟨p2, e2⟩ := List.getElem?_eq_some_iff.mp hq
  have := List.pairwise_iff_getElem.mp h i j p1 p2 hij
  rw [e1, e2] at this
  exact this
structure Sty where
  m : Int
  dp : Int
  cl : Int
  W : List (Nat × Nat)
  C : List ((Nat × Nat) × Nat)
  B : List ((Nat × Nat) × Nat)
def natV (w : Nat) : V := .int (w : Int)
def rowsW (W : List (Nat × Nat)) : List (List Nat × V) := W.map fun r => ([r.1], natV r.2)
def rows2 (C : List ((Nat × Nat) × Nat)) : List (List Nat × V) := C.map fun r => ([r.1.1, r.1.2], natV r.2)
def wOf (W : List (Nat × Nat)) (c : Nat) : Nat := (look W c).getD 1
def cutOf (C : List ((Nat × Nat) × Nat)) (a b : Nat) : Nat := (look C (a, b)).getD 0
structure StyOk (S : Sty) : Prop where
  sw : Asc (rowsW S.W)
  sc : Asc (rows2 S.C)
  sb : Asc (rows2 S.B)
  lw : S.W.length ≤ 100
  lc : S.C.length ≤ 100
  lb : S.B.length ≤ 100
  w3 : ∀ r ∈ S.W, 1 ≤ r.2 ∧ r.2 ≤ 3
  uw : ∀ r ∈ rowsW S.W, ∀ c ∈ r.1, c < 1114112
  uc : ∀ r ∈ rows2 S.C, ∀ c ∈ r.1, c < 1114112
  ub : ∀ r ∈ rows2 S.B, ∀ c ∈ r.1, c < 1114112
  cw : ∀ r ∈ S.C, r.2 < wOf S.W r.1.1
theorem look_rowsW (W : List (Nat × Nat)) (c : Nat) : look (rowsW W) [c] = (look W c).map natV :=
  look_map (f := fun c : Nat => [c]) (g := natV) (fun a b e => (List.cons.inj e).1) W c
theorem look_rows2 (C : List ((Nat × Nat) × Nat)) (a b : Nat) : look (rows2 C) [a, b] = (look C (a, b)).map natV :=
  look_map (f := fun k : Nat × Nat => [k.1, k.2]) (g := natV) (fun a b e => by
    have e1 := List.cons.inj e
    have e2 := List.cons.inj e1.2
    exact Prod.ext e1.1 e2.1) C (a, b)
theorem wOf_bd {S : Sty} (h : StyOk S) (c : Nat) : 1 ≤ wOf S.W c ∧ wOf S.W c ≤ 3 := by
  unfold wOf
  cases e : look S.W c with
  | none => exact ⟨Nat.le_refl _, by decide⟩
  | some w => exact h.w3 _ (look_mem e)
theorem cut_lt {S : Sty} (h : StyOk S) (a b : Nat) : cutOf S.C a b < wOf S.W a := by
  unfold cutOf
  cases e : look S.C (a, b) with
  | none => exact (wOf_bd h a).1
  | some w => exact h.cw _ (look_mem e)
/-- the width of the sign at k in a piece that ends ahead of j -/
def wAt (S : Sty) (zs : List Nat) (j k : Nat) : Nat := if k + 1 < j then wOf S.W (zs.getD k 0) - cutOf S.C (zs.getD k 0) (zs.getD (k + 1) 0) else wOf S.W (zs.getD k 0)
theorem wAt_bd {S : Sty} (h : StyOk S) (zs : List Nat) (j k : Nat) : 1 ≤ wAt S zs j k ∧ wAt S zs j k ≤ 3 := by
  unfold wAt
  have a := wOf_bd h (zs.getD k 0)
  have b := cut_lt h (zs.getD k 0) (zs.getD (k + 1) 0)
  by_cases c : k + 1 < j
  · rw [if_pos c]; omega
  · rw [if_neg c]; exact a
def pieceW (S : Sty) (zs : List Nat) (i j : Nat) : Nat := ((List.range' i (j - i)).map (wAt S zs j)).sum + if j < zs.length then 1 else 0
def pieceN (S : Sty) (zs : List Nat) (i j : Nat) : List Nat := (List.range' i (j - i)).flatMap (fun k => zs.getD k 0 :: List.replicate (wAt S zs j k - 1) 95) ++ if j < zs.length then [45] else []
theorem pieceN_len {S : Sty} (h : StyOk S) (zs : List Nat) (i j : Nat) : (pieceN S zs i j).length = pieceW S zs i j := by
  unfold pieceN pieceW
  rw [List.length_append]
  congr 1
  · induction (List.range' i (j - i)) with
    | nil => rfl
    | cons k r ih =>
      rw [List.flatMap_cons, List.length_append, ih, List.map_cons, List.sum_cons, List.length_cons, List.length_replicate]
      have := (wAt_bd h zs j k).1
      omega
  · by_cases c : j < zs.length
    · rw [if_pos c, if_pos c]; rfl
    · rw [if_neg c, if_neg c]; rfl
/-- what stands ahead of a place, as parts of a longer piece -/
def ahead (S : Sty) (zs : List Nat) : Nat → Int
  | 0 => 0
  | t + 1 => ahead S zs t + ((wOf S.W (zs.getD t 0) : Int) - (cutOf S.C (zs.getD t 0) (zs.getD (t + 1) 0) : Int))
theorem inner_sum {S : Sty} (h : StyOk S) (zs : List Nat) (i j : Nat) : ∀ n, i + n < j → ((((List.range' i n).map (wAt S zs j)).sum : Nat) : Int) = ahead S zs (i + n) - ahead S zs i
  | 0, _ => by rw [Nat.add_zero]; show (0 : Int) = _; omega
  | n + 1, hn => by
    have ih := inner_sum h zs i j n (by omega)
    rw [List.range'_1_concat, List.map_append, List.sum_append]
    have e : (wAt S zs j (i + n) : Int) = (wOf S.W (zs.getD (i + n) 0) : Int) - (cutOf S.C (zs.getD (i + n) 0) (zs.getD (i + n + 1) 0) : Int) := by
      unfold wAt
      rw [if_pos (by omega)]
      have := cut_lt h (zs.getD (i + n) 0) (zs.getD (i + n + 1) 0)
      omega
    have e2 : ahead S zs (i + (n + 1)) = ahead S zs (i + n) + ((wOf S.W (zs.getD (i + n) 0) : Int) - (cutOf S.C (zs.getD (i + n) 0) (zs.getD (i + n + 1) 0) : Int)) := rfl
    rw [e2, ← e]
    have e3 : (List.map (wAt S zs j) [i + n]).sum = wAt S zs j (i + n) := by simp
    rw [e3, Int.natCast_add, ih]
    omega
theorem pieceW_eq {S : Sty} (h : StyOk S) (zs : List Nat) {i j : Nat} (hij : i < j) : ((pieceW S zs i j : Nat) : Int) = ahead S zs (j - 1) - ahead S zs i + (wOf S.W (zs.getD (j - 1) 0) : Int) + (if j < zs.length then 1 else 0) := by
  unfold pieceW
  have e : j - i = (j - 1 - i) + 1 := by omega
  rw [e, List.range'_1_concat, List.map_append, List.sum_append]
  have e0 : i + (j - 1 - i) = j - 1 := by omega
  rw [e0]
  have e3 : (List.map (wAt S zs j) [j - 1]).sum = wAt S zs j (j - 1) := by simp
  have e4 : wAt S zs j (j - 1) = wOf S.W (zs.getD (j - 1) 0) := by
    unfold wAt; rw [if_neg (by omega)]
  have ih := inner_sum h zs i j (j - 1 - i) (by omega)
  rw [e0] at ih
  rw [e3, e4, Int.natCast_add, Int.natCast_add, ih]
  by_cases c : j < zs.length
  · rw [if_pos c, if_pos c]; rfl
  · rw [if_neg c, if_neg c]; rfl
/-- a piece between two partings, from both pieces beside and the whole -/
theorem pieceW_mid {S : Sty} (h : StyOk S) {zs : List Nat} {i j : Nat} (hij : i < j) (hj : j < zs.length) (hi : 0 < i) :
    ((pieceW S zs i zs.length : Nat) : Int) + ((pieceW S zs 0 j : Nat) : Int) - ((pieceW S zs 0 zs.length : Nat) : Int) = ((pieceW S zs i j : Nat) : Int) := by
  rw [pieceW_eq h zs (show i < zs.length by omega), pieceW_eq h zs (show 0 < j by omega), pieceW_eq h zs (show 0 < zs.length by omega), pieceW_eq h zs hij, if_neg (Nat.lt_irrefl _), if_pos hj]
  show _ + (_ - (0 : Int) + _ + _) - (_ - (0 : Int) + _ + _) = _
  omega
/-- the places at which a word can be parted, with their prices -/
def places (S : Sty) (zs : List Nat) : List (Nat × Nat) := (List.range' 2 (zs.length - 3)).filterMap fun k => (look S.B (zs.getD (k - 1) 0, zs.getD k 0)).map fun p => (k, p)
theorem places_bd {S : Sty} {zs : List Nat} {r : Nat × Nat} (h : r ∈ places S zs) : 2 ≤ r.1 ∧ r.1 + 1 < zs.length := by
  obtain ⟨k, hk, e⟩ := List.mem_filterMap.mp h
  rw [List.mem_range'_1] at hk
  cases el : look S.B (zs.getD (k - 1) 0, zs.getD k 0) with
  | none => rw [el] at e; cases e
  | some p =>
    rw [el] at e
    have e : (k, p) = r := Option.some.inj e
    subst e
    show 2 ≤ k ∧ k + 1 < zs.length
    omega
theorem places_asc (S : Sty) (zs : List Nat) : (places S zs).Pairwise fun p q => p.1 < q.1 := by
  unfold places
  refine List.Pairwise.filterMap _ ?_ (List.pairwise_lt_range' ..)
  intro a b hab p hp q hq
  cases ea : look S.B (zs.getD (a - 1) 0, zs.getD a 0) with
  | none => rw [ea] at hp; cases hp
  | some x =>
    cases eb : look S.B (zs.getD (b - 1) 0, zs.getD b 0) with
    | none => rw [eb] at hq; cases hq
    | some y =>
      rw [ea] at hp
      rw [eb] at hq
      have hp : (a, x) = p := Option.some.inj hp
      have hq : (b, y) = q := Option.some.inj hq
      subst hp hq
      exact hab
end Vf

set_option Elab.async false
set_option linter.all false
set_option maxRecDepth 100000
set_option maxHeartbeats 4000000
namespace Vf
open PySem PySem.Spec PyProof.Rows L2 TL
/-! ### styles as they stand; the program -/
def rowV (r : List Nat × V) : List V := r.1.map sgn ++ [r.2]
def RowsV (H : Hp) (v : V) (L : List (List Nat × V)) : Prop := ∃ (a : Addr) (vs : List V), v = .ref a ∧ H a = some (.tup vs) ∧ vs.length = L.length ∧ ∀ (i : Nat) (r : List Nat × V), L[i]? = some r → ∃ b : Addr, vs[i]? = some (.ref b) ∧ H b = some (.tup (rowV r))
def StyV (H : Hp) (v : V) (S : Sty) : Prop := ∃ (a : Addr) (wv cv bv pv : V), v = .ref a ∧ H a = some (.tup [.int S.m, .int S.dp, .int S.cl, wv, cv, bv, pv]) ∧ RowsV H wv (rowsW S.W) ∧ RowsV H cv (rows2 S.C) ∧ RowsV H bv (rows2 S.B)
theorem RowsV.mono {H H' : Hp} {v : V} {L : List (List Nat × V)} (h : RowsV H v L) (k : ∀ a xs, H a = some (.tup xs) → H' a = some (.tup xs)) : RowsV H' v L := by
  obtain ⟨a, vs, e, q, l, r⟩ := h
  exact ⟨a, vs, e, k _ _ q, l, fun i x hx => by
    obtain ⟨b, e1, q1⟩ := r i x hx
    exact ⟨b, e1, k _ _ q1⟩⟩
theorem StyV.mono {H H' : Hp} {v : V} {S : Sty} (h : StyV H v S) (k : ∀ a xs, H a = some (.tup xs) → H' a = some (.tup xs)) : StyV H' v S := by
  obtain ⟨a, wv, cv, bv, pv, e, q, h1, h2, h3⟩ := h
  exact ⟨a, wv, cv, bv, pv, e, k _ _ q, h1.mono k, h2.mono k, h3.mono k⟩
theorem same_tup {H H' : Hp} (h : Same H H') : ∀ a xs, H a = some (.tup xs) → H' a = some (.tup xs) := fun a xs e => h _ _ e
theorem DI.neT {d l a : Addr} {H : Hp} {xs : List V} (h : DI d l H) (e : H a = some (.tup xs)) : a ≠ d := by
  obtain ⟨_, _, i, b, s, c, _, h2⟩ := h
  intro z
  rw [z, h2] at e
  cases e
theorem kp_tup {d l : Addr} {H H' : Hp} (hD : DI d l H) (h : Kp d H H') : ∀ a xs, H a = some (.tup xs) → H' a = some (.tup xs) := fun a xs e => h _ _ (hD.neT e) e
theorem cut_last (l : List V) (x : V) : cutV (l ++ [x]) none (some (-1)) = l := by
  unfold cutV
  rw [HT.sIx_none]
  have e : HT.sIx (l ++ [x]).length (l ++ [x]).length (some (-1)) = l.length := by
    have e0 : ∀ n d : Nat, HT.sIx n d (some (-1)) = ((-1 : Int) + (n : Int)).toNat := fun n d => by
      unfold HT.sIx
      simp
    rw [e0, List.length_append]
    show ((-1 : Int) + ((l.length + 1 : Nat) : Int)).toNat = _
    omega
  rw [e, List.drop_zero, Nat.sub_zero, List.take_append_of_le_length (Nat.le_refl _), List.take_length]
theorem cut_part (l : List V) (x : V) : ¬ (HT.sIx (l ++ [x]).length 0 none = 0 ∧ HT.sIx (l ++ [x]).length (l ++ [x]).length (some (-1)) = (l ++ [x]).length) := by
  intro h
  have e : HT.sIx (l ++ [x]).length (l ++ [x]).length (some (-1)) = l.length := by
    have e0 : ∀ n d : Nat, HT.sIx n d (some (-1)) = ((-1 : Int) + (n : Int)).toNat := fun n d => by
      unfold HT.sIx
      simp
    rw [e0, List.length_append]
    show ((-1 : Int) + ((l.length + 1 : Nat) : Int)).toNat = _
    omega
  have h2 := h.2
  rw [e, List.length_append] at h2
  have h2 : l.length = l.length + 1 := h2
  omega
theorem sgn_str (k : List Nat) : k.map sgn = (k.map sg1).map V.str := by rw [List.map_map]; rfl
def dat (k : List Nat) : PyData := .tuple (k.map fun c => .str (sg1 c))
theorem eqvAll_key : ∀ a b : List Nat, PyData.eqvAll (a.map fun c => PyData.str (sg1 c)) (b.map fun c => .str (sg1 c)) = decide (a = b)
  | [], [] => by simp [PyData.eqvAll]
  | [], _ :: _ => by simp [PyData.eqvAll]
  | _ :: _, [] => by simp [PyData.eqvAll]
  | x :: xs, y :: ys => by
    have e1 : sg1 x = sg1 y ↔ x = y := ⟨fun z => by have := congrArg (fun t : Str => t.cps.toList) z; exact (List.cons.inj this).1, fun z => by rw [z]⟩
    simp only [List.map_cons, PyData.eqvAll, PyData.eqv]
    rw [eqvAll_key xs ys]
    by_cases e : x = y
    · subst e
      simp
    · have : (sg1 x == sg1 y) = false := beq_eq_false_iff_ne.mpr fun z => e (e1.mp z)
      rw [this]
      simp [e]
theorem eqv_key (a b : List Nat) : PyData.eqv (dat a) (dat b) = decide (a = b) := by
  show PyData.eqv (.tuple _) (.tuple _) = _
  simp only [PyData.eqv]
  exact eqvAll_key a b
theorem key_lay : ∀ {k : List Nat}, (∀ c ∈ k, c < 1114112) → PyData.canLayAll0 (k.map fun c => PyData.str (sg1 c)) = true
  | [], _ => rfl
  | c :: k, h => by
    show (PyData.strOk (sg1 c) && PyData.canLayAll0 (k.map fun c => PyData.str (sg1 c))) = true
    have e : PyData.strOk (sg1 c) = true := by
      unfold PyData.strOk sg1
      rw [List.all_toArray]
      exact List.all_eq_true.mpr fun x hx => decide_eq_true (by rw [List.mem_singleton.mp hx]; exact h c List.mem_cons_self)
    rw [e, key_lay fun z hz => h z (List.mem_cons_of_mem _ hz)]
    rfl
theorem key_depth : ∀ k : List Nat, PyData.depthAll (k.map fun c => PyData.str (sg1 c)) = 0
  | [] => rfl
  | c :: k => by
    show max 0 (PyData.depthAll (k.map fun c => PyData.str (sg1 c))) = 0
    rw [key_depth k]
    rfl
theorem shaped_key {k : List Nat} (h : ∀ c ∈ k, c < 1114112) : SeqAt.shaped (dat k) = true := by
  have h2 : PyData.depth (dat k) ≤ 64 := by
    show PyData.depthAll (k.map fun c => PyData.str (sg1 c)) + 1 ≤ 64
    rw [key_depth]
    decide
  show (PyData.canLay0 (dat k) && decide (PyData.depth (dat k) ≤ 64)) = true
  rw [Bool.and_eq_true]
  exact ⟨by unfold dat; simp only [PyData.canLay0]; exact key_lay h, decide_eq_true h2⟩
theorem dp_key {K : PySem.W.Frag} {H : Hp} {a : Addr} {k : List Nat} (e : H a = some (.tup (k.map sgn))) : Dp K H (.ref a) (dat k) := by
  refine .tup (SqT.of e) ?_
  clear e
  induction k with
  | nil => exact .nil
  | cons c r ih => exact .cons (.str (sg1 c)) ih
theorem hu0 {k : Nat} {A : Around} (r : Room k A) : A.units < cLine := by have := r.units; omega
theorem hu1 {k : Nat} {A : Around} (r : Room k A) : A.units + 1 < cLine := by have := r.units; omega
section
variable {P : Program} {w : World} {K : PySem.W.Frag} {mg : Str → Option Value} {base : Heap}
def spTold : Sp := fun vs H Q _ => ∃ (v o : V) (kb : Addr) (L : List (List Nat × V)) (key : List Nat), vs = [v, .ref kb, o] ∧ RowsV H v L ∧ Asc L ∧ L.length ≤ 1000 ∧ (∀ r ∈ L, ∀ c ∈ r.1, c < 1114112) ∧ (∀ c ∈ key, c < 1114112) ∧ H kb = some (.tup (key.map sgn)) ∧
  ∀ H', Same H H' → Q ((look L key).getD o) H'
theorem ok_told (T : Txt K mg) : FnOk P w K mg base CX0 1 T.a_told T.d_told ["rows", "key", "otherwise"] spTold := by
  refine T.D_told.F.ok sc_told (fun vs H Q E h => ?_) (fun cdv A outer s H vs Q E hr h => ?_)
  · obtain ⟨v, o, kb, L, key, rfl, _⟩ := h
    rfl
  · obtain ⟨v, o, kb, L, key, rfl, ⟨a, us, rfl, e, lu, hR⟩, hA, l1000, lk, k12, ek, q⟩ := h
    refine ⟨_, (pss_cons (ps_set (i := 3) sc_told.nd rfl (.inl rfl) pe_int)
      (pss_cons (ps_set (i := 4) sc_told.nd rfl (.inl rfl) (pe_callB call_len_seq (by rfl) T.n_len PySem.boot_len (pa_cons (pv 0) pa_nil)))
      (pss_cons (ps_while PassesOwn.never (pt_cmpR op_lt (pv 3) (pv 4) (nomark _)) (pss_cons (ps_set (i := 5) sc_told.nd rfl (.inl rfl) (pe_op op_fdivN (pe_op op_add (pv 3) (pv 4)) pe_int))
      (pss_one (ps_if (pt_cmpR (op_ltS (hu0 hr)) (pe_slice sl_tup (pe_ix ix_tup (pv 0) (pv 5) (fun _ _ => rfl)) po_none (po_some (pe_un un_neg pe_int))) (pv 1) (nomark _)) (pss_one (ps_set (i := 3) sc_told.nd rfl (.inl rfl) (pe_op op_add (pv 5) pe_int))) (pss_one (ps_set (i := 4) sc_told.nd rfl (.inl rfl) (pv 5)))))))
      (pss_cons (ps_if (PW.pt (pw_and (pt_cmpR op_lt (pv 3) (pe_callB call_len_seq (by rfl) T.n_len PySem.boot_len (pa_cons (pv 0) pa_nil)) (nomark _)) (pw_and1 (pt_cmpR (op_eqD (Room.units hr)) (pe_slice sl_tup (pe_ix ix_tup (pv 0) (pv 3) (fun _ _ => rfl)) po_none (po_some (pe_un un_neg pe_int))) (pv 1) (nomark _))))) (pss_one (ps_ret (pe_ix ix_tup (pe_ix ix_tup (pv 0) (pv 3) (fun _ _ => rfl)) (pe_un un_neg pe_int) (fun _ _ => rfl)))) pss_nil)
      (pss_one (ps_ret (pv 2))))))), ?_⟩
    refine ⟨_, rfl, a, us, rfl, .inr (SqT.of e), ?_⟩
    refine ⟨fun m σ' H' => Same H H' ∧ ∃ (lo hi : Nat) (x5 : Option V), m = hi - lo ∧ σ' = [some (.ref a), some (.ref kb), some o, some (.int (lo : Int)), some (.int (hi : Int)), x5] ∧ lo ≤ hi ∧ hi ≤ L.length ∧
      (∀ (i : Nat) r, i < lo → L[i]? = some r → lexN r.1 key = true) ∧ (∀ (i : Nat) r, hi ≤ i → L[i]? = some r → lexN r.1 key = false),
      ⟨L.length, Same.refl H, 0, L.length, none, rfl, by rw [lu]; rfl, Nat.zero_le _, Nat.le_refl _, fun i r h => absurd h (Nat.not_lt_zero _), fun i r h1 h2 => by
        have := (List.getElem?_eq_some_iff.mp h2).1
        omega⟩, fun m σ' H' hW => ?_⟩
    obtain ⟨k, lo, hi, x5, em, rfl, lh, hl, hlow, hhigh⟩ := hW
    refine ⟨_, rfl, _, rfl, _, _, rfl, rfl, _, rfl, ite2 (fun c => ?_) (fun c => ?_)⟩
    · have c := of_decide_eq_true c
      have clt : lo < hi := by omega
      have hm : (lo + hi) / 2 < L.length := by omega
      have gm : L[(lo + hi) / 2]? = some L[(lo + hi) / 2] := List.getElem?_eq_getElem hm
      obtain ⟨b, gb, eb⟩ := hR _ _ gm
      have em2 : ((lo : Int) + (hi : Int)).fdiv 2 = (((lo + hi) / 2 : Nat) : Int) := by
        rw [Int.fdiv_eq_ediv_of_nonneg _ (by decide)]
        omega
      refine ⟨fun σ'' H'' => Same H H'' ∧ ∃ (lo' hi' : Nat) (x5 : Option V), hi' - lo' < hi - lo ∧ σ'' = [some (.ref a), some (.ref kb), some o, some (.int (lo' : Int)), some (.int (hi' : Int)), x5] ∧ lo' ≤ hi' ∧ hi' ≤ L.length ∧
        (∀ (i : Nat) r, i < lo' → L[i]? = some r → lexN r.1 key = true) ∧ (∀ (i : Nat) r, hi' ≤ i → L[i]? = some r → lexN r.1 key = false), fun σ'' H'' hN => ?_, ?_⟩
      · obtain ⟨k2, lo', hi', x5', h1, h2, h3⟩ := hN
        exact ⟨hi' - lo', by omega, k2, lo', hi', x5', rfl, h2, h3⟩
      · refine ⟨_, rfl, _, rfl, _, _, rfl, rfl, _, _, rfl, rfl, ⟨by decide, by decide⟩, ?_⟩
        refine ⟨_, rfl, _, rfl, a, us, _, .ref b, rfl, rfl, SqT.of (k _ _ e), by rw [em2]; exact atI_nat gb, 1, rfl, -1, rfl, b, _, rfl, SqT.of (k _ _ eb), cut_part _ _, fun p np => ?_⟩
        have kp := same_upd (o := .tup (cutV (rowV L[(lo + hi) / 2]) none (some (-1)))) (Same.refl H') np
        refine ⟨_, rfl, p, kb, L[(lo + hi) / 2].1.map sg1, key.map sg1, rfl, rfl, SqT.of (by rw [upd_same, ← sgn_str]; exact congrArg (fun z => some (HO.tup z)) (cut_last _ _)), SqT.of (by rw [← sgn_str]; exact kp _ _ (k _ _ ek)), ?_⟩
        rw [lexS_map]
        refine ⟨_, rfl, ite2 (fun c2 => ?_) (fun c2 => ?_)⟩
        · refine ⟨_, rfl, _, _, rfl, rfl, k.trans kp, (lo + hi) / 2 + 1, hi, some (V.int (((lo : Int) + (hi : Int)).fdiv 2)), by omega, by
            show [some (V.ref a), some (V.ref kb), some o, some (V.int (((lo : Int) + (hi : Int)).fdiv 2 + 1)), some (V.int (hi : Int)), some (V.int (((lo : Int) + (hi : Int)).fdiv 2))] = _
            rw [em2]; rfl, by omega, hl, fun i r hi2 hr2 => ?_, hhigh⟩
          by_cases z : i = (lo + hi) / 2
          · rw [z, gm] at hr2
            have := Option.some.inj hr2
            rw [← this]; exact c2
          · exact lexN_trans (hA.lt hr2 gm (by omega)) c2
        · have c3 : lexN L[(lo + hi) / 2].1 key = false := by
            cases h : lexN L[(lo + hi) / 2].1 key with
            | true => exact absurd h c2
            | false => rfl
          refine ⟨_, rfl, k.trans kp, lo, (lo + hi) / 2, some (V.int (((lo : Int) + (hi : Int)).fdiv 2)), by omega, by
            show [some (V.ref a), some (V.ref kb), some o, some (V.int (lo : Int)), some (V.int (((lo : Int) + (hi : Int)).fdiv 2)), some (V.int (((lo : Int) + (hi : Int)).fdiv 2))] = _
            rw [em2], by omega, by omega, hlow, fun i r hi2 hr2 => ?_⟩
          by_cases z : i = (lo + hi) / 2
          · rw [z, gm] at hr2
            have := Option.some.inj hr2
            rw [← this]; exact c3
          · have l1 := hA.lt gm hr2 (by omega)
            cases h : lexN r.1 key with
            | true => rw [lexN_trans l1 h] at c3; cases c3
            | false => rfl
    · have ceq : lo = hi := by
        have : ¬ ((lo : Int) < (hi : Int)) := fun z => c (decide_eq_true z)
        omega
      subst ceq
      have hx : ∀ (i : Nat) r, lo < i → L[i]? = some r → r.1 ≠ key := fun i r hi2 hr2 z => by
        have h0 : lo < L.length := by have := (List.getElem?_eq_some_iff.mp hr2).1; omega
        have g0 : L[lo]? = some L[lo] := List.getElem?_eq_getElem h0
        have l1 := hA.lt g0 hr2 hi2
        have l2 := hhigh lo _ (Nat.le_refl _) g0
        rw [z, l2] at l1; cases l1
      refine ⟨_, rfl, _, rfl, a, us, rfl, .inr (SqT.of (k _ _ e)), _, _, rfl, rfl, decide (lo < L.length), ?_, ?_⟩
      · rw [lu]
        by_cases z : lo < L.length
        · rw [decide_eq_true z]; exact bl_of (decide_eq_true (show (lo : Int) < (L.length : Int) by omega))
        · rw [decide_eq_false z]; exact bl_of (decide_eq_false (show ¬ (lo : Int) < (L.length : Int) by omega))
      by_cases h0 : lo < L.length
      · rw [decide_eq_true h0]
        have g0 : L[lo]? = some L[lo] := List.getElem?_eq_getElem h0
        obtain ⟨b, gb, eb⟩ := hR _ _ g0
        refine ⟨_, rfl, _, rfl, a, us, _, .ref b, rfl, rfl, SqT.of (k _ _ e), atI_nat gb, 1, rfl, -1, rfl, b, _, rfl, SqT.of (k _ _ eb), cut_part _ _, fun p np => ?_⟩
        have kp := same_upd (o := .tup (cutV (rowV L[lo]) none (some (-1)))) (Same.refl H') np
        have ep : upd H' p (.tup (cutV (rowV L[lo]) none (some (-1)))) p = some (.tup (L[lo].1.map sgn)) := by rw [upd_same]; exact congrArg (fun z => some (HO.tup z)) (cut_last _ _)
        refine ⟨_, rfl, dat L[lo].1, dat key, dp_key ep, dp_key (kp _ _ (k _ _ ek)), shaped_key (lk _ (List.getElem_mem h0)), shaped_key k12, ?_⟩
        rw [eqv_key]
        by_cases z : L[lo].1 = key
        · refine ⟨true, by rw [decide_eq_true z], ?_⟩
          have ek2 : look L key = some L[lo].2 := by
            rw [← z]
            exact look_at g0 fun j r hj hr2 => fun y => lexN_ne (hlow j r hj hr2) (y.trans z)
          have qq := q _ (k.trans kp)
          rw [ek2] at qq
          exact ⟨_, rfl, _, rfl, a, us, _, .ref b, rfl, rfl, SqT.of (kp _ _ (k _ _ e)), atI_nat gb, 1, rfl, b, _, _, _, rfl, rfl, SqT.of (kp _ _ (k _ _ eb)), atI_last _ _, qq⟩
        · refine ⟨false, by rw [decide_eq_false z], ?_⟩
          have ek2 : look L key = none := look_none fun r hr2 => by
            obtain ⟨i, hi2⟩ := List.mem_iff_getElem?.mp hr2
            rcases Nat.lt_trichotomy i lo with y | y | y
            · exact lexN_ne (hlow i r y hi2)
            · rw [y, g0] at hi2
              have := Option.some.inj hi2
              rw [← this]; exact z
            · exact hx i r y hi2
          have qq := q _ (k.trans kp)
          rw [ek2] at qq
          exact ⟨_, rfl, qq⟩
      · rw [decide_eq_false h0]
        have ek2 : look L key = none := look_none fun r hr2 => by
          obtain ⟨i, hi2⟩ := List.mem_iff_getElem?.mp hr2
          have := (List.getElem?_eq_some_iff.mp hi2).1
          exact lexN_ne (hlow i r (by omega) hi2)
        have qq := q _ k
        rw [ek2] at qq
        exact ⟨_, rfl, qq⟩
end
end Vf

set_option Elab.async false
set_option linter.all false
set_option maxRecDepth 100000
set_option maxHeartbeats 4000000
namespace Vf
open PySem PySem.Spec PyProof.Rows L2 TL
def prV : Option Nat → V
  | none => .non
  | some p => natV p
theorem look_w (W : List (Nat × Nat)) (c : Nat) : (look (rowsW W) [c]).getD (.int 1) = natV (wOf W c) := by
  rw [look_rowsW]
  unfold wOf
  cases look W c <;> rfl
theorem look_c (C : List ((Nat × Nat) × Nat)) (a b : Nat) : (look (rows2 C) [a, b]).getD (.int 0) = natV (cutOf C a b) := by
  rw [look_rows2]
  unfold cutOf
  cases look C (a, b) <;> rfl
theorem look_b (C : List ((Nat × Nat) × Nat)) (a b : Nat) : (look (rows2 C) [a, b]).getD .non = prV (look C (a, b)) := by
  rw [look_rows2]
  cases look C (a, b) <;> rfl
theorem len_rW (W : List (Nat × Nat)) : (rowsW W).length = W.length := List.length_map ..
theorem len_r2 (W : List ((Nat × Nat) × Nat)) : (rows2 W).length = W.length := List.length_map ..
section
variable {P : Program} {w : World} {K : PySem.W.Frag} {mg : Str → Option Value} {base : Heap}
def spWidthOf : Sp := fun vs H Q _ => ∃ (v : V) (S : Sty) (c : Nat), vs = [v, sgn c] ∧ StyV H v S ∧ StyOk S ∧ c < 1114112 ∧ ∀ H', Same H H' → Q (natV (wOf S.W c)) H'
def spCutOf : Sp := fun vs H Q _ => ∃ (v : V) (S : Sty) (c d : Nat), vs = [v, sgn c, sgn d] ∧ StyV H v S ∧ StyOk S ∧ c < 1114112 ∧ d < 1114112 ∧ ∀ H', Same H H' → Q (natV (cutOf S.C c d)) H'
def spPriceOf : Sp := fun vs H Q _ => ∃ (v : V) (S : Sty) (c d : Nat), vs = [v, sgn c, sgn d] ∧ StyV H v S ∧ StyOk S ∧ c < 1114112 ∧ d < 1114112 ∧ ∀ H', Same H H' → Q (prV (look S.B (c, d))) H'
theorem ok_width_of (T : Txt K mg) : FnOk P w K mg base CX0 2 T.a_width_of T.d_width_of ["style", "sign"] spWidthOf := by
  have G_told : FnOk P w K mg base CX0 1 T.a_told T.d_told ["rows", "key", "otherwise"] spTold := ok_told T
  refine T.D_width_of.F.ok sc_width_of (fun vs H Q E h => ?_) (fun cdv A outer s H vs Q E hr h => ?_)
  · obtain ⟨v, S, c, rfl, _⟩ := h
    rfl
  · obtain ⟨v, S, c, rfl, ⟨a, wv, cv, bv, pv_, rfl, e, h1, h2, h3⟩, ok, hc, q⟩ := h
    refine ⟨_, (pss_one (ps_ret (pe_call G_told (hr.mono (by decide)) (by rfl) T.D_told.G T.D_told.F.kp T.D_told.B .nil pass0 (pa_cons (pe_ix ix_tup (pv 0) pe_int (fun _ _ => rfl)) (pa_cons (pe_tup (pa_cons (pv 1) pa_nil)) (pa_cons pe_int pa_nil)))))), ?_⟩
    refine ⟨_, rfl, a, _, _, wv, rfl, rfl, SqT.of e, rfl, _, rfl, Nat.le_of_lt (lt_s (by show _ < 100000; simp)), fun p np => ?_⟩
    have kp := same_upd (o := .tup [sgn c]) (Same.refl H) np
    refine ⟨wv, .int 1, p, rowsW S.W, [c], rfl, h1.mono (same_tup kp), ok.sw, by rw [len_rW]; have := ok.lw; omega, ok.uw, fun x hx => by rw [List.mem_singleton.mp hx]; exact hc, upd_same, fun H' k => ?_⟩
    rw [look_w]
    exact q _ (kp.trans k)
theorem ok_cut_of (T : Txt K mg) : FnOk P w K mg base CX0 2 T.a_cut_of T.d_cut_of ["style", "sign", "next_sign"] spCutOf := by
  have G_told : FnOk P w K mg base CX0 1 T.a_told T.d_told ["rows", "key", "otherwise"] spTold := ok_told T
  refine T.D_cut_of.F.ok sc_cut_of (fun vs H Q E h => ?_) (fun cdv A outer s H vs Q E hr h => ?_)
  · obtain ⟨v, S, c, d, rfl, _⟩ := h
    rfl
  · obtain ⟨v, S, c, d, rfl, ⟨a, wv, cv, bv, pv_, rfl, e, h1, h2, h3⟩, ok, hc, hd, q⟩ := h
    refine ⟨_, (pss_one (ps_ret (pe_call G_told (hr.mono (by decide)) (by rfl) T.D_told.G T.D_told.F.kp T.D_told.B .nil pass0 (pa_cons (pe_ix ix_tup (pv 0) pe_int (fun _ _ => rfl)) (pa_cons (pe_tup (pa_cons (pv 1) (pa_cons (pv 2) pa_nil))) (pa_cons pe_int pa_nil)))))), ?_⟩
    refine ⟨_, rfl, a, _, _, cv, rfl, rfl, SqT.of e, rfl, _, rfl, _, rfl, Nat.le_of_lt (lt_s (by show _ < 100000; simp)), fun p np => ?_⟩
    have kp := same_upd (o := .tup [sgn c, sgn d]) (Same.refl H) np
    refine ⟨cv, .int 0, p, rows2 S.C, [c, d], rfl, h2.mono (same_tup kp), ok.sc, by rw [len_r2]; have := ok.lc; omega, ok.uc, fun x hx => by
      rcases List.mem_cons.mp hx with z | z
      · rw [z]; exact hc
      · rw [List.mem_singleton.mp z]; exact hd, upd_same, fun H' k => ?_⟩
    rw [look_c]
    exact q _ (kp.trans k)
theorem ok_break_price (T : Txt K mg) : FnOk P w K mg base CX0 2 T.a_break_price T.d_break_price ["style", "sign", "next_sign"] spPriceOf := by
  have G_told : FnOk P w K mg base CX0 1 T.a_told T.d_told ["rows", "key", "otherwise"] spTold := ok_told T
  refine T.D_break_price.F.ok sc_break_price (fun vs H Q E h => ?_) (fun cdv A outer s H vs Q E hr h => ?_)
  · obtain ⟨v, S, c, d, rfl, _⟩ := h
    rfl
  · obtain ⟨v, S, c, d, rfl, ⟨a, wv, cv, bv, pv_, rfl, e, h1, h2, h3⟩, ok, hc, hd, q⟩ := h
    refine ⟨_, (pss_one (ps_ret (pe_call G_told (hr.mono (by decide)) (by rfl) T.D_told.G T.D_told.F.kp T.D_told.B .nil pass0 (pa_cons (pe_ix ix_tup (pv 0) pe_int (fun _ _ => rfl)) (pa_cons (pe_tup (pa_cons (pv 1) (pa_cons (pv 2) pa_nil))) (pa_cons pe_non pa_nil)))))), ?_⟩
    refine ⟨_, rfl, a, _, _, bv, rfl, rfl, SqT.of e, rfl, _, rfl, _, rfl, Nat.le_of_lt (lt_s (by show _ < 100000; simp)), fun p np => ?_⟩
    have kp := same_upd (o := .tup [sgn c, sgn d]) (Same.refl H) np
    refine ⟨bv, .non, p, rows2 S.B, [c, d], rfl, h3.mono (same_tup kp), ok.sb, by rw [len_r2]; have := ok.lb; omega, ok.ub, fun x hx => by
      rcases List.mem_cons.mp hx with z | z
      · rw [z]; exact hc
      · rw [List.mem_singleton.mp z]; exact hd, upd_same, fun H' k => ?_⟩
    rw [look_b]
    exact q _ (kp.trans k)
theorem bT {p : Prop} [Decidable p] (h : p) : V.bl (decide p) = V.bl true := by rw [decide_eq_true h]
theorem bF {p : Prop} [Decidable p] (h : ¬ p) : V.bl (decide p) = V.bl false := by rw [decide_eq_false h]
/-- a word -/
structure WdOk (zs : List Nat) : Prop where
  len : zs.length ≤ 16
  ok : ∀ c ∈ zs, c < 1114112
  nf : ∀ c ∈ zs, c ≠ 95
theorem WdOk.at {zs : List Nat} (h : WdOk zs) {k : Nat} (hk : k < zs.length) : (mkS zs).cps.toList[k]? = some (zs.getD k 0) ∧ zs.getD k 0 < 1114112 := by
  have e : zs[k]? = some (zs.getD k 0) := by rw [List.getD_eq_getElem?_getD, List.getElem?_eq_getElem hk]; rfl
  exact ⟨by rw [mkS_cps]; exact e, h.ok _ (List.mem_of_getElem? e)⟩
def spWidthAt : Sp := fun vs H Q _ => ∃ (v : V) (S : Sty) (zs : List Nat) (k j : Nat), vs = [v, sV zs, .int (k : Int), .int (j : Int)] ∧ StyV H v S ∧ StyOk S ∧ WdOk zs ∧ k < j ∧ j ≤ zs.length ∧ ∀ H', Same H H' → Q (natV (wAt S zs j k)) H'
theorem ok_width_at (T : Txt K mg) : FnOk P w K mg base CX0 3 T.a_width_at T.d_width_at ["style", "word", "at", "behind"] spWidthAt := by
  have G_width_of : FnOk P w K mg base CX0 2 T.a_width_of T.d_width_of ["style", "sign"] spWidthOf := ok_width_of T
  have G_cut_of : FnOk P w K mg base CX0 2 T.a_cut_of T.d_cut_of ["style", "sign", "next_sign"] spCutOf := ok_cut_of T
  refine T.D_width_at.F.ok sc_width_at (fun vs H Q E h => ?_) (fun cdv A outer s H vs Q E hr h => ?_)
  · obtain ⟨v, S, zs, k, j, rfl, _⟩ := h
    rfl
  · obtain ⟨v, S, zs, k, j, rfl, hv, ok, wd, hk, hj, q⟩ := h
    refine ⟨_, (pss_cons (ps_if (pt_cmpR op_lt (pe_op op_add (pv 2) pe_int) (pv 3) (nomark _)) (pss_one (ps_ret (pe_op op_sub (pe_call G_width_of (hr.mono (by decide)) (by rfl) T.D_width_of.G T.D_width_of.F.kp T.D_width_of.B .nil pass0 (pa_cons (pv 0) (pa_cons (pe_ix ix_str (pv 1) (pv 2) (fun _ _ => rfl)) pa_nil))) (pe_call G_cut_of (hr.mono (by decide)) (by rfl) T.D_cut_of.G T.D_cut_of.F.kp T.D_cut_of.B .nil pass0 (pa_cons (pv 0) (pa_cons (pe_ix ix_str (pv 1) (pv 2) (fun _ _ => rfl)) (pa_cons (pe_ix ix_str (pv 1) (pe_op op_add (pv 2) pe_int) (fun _ _ => rfl)) pa_nil))))))) pss_nil)
      (pss_one (ps_ret (pe_call G_width_of (hr.mono (by decide)) (by rfl) T.D_width_of.G T.D_width_of.F.kp T.D_width_of.B .nil pass0 (pa_cons (pv 0) (pa_cons (pe_ix ix_str (pv 1) (pv 2) (fun _ _ => rfl)) pa_nil)))))), ?_⟩
    have hb : (mkS zs).length ≤ sizeLine := by rw [mkS_len]; exact big_ok (by have := wd.len; omega)
    have g0 := wd.at (show k < zs.length by omega)
    refine ⟨_, rfl, _, _, rfl, rfl, _, rfl, _, _, rfl, rfl, _, rfl, ite2 (fun c => ?_) (fun c => ?_)⟩
    · have c := of_decide_eq_true c
      have c2 : k + 1 < j := by omega
      have g1 := wd.at (show k + 1 < zs.length by omega)
      refine ⟨_, rfl, _, rfl, _, rfl, mkS zs, (k : Int), zs.getD k 0, rfl, rfl, hb, atI_nat g0.1, v, S, _, rfl, hv, ok, g0.2, fun H1 k1 => ?_⟩
      refine ⟨_, rfl, _, rfl, _, rfl, mkS zs, (k : Int), zs.getD k 0, rfl, rfl, hb, atI_nat g0.1, _, rfl, _, rfl, _, _, rfl, rfl, mkS zs, (k : Int) + 1, zs.getD (k + 1) 0, rfl, rfl, hb, atI_nat (j := k + 1) g1.1, v, S, _, _, rfl, hv.mono (same_tup k1), ok, g0.2, g1.2, fun H2 k2 => ?_⟩
      refine ⟨_, _, rfl, rfl, ?_⟩
      have e : (wOf S.W (zs.getD k 0) : Int) - (cutOf S.C (zs.getD k 0) (zs.getD (k + 1) 0) : Int) = ((wAt S zs j k : Nat) : Int) := by
        unfold wAt
        rw [if_pos c2]
        have := cut_lt ok (zs.getD k 0) (zs.getD (k + 1) 0)
        omega
      show Q (V.int ((wOf S.W (zs.getD k 0) : Int) - (cutOf S.C (zs.getD k 0) (zs.getD (k + 1) 0) : Int))) H2
      rw [e]
      exact q _ (k1.trans k2)
    · have c2 : ¬ k + 1 < j := fun z => c (decide_eq_true (by omega))
      refine ⟨_, rfl, _, rfl, _, rfl, mkS zs, (k : Int), zs.getD k 0, rfl, rfl, hb, atI_nat g0.1, v, S, _, rfl, hv, ok, g0.2, fun H1 k1 => ?_⟩
      have e : wOf S.W (zs.getD k 0) = wAt S zs j k := by
        unfold wAt
        rw [if_neg c2]
      rw [e]
      exact q _ k1
def spPieceW : Sp := fun vs H Q _ => ∃ (v : V) (S : Sty) (zs : List Nat) (i j : Nat), vs = [v, sV zs, .int (i : Int), .int (j : Int)] ∧ StyV H v S ∧ StyOk S ∧ WdOk zs ∧ i ≤ j ∧ j ≤ zs.length ∧ ∀ H', Same H H' → Q (natV (pieceW S zs i j)) H'
theorem ok_u_piece_width (T : Txt K mg) : FnOk P w K mg base CX0 4 T.a_u_piece_width T.d_u_piece_width ["style", "word", "first", "behind"] spPieceW := by
  have G_width_at : FnOk P w K mg base CX0 3 T.a_width_at T.d_width_at ["style", "word", "at", "behind"] spWidthAt := ok_width_at T
  refine T.D_u_piece_width.F.ok sc_u_piece_width (fun vs H Q E h => ?_) (fun cdv A outer s H vs Q E hr h => ?_)
  · obtain ⟨v, S, zs, k, j, rfl, _⟩ := h
    rfl
  · obtain ⟨v, S, zs, i, j, rfl, hv, ok, wd, hk, hj, q⟩ := h
    refine ⟨_, (pss_cons (ps_set (i := 4) sc_u_piece_width.nd rfl (.inl rfl) (pe_callB (cr_sum (by rfl)) (by rfl) T.n_sum (by decide +kernel) (pa_cons (pe_lc (own := [("at", 5)]) (g := gName 5) (tt := tYes) rfl sc_u_piece_width.nd (pi_range2 (by rfl) T.n_range (pa_cons (pv 2) (pa_cons (pv 3) pa_nil))) (blkOk_by (own := [("at", 5)]) (N := ["style", "word", "first", "behind", "width", "at"]) (sc := defScope s_u_piece_width) (by decide +kernel)) (fun _ _ _ _ _ => (pg_name (i := 5) sc_u_piece_width.nd rfl (.inl rfl))) (fun _ _ _ _ _ => pts_nil) (fun _ _ _ _ _ => (pe_call G_width_at (hr.mono (by decide)) (by rfl) T.D_width_at.G T.D_width_at.F.kp T.D_width_at.B .nil pass0 (pa_cons (pv 0) (pa_cons (pv 1) (pa_cons (pv 5) (pa_cons (pv 3) pa_nil))))))) pa_nil)))
      (pss_one (ps_ret (pe_ifExp (pt_cmpR op_lt (pv 3) (pe_callB call_len_str (by rfl) T.n_len PySem.boot_len (pa_cons (pv 1) pa_nil)) (nomark _)) (pe_op op_add (pv 4) pe_int) (pv 4))))), ?_⟩
    have hb : (mkS zs).length ≤ sizeLine := by rw [mkS_len]; exact big_ok (by have := wd.len; omega)
    have hl := wd.len
    refine ⟨_, rfl, _, rfl, i, j, rfl, ⟨by omega, by omega, by omega, by omega⟩, fun D nD => ?_⟩
    have en : ((j : Int) - (i : Int)).toNat = j - i := by omega
    rw [en]
    refine lc_it walk_range (fun n H' => Same H H' ∧ H' D = some (.lst (((List.range' i n).map (wAt S zs j)).map natV))) ⟨same_upd (Same.refl H) nD, upd_same⟩ (fun _ _ _ _ => trivial) ?_ ?_
    · rintro n x H' H'' hn ⟨k1, e1⟩ ⟨rfl, rfl⟩
      refine ⟨rfl, _, rfl, _, rfl, _, rfl, _, rfl, v, S, zs, i + n, j, rfl, hv.mono (same_tup k1), ok, wd, by omega, hj, fun H2 k2 => ?_⟩
      refine ⟨_, k2 _ _ e1, ?_, same_mut (k1.trans k2) nD, ?_⟩
      · rw [List.length_map, List.length_map, List.length_range']; exact lt_s (by omega)
      · rw [upd_same, List.range'_1_concat, List.map_append, List.map_append]; rfl
    · rintro H' ⟨k1, e1⟩
      refine ⟨D, ((List.range' i (j - i)).map (wAt S zs j)).map (fun x : Nat => (x : Int)), rfl, SqL.of (by rw [e1]; simp only [List.map_map]; rfl), ?_⟩
      have es : (((List.range' i (j - i)).map (wAt S zs j)).map (fun x : Nat => (x : Int))).sum = ((((List.range' i (j - i)).map (wAt S zs j)).sum : Nat) : Int) := by
        generalize (List.range' i (j - i)).map (wAt S zs j) = l
        induction l with
        | nil => rfl
        | cons a r ih => rw [List.map_cons, List.sum_cons, List.sum_cons, ih, Int.natCast_add]
      rw [es]
      refine ⟨_, rfl, _, rfl, mkS zs, rfl, hb, _, _, rfl, rfl, _, rfl, ite2 (fun c => ?_) (fun c => ?_)⟩
      · have c := of_decide_eq_true c
        rw [mkS_len] at c
        have e : pieceW S zs i j = ((List.range' i (j - i)).map (wAt S zs j)).sum + 1 := by
          unfold pieceW
          rw [if_pos (by omega)]
        rw [e] at q
        exact ⟨_, rfl, _, _, rfl, rfl, q _ k1⟩
      · have e : pieceW S zs i j = ((List.range' i (j - i)).map (wAt S zs j)).sum := by
          unfold pieceW
          rw [if_neg fun z => c (decide_eq_true (by rw [mkS_len]; omega))]
          rfl
        rw [e] at q
        exact ⟨_, rfl, q _ k1⟩
end
end Vf

set_option Elab.async false
set_option linter.all false
set_option maxRecDepth 100000
set_option maxHeartbeats 4000000
namespace Vf
open PySem PySem.Spec PyProof.Rows L2 TL
/-! ### shapes -/
def RowAt (H : Hp) (S : Sty) (zs : List Nat) (x : V) (r : Nat × Nat) : Prop := ∃ b, x = .ref b ∧ H b = some (.tup [natV (pieceW S zs 0 r.1), natV (pieceW S zs r.1 zs.length), natV r.2])
def PartL (H : Hp) (S : Sty) (zs : List Nat) (vs : List V) (rs : List (Nat × Nat)) : Prop := vs.length = rs.length ∧ ∀ (i : Nat) (r : Nat × Nat), rs[i]? = some r → ∃ x, vs[i]? = some x ∧ RowAt H S zs x r
theorem PartL.same {H H' : Hp} {S : Sty} {zs : List Nat} {vs : List V} {rs : List (Nat × Nat)} (h : PartL H S zs vs rs) (k : ∀ a xs, H a = some (.tup xs) → H' a = some (.tup xs)) : PartL H' S zs vs rs := ⟨h.1, fun i r e => by
  obtain ⟨x, e1, b, e2, e3⟩ := h.2 i r e
  exact ⟨x, e1, b, e2, k _ _ e3⟩⟩
theorem PartL.snoc {H : Hp} {S : Sty} {zs : List Nat} {vs : List V} {rs : List (Nat × Nat)} {x : V} {r : Nat × Nat} (h : PartL H S zs vs rs) (hx : RowAt H S zs x r) : PartL H S zs (vs ++ [x]) (rs ++ [r]) := by
  refine ⟨by rw [List.length_append, List.length_append, h.1]; rfl, fun i q e => ?_⟩
  by_cases hi : i < rs.length
  · rw [List.getElem?_append_left hi] at e
    obtain ⟨y, e1, e2⟩ := h.2 i q e
    exact ⟨y, by rw [List.getElem?_append_left (by rw [h.1]; exact hi)]; exact e1, e2⟩
  · rw [List.getElem?_append_right (by omega)] at e
    have e0 : i - rs.length = 0 := by
      have := (List.getElem?_eq_some_iff.mp e).1
      simp at this
      exact this
    rw [e0] at e
    have e : r = q := Option.some.inj e
    subst e
    exact ⟨x, by rw [List.getElem?_append_right (by rw [h.1]; omega), h.1, e0]; rfl, hx⟩
def ShapeV (H : Hp) (v : V) (S : Sty) (zs : List Nat) : Prop := ∃ (a pa : Addr) (vs : List V), v = .ref a ∧ H a = some (.tup [natV (pieceW S zs 0 zs.length), .ref pa]) ∧ H pa = some (.tup vs) ∧ PartL H S zs vs (places S zs)
theorem ShapeV.mono {H H' : Hp} {v : V} {S : Sty} {zs : List Nat} (h : ShapeV H v S zs) (k : ∀ a xs, H a = some (.tup xs) → H' a = some (.tup xs)) : ShapeV H' v S zs := by
  obtain ⟨a, pa, vs, e, h1, h2, h3⟩ := h
  exact ⟨a, pa, vs, e, k _ _ h1, k _ _ h2, h3.same k⟩
def plN (S : Sty) (zs : List Nat) (n : Nat) : List (Nat × Nat) := (List.range' 2 n).filterMap fun k => (look S.B (zs.getD (k - 1) 0, zs.getD k 0)).map fun p => (k, p)
theorem plN_succ (S : Sty) (zs : List Nat) (n : Nat) : plN S zs (n + 1) = plN S zs n ++ ((look S.B (zs.getD (n + 1) 0, zs.getD (n + 2) 0)).map fun p => (n + 2, p)).toList := by
  unfold plN
  rw [List.range'_1_concat, List.filterMap_append]
  congr 1
  have e1 : 2 + n - 1 = n + 1 := by omega
  have e2 : 2 + n = n + 2 := by omega
  rw [e2]
  show List.filterMap _ [n + 2] = _
  cases h : look S.B (zs.getD (n + 1) 0, zs.getD (n + 2) 0) with
  | none => rw [List.filterMap_cons_none (by show Option.map _ (look S.B (zs.getD (n + 1) 0, zs.getD (n + 2) 0)) = none; rw [h]; rfl)]; rfl
  | some p => rw [List.filterMap_cons_some (b := (n + 2, p)) (by show Option.map _ (look S.B (zs.getD (n + 1) 0, zs.getD (n + 2) 0)) = _; rw [h]; rfl)]; rfl
def ends (S : Sty) (zs : List Nat) : List Nat := 0 :: ((places S zs).map (·.1) ++ [zs.length])
section
variable {P : Program} {w : World} {K : PySem.W.Frag} {mg : Str → Option Value} {base : Heap}
theorem places_look {S : Sty} {zs : List Nat} {r : Nat × Nat} (h : r ∈ places S zs) : look S.B (zs.getD (r.1 - 1) 0, zs.getD r.1 0) = some r.2 := by
  unfold places at h
  obtain ⟨k, hk, e⟩ := List.mem_filterMap.mp h
  cases hl : look S.B (zs.getD (k - 1) 0, zs.getD k 0) with
  | none => rw [hl] at e; cases e
  | some p =>
    rw [hl] at e
    have := Option.some.inj e
    subst this
    exact hl
theorem places_len (S : Sty) (zs : List Nat) : (places S zs).length ≤ zs.length := by
  unfold places
  have h1 := List.length_filterMap_le (fun k => (look S.B (zs.getD (k - 1) 0, zs.getD k 0)).map fun p => (k, p)) (List.range' 2 (zs.length - 3))
  rw [List.length_range'] at h1
  omega
theorem places_plN (S : Sty) (zs : List Nat) : places S zs = plN S zs (zs.length - 3) := rfl
def spPlacesOf : Sp := fun vs H Q _ => ∃ (v : V) (S : Sty) (zs : List Nat), vs = [v, sV zs] ∧ StyV H v S ∧ StyOk S ∧ WdOk zs ∧ ∀ H' D, Same H H' → H D = none → H' D = some (.lst ((places S zs).map fun r : Nat × Nat => natV r.1)) → Q (.ref D) H'
theorem ok_parting_places (T : Txt K mg) : FnOk P w K mg base CX0 3 T.a_parting_places T.d_parting_places ["style", "word"] spPlacesOf := by
  have G_break_price : FnOk P w K mg base CX0 2 T.a_break_price T.d_break_price ["style", "sign", "next_sign"] spPriceOf := ok_break_price T
  refine T.D_parting_places.F.ok sc_parting_places (fun vs H Q E h => ?_) (fun cdv A outer s H vs Q E hr h => ?_)
  · obtain ⟨v, S, zs, rfl, _⟩ := h
    rfl
  · obtain ⟨v, S, zs, rfl, hv, ok, wd, q⟩ := h
    refine ⟨_, (pss_one (ps_ret (pe_lc (own := [("at", 2)]) (g := gName 2) rfl sc_parting_places.nd (pi_range2 (by rfl) T.n_range (pa_cons pe_int (pa_cons (pe_op op_sub (pe_callB call_len_str (by rfl) T.n_len PySem.boot_len (pa_cons (pv 1) pa_nil)) pe_int) pa_nil))) (blkOk_by (own := [("at", 2)]) (N := ["style", "word", "at"]) (sc := defScope s_parting_places) (by decide +kernel)) (fun _ _ _ _ _ => (pg_name (i := 2) sc_parting_places.nd rfl (.inl rfl))) (fun _ _ _ _ _ => (pts_one (pt_cmpR op_notN (pe_call G_break_price (hr.mono (by decide)) (by rfl) T.D_break_price.G T.D_break_price.F.kp T.D_break_price.B .nil pass0 (pa_cons (pv 0) (pa_cons (pe_ix ix_str (pv 1) (pe_op op_sub (pv 2) pe_int) (fun _ _ => rfl)) (pa_cons (pe_ix ix_str (pv 1) (pv 2) (fun _ _ => rfl)) pa_nil)))) pe_non (nomark _)))) (fun _ _ _ _ _ => (pv 2))))), ?_⟩
    have hb : (mkS zs).length ≤ sizeLine := by rw [mkS_len]; exact big_ok (by have := wd.len; omega)
    have hl := wd.len
    refine ⟨_, rfl, mkS zs, rfl, hb, _, _, rfl, rfl, 2, _, rfl, ⟨by decide, by decide, by rw [mkS_len]; omega, by rw [mkS_len]; omega⟩, ?_⟩
    have en : (((mkS zs).length : Int) - 1 - 2).toNat = zs.length - 3 := by rw [mkS_len]; omega
    rw [en]
    refine fun D nD => lc_range (lo := 2) (n := zs.length - 3) (fun n H' => Same H H' ∧ H' D = some (.lst ((plN S zs n).map fun r : Nat × Nat => natV r.1)) ∧ (plN S zs n).length ≤ n) ⟨same_upd (Same.refl H) nD, upd_same, by simp [plN]⟩ (fun n H' hn p => ⟨rfl, ?_⟩) (fun H' p => ?_)
    · obtain ⟨k1, e1, ln⟩ := p
      have g1 := wd.at (show n + 1 < zs.length by omega)
      have g2 := wd.at (show n + 2 < zs.length by omega)
      have ea : (2 + (n : Int)) - 1 = ((n + 1 : Nat) : Int) := by omega
      have eb : (2 + (n : Int)) = ((n + 2 : Nat) : Int) := by omega
      refine ⟨_, rfl, _, rfl, _, rfl, _, _, rfl, rfl, mkS zs, (2 + (n : Int)) - 1, zs.getD (n + 1) 0, rfl, rfl, hb, by rw [ea]; exact atI_nat g1.1, _, rfl, _, rfl, mkS zs, 2 + (n : Int), zs.getD (n + 2) 0, rfl, rfl, hb, by rw [eb]; exact atI_nat g2.1, ?_⟩
      refine ⟨v, S, _, _, rfl, hv.mono (same_tup k1), ok, g1.2, g2.2, fun H1 k2 => ?_⟩
      cases hp : look S.B (zs.getD (n + 1) 0, zs.getD (n + 2) 0) with
      | none =>
        refine ⟨rfl, false, rfl, k1.trans k2, ?_, ?_⟩
        · rw [plN_succ, hp, k2 _ _ e1]; show _ = some (HO.lst ((plN S zs n ++ []).map fun r : Nat × Nat => natV r.1)); rw [List.append_nil]
        · rw [plN_succ, hp]; show (plN S zs n ++ []).length ≤ _; rw [List.append_nil]; omega
      | some p =>
        refine ⟨rfl, true, rfl, _, rfl, _, k2 _ _ e1, by rw [List.length_map]; exact lt_s (by omega), same_mut (k1.trans k2) nD, ?_, ?_⟩
        · rw [upd_same, plN_succ, hp, List.map_append, eb]; rfl
        · rw [plN_succ, hp, List.length_append]; exact Nat.succ_le_succ ln
    · obtain ⟨k1, e1, _⟩ := p
      exact q _ _ k1 nD (by rw [places_plN]; exact e1)
def spShapeOf : Sp := fun vs H Q _ => ∃ (v : V) (S : Sty) (zs : List Nat), vs = [v, sV zs] ∧ StyV H v S ∧ StyOk S ∧ WdOk zs ∧ ∀ u H', Same H H' → ShapeV H' u S zs → Q u H'
theorem ok_shape_of (T : Txt K mg) : FnOk P w K mg base CX0 5 T.a_shape_of T.d_shape_of ["style", "word"] spShapeOf := by
  have G_break_price : FnOk P w K mg base CX0 2 T.a_break_price T.d_break_price ["style", "sign", "next_sign"] spPriceOf := ok_break_price T
  have G_parting_places : FnOk P w K mg base CX0 3 T.a_parting_places T.d_parting_places ["style", "word"] spPlacesOf := ok_parting_places T
  have G_u_piece_width : FnOk P w K mg base CX0 4 T.a_u_piece_width T.d_u_piece_width ["style", "word", "first", "behind"] spPieceW := ok_u_piece_width T
  refine T.D_shape_of.F.ok sc_shape_of (fun vs H Q E h => ?_) (fun cdv A outer s H vs Q E hr h => ?_)
  · obtain ⟨v, S, zs, rfl, _⟩ := h
    rfl
  · obtain ⟨v, S, zs, rfl, hv, ok, wd, q⟩ := h
    refine ⟨_, (pss_cons (ps_set (i := 2) sc_shape_of.nd rfl (.inl rfl) (pe_lst pa_nil))
      (pss_cons (ps_for PassesOwn.never rfl (pi_list (pe_call G_parting_places (hr.mono (by decide)) (by rfl) T.D_parting_places.G T.D_parting_places.F.kp T.D_parting_places.B .nil pass0 (pa_cons (pv 0) (pa_cons (pv 1) pa_nil)))) (pg_name (i := 3) sc_shape_of.nd rfl (.inl rfl)) (pss_cons (ps_set (i := 4) sc_shape_of.nd rfl (.inl rfl) (pe_call G_u_piece_width (hr.mono (by decide)) (by rfl) T.D_u_piece_width.G T.D_u_piece_width.F.kp T.D_u_piece_width.B .nil pass0 (pa_cons (pv 0) (pa_cons (pv 1) (pa_cons pe_int (pa_cons (pv 3) pa_nil))))))
      (pss_cons (ps_set (i := 5) sc_shape_of.nd rfl (.inl rfl) (pe_call G_u_piece_width (hr.mono (by decide)) (by rfl) T.D_u_piece_width.G T.D_u_piece_width.F.kp T.D_u_piece_width.B .nil pass0 (pa_cons (pv 0) (pa_cons (pv 1) (pa_cons (pv 3) (pa_cons (pe_callB call_len_str (by rfl) T.n_len PySem.boot_len (pa_cons (pv 1) pa_nil)) pa_nil))))))
      (pss_one (ps_expr (pe_bm PySem.F.plainAttrs_list PySem.F.slot_list_append PySem.F.type_list_append mt_append (pv 2) (pa_cons (pe_tup (pa_cons (pv 4) (pa_cons (pv 5) (pa_cons (pe_call G_break_price (hr.mono (by decide)) (by rfl) T.D_break_price.G T.D_break_price.F.kp T.D_break_price.B .nil pass0 (pa_cons (pv 0) (pa_cons (pe_ix ix_str (pv 1) (pe_op op_sub (pv 3) pe_int) (fun _ _ => rfl)) (pa_cons (pe_ix ix_str (pv 1) (pv 3) (fun _ _ => rfl)) pa_nil)))) pa_nil)))) pa_nil)))))))
      (pss_one (ps_ret (pe_tup (pa_cons (pe_call G_u_piece_width (hr.mono (by decide)) (by rfl) T.D_u_piece_width.G T.D_u_piece_width.F.kp T.D_u_piece_width.B .nil pass0 (pa_cons (pv 0) (pa_cons (pv 1) (pa_cons pe_int (pa_cons (pe_callB call_len_str (by rfl) T.n_len PySem.boot_len (pa_cons (pv 1) pa_nil)) pa_nil))))) (pa_cons (pe_callTy call_tuple_of (by rfl) T.n_tuple (by decide +kernel) (pa_cons (pv 2) pa_nil)) pa_nil))))))), ?_⟩
    have hb : (mkS zs).length ≤ sizeLine := by rw [mkS_len]; exact big_ok (by have := wd.len; omega)
    have hl := wd.len
    refine ⟨by show 0 ≤ sizeLine; decide, fun D nD => ?_⟩
    have k0 : Same H (upd H D (.lst [])) := same_upd (Same.refl H) nD
    have pln := places_len S zs
    refine ⟨_, rfl, _, rfl, v, S, zs, rfl, hv.mono (same_tup k0), ok, wd, fun H1 L k1 nL eL => ?_⟩
    have kA := k0.trans k1
    have eD1 : H1 D = some (.lst []) := k1 _ _ upd_same
    refine ⟨L, rfl, ⟨_, SqL.of eL⟩, ?_⟩
    refine for_it (walk_list (K := K) (a := L) (xs := (places S zs).map fun r : Nat × Nat => natV r.1)) (fun n σ' H' => ∃ (ps : List V) (x3 x4 x5 : Option V), σ' = [some v, some (sV zs), some (.ref D), x3, x4, x5] ∧ Same H H' ∧ H' D = some (.lst ps) ∧ H' L = some (.lst ((places S zs).map fun r : Nat × Nat => natV r.1)) ∧ PartL H' S zs ps ((places S zs).take n) ∧ ps.length = n) ⟨[], none, none, none, rfl, kA, eD1, eL, ⟨rfl, fun i r h => by simp at h⟩, rfl⟩ ?_ ?_ ?_
    · rintro n σ' H' _ ⟨_, _, _, _, _, _, _, e, _⟩
      exact SqL.of e
    · rintro n x σ' H' H'' hn ⟨ps, x3, x4, x5, rfl, k1, e1, eL, pl, ln⟩ ⟨rfl, hx⟩
      rw [List.getElem?_map] at hx
      cases hr0 : (places S zs)[n]? with
      | none => rw [hr0] at hx; cases hx
      | some r =>
      rw [hr0] at hx
      have hx := Option.some.inj hx
      subst hx
      have hn : n < (places S zs).length := (List.getElem?_eq_some_iff.mp hr0).1
      have hm := List.mem_of_getElem? hr0
      have bd := places_bd hm
      have lk := places_look hm
      have hv1 := hv.mono (same_tup k1)
      have g1 := wd.at (show r.1 - 1 < zs.length by omega)
      have g2 := wd.at (show r.1 < zs.length by omega)
      have ea : (r.1 : Int) - 1 = ((r.1 - 1 : Nat) : Int) := by omega
      refine ⟨_, rfl, _, rfl, _, rfl, v, S, zs, 0, r.1, rfl, hv1, ok, wd, Nat.zero_le _, by omega, fun H2 k3 => ?_⟩
      refine ⟨_, rfl, _, rfl, _, rfl, _, rfl, mkS zs, rfl, hb, v, S, zs, r.1, zs.length, by rw [mkS_len]; rfl, hv1.mono (same_tup k3), ok, wd, by omega, Nat.le_refl _, fun H3 k4 => ?_⟩
      have e3 := k4 _ _ (k3 _ _ e1)
      refine ⟨.ref D, rfl, .inl ⟨rfl, _, .inl (.inl e3)⟩, _, rfl, _, rfl, _, rfl, _, rfl, _, rfl, _, _, rfl, rfl, mkS zs, (r.1 : Int) - 1, zs.getD (r.1 - 1) 0, rfl, rfl, hb, by rw [ea]; exact atI_nat g1.1, _, rfl, _, rfl, mkS zs, (r.1 : Int), zs.getD r.1 0, rfl, rfl, hb, atI_nat g2.1, ?_⟩
      refine ⟨v, S, _, _, rfl, (hv1.mono (same_tup k3)).mono (same_tup k4), ok, g1.2, g2.2, fun H4 k5 => ?_⟩
      rw [lk]
      have e4 := k5 _ _ e3
      refine ⟨Nat.le_of_lt (lt_s (by show 3 < 100000; decide)), fun b nb => ?_⟩
      have kr := same_upd (o := .tup [natV (pieceW S zs 0 r.1), natV (pieceW S zs r.1 zs.length), natV r.2]) (Same.refl H4) nb
      have kk := (k3.trans (k4.trans k5)).trans kr
      refine ⟨D, _, _, rfl, rfl, kk _ _ e1, lt_s (by omega), ?_⟩
      have nLD : L ≠ D := fun z => by rw [z] at eL; rw [eL] at e1; have := HO.lst.inj (Option.some.inj e1); rw [← this] at ln; rw [List.length_map] at ln; omega
      have nr2 : b ≠ D := fun z => by rw [z, e4] at nb; cases nb
      refine ⟨_, _, _, _, rfl, same_mut (k1.trans kk) nD, upd_same, by rw [upd_ne nLD]; exact kk _ _ eL, ?_, by rw [List.length_append, ln]; rfl⟩
      rw [take_succ' hr0]
      have kq : ∀ a xs, upd H4 b (.tup [natV (pieceW S zs 0 r.1), natV (pieceW S zs r.1 zs.length), natV r.2]) a = some (.tup xs) → upd (upd H4 b (.tup [natV (pieceW S zs 0 r.1), natV (pieceW S zs r.1 zs.length), natV r.2])) D (.lst (ps ++ [V.ref b])) a = some (.tup xs) := fun a xs e => by
        have : a ≠ D := fun z => by
          rw [z, kk _ _ e1] at e; cases e
        rw [upd_ne this]; exact e
      exact ((pl.same (same_tup kk)).snoc ⟨b, rfl, upd_same⟩).same kq
    · rintro σ' H' ⟨ps, x3, x4, x5, rfl, k1, e1, eL, pl, ln⟩
      rw [List.length_map, List.take_length] at pl
      have hv1 := hv.mono (same_tup k1)
      refine ⟨_, rfl, _, rfl, _, rfl, mkS zs, rfl, hb, v, S, zs, 0, zs.length, by rw [mkS_len]; rfl, hv1, ok, wd, Nat.zero_le _, Nat.le_refl _, fun H2 k3 => ?_⟩
      refine ⟨_, rfl, D, ps, rfl, .inl ⟨SqL.of (k3 _ _ e1), fun p np => ?_⟩⟩
      have kp := same_upd (o := .tup ps) (Same.refl H2) np
      refine ⟨by show 2 ≤ sizeLine; decide, fun r nr => ?_⟩
      have kr := same_upd (o := .tup [natV (pieceW S zs 0 zs.length), V.ref p]) (Same.refl _) nr
      exact q _ _ ((k1.trans k3).trans (kp.trans kr)) ⟨r, p, ps, rfl, upd_same, kr _ _ upd_same, pl.same (same_tup (k3.trans (kp.trans kr)))⟩
theorem ends_part {S : Sty} {zs : List Nat} {k : Nat} {r : Nat × Nat} (h : (places S zs)[k]? = some r) : (ends S zs)[k + 1]? = some r.1 := by
  show ((places S zs).map (·.1) ++ [zs.length])[k]? = _
  have hk := (List.getElem?_eq_some_iff.mp h).1
  rw [List.getElem?_append_left (by rw [List.length_map]; exact hk), List.getElem?_map, h]
  rfl
theorem ends_last (S : Sty) (zs : List Nat) : (ends S zs)[(places S zs).length + 1]? = some zs.length := by
  show ((places S zs).map (·.1) ++ [zs.length])[(places S zs).length]? = _
  rw [List.getElem?_append_right (by rw [List.length_map]; exact Nat.le_refl _), List.length_map, Nat.sub_self]
  rfl
theorem ends_len (S : Sty) (zs : List Nat) : (ends S zs).length = (places S zs).length + 2 := by
  unfold ends
  rw [List.length_cons, List.length_append, List.length_map]; rfl
def spPieceWidth : Sp := fun vs H Q _ => ∃ (u : V) (S : Sty) (zs : List Nat) (i j a b : Nat), vs = [u, .int (i : Int), .int ((if j = (places S zs).length + 1 then 0 else j : Nat) : Int)] ∧ ShapeV H u S zs ∧ StyOk S ∧ 0 < zs.length ∧ i < j ∧ (ends S zs)[i]? = some a ∧ (ends S zs)[j]? = some b ∧ ∀ H', Same H H' → Q (natV (pieceW S zs a b)) H'
theorem ok_piece_width (T : Txt K mg) : FnOk P w K mg base CX0 1 T.a_piece_width T.d_piece_width ["shape", "first", "last"] spPieceWidth := by
  refine T.D_piece_width.F.ok sc_piece_width (fun vs H Q E h => ?_) (fun cdv A outer s H vs Q E hr h => ?_)
  · obtain ⟨v, S, zs, i, j, a, b, rfl, _⟩ := h
    rfl
  · obtain ⟨v, S, zs, i, j, a, b, rfl, ⟨sa, pa, us, rfl, e1, e2, pl⟩, ok, h0, hij, ea, eb, q⟩ := h
    have lj : j ≤ (places S zs).length + 1 := by
      have := (List.getElem?_eq_some_iff.mp eb).1
      rw [ends_len] at this
      omega
    obtain ⟨J, eJ⟩ : ∃ J : Nat, J = if j = (places S zs).length + 1 then 0 else j := ⟨_, rfl⟩
    rw [← eJ]
    have at1 : ∀ k : Nat, 0 < k → k ≤ (places S zs).length → ∃ (r : Nat × Nat) (x : Addr), us[k - 1]? = some (.ref x) ∧ H x = some (.tup [natV (pieceW S zs 0 r.1), natV (pieceW S zs r.1 zs.length), natV r.2]) ∧ (ends S zs)[k]? = some r.1 ∧ r ∈ places S zs := by
      intro k h1 h2
      have g : (places S zs)[k - 1]? = some (places S zs)[k - 1] := List.getElem?_eq_getElem (by omega)
      obtain ⟨x, gx, y, rfl, ey⟩ := pl.2 _ _ g
      have := ends_part g
      rw [show k - 1 + 1 = k by omega] at this
      exact ⟨_, y, gx, ey, this, List.getElem_mem _⟩
    refine ⟨_, (pss_cons (ps_asg (pv 0) (pg_tup (by rfl) (pgs_cons (pg_name (i := 3) sc_piece_width.nd rfl (.inl rfl)) (pgs_cons (pg_name (i := 4) sc_piece_width.nd rfl (.inl rfl)) pgs_nil))))
      (pss_cons (ps_if (PW.pt (pw_and (pt_cmpR op_eq (pv 1) pe_int (nomark _)) (pw_and1 (pt_cmpR op_eq (pv 2) pe_int (nomark _))))) (pss_one (ps_ret (pv 3))) pss_nil)
      (pss_cons (ps_if (pt_cmpR op_eq (pv 1) pe_int (nomark _)) (pss_one (ps_ret (pe_ix ix_tup (pe_ix ix_tup (pv 4) (pe_op op_sub (pv 2) pe_int) (fun _ _ => rfl)) pe_int (fun _ _ => rfl)))) pss_nil)
      (pss_cons (ps_if (pt_cmpR op_eq (pv 2) pe_int (nomark _)) (pss_one (ps_ret (pe_ix ix_tup (pe_ix ix_tup (pv 4) (pe_op op_sub (pv 1) pe_int) (fun _ _ => rfl)) pe_int (fun _ _ => rfl)))) pss_nil)
      (pss_one (ps_ret (pe_op op_sub (pe_op op_add (pe_ix ix_tup (pe_ix ix_tup (pv 4) (pe_op op_sub (pv 1) pe_int) (fun _ _ => rfl)) pe_int (fun _ _ => rfl)) (pe_ix ix_tup (pe_ix ix_tup (pv 4) (pe_op op_sub (pv 2) pe_int) (fun _ _ => rfl)) pe_int (fun _ _ => rfl))) (pv 3)))))))), ?_⟩
    refine ⟨_, rfl, sa, _, rfl, SqT.of e1, rfl, _, _, rfl, _, _, rfl, rfl, ?_⟩
    have cA : ∀ k : Nat, 0 < k → (k : Int) - 1 = ((k - 1 : Nat) : Int) := fun k hk => by omega
    by_cases hi : i = 0
    · subst hi
      have : (0 : Nat) = a := Option.some.inj ea
      subst this
      by_cases hj : j = (places S zs).length + 1
      · rw [if_pos hj] at eJ
        subst eJ
        rw [hj, ends_last] at eb
        have : zs.length = b := Option.some.inj eb
        subst this
        exact ⟨_, rfl, rfl, true, bT rfl, _, rfl, rfl, true, bT rfl, _, rfl, q _ (Same.refl _)⟩
      · rw [if_neg hj] at eJ
        subst eJ
        obtain ⟨r, x, gx, ex, er, hr2⟩ := at1 J (by omega) (by omega)
        rw [er] at eb
        have : r.1 = b := Option.some.inj eb
        subst this
        have hJ : ¬ V.int (J : Int) = V.int 0 := fun z => by have := V.int.inj z; omega
        refine ⟨_, rfl, rfl, true, bT rfl, _, rfl, rfl, false, bF hJ, ?_⟩
        refine ⟨_, rfl, rfl, true, bT rfl, _, rfl, _, rfl, _, _, rfl, rfl, pa, us, _, .ref x, rfl, rfl, SqT.of e2, by rw [cA J (by omega)]; exact atI_nat gx, x, _, _, _, rfl, rfl, SqT.of ex, rfl, q _ (Same.refl _)⟩
    · have hI : ¬ V.int (i : Int) = V.int 0 := fun z => by have := V.int.inj z; omega
      obtain ⟨r, x, gx, ex, er, hr2⟩ := at1 i (by omega) (by omega)
      rw [er] at ea
      have : r.1 = a := Option.some.inj ea
      subst this
      refine ⟨_, rfl, rfl, false, bF hI, _, rfl, rfl, false, bF hI, ?_⟩
      by_cases hj : j = (places S zs).length + 1
      · rw [if_pos hj] at eJ
        subst eJ
        rw [hj, ends_last] at eb
        have : zs.length = b := Option.some.inj eb
        subst this
        refine ⟨_, rfl, rfl, true, bT rfl, _, rfl, _, rfl, _, _, rfl, rfl, pa, us, _, .ref x, rfl, rfl, SqT.of e2, by rw [cA i (by omega)]; exact atI_nat gx, x, _, _, _, rfl, rfl, SqT.of ex, rfl, q _ (Same.refl _)⟩
      · rw [if_neg hj] at eJ
        subst eJ
        have hJ : ¬ V.int (J : Int) = V.int 0 := fun z => by have := V.int.inj z; omega
        obtain ⟨r2, x2, gx2, ex2, er2, hr3⟩ := at1 J (by omega) (by omega)
        rw [er2] at eb
        have : r2.1 = b := Option.some.inj eb
        subst this
        refine ⟨_, rfl, rfl, false, bF hJ, ?_⟩
        refine ⟨_, rfl, _, rfl, _, _, rfl, rfl, pa, us, _, .ref x, rfl, rfl, SqT.of e2, by rw [cA i (by omega)]; exact atI_nat gx, x, _, _, _, rfl, rfl, SqT.of ex, rfl, ?_⟩
        refine ⟨_, rfl, _, rfl, _, _, rfl, rfl, pa, us, _, .ref x2, rfl, rfl, SqT.of e2, by rw [cA J (by omega)]; exact atI_nat gx2, x2, _, _, _, rfl, rfl, SqT.of ex2, rfl, _, _, rfl, rfl, _, rfl, _, _, rfl, rfl, ?_⟩
        have hlt : r.1 < r2.1 := by
          have g1 : (places S zs)[i - 1]? = some (places S zs)[i - 1] := List.getElem?_eq_getElem (by omega)
          have g2 : (places S zs)[J - 1]? = some (places S zs)[J - 1] := List.getElem?_eq_getElem (by omega)
          have e3 := ends_part g1
          have e4 := ends_part g2
          rw [show i - 1 + 1 = i by omega, er] at e3
          rw [show J - 1 + 1 = J by omega, er2] at e4
          rw [Option.some.inj e3, Option.some.inj e4]
          exact List.pairwise_iff_getElem.mp (places_asc S zs) _ _ (by omega) (by omega) (by omega)
        have b1 := places_bd hr2
        have b2 := places_bd hr3
        have em := pieceW_mid (zs := zs) ok hlt (by omega) (by omega)
        show Q (V.int ((pieceW S zs r.1 zs.length : Int) + (pieceW S zs 0 r2.1 : Int) - (pieceW S zs 0 zs.length : Int))) H
        rw [em]
        exact q _ (Same.refl _)
end
end Vf

set_option Elab.async false
set_option linter.all false
set_option maxRecDepth 100000
set_option maxHeartbeats 4000000
namespace Vf
open PySem PySem.Spec PyProof.Rows L2 TL
/-! ### text times int -/
theorem op_mul_str {X : Cx} : OpR X (binaryOp .Mult) (fun x y H Q => ∃ z n, x = .str z ∧ y = .int n ∧ MulOk z n ∧ Q (.str (Txt.mul z n)) H) := by
  intro pins s σ H x y v u Q I rx ry h
  obtain ⟨z, n, rfl, rfl, hm, q⟩ := h
  obtain ⟨t, rfl⟩ := rx
  obtain ⟨t', rfl⟩ := ry
  exact SB.mul hm fun t' k => ⟨.str (Txt.mul z n), H, I.tok _, ⟨_, rfl⟩, q⟩
theorem mul_fill {k : Nat} (h : k ≤ 2) : MulOk ("_" : Str) (k : Int) ∧ Txt.mul ("_" : Str) (k : Int) = mkS (List.replicate k 95) := by
  rcases k with _ | _ | _ | k
  · exact ⟨⟨by decide, fun h => absurd (by decide) h, fun h => absurd (by decide) h⟩, by decide +kernel⟩
  · exact ⟨⟨by decide, fun _ h => absurd h (by decide), fun _ h => absurd h (by decide)⟩, by decide +kernel⟩
  · exact ⟨⟨by decide, fun _ _ => by decide +kernel, fun _ _ => by decide +kernel⟩, by decide +kernel⟩
  · omega
theorem cutMid {zs : List Nat} {i e : Nat} (h1 : i ≤ zs.length) (h2 : e ≤ zs.length) : cutS (mkS zs) (some (i : Int)) (some (e : Int)) = mkS ((zs.drop i).take (e - i)) := by
  unfold cutS
  rw [HT.sIx_nat, HT.sIx_nat, mkS_len, Nat.min_eq_left h1, Nat.min_eq_left h2]
  rfl
theorem cutOne {zs : List Nat} : cutS (mkS zs) none (some (1 : Int)) = mkS (zs.take 1) := by
  unfold cutS
  rw [show (some (1 : Int)) = some ((1 : Nat) : Int) from rfl, HT.sIx_nat, HT.sIx_none, mkS_len]
  show mkS ((zs.drop 0).take (min 1 zs.length - 0)) = _
  rw [List.drop_zero, Nat.sub_zero]
  by_cases c : 1 ≤ zs.length
  · rw [Nat.min_eq_left c]
  · rw [Nat.min_eq_right (by omega), List.take_of_length_le (Nat.le_refl _), List.take_of_length_le (by omega)]
/-- a row more -/
theorem look_snoc {κ β : Type} [DecidableEq κ] {L : List (κ × β)} {r : κ × β} (h : ∀ q ∈ L, q.1 ≠ r.1) (k : κ) : look (L ++ [r]) k = if r.1 = k then some r.2 else look L k := by
  induction L with
  | nil =>
    by_cases e : r.1 = k
    · rw [if_pos e, ← e]; exact look_hit
    · rw [if_neg e]; exact look_miss e
  | cons q L ih =>
    have ih := ih fun x hx => h x (List.mem_cons_of_mem _ hx)
    by_cases e : q.1 = k
    · have : r.1 ≠ k := fun z => h q List.mem_cons_self (e.trans z.symm)
      rw [if_neg this, ← e]
      show look (q :: (L ++ [r])) q.1 = look (q :: L) q.1
      rw [look_hit, look_hit]
    · show look (q :: (L ++ [r])) k = _
      rw [look_miss e, look_miss e, ih]
theorem fresh_W {S : Sty} (h : StyOk S) {n : Nat} {r : Nat × Nat} (hr : S.W[n]? = some r) : ∀ q ∈ S.W.take n, q.1 ≠ r.1 := by
  intro q hq e
  obtain ⟨i, hi⟩ := List.mem_iff_getElem?.mp hq
  rw [List.getElem?_take] at hi
  by_cases c : i < n
  · rw [if_pos c] at hi
    have g1 : (rowsW S.W)[i]? = some ([q.1], natV q.2) := by unfold rowsW; rw [List.getElem?_map, hi]; rfl
    have g2 : (rowsW S.W)[n]? = some ([r.1], natV r.2) := by unfold rowsW; rw [List.getElem?_map, hr]; rfl
    exact lexN_ne (h.sw.lt g1 g2 c) (by show [q.1] = [r.1]; rw [e])
  · rw [if_neg c] at hi; cases hi
theorem fresh_2 {L : List ((Nat × Nat) × Nat)} (h : Asc (rows2 L)) {n : Nat} {r : (Nat × Nat) × Nat} (hr : L[n]? = some r) : ∀ q ∈ L.take n, q.1 ≠ r.1 := by
  intro q hq e
  obtain ⟨i, hi⟩ := List.mem_iff_getElem?.mp hq
  rw [List.getElem?_take] at hi
  by_cases c : i < n
  · rw [if_pos c] at hi
    have g1 : (rows2 L)[i]? = some ([q.1.1, q.1.2], natV q.2) := by unfold rows2; rw [List.getElem?_map, hi]; rfl
    have g2 : (rows2 L)[n]? = some ([r.1.1, r.1.2], natV r.2) := by unfold rows2; rw [List.getElem?_map, hr]; rfl
    exact lexN_ne (h.lt g1 g2 c) (by show [q.1.1, q.1.2] = [r.1.1, r.1.2]; rw [e])
  · rw [if_neg c] at hi; cases hi
theorem wOf_snoc {S : Sty} (h : StyOk S) {n : Nat} {r : Nat × Nat} (hr : S.W[n]? = some r) (c : Nat) : wOf (S.W.take (n + 1)) c = if r.1 = c then r.2 else wOf (S.W.take n) c := by
  unfold wOf
  rw [take_succ' hr, look_snoc (fresh_W h hr)]
  by_cases e : r.1 = c
  · rw [if_pos e, if_pos e]; rfl
  · rw [if_neg e, if_neg e]
theorem cutOf_snoc {L : List ((Nat × Nat) × Nat)} (h : Asc (rows2 L)) {n : Nat} {r : (Nat × Nat) × Nat} (hr : L[n]? = some r) (a b : Nat) : cutOf (L.take (n + 1)) a b = (if r.1 = (a, b) then r.2 else 0) + cutOf (L.take n) a b := by
  unfold cutOf
  rw [take_succ' hr, look_snoc (fresh_2 h hr)]
  by_cases e : r.1 = (a, b)
  · rw [if_pos e, if_pos e, look_none fun q hq z => fresh_2 h hr q hq (z.trans e.symm)]; rfl
  · rw [if_neg e, if_neg e, Nat.zero_add]
theorem sgn_eq (a b : Nat) : decide (sgn a = sgn b) = decide (a = b) := decide_eq_decide.mpr ⟨fun h => by
  have h := V.str.inj h
  have := congrArg (fun t : Str => t.cps.toList) h
  exact (List.cons.inj this).1, fun h => by rw [h]⟩
theorem RowsV.row {H : Hp} {vs : List V} {L : List (List Nat × V)} {n : Nat} {x : V} (hl : vs.length = L.length) (h : ∀ (i : Nat) (r : List Nat × V), L[i]? = some r → ∃ b : Addr, vs[i]? = some (.ref b) ∧ H b = some (.tup (rowV r))) (hx : vs[n]? = some x) : ∃ (r : List Nat × V) (b : Addr), L[n]? = some r ∧ x = .ref b ∧ H b = some (.tup (rowV r)) := by
  have hn := (List.getElem?_eq_some_iff.mp hx).1
  have g : L[n]? = some L[n] := List.getElem?_eq_getElem (by omega)
  obtain ⟨b, e1, e2⟩ := h n _ g
  rw [hx] at e1
  exact ⟨_, b, g, Option.some.inj e1, e2⟩
theorem map_at2 {α β : Type} {f : α → β} {l : List α} {i : Nat} {y : β} (h : (l.map f)[i]? = some y) : ∃ x, l[i]? = some x ∧ y = f x := by
  obtain ⟨x, e1, e2⟩ := at_map h
  exact ⟨x, e1, e2.symm⟩
section
variable {P : Program} {w : World} {K : PySem.W.Frag} {mg : Str → Option Value} {base : Heap}
def spLawPiece : Sp := fun vs H Q _ => ∃ (v : V) (S : Sty) (zs : List Nat) (i j : Nat), vs = [v, sV zs, .int (i : Int), .int (j : Int)] ∧ StyV H v S ∧ StyOk S ∧ WdOk zs ∧ i ≤ j ∧ j ≤ zs.length ∧ Q (sV (pieceN S zs i j)) H
def partN (S : Sty) (zs : List Nat) (i j n : Nat) : List Nat := (List.range' i n).flatMap (fun k => zs.getD k 0 :: List.replicate (wAt S zs j k - 1) 95)
theorem partN_len {S : Sty} (h : StyOk S) (zs : List Nat) (i j n : Nat) : (partN S zs i j n).length ≤ 3 * n := by
  unfold partN
  have : ∀ l : List Nat, (l.flatMap (fun k => zs.getD k 0 :: List.replicate (wAt S zs j k - 1) 95)).length ≤ 3 * l.length := by
    intro l
    induction l with
    | nil => exact Nat.le_refl _
    | cons a r ih =>
      rw [List.flatMap_cons, List.length_append, List.length_cons, List.length_replicate, List.length_cons]
      have := wAt_bd h zs j a
      omega
  have := this (List.range' i n)
  rw [List.length_range'] at this
  exact this
theorem ok_law_piece (T : Txt K mg) : FnOk P w K mg base CX0 1 T.a_law_piece T.d_law_piece ["_law_style", "_law_word", "_law_first", "_law_behind"] spLawPiece := by
  refine T.D_law_piece.F.ok sc_law_piece (fun vs H Q E h => ?_) (fun cdv A outer s H vs Q E hr h => ?_)
  · obtain ⟨v, S, zs, k, j, rfl, _⟩ := h
    rfl
  · obtain ⟨v, S, zs, i, j, rfl, ⟨a, wv, cv, bv, pv_, rfl, e, ⟨wa, ws, rfl, ew, lw, hW⟩, ⟨ca, cs, rfl, ec, lc, hC⟩, h3⟩, ok, wd, hij, hj, q⟩ := h
    refine ⟨_, (pss_cons (ps_set (i := 4) sc_law_piece.nd rfl (.inl rfl) pe_str)
      (pss_cons (ps_for PassesOwn.never rfl (pi_range2 (by rfl) T.n_range (pa_cons (pv 2) (pa_cons (pv 3) pa_nil))) (pg_name (i := 5) sc_law_piece.nd rfl (.inl rfl)) (pss_cons (ps_set (i := 6) sc_law_piece.nd rfl (.inl rfl) pe_int)
      (pss_cons (ps_for PassesOwn.never rfl (pi_tup (pe_ix ix_tup (pv 0) pe_int (fun _ _ => rfl))) (pg_tup (by rfl) (pgs_cons (pg_name (i := 7) sc_law_piece.nd rfl (.inl rfl)) (pgs_cons (pg_name (i := 8) sc_law_piece.nd rfl (.inl rfl)) pgs_nil))) (pss_one (ps_if (pt_cmpR op_eq (pv 7) (pe_ix ix_str (pv 1) (pv 5) (fun _ _ => rfl)) (nomark _)) (pss_one (ps_set (i := 6) sc_law_piece.nd rfl (.inl rfl) (pv 8))) pss_nil)))
      (pss_cons (ps_for PassesOwn.never rfl (pi_tup (pe_ix ix_tup (pv 0) pe_int (fun _ _ => rfl))) (pg_tup (by rfl) (pgs_cons (pg_name (i := 7) sc_law_piece.nd rfl (.inl rfl)) (pgs_cons (pg_name (i := 9) sc_law_piece.nd rfl (.inl rfl)) (pgs_cons (pg_name (i := 10) sc_law_piece.nd rfl (.inl rfl)) pgs_nil)))) (pss_one (ps_if (PW.pt (pw_and (pt_cmpR op_eq (pv 7) (pe_ix ix_str (pv 1) (pv 5) (fun _ _ => rfl)) (nomark _)) (pw_and1 (pt_cmpR op_eq (pe_slice sl_str (pe_slice sl_str (pv 1) (po_some (pe_op op_add (pv 5) pe_int)) (po_some (pv 3))) po_none (po_some pe_int)) (pv 9) (nomark _))))) (pss_one (ps_set (i := 6) sc_law_piece.nd rfl (.inl rfl) (pe_op op_sub (pv 6) (pv 10)))) pss_nil)))
      (pss_one (ps_set (i := 4) sc_law_piece.nd rfl (.inl rfl) (pe_op op_add_str (pe_op op_add_str (pv 4) (pe_ix ix_str (pv 1) (pv 5) (fun _ _ => rfl))) (pe_op op_mul_str pe_str (pe_op op_sub (pv 6) pe_int)))))))))
      (pss_one (ps_ret (pe_ifExp (pt_cmpR op_lt (pv 3) (pe_callB call_len_str (by rfl) T.n_len PySem.boot_len (pa_cons (pv 1) pa_nil)) (nomark _)) (pe_op op_add_str (pv 4) pe_str) (pv 4)))))), ?_⟩
    have hb : (mkS zs).length ≤ sizeLine := by rw [mkS_len]; exact big_ok (by have := wd.len; omega)
    have hl := wd.len
    refine ⟨_, rfl, _, rfl, i, j, rfl, ⟨by omega, by omega, by omega, by omega⟩, ?_⟩
    have en : ((j : Int) - (i : Int)).toNat = j - i := by omega
    rw [en]
    refine for_it walk_range (fun n σ' H' => H' = H ∧ ∃ (x5 x6 x7 x8 x9 x10 : Option V), σ' = [some (.ref a), some (sV zs), some (.int (i : Int)), some (.int (j : Int)), some (sV (partN S zs i j n)), x5, x6, x7, x8, x9, x10]) ⟨rfl, none, none, none, none, none, none, rfl⟩ (fun _ _ _ _ _ => trivial) ?_ ?_
    · rintro n x σ' H' H'' hn ⟨rfl, x5, x6, x7, x8, x9, x10, rfl⟩ ⟨rfl, hx⟩
      have hx : x = .int ((i + n : Nat) : Int) := hx
      subst hx
      have g0 := wd.at (show i + n < zs.length by omega)
      refine ⟨_, rfl, a, _, _, _, rfl, rfl, SqT.of e, rfl, wa, rfl, ⟨ws, SqT.of ew⟩, ?_⟩
      refine for_it (walk_tup (K := K) (a := wa) (xs := ws)) (fun m σ' H2 => H2 = H'' ∧ ∃ (x7 x8 : Option V), σ' = [some (.ref a), some (sV zs), some (.int (i : Int)), some (.int (j : Int)), some (sV (partN S zs i j n)), some (.int ((i + n : Nat) : Int)), some (natV (wOf (S.W.take m) (zs.getD (i + n) 0))), x7, x8, x9, x10]) ⟨rfl, x7, x8, rfl⟩ (fun _ _ _ _ h => by rw [h.1]; exact SqT.of ew) ?_ ?_
      · rintro m x σ' H2 H3 hm ⟨rfl, x7, x8, rfl⟩ ⟨rfl, hx⟩
        obtain ⟨r, b, hr1, rfl, hb1⟩ := RowsV.row lw hW hx
        obtain ⟨r, hr2, rfl⟩ := map_at2 hr1
        refine ⟨b, _, rfl, SqT.of hb1, rfl, _, _, rfl, _, _, rfl, rfl, ?_⟩
        refine ⟨_, rfl, _, rfl, _, rfl, mkS zs, _, _, rfl, rfl, hb, atI_nat g0.1, rfl, decide (r.1 = zs.getD (i + n) 0), congrArg V.bl (sgn_eq _ _), ite2 (fun c => ?_) (fun c => ?_)⟩
        · have c := of_decide_eq_true c
          refine ⟨_, rfl, rfl, some (sgn r.1), some (natV r.2), ?_⟩
          rw [wOf_snoc ok hr2, if_pos c]; rfl
        · have c : ¬ r.1 = zs.getD (i + n) 0 := fun z => c (decide_eq_true z)
          refine ⟨rfl, some (sgn r.1), some (natV r.2), ?_⟩
          rw [wOf_snoc ok hr2, if_neg c]; rfl
      · rintro σ' H2 ⟨rfl, x7, x8, rfl⟩
        have el : S.W.take ws.length = S.W := List.take_of_length_le (by rw [lw, len_rW]; exact Nat.le_refl _)
        rw [el]
        refine ⟨_, rfl, a, _, _, _, rfl, rfl, SqT.of e, rfl, ca, rfl, ⟨cs, SqT.of ec⟩, ?_⟩
        refine for_it (walk_tup (K := K) (a := ca) (xs := cs)) (fun m σ' H3 => H3 = H2 ∧ ∃ (x7 x8 x9 x10 : Option V), σ' = [some (.ref a), some (sV zs), some (.int (i : Int)), some (.int (j : Int)), some (sV (partN S zs i j n)), some (.int ((i + n : Nat) : Int)), some (.int ((wOf S.W (zs.getD (i + n) 0) : Int) - ((if i + n + 1 < j then cutOf (S.C.take m) (zs.getD (i + n) 0) (zs.getD (i + n + 1) 0) else 0 : Nat) : Int))), x7, x8, x9, x10]) ⟨rfl, x7, x8, x9, x10, ?_⟩ (fun _ _ _ _ h => by rw [h.1]; exact SqT.of ec) ?_ ?_
        · have : (if i + n + 1 < j then cutOf (S.C.take 0) (zs.getD (i + n) 0) (zs.getD (i + n + 1) 0) else 0) = 0 := by
            by_cases c : i + n + 1 < j
            · rw [if_pos c]; rfl
            · rw [if_neg c]
          rw [this]
          show _ = [_, _, _, _, _, _, some (V.int ((wOf S.W (zs.getD (i + n) 0) : Int) - 0)), _, _, _, _]
          rw [Int.sub_zero]; rfl
        · rintro m x σ' H3 H4 hm ⟨rfl, x7, x8, x9, x10, rfl⟩ ⟨rfl, hx⟩
          obtain ⟨r, b, hr1, rfl, hb1⟩ := RowsV.row lc hC hx
          obtain ⟨r, hr2, rfl⟩ := map_at2 hr1
          have en2 := cutOf_snoc ok.sc hr2 (zs.getD (i + n) 0) (zs.getD (i + n + 1) 0)
          have en3 : ¬ r.1 = (zs.getD (i + n) 0, zs.getD (i + n + 1) 0) → cutOf (S.C.take (m + 1)) (zs.getD (i + n) 0) (zs.getD (i + n + 1) 0) = cutOf (S.C.take m) (zs.getD (i + n) 0) (zs.getD (i + n + 1) 0) := fun h => by rw [en2, if_neg h, Nat.zero_add]
          refine ⟨b, _, rfl, SqT.of hb1, rfl, _, _, rfl, _, _, rfl, _, _, rfl, rfl, ?_⟩
          refine ⟨_, rfl, _, rfl, _, rfl, mkS zs, _, _, rfl, rfl, hb, atI_nat g0.1, rfl, decide (r.1.1 = zs.getD (i + n) 0), congrArg V.bl (sgn_eq _ _), ?_⟩
          by_cases c : r.1.1 = zs.getD (i + n) 0
          · rw [decide_eq_true c]
            have ek : ((i + n : Nat) : Int) + 1 = ((i + n + 1 : Nat) : Int) := rfl
            refine ⟨_, rfl, _, rfl, _, _, rfl, rfl, _, rfl, _, rfl, _, rfl, mkS zs, rfl, hb, ?_⟩
            rw [ek, cutMid (show i + n + 1 ≤ zs.length by omega) hj]
            refine ⟨_, rfl, _, rfl, by rw [mkS_len, List.length_take, List.length_drop]; exact big_ok (by omega), ?_⟩
            rw [cutOne]
            by_cases c2 : i + n + 1 < j
            · have g1 : zs[i + n + 1]? = some (zs.getD (i + n + 1) 0) := (wd.at (show i + n + 1 < zs.length by omega)).1
              have e5 : ((zs.drop (i + n + 1)).take (j - (i + n + 1))).take 1 = [zs.getD (i + n + 1) 0] := by
                rw [drop_y g1, List.take_take, Nat.min_eq_left (by omega), List.take_succ_cons, List.take_zero]
              rw [e5]
              refine ⟨_, rfl, rfl, decide (zs.getD (i + n + 1) 0 = r.1.2), congrArg V.bl (sgn_eq _ _), ite2 (fun c3 => ?_) (fun c3 => ?_)⟩
              · have c3 := of_decide_eq_true c3
                have ev : (wOf S.W (zs.getD (i + n) 0) : Int) - ((if i + n + 1 < j then cutOf (S.C.take m) (zs.getD (i + n) 0) (zs.getD (i + n + 1) 0) else 0 : Nat) : Int) - (r.2 : Int) = (wOf S.W (zs.getD (i + n) 0) : Int) - ((if i + n + 1 < j then cutOf (S.C.take (m + 1)) (zs.getD (i + n) 0) (zs.getD (i + n + 1) 0) else 0 : Nat) : Int) := by
                  rw [if_pos c2, if_pos c2, en2, if_pos (Prod.ext c c3.symm)]
                  omega
                refine ⟨_, rfl, _, rfl, _, _, rfl, rfl, rfl, some (sgn r.1.1), x8, some (sgn r.1.2), some (natV r.2), ?_⟩
                rw [← ev]; rfl
              · refine ⟨rfl, some (sgn r.1.1), x8, some (sgn r.1.2), some (natV r.2), ?_⟩
                rw [en3 (fun z => c3 (decide_eq_true (by rw [z])))]; rfl
            · have e5 : ((zs.drop (i + n + 1)).take (j - (i + n + 1))).take 1 = [] := by
                rw [show j - (i + n + 1) = 0 by omega, List.take_zero]; rfl
              rw [e5]
              refine ⟨_, rfl, rfl, false, bF (fun z => ?_), rfl, some (sgn r.1.1), x8, some (sgn r.1.2), some (natV r.2), ?_⟩
              · have z := congrArg (fun t : Str => t.cps.toList) (V.str.inj z)
                cases z
              · rw [if_neg c2, if_neg c2]; rfl
          · rw [decide_eq_false c]
            refine ⟨rfl, some (sgn r.1.1), x8, some (sgn r.1.2), some (natV r.2), ?_⟩
            rw [en3 (fun z => c (by rw [z]))]; rfl
        · rintro σ' H3 ⟨rfl, x7, x8, x9, x10, rfl⟩
          have el2 : S.C.take cs.length = S.C := List.take_of_length_le (by rw [lc, len_r2]; exact Nat.le_refl _)
          rw [el2]
          have ew2 : (wOf S.W (zs.getD (i + n) 0) : Int) - ((if i + n + 1 < j then cutOf S.C (zs.getD (i + n) 0) (zs.getD (i + n + 1) 0) else 0 : Nat) : Int) = ((wAt S zs j (i + n) : Nat) : Int) := by
            unfold wAt
            by_cases c : i + n + 1 < j
            · rw [if_pos c, if_pos c]
              have := cut_lt ok (zs.getD (i + n) 0) (zs.getD (i + n + 1) 0)
              omega
            · rw [if_neg c, if_neg c]; omega
          rw [ew2]
          have wb := wAt_bd ok zs j (i + n)
          obtain ⟨u, eu, hu⟩ : ∃ u : Nat, wAt S zs j (i + n) = u + 1 ∧ u ≤ 2 := ⟨wAt S zs j (i + n) - 1, by omega, by omega⟩
          have pl := partN_len ok zs i j n
          have mf := mul_fill hu
          refine ⟨_, rfl, _, rfl, _, rfl, mkS zs, _, _, rfl, rfl, hb, atI_nat g0.1, mkS (partN S zs i j n), mkS [zs.getD (i + n) 0], rfl, rfl, by rw [mkS_len, mkS_len]; exact big_ok (by show _ + 1 ≤ _; omega), ?_⟩
          refine ⟨_, rfl, _, _, rfl, rfl, _, _, rfl, rfl, by rw [eu]; show MulOk _ ((u : Int) + 1 - 1); rw [Int.add_sub_cancel]; exact mf.1, ?_⟩
          rw [eu]
          have e9 : ((u + 1 : Nat) : Int) - 1 = (u : Int) := by omega
          rw [e9, mf.2, mkS_app]
          refine ⟨_, _, rfl, rfl, ?_, ?_⟩
          · rw [mkS_len, mkS_len, List.length_append, List.length_replicate]; exact big_ok (by show _ + 1 + _ ≤ _; omega)
          · have e6 : partN S zs i j (n + 1) = partN S zs i j n ++ [zs.getD (i + n) 0] ++ List.replicate u 95 := by
              unfold partN
              rw [List.range'_1_concat, List.flatMap_append, List.append_assoc]
              congr 1
              show (zs.getD (i + n) 0 :: List.replicate (wAt S zs j (i + n) - 1) 95) ++ [] = _
              rw [eu, List.append_nil]; rfl
            refine ⟨rfl, some (.int ((i + n : Nat) : Int)), some (.int ((u + 1 : Nat) : Int)), x7, x8, x9, x10, ?_⟩
            rw [e6]
            have e7 : sV (partN S zs i j n ++ [zs.getD (i + n) 0] ++ List.replicate u 95) = V.str (mkS (partN S zs i j n ++ [zs.getD (i + n) 0]) ++ mkS (List.replicate u 95)) := by rw [mkS_app]; rfl
            rw [e7]; rfl
    · rintro σ' H' ⟨rfl, x5, x6, x7, x8, x9, x10, rfl⟩
      have pl := partN_len ok zs i j (j - i)
      refine ⟨_, rfl, _, rfl, mkS zs, rfl, hb, _, _, rfl, rfl, _, rfl, ite2 (fun c => ?_) (fun c => ?_)⟩
      · have c := of_decide_eq_true c
        rw [mkS_len] at c
        refine ⟨_, rfl, mkS (partN S zs i j (j - i)), _, rfl, rfl, by rw [mkS_len]; exact big_ok (by show _ + 1 ≤ _; omega), ?_⟩
        have e1 : pieceN S zs i j = partN S zs i j (j - i) ++ [45] := by
          unfold pieceN partN
          rw [if_pos (by omega)]
        rw [e1] at q
        have e2 : sV (partN S zs i j (j - i) ++ [45]) = V.str (mkS (partN S zs i j (j - i)) ++ mkS [45]) := by rw [mkS_app]; rfl
        rw [e2] at q
        exact q
      · have e1 : pieceN S zs i j = partN S zs i j (j - i) := by
          unfold pieceN partN
          rw [if_neg fun z => c (decide_eq_true (by rw [mkS_len]; omega)), List.append_nil]
        rw [e1] at q
        exact ⟨_, rfl, q⟩
end
end Vf

set_option Elab.async false
set_option linter.all false
set_option maxRecDepth 100000
set_option maxHeartbeats 4000000
namespace Vf
open PySem PySem.Spec PyProof.Rows L2 TL
/-- what the list of a comprehension holds: texts -/
def PvS (R : List Nat → Prop) (d l : Addr) (H : Hp) (D : Addr) (i : Nat) (H' : Hp) : Prop :=
  ∃ zss : List (List Nat), zss.length = i ∧ (∀ zs ∈ zss, R zs) ∧ Kp d H H' ∧ DI d l H' ∧ H' D = some (.lst (zss.map sV))
theorem PvS.start {R : List Nat → Prop} {d l D : Addr} {H : Hp} (hD : DI d l H) (nD : H D = none) : PvS R d l H D 0 (upd H D (.lst [])) :=
  ⟨[], rfl, (fun _ h => nomatch h), (Kp.refl d H).new nD, hD.new nD, upd_same⟩
theorem PvS.dice {R : List Nat → Prop} {d l D : Addr} {H H1 : Hp} {i : Nat} (p : PvS R d l H D i H1) : DI d l H1 := by
  obtain ⟨_, _, _, _, h, _⟩ := p
  exact h
theorem PvS.step {R : List Nat → Prop} {d l D : Addr} {H H1 H2 : Hp} {i : Nat} {zs : List Nat} (hD : DI d l H) (nD : H D = none) (p : PvS R d l H D i H1) (hi : i < 100000) (K2 : Kp d H1 H2) (D2 : DI d l H2) (r : R zs) :
    ∃ acc, H2 D = some (.lst acc) ∧ acc.length < sizeLine ∧ PvS R d l H D (i + 1) (upd H2 D (.lst (acc ++ [sV zs]))) := by
  obtain ⟨zss, hl, hR, K1, D1, e1⟩ := p
  have n1 := hD.nd nD
  have e2 : H2 D = some (.lst (zss.map sV)) := K2 _ _ n1.1 e1
  refine ⟨_, e2, ?_, zss ++ [zs], ?_, ?_, (K1.trans K2).mut nD, D2.at n1.1 n1.2, ?_⟩
  · rw [List.length_map, hl]
    exact Nat.lt_of_lt_of_le hi (by decide)
  · rw [List.length_append, hl]; rfl
  · intro z hz
    rcases List.mem_append.mp hz with h | h
    · exact hR z h
    · rw [List.mem_singleton.mp h]; exact r
  · rw [upd_same, List.map_append]; rfl
section
variable {P : Program} {w : World} {K : PySem.W.Frag} {mg : Str → Option Value} {base : Heap}
/-! ### pick, rare -/
/-- what is picked from -/
def Row (K : PySem.W.Frag) (H : Hp) (d : Addr) (row : V) (xs : List V) : Prop :=
  (∃ a, row = .ref a ∧ a ≠ d ∧ SqL K H a xs) ∨ ∃ zs, row = sV zs ∧ xs = zs.map fun c => sV [c]
def spPick (K : PySem.W.Frag) : Sp := fun vs H Q _ => ∃ (d l : Addr) (row : V) (xs : List V), vs = [.ref d, row] ∧ DI d l H ∧ Row K H d row xs ∧ 0 < xs.length ∧ xs.length ≤ 1000 ∧
  ∀ H' v, Kp d H H' → DI d l H' → v ∈ xs → Q v H'
theorem at_draw {xs : List V} {r : Int} (h : 0 < xs.length) (h1 : (xs.length : Int) < 2 → r = 0) (h2 : 2 ≤ (xs.length : Int) → 0 ≤ r ∧ r < (xs.length : Int)) :
    ∃ (j : Nat) (hj : j < xs.length), r = (j : Int) := by
  by_cases h3 : 2 ≤ (xs.length : Int)
  · have ⟨a, b⟩ := h2 h3
    exact ⟨r.toNat, by omega, by omega⟩
  · exact ⟨0, h, by rw [h1 (by omega)]; rfl⟩
theorem ok_pick (T : Txt K mg) : FnOk P w K mg base CX0 2 T.a_law_pick T.d_law_pick ["_law_d", "_law_row"] (spPick K) := by
  have G_law_draw : FnOk P w K mg base CX0 1 T.a_law_draw T.d_law_draw ["_law_d", "_law_many"] spDraw := ok_draw T
  refine T.D_law_pick.F.ok sc_law_pick (fun vs H Q E h => ?_) (fun cdv A outer s H vs Q E hr h => ?_)
  · obtain ⟨d, l, row, xs, rfl, _⟩ := h
    rfl
  · obtain ⟨d, l, row, xs, rfl, hD, hR, h0, hx, q⟩ := h
    refine ⟨_, (pss_one (ps_ret (pe_ix ix_seq (pv 1) (pe_call G_law_draw (hr.mono (by decide)) (by rfl) T.D_law_draw.G T.D_law_draw.F.kp T.D_law_draw.B .nil pass0 (pa_cons (pv 0) (pa_cons (pe_callB call_len (by rfl) T.n_len PySem.boot_len (pa_cons (pv 1) pa_nil)) pa_nil))) (fun _ _ => rfl)))), ?_⟩
    have hlen : LenV K row H xs.length := by
      rcases hR with ⟨a, rfl, _, hS⟩ | ⟨zs, rfl, rfl⟩
      · exact .inl ⟨_, hS, rfl⟩
      · rw [List.length_map] at hx ⊢
        refine ⟨?_, (mkS_len zs).symm⟩
        rw [mkS_len]
        exact Nat.le_trans hx (by decide)
    refine ⟨_, rfl, _, rfl, _, rfl, _, _, rfl, hlen, d, l, _, rfl, hD, by omega, fun H' r k D' e1 e2 => ?_⟩
    obtain ⟨j, hj, rfl⟩ := at_draw h0 e1 e2
    rcases hR with ⟨a, rfl, nd, hS⟩ | ⟨zs, rfl, rfl⟩
    · exact .inl ⟨a, xs, _, xs[j], rfl, rfl, k.sq nd hS, atI_nat (List.getElem?_eq_getElem hj), q H' _ k D' (List.getElem_mem hj)⟩
    · have hj2 : j < zs.length := by rw [List.length_map] at hj; exact hj
      refine .inr (.inr ⟨mkS zs, _, zs[j], rfl, rfl, ?_, ?_, q H' _ k D' (List.mem_map.mpr ⟨zs[j], List.getElem_mem hj2, rfl⟩)⟩)
      · rw [mkS_len]; rw [List.length_map] at hx; exact Nat.le_trans hx (by decide)
      · rw [mkS_cps]; exact atI_nat (List.getElem?_eq_getElem hj2)
def spRare : Sp := fun vs H Q _ => ∃ (d l : Addr) (m : Int), vs = [.ref d, .int m] ∧ DI d l H ∧ m ≤ 1000000 ∧ ∀ H' b, Kp d H H' → DI d l H' → Q (.bl b) H'
/-! ### run, word -/
def spRun : Sp := fun vs H Q _ => ∃ (d l : Addr) (cs : List Nat) (n : Int), vs = [.ref d, sV cs, .int n] ∧ DI d l H ∧ 0 < cs.length ∧ cs.length ≤ 1000 ∧ 0 ≤ n ∧ n ≤ 1000 ∧
  ∀ H' zs, Kp d H H' → DI d l H' → (zs.length : Int) = n → (∀ c ∈ zs, c ∈ cs) → Q (sV zs) H'
/-- texts of one sign each -/
def One (cs zs : List Nat) : Prop := ∃ c, zs = [c] ∧ c ∈ cs
theorem one_flat {cs : List Nat} : ∀ {zss : List (List Nat)}, (∀ z ∈ zss, One cs z) → zss.flatten.length = zss.length ∧ ∀ c ∈ zss.flatten, c ∈ cs
  | [], _ => ⟨rfl, fun _ h => nomatch h⟩
  | z :: r, h => by
    obtain ⟨c, rfl, hc⟩ := h z List.mem_cons_self
    have ⟨a, b⟩ := one_flat (zss := r) fun y hy => h y (List.mem_cons_of_mem _ hy)
    rw [List.flatten_cons]
    refine ⟨by rw [List.length_append, a]; show 1 + r.length = r.length + 1; omega, fun x hx => ?_⟩
    rcases List.mem_append.mp hx with e | e
    · rw [List.mem_singleton.mp e]; exact hc
    · exact b x e
theorem pick_one {d l : Addr} {cs : List Nat} {H : Hp} {Q : VK} (hD : DI d l H) (h0 : 0 < cs.length) (hx : cs.length ≤ 1000) (q : ∀ H' zs, Kp d H H' → DI d l H' → One cs zs → Q (sV zs) H') : spPick K [.ref d, sV cs] H Q E0 := by
  refine ⟨d, l, _, _, rfl, hD, .inr ⟨cs, rfl, rfl⟩, by rw [List.length_map]; exact h0, by rw [List.length_map]; exact hx, fun H' v k D' hv => ?_⟩
  obtain ⟨c, hc, rfl⟩ := List.mem_map.mp hv
  exact q H' _ k D' ⟨c, rfl, hc⟩
def spWord : Sp := fun vs H Q _ => ∃ (d l : Addr) (lo hi : Int), vs = [.ref d, .int lo, .int hi] ∧ DI d l H ∧ 0 ≤ lo ∧ lo ≤ hi ∧ hi ≤ 900 ∧
  ∀ H' zs, Kp d H H' → DI d l H' → lo ≤ (zs.length : Int) → (zs.length : Int) ≤ hi → (∀ c ∈ zs, cW c = true) → Q (sV zs) H'
end
end Vf

set_option Elab.async false
set_option linter.all false
set_option maxRecDepth 100000
set_option maxHeartbeats 4000000
namespace Vf
open PySem PySem.Spec PyProof.Rows L2 TL
/-- two values are the same data, at most n - 1 tuples deep -/
def Eqv : Nat → Hp → V → V → Prop
  | 0, _, _, _ => False
  | n + 1, H, v, u => ((∃ z, v = .str z ∧ u = .str z) ∨ (∃ i, v = .int i ∧ u = .int i) ∨ (v = .non ∧ u = .non)) ∨
      ∃ (a b : Addr) (xs ys : List V), v = .ref a ∧ u = .ref b ∧ H a = some (.tup xs) ∧ H b = some (.tup ys) ∧ xs.length = ys.length ∧ xs.length ≤ 100000 ∧ ∀ (i : Nat) x y, xs[i]? = some x → ys[i]? = some y → Eqv n H x y
def spExact (n : Nat) : Sp := fun vs H Q _ => ∃ (v u : V), vs = [v, u] ∧ Eqv n H v u ∧ Q (.bl true) H
theorem eq_self {H : Hp} {Q : VK} {x : V} (q : Q (.bl true) H) : Q (.bl (decide (x = x))) H := by
  rw [decide_eq_true rfl]; exact q
section
variable {P : Program} {w : World} {K : PySem.W.Frag} {mg : Str → Option Value} {base : Heap}
theorem ok_exact (T : Txt K mg) : ∀ n : Nat, FnOk P w K mg base CX0 (n + 1) T.a_law_exact T.d_law_exact ["_law_told", "_law_due"] (spExact n)
  | 0 => by
    refine T.D_law_exact.F.ok sc_law_exact (fun vs H Q E h => ?_) (fun cdv A outer s H vs Q E hr h => ?_)
    · obtain ⟨v, u, rfl, _⟩ := h
      rfl
    · obtain ⟨v, u, rfl, hE, q⟩ := h
      exact hE.elim
  | n + 1 => by
    have G_law_exact : FnOk P w K mg base CX0 (n + 1) T.a_law_exact T.d_law_exact ["_law_told", "_law_due"] (spExact n) := ok_exact T n
    refine T.D_law_exact.F.ok sc_law_exact (fun vs H Q E h => ?_) (fun cdv A outer s H vs Q E hr h => ?_)
    · obtain ⟨v, u, rfl, _⟩ := h
      rfl
    · obtain ⟨v, u, rfl, hE, q⟩ := h
      refine ⟨_, (pss_cons (ps_if (pt_val (pe_callB call_isi (by rfl) T.n_isinstance (by decide +kernel) (pa_cons (pv 1) (pa_cons (pe_bltn (v := .ty "tuple") (by rfl) T.n_tuple (by decide +kernel) rfl) pa_nil)))) (pss_cons (ps_if (PW.pt (pw_or (pt_not (pt_val (pe_callB call_isi (by rfl) T.n_isinstance (by decide +kernel) (pa_cons (pv 0) (pa_cons (pe_bltn (v := .ty "tuple") (by rfl) T.n_tuple (by decide +kernel) rfl) pa_nil))))) (pw_or1 (pt_cmpR op_ne (pe_callB call_len (by rfl) T.n_len PySem.boot_len (pa_cons (pv 0) pa_nil)) (pe_callB call_len (by rfl) T.n_len PySem.boot_len (pa_cons (pv 1) pa_nil)) (nomark _))))) (pss_one (ps_ret pe_bl)) pss_nil)
      (pss_cons (ps_for PassesOwn.never rfl (pi_range1 (by rfl) T.n_range (pa_cons (pe_callB call_len (by rfl) T.n_len PySem.boot_len (pa_cons (pv 1) pa_nil)) pa_nil)) (pg_name (i := 2) sc_law_exact.nd rfl (.inl rfl)) (pss_one (ps_if (pt_not (pt_val (pe_call G_law_exact hr (by rfl) T.D_law_exact.G T.D_law_exact.F.kp T.D_law_exact.B .nil pass0 (pa_cons (pe_ix ix_seq (pv 0) (pv 2) (fun _ _ => rfl)) (pa_cons (pe_ix ix_seq (pv 1) (pv 2) (fun _ _ => rfl)) pa_nil))))) (pss_one (ps_ret pe_bl)) pss_nil)))
      (pss_one (ps_ret pe_bl)))) pss_nil)
      (pss_cons (ps_if (pt_cmpR op_isN (pv 1) pe_non (nomark _)) (pss_one (ps_ret (pe_cmpR op_isN (pv 0) pe_non (nomark _)))) pss_nil)
      (pss_cons (ps_if (pt_val (pe_callB call_isi (by rfl) T.n_isinstance (by decide +kernel) (pa_cons (pv 1) (pa_cons (pe_bltn (v := .ty "bool") (by rfl) T.n_bool (by decide +kernel) rfl) pa_nil)))) (pss_one (ps_ret (pe_and (pe_callB call_isi (by rfl) T.n_isinstance (by decide +kernel) (pa_cons (pv 0) (pa_cons (pe_bltn (v := .ty "bool") (by rfl) T.n_bool (by decide +kernel) rfl) pa_nil))) (pe_one (pe_cmpR op_eq (pv 0) (pv 1) (nomark _)))))) pss_nil)
      (pss_cons (ps_if (pt_val (pe_callB call_isi (by rfl) T.n_isinstance (by decide +kernel) (pa_cons (pv 1) (pa_cons (pe_bltn (v := .ty "int") (by rfl) T.n_int (by decide +kernel) rfl) pa_nil)))) (pss_one (ps_ret (pe_and (pe_callB call_isi (by rfl) T.n_isinstance (by decide +kernel) (pa_cons (pv 0) (pa_cons (pe_bltn (v := .ty "int") (by rfl) T.n_int (by decide +kernel) rfl) pa_nil))) (pe_and (pe_not (pe_callB call_isi (by rfl) T.n_isinstance (by decide +kernel) (pa_cons (pv 0) (pa_cons (pe_bltn (v := .ty "bool") (by rfl) T.n_bool (by decide +kernel) rfl) pa_nil)))) (pe_one (pe_cmpR op_eq (pv 0) (pv 1) (nomark _))))))) pss_nil)
      (pss_one (ps_ret (pe_and (pe_callB call_isi (by rfl) T.n_isinstance (by decide +kernel) (pa_cons (pv 0) (pa_cons (pe_bltn (v := .ty "str") (by rfl) T.n_str (by decide +kernel) rfl) pa_nil))) (pe_one (pe_cmpR op_eq (pv 0) (pv 1) (nomark _)))))))))), ?_⟩
      rcases hE with (⟨z, rfl, rfl⟩ | ⟨i, rfl, rfl⟩ | ⟨rfl, rfl⟩) | ⟨a, b, xs, ys, rfl, rfl, ha, hb, el, en, hE⟩
      · refine ⟨_, rfl, _, _, .type "str", .type "tuple", false, rfl, .ty _, .base (.str _), kit_ty (by decide +kernel), _, rfl, ?_⟩
        refine ⟨_, rfl, rfl, false, bl_of (decide_eq_false (fun e => by cases e)), ?_⟩
        refine ⟨_, rfl, _, _, .type "str", .type "bool", false, rfl, .ty _, .base (.str _), kit_ty (by decide +kernel), _, rfl, ?_⟩
        refine ⟨_, rfl, _, _, .type "str", .type "int", false, rfl, .ty _, .base (.str _), kit_ty (by decide +kernel), _, rfl, ?_⟩
        exact ⟨_, rfl, _, _, .type "str", .type "str", true, rfl, .ty _, .base (.str _), kit_ty (by decide +kernel), true, rfl, _, rfl, _, rfl, rfl, eq_self q⟩
      · refine ⟨_, rfl, _, _, .type "int", .type "tuple", false, rfl, .ty _, .base (.int _), kit_ty (by decide +kernel), _, rfl, ?_⟩
        refine ⟨_, rfl, rfl, false, bl_of (decide_eq_false (fun e => by cases e)), ?_⟩
        refine ⟨_, rfl, _, _, .type "int", .type "bool", false, rfl, .ty _, .base (.int _), kit_ty (by decide +kernel), _, rfl, ?_⟩
        refine ⟨_, rfl, _, _, .type "int", .type "int", true, rfl, .ty _, .base (.int _), kit_ty (by decide +kernel), _, rfl, ?_⟩
        exact ⟨_, rfl, _, _, .type "int", .type "int", true, rfl, .ty _, .base (.int _), kit_ty (by decide +kernel), true, rfl, _, rfl, _, _, .type "int", .type "bool", false, rfl, .ty _, .base (.int _), kit_ty (by decide +kernel), false, rfl, true, rfl, _, rfl, _, rfl, rfl, eq_self q⟩
      · refine ⟨_, rfl, _, _, .type "NoneType", .type "tuple", false, rfl, .ty _, .base .non, kit_ty (by decide +kernel), _, rfl, ?_⟩
        exact ⟨_, rfl, rfl, true, bl_of (decide_eq_true rfl), _, rfl, rfl, eq_self q⟩
      · refine ⟨_, rfl, _, _, .type "tuple", .type "tuple", true, rfl, .ty _, .base (.tup hb), kit_ty (by decide +kernel), _, rfl, ?_⟩
        refine ⟨_, rfl, _, _, .type "tuple", .type "tuple", true, rfl, .ty _, .base (.tup ha), kit_ty (by decide +kernel), _, rfl, ?_⟩
        refine ⟨_, rfl, _, _, rfl, .inr ⟨_, SqT.of ha, rfl⟩, _, rfl, _, _, rfl, .inr ⟨_, SqT.of hb, rfl⟩, rfl, false, ?_, ?_⟩
        · rw [el, decide_eq_true rfl]; rfl
        refine ⟨_, rfl, _, _, rfl, .inr ⟨_, SqT.of hb, rfl⟩, _, rfl, by omega, by omega, ?_⟩
        refine for_range (lo := 0) (n := ((ys.length : Nat) : Int).toNat) (fun i σ' H' => H' = H ∧ ∃ x2 : Option V, σ' = [some (.ref a), some (.ref b), x2]) ⟨rfl, none, rfl⟩ ?_ ?_
        · rintro i σ' H' hi ⟨rfl, x2, rfl⟩
          have hi2 : i < ys.length := by omega
          have hi1 : i < xs.length := by omega
          have gx : xs[i]? = some xs[i] := List.getElem?_eq_getElem hi1
          have gy : ys[i]? = some ys[i] := List.getElem?_eq_getElem hi2
          have e0 : ((0 : Int) + (i : Int)) = (i : Int) := Int.zero_add _
          refine ⟨_, rfl, _, rfl, .inr (.inl ⟨a, xs, _, _, rfl, rfl, SqT.of ha, at_of e0 gx, ?_⟩)⟩
          refine ⟨_, rfl, _, rfl, .inr (.inl ⟨b, ys, _, _, rfl, rfl, SqT.of hb, at_of e0 gy, ?_⟩)⟩
          exact ⟨_, _, rfl, hE i _ _ gx gy, true, rfl, rfl, _, rfl⟩
        · rintro σ' H' ⟨rfl, x2, rfl⟩
          exact q
end
end Vf

set_option Elab.async false
set_option linter.all false
set_option maxRecDepth 100000
set_option maxHeartbeats 4000000
namespace Vf
open PySem PySem.Spec PyProof.Rows L2 TL
/-! ### the law's own places, shapes and pieces -/
def PlAt (H : Hp) (x : V) (r : Nat × Nat) : Prop := ∃ b, x = .ref b ∧ H b = some (.tup [natV r.1, natV r.2])
def PlL (H : Hp) (vs : List V) (rs : List (Nat × Nat)) : Prop := vs.length = rs.length ∧ ∀ (i : Nat) (r : Nat × Nat), rs[i]? = some r → ∃ x, vs[i]? = some x ∧ PlAt H x r
theorem PlL.same {H H' : Hp} {vs : List V} {rs : List (Nat × Nat)} (h : PlL H vs rs) (k : ∀ a xs, H a = some (.tup xs) → H' a = some (.tup xs)) : PlL H' vs rs := ⟨h.1, fun i r e => by
  obtain ⟨x, e1, b, e2, e3⟩ := h.2 i r e
  exact ⟨x, e1, b, e2, k _ _ e3⟩⟩
theorem PlL.snoc {H : Hp} {vs : List V} {rs : List (Nat × Nat)} {x : V} {r : Nat × Nat} (h : PlL H vs rs) (hx : PlAt H x r) : PlL H (vs ++ [x]) (rs ++ [r]) := by
  refine ⟨by rw [List.length_append, List.length_append, h.1]; rfl, fun i q e => ?_⟩
  by_cases hi : i < rs.length
  · rw [List.getElem?_append_left hi] at e
    obtain ⟨y, e1, e2⟩ := h.2 i q e
    exact ⟨y, by rw [List.getElem?_append_left (by rw [h.1]; exact hi)]; exact e1, e2⟩
  · rw [List.getElem?_append_right (by omega)] at e
    have e0 : i - rs.length = 0 := by
      have := (List.getElem?_eq_some_iff.mp e).1
      simp at this
      exact this
    rw [e0] at e
    have e : r = q := Option.some.inj e
    subst e
    exact ⟨x, by rw [List.getElem?_append_right (by rw [h.1]; omega), h.1, e0]; rfl, hx⟩
theorem PlL.at {H : Hp} {vs : List V} {rs : List (Nat × Nat)} {i : Nat} {x : V} (h : PlL H vs rs) (hx : vs[i]? = some x) : ∃ r, rs[i]? = some r ∧ PlAt H x r := by
  have hi := (List.getElem?_eq_some_iff.mp hx).1
  have hi2 : i < rs.length := by rw [← h.1]; exact hi
  have g : rs[i]? = some rs[i] := List.getElem?_eq_getElem hi2
  obtain ⟨y, e1, e2⟩ := h.2 i _ g
  rw [hx] at e1
  have := Option.some.inj e1
  subst this
  exact ⟨_, g, e2⟩
/-- places up to a row of the breaks -/
def plM (S : Sty) (zs : List Nat) (n m : Nat) : List (Nat × Nat) := plN S zs n ++ ((look (S.B.take m) (zs.getD (n + 1) 0, zs.getD (n + 2) 0)).map fun p => (n + 2, p)).toList
theorem plM_zero (S : Sty) (zs : List Nat) (n : Nat) : plM S zs n 0 = plN S zs n := List.append_nil _
theorem plM_last (S : Sty) (zs : List Nat) (n : Nat) : plM S zs n S.B.length = plN S zs (n + 1) := by
  unfold plM
  rw [List.take_length, plN_succ]
theorem plM_hit {S : Sty} (ok : StyOk S) {zs : List Nat} {n m : Nat} {r : (Nat × Nat) × Nat} (hr : S.B[m]? = some r) (h : r.1 = (zs.getD (n + 1) 0, zs.getD (n + 2) 0)) : plM S zs n (m + 1) = plM S zs n m ++ [(n + 2, r.2)] := by
  unfold plM
  rw [take_succ' hr, look_snoc (fresh_2 ok.sb hr), if_pos h, look_none fun q hq z => fresh_2 ok.sb hr q hq (z.trans h.symm)]
  show plN S zs n ++ [(n + 2, r.2)] = plN S zs n ++ [] ++ [(n + 2, r.2)]
  rw [List.append_nil]
theorem plM_miss {S : Sty} (ok : StyOk S) {zs : List Nat} {n m : Nat} {r : (Nat × Nat) × Nat} (hr : S.B[m]? = some r) (h : ¬ r.1 = (zs.getD (n + 1) 0, zs.getD (n + 2) 0)) : plM S zs n (m + 1) = plM S zs n m := by
  unfold plM
  rw [take_succ' hr, look_snoc (fresh_2 ok.sb hr), if_neg h]
theorem plM_len (S : Sty) (zs : List Nat) (n m : Nat) : (plM S zs n m).length ≤ n + 1 := by
  unfold plM plN
  rw [List.length_append]
  have h1 := List.length_filterMap_le (fun k => (look S.B (zs.getD (k - 1) 0, zs.getD k 0)).map fun p => (k, p)) (List.range' 2 n)
  rw [List.length_range'] at h1
  have h2 : ((look (S.B.take m) (zs.getD (n + 1) 0, zs.getD (n + 2) 0)).map fun p => (n + 2, p)).toList.length ≤ 1 := by
    cases look (S.B.take m) (zs.getD (n + 1) 0, zs.getD (n + 2) 0) with
    | none => exact Nat.zero_le _
    | some p => exact Nat.le_refl _
  omega
section
variable {P : Program} {w : World} {K : PySem.W.Frag} {mg : Str → Option Value} {base : Heap}
def spLawPlaces : Sp := fun vs H Q _ => ∃ (v : V) (S : Sty) (zs : List Nat), vs = [v, sV zs] ∧ StyV H v S ∧ StyOk S ∧ WdOk zs ∧ ∀ (L : Addr) (ps : List V) H', H L = none → Same H H' → H' L = some (.lst ps) → PlL H' ps (places S zs) → Q (.ref L) H'
theorem ok_law_places (T : Txt K mg) : FnOk P w K mg base CX0 1 T.a_law_places T.d_law_places ["_law_style", "_law_word"] spLawPlaces := by
  refine T.D_law_places.F.ok sc_law_places (fun vs H Q E h => ?_) (fun cdv A outer s H vs Q E hr h => ?_)
  · obtain ⟨v, S, zs, rfl, _⟩ := h
    rfl
  · obtain ⟨v, S, zs, rfl, ⟨a, wv, cv, bv, pv_, rfl, e, _, _, ⟨ba, bs, rfl, eb, lb, hB⟩⟩, ok, wd, q⟩ := h
    refine ⟨_, (pss_cons (ps_set (i := 2) sc_law_places.nd rfl (.inl rfl) (pe_lst pa_nil))
      (pss_cons (ps_for PassesOwn.never rfl (pi_range2 (by rfl) T.n_range (pa_cons pe_int (pa_cons (pe_op op_sub (pe_callB call_len_str (by rfl) T.n_len PySem.boot_len (pa_cons (pv 1) pa_nil)) pe_int) pa_nil))) (pg_name (i := 3) sc_law_places.nd rfl (.inl rfl)) (pss_one (ps_for PassesOwn.never rfl (pi_tup (pe_ix ix_tup (pv 0) pe_int (fun _ _ => rfl))) (pg_tup (by rfl) (pgs_cons (pg_name (i := 4) sc_law_places.nd rfl (.inl rfl)) (pgs_cons (pg_name (i := 5) sc_law_places.nd rfl (.inl rfl)) (pgs_cons (pg_name (i := 6) sc_law_places.nd rfl (.inl rfl)) pgs_nil)))) (pss_one (ps_if (PW.pt (pw_and (pt_cmpR op_eq (pv 4) (pe_ix ix_str (pv 1) (pe_op op_sub (pv 3) pe_int) (fun _ _ => rfl)) (nomark _)) (pw_and1 (pt_cmpR op_eq (pv 5) (pe_ix ix_str (pv 1) (pv 3) (fun _ _ => rfl)) (nomark _))))) (pss_one (ps_expr (pe_bm PySem.F.plainAttrs_list PySem.F.slot_list_append PySem.F.type_list_append mt_append (pv 2) (pa_cons (pe_tup (pa_cons (pv 3) (pa_cons (pv 6) pa_nil))) pa_nil)))) pss_nil)))))
      (pss_one (ps_ret (pv 2))))), ?_⟩
    have hb : (mkS zs).length ≤ sizeLine := by rw [mkS_len]; exact big_ok (by have := wd.len; omega)
    have hl := wd.len
    rw [len_r2] at lb
    refine ⟨by show 0 ≤ sizeLine; decide, fun D nD => ?_⟩
    have k0 : Same H (upd H D (.lst [])) := same_upd (Same.refl H) nD
    refine ⟨_, rfl, mkS zs, rfl, hb, _, _, rfl, rfl, 2, _, rfl, ⟨by decide, by decide, by rw [mkS_len]; omega, by rw [mkS_len]; omega⟩, ?_⟩
    have en : (((mkS zs).length : Int) - 1 - 2).toNat = zs.length - 3 := by rw [mkS_len]; omega
    rw [en]
    refine for_it walk_range (fun n σ' H' => ∃ (ps : List V) (x3 x4 x5 x6 : Option V), σ' = [some (.ref a), some (sV zs), some (.ref D), x3, x4, x5, x6] ∧ Same H H' ∧ H' D = some (.lst ps) ∧ PlL H' ps (plN S zs n)) ⟨[], none, none, none, none, rfl, k0, upd_same, ⟨rfl, fun i r h => by simp [plN] at h⟩⟩ (fun _ _ _ _ _ => trivial) ?_ ?_
    · rintro n x σ' H' H'' hn ⟨ps, x3, x4, x5, x6, rfl, k1, e1, pl⟩ ⟨rfl, hx⟩
      have hx : x = .int ((n + 2 : Nat) : Int) := by
        rw [hx]
        show V.int (2 + (n : Int)) = _
        rw [show 2 + (n : Int) = ((n + 2 : Nat) : Int) by omega]
      subst hx
      have g1 := wd.at (show n + 1 < zs.length by omega)
      have g2 := wd.at (show n + 2 < zs.length by omega)
      have ea : ((n + 2 : Nat) : Int) - 1 = ((n + 1 : Nat) : Int) := by omega
      refine ⟨_, rfl, a, _, _, _, rfl, rfl, SqT.of (k1 _ _ e), rfl, ba, rfl, ⟨bs, SqT.of (k1 _ _ eb)⟩, ?_⟩
      refine for_it (walk_tup (K := K) (a := ba) (xs := bs)) (fun m σ' H' => ∃ (ps : List V) (x4 x5 x6 : Option V), σ' = [some (.ref a), some (sV zs), some (.ref D), some (.int ((n + 2 : Nat) : Int)), x4, x5, x6] ∧ Same H H' ∧ H' D = some (.lst ps) ∧ PlL H' ps (plM S zs n m)) ⟨ps, x4, x5, x6, rfl, k1, e1, by rw [plM_zero]; exact pl⟩ ?_ ?_ ?_
      · rintro i σ' H' _ ⟨_, _, _, _, _, k, _⟩
        exact SqT.of (k _ _ eb)
      · rintro m x σ' H2 H3 hm ⟨ps, x4, x5, x6, rfl, k2, e2, pl⟩ ⟨rfl, hx⟩
        obtain ⟨r, b, hr1, rfl, hb1⟩ := RowsV.row (by rw [len_r2]; exact lb) hB hx
        obtain ⟨r, hr2, rfl⟩ := map_at2 hr1
        refine ⟨b, _, rfl, SqT.of (k2 _ _ hb1), rfl, _, _, rfl, _, _, rfl, _, _, rfl, rfl, ?_⟩
        refine ⟨_, rfl, _, rfl, _, rfl, _, _, rfl, rfl, mkS zs, _, _, rfl, rfl, hb, by rw [ea]; exact atI_nat g1.1, rfl, decide (r.1.1 = zs.getD (n + 1) 0), congrArg V.bl (sgn_eq _ _), ?_⟩
        by_cases c : r.1.1 = zs.getD (n + 1) 0
        · rw [decide_eq_true c]
          refine ⟨_, rfl, _, rfl, _, rfl, mkS zs, _, _, rfl, rfl, hb, atI_nat g2.1, rfl, decide (r.1.2 = zs.getD (n + 2) 0), congrArg V.bl (sgn_eq _ _), ite2 (fun c3 => ?_) (fun c3 => ?_)⟩
          · have c3 := of_decide_eq_true c3
            have lp : ps.length ≤ n + 1 := by rw [pl.1]; exact plM_len S zs n m
            refine ⟨.ref D, rfl, .inl ⟨rfl, _, .inl (.inl e2)⟩, _, rfl, _, rfl, Nat.le_of_lt (lt_s (by show _ < 100000; simp)), fun p np => ?_⟩
            have kr := same_upd (o := .tup [natV (n + 2), natV r.2]) (Same.refl H3) np
            refine ⟨D, _, _, rfl, rfl, kr _ _ e2, lt_s (by omega), ?_⟩
            refine ⟨ps ++ [.ref p], some (sgn r.1.1), some (sgn r.1.2), some (natV r.2), rfl, same_mut (k2.trans kr) nD, upd_same, ?_⟩
            rw [plM_hit ok hr2 (Prod.ext c c3)]
            have kq : ∀ a xs, upd H3 p (.tup [natV (n + 2), natV r.2]) a = some (.tup xs) → upd (upd H3 p (.tup [natV (n + 2), natV r.2])) D (.lst (ps ++ [V.ref p])) a = some (.tup xs) := fun a xs e => by
              have : a ≠ D := fun z => by
                rw [z, kr _ _ e2] at e; cases e
              rw [upd_ne this]; exact e
            exact ((pl.same (same_tup kr)).snoc ⟨p, rfl, upd_same⟩).same kq
          · refine ⟨ps, some (sgn r.1.1), some (sgn r.1.2), some (natV r.2), rfl, k2, e2, ?_⟩
            rw [plM_miss ok hr2 (fun z => c3 (decide_eq_true (by rw [z])))]
            exact pl
        · rw [decide_eq_false c]
          refine ⟨ps, some (sgn r.1.1), some (sgn r.1.2), some (natV r.2), rfl, k2, e2, ?_⟩
          rw [plM_miss ok hr2 (fun z => c (by rw [z]))]
          exact pl
      · rintro σ' H2 ⟨ps, x4, x5, x6, rfl, k2, e2, pl⟩
        rw [lb, plM_last] at pl
        exact ⟨ps, _, x4, x5, x6, rfl, k2, e2, pl⟩
    · rintro σ' H' ⟨ps, x3, x4, x5, x6, rfl, k1, e1, pl⟩
      exact ⟨_, rfl, q D ps H' nD k1 e1 pl⟩
def spLawShape : Sp := fun vs H Q _ => ∃ (v : V) (S : Sty) (zs : List Nat), vs = [v, sV zs] ∧ StyV H v S ∧ StyOk S ∧ WdOk zs ∧ ∀ u H', Same H H' → ShapeV H' u S zs → Q u H'
theorem pieceW_small {S : Sty} (ok : StyOk S) {zs : List Nat} (i j : Nat) (wd : WdOk zs) (hj : j ≤ zs.length) : (pieceN S zs i j).length ≤ 100 := by
  have h := partN_len ok zs i j (j - i)
  have hl := wd.len
  unfold pieceN
  unfold partN at h
  rw [List.length_append]
  by_cases c : j < zs.length
  · rw [if_pos c]; show _ + 1 ≤ _; omega
  · rw [if_neg c]; show _ + 0 ≤ _; omega
theorem ok_law_shape (T : Txt K mg) : FnOk P w K mg base CX0 2 T.a_law_shape T.d_law_shape ["_law_style", "_law_word"] spLawShape := by
  have G_law_places : FnOk P w K mg base CX0 1 T.a_law_places T.d_law_places ["_law_style", "_law_word"] spLawPlaces := ok_law_places T
  have G_law_piece : FnOk P w K mg base CX0 1 T.a_law_piece T.d_law_piece ["_law_style", "_law_word", "_law_first", "_law_behind"] spLawPiece := ok_law_piece T
  refine T.D_law_shape.F.ok sc_law_shape (fun vs H Q E h => ?_) (fun cdv A outer s H vs Q E hr h => ?_)
  · obtain ⟨v, S, zs, rfl, _⟩ := h
    rfl
  · obtain ⟨v, S, zs, rfl, hv, ok, wd, q⟩ := h
    refine ⟨_, (pss_cons (ps_set (i := 2) sc_law_shape.nd rfl (.inl rfl) (pe_lst pa_nil))
      (pss_cons (ps_for PassesOwn.never rfl (pi_list (pe_call G_law_places (hr.mono (by decide)) (by rfl) T.D_law_places.G T.D_law_places.F.kp T.D_law_places.B .nil pass0 (pa_cons (pv 0) (pa_cons (pv 1) pa_nil)))) (pg_tup (by rfl) (pgs_cons (pg_name (i := 3) sc_law_shape.nd rfl (.inl rfl)) (pgs_cons (pg_name (i := 4) sc_law_shape.nd rfl (.inl rfl)) pgs_nil))) (pss_cons (ps_set (i := 5) sc_law_shape.nd rfl (.inl rfl) (pe_callB call_len_str (by rfl) T.n_len PySem.boot_len (pa_cons (pe_call G_law_piece (hr.mono (by decide)) (by rfl) T.D_law_piece.G T.D_law_piece.F.kp T.D_law_piece.B .nil pass0 (pa_cons (pv 0) (pa_cons (pv 1) (pa_cons pe_int (pa_cons (pv 3) pa_nil))))) pa_nil)))
      (pss_one (ps_expr (pe_bm PySem.F.plainAttrs_list PySem.F.slot_list_append PySem.F.type_list_append mt_append (pv 2) (pa_cons (pe_tup (pa_cons (pv 5) (pa_cons (pe_callB call_len_str (by rfl) T.n_len PySem.boot_len (pa_cons (pe_call G_law_piece (hr.mono (by decide)) (by rfl) T.D_law_piece.G T.D_law_piece.F.kp T.D_law_piece.B .nil pass0 (pa_cons (pv 0) (pa_cons (pv 1) (pa_cons (pv 3) (pa_cons (pe_callB call_len_str (by rfl) T.n_len PySem.boot_len (pa_cons (pv 1) pa_nil)) pa_nil))))) pa_nil)) (pa_cons (pv 4) pa_nil)))) pa_nil))))))
      (pss_one (ps_ret (pe_tup (pa_cons (pe_callB call_len_str (by rfl) T.n_len PySem.boot_len (pa_cons (pe_call G_law_piece (hr.mono (by decide)) (by rfl) T.D_law_piece.G T.D_law_piece.F.kp T.D_law_piece.B .nil pass0 (pa_cons (pv 0) (pa_cons (pv 1) (pa_cons pe_int (pa_cons (pe_callB call_len_str (by rfl) T.n_len PySem.boot_len (pa_cons (pv 1) pa_nil)) pa_nil))))) pa_nil)) (pa_cons (pe_callTy call_tuple_of (by rfl) T.n_tuple (by decide +kernel) (pa_cons (pv 2) pa_nil)) pa_nil))))))), ?_⟩
    have hb : (mkS zs).length ≤ sizeLine := by rw [mkS_len]; exact big_ok (by have := wd.len; omega)
    have hl := wd.len
    have hp : ∀ i j, j ≤ zs.length → (mkS (pieceN S zs i j)).length ≤ sizeLine := fun i j hj => by rw [mkS_len]; exact big_ok (by have := pieceW_small ok i j wd hj; omega)
    have hpw : ∀ i j, (((mkS (pieceN S zs i j)).length : Nat) : Int) = ((pieceW S zs i j : Nat) : Int) := fun i j => by rw [mkS_len, pieceN_len ok]
    refine ⟨by show 0 ≤ sizeLine; decide, fun D nD => ?_⟩
    have k0 : Same H (upd H D (.lst [])) := same_upd (Same.refl H) nD
    refine ⟨_, rfl, _, rfl, v, S, zs, rfl, hv.mono (same_tup k0), ok, wd, fun L ps H1 nL k1 eL pl => ?_⟩
    have hLD : L ≠ D := fun z => by rw [z, upd_same] at nL; cases nL
    have k1' := k0.trans k1
    refine ⟨L, rfl, ⟨ps, SqL.of eL⟩, ?_⟩
    refine for_it (walk_list (K := K) (a := L) (xs := ps)) (fun n σ' H' => ∃ (vs : List V) (x3 x4 x5 : Option V), σ' = [some v, some (sV zs), some (.ref D), x3, x4, x5] ∧ Same H H' ∧ H' L = some (.lst ps) ∧ PlL H' ps (places S zs) ∧ H' D = some (.lst vs) ∧ PartL H' S zs vs ((places S zs).take n))
      ⟨[], none, none, none, rfl, k1', eL, pl, k1 _ _ upd_same, ⟨rfl, fun i r h => by simp at h⟩⟩ ?_ ?_ ?_
    · rintro i σ' H' _ ⟨_, _, _, _, _, _, eL, _⟩
      exact SqL.of eL
    · rintro n x σ' H2 H3 hn ⟨vs, x3, x4, x5, rfl, k2, eL, pl, eD, pt⟩ ⟨rfl, hx⟩
      obtain ⟨r, hr, b, rfl, eb⟩ := pl.at hx
      have hrm := List.mem_of_getElem? hr
      have bd := places_bd hrm
      refine ⟨b, _, rfl, SqT.of eb, rfl, _, _, rfl, _, _, rfl, rfl, ?_⟩
      refine ⟨_, rfl, _, rfl, _, rfl, v, S, zs, 0, r.1, rfl, hv.mono (same_tup k2), ok, wd, Nat.zero_le _, by omega, _, rfl, hp 0 r.1 (by omega), ?_⟩
      refine ⟨.ref D, rfl, .inl ⟨rfl, _, .inl (.inl eD)⟩, _, rfl, _, rfl, _, rfl, _, rfl, _, rfl, mkS zs, rfl, hb, v, S, zs, r.1, zs.length, by rw [mkS_len]; rfl, hv.mono (same_tup k2), ok, wd, by omega, Nat.le_refl _, _, rfl, hp r.1 zs.length (Nat.le_refl _), _, rfl, Nat.le_of_lt (lt_s (by show _ < 100000; simp)), fun p np => ?_⟩
      rw [hpw, hpw]
      have kr := same_upd (o := .tup [natV (pieceW S zs 0 r.1), natV (pieceW S zs r.1 zs.length), natV r.2]) (Same.refl H3) np
      have lv : vs.length ≤ 16 := by
        rw [pt.1, List.length_take]
        have := places_len S zs
        omega
      refine ⟨D, _, _, rfl, rfl, kr _ _ eD, lt_s (by omega), ?_⟩
      have kq : ∀ a xs, upd H3 p (.tup [natV (pieceW S zs 0 r.1), natV (pieceW S zs r.1 zs.length), natV r.2]) a = some (.tup xs) → upd (upd H3 p (.tup [natV (pieceW S zs 0 r.1), natV (pieceW S zs r.1 zs.length), natV r.2])) D (.lst (vs ++ [V.ref p])) a = some (.tup xs) := fun a xs e => by
        have : a ≠ D := fun z => by
          rw [z, kr _ _ eD] at e; cases e
        rw [upd_ne this]; exact e
      refine ⟨vs ++ [.ref p], some (natV r.1), some (natV r.2), some (natV (pieceW S zs 0 r.1)), ?_, same_mut (k2.trans kr) nD, by rw [upd_ne hLD]; exact kr _ _ eL, (pl.same (same_tup kr)).same kq, upd_same, ?_⟩
      · rfl
      · rw [take_succ' hr]
        exact ((pt.same (same_tup kr)).snoc ⟨p, rfl, upd_same⟩).same kq
    · rintro σ' H2 ⟨vs, x3, x4, x5, rfl, k2, eL, pl, eD, pt⟩
      rw [pl.1, List.take_length] at pt
      refine ⟨_, rfl, _, rfl, _, rfl, mkS zs, rfl, hb, v, S, zs, 0, zs.length, by rw [mkS_len]; rfl, hv.mono (same_tup k2), ok, wd, Nat.zero_le _, Nat.le_refl _, _, rfl, hp 0 _ (Nat.le_refl _), ?_⟩
      rw [hpw]
      refine ⟨_, rfl, D, vs, rfl, .inl ⟨SqL.of eD, fun p np => ?_⟩⟩
      have kp := same_upd (o := .tup vs) (Same.refl H2) np
      refine ⟨by show 2 ≤ sizeLine; decide, fun r nr => ?_⟩
      have kr := same_upd (o := .tup [natV (pieceW S zs 0 zs.length), V.ref p]) (Same.refl _) nr
      exact q _ _ (k2.trans (kp.trans kr)) ⟨r, p, vs, rfl, upd_same, kr _ _ upd_same, pt.same (same_tup (kp.trans kr))⟩
end
end Vf

set_option Elab.async false
set_option linter.all false
set_option maxRecDepth 100000
set_option maxHeartbeats 4000000
namespace Vf
open PySem PySem.Spec PyProof.Rows L2 TL
theorem eqv_nat {H : Hp} (i : Int) : Eqv 1 H (.int i) (.int i) := .inl (.inr (.inl ⟨i, rfl, rfl⟩))
theorem ends_asc (S : Sty) (zs : List Nat) (h0 : 0 < zs.length) : (ends S zs).Pairwise (· < ·) := by
  unfold ends
  rw [List.pairwise_cons]
  refine ⟨fun y hy => ?_, ?_⟩
  · rcases List.mem_append.mp hy with z | z
    · obtain ⟨r, hr, rfl⟩ := List.mem_map.mp z
      have := places_bd hr; omega
    · rw [List.mem_singleton.mp z]; exact h0
  · rw [List.pairwise_append]
    refine ⟨?_, List.pairwise_singleton _ _, fun a ha b hb => ?_⟩
    · rw [List.pairwise_map]; exact places_asc S zs
    · obtain ⟨r, hr, rfl⟩ := List.mem_map.mp ha
      rw [List.mem_singleton.mp hb]
      have := places_bd hr; omega
section
variable {P : Program} {w : World} {K : PySem.W.Frag} {mg : Str → Option Value} {base : Heap}
def spPiecesRight : Sp := fun vs H Q _ => ∃ (v u : V) (S : Sty) (zs : List Nat), vs = [v, sV zs, u] ∧ StyV H v S ∧ StyOk S ∧ WdOk zs ∧ 0 < zs.length ∧ ShapeV H u S zs ∧ ∀ H', Same H H' → Q (.bl true) H'
theorem ok_pieces_right (T : Txt K mg) : FnOk P w K mg base CX0 3 T.a_law_pieces_right T.d_law_pieces_right ["_law_style", "_law_word", "_law_shape_here"] spPiecesRight := by
  have G_law_places : FnOk P w K mg base CX0 1 T.a_law_places T.d_law_places ["_law_style", "_law_word"] spLawPlaces := ok_law_places T
  have G_law_piece : FnOk P w K mg base CX0 1 T.a_law_piece T.d_law_piece ["_law_style", "_law_word", "_law_first", "_law_behind"] spLawPiece := ok_law_piece T
  have G_law_exact : FnOk P w K mg base CX0 2 T.a_law_exact T.d_law_exact ["_law_told", "_law_due"] (spExact 1) := ok_exact T 1
  have G_piece_width : FnOk P w K mg base CX0 1 T.a_piece_width T.d_piece_width ["shape", "first", "last"] spPieceWidth := ok_piece_width T
  refine T.D_law_pieces_right.F.ok sc_law_pieces_right (fun vs H Q E h => ?_) (fun cdv A outer s H vs Q E hr h => ?_)
  · obtain ⟨v, u, S, zs, rfl, _⟩ := h
    rfl
  · obtain ⟨v, u, S, zs, rfl, hv, ok, wd, h0, hs, q⟩ := h
    refine ⟨_, (pss_cons (ps_set (i := 3) sc_law_pieces_right.nd rfl (.inl rfl) (pe_op op_cat (pe_op op_cat (pe_lst (pa_cons pe_int pa_nil)) (pe_lc (own := [("_law_place", 8), ("_law_price", 9)]) (g := (gTup K 2 (gCons (gName 8) (gCons (gName 9) gNil)))) (tt := tYes) rfl sc_law_pieces_right.nd (pi_list (pe_call G_law_places (hr.mono (by decide)) (by rfl) T.D_law_places.G T.D_law_places.F.kp T.D_law_places.B .nil pass0 (pa_cons (pv 0) (pa_cons (pv 1) pa_nil)))) (blkOk_by (own := [("_law_place", 8), ("_law_price", 9)]) (N := ["_law_style", "_law_word", "_law_shape_here", "_law_ends", "_law_last", "_law_i", "_law_j", "_law_told", "_law_place", "_law_price"]) (sc := defScope s_law_pieces_right) (by decide +kernel)) (fun _ _ _ _ _ => (pg_tup (by rfl) (pgs_cons (pg_name (i := 8) sc_law_pieces_right.nd rfl (.inl rfl)) (pgs_cons (pg_name (i := 9) sc_law_pieces_right.nd rfl (.inl rfl)) pgs_nil)))) (fun _ _ _ _ _ => pts_nil) (fun _ _ _ _ _ => (pv 8)))) (pe_lst (pa_cons (pe_callB call_len_str (by rfl) T.n_len PySem.boot_len (pa_cons (pv 1) pa_nil)) pa_nil))))
      (pss_cons (ps_set (i := 4) sc_law_pieces_right.nd rfl (.inl rfl) (pe_op op_sub (pe_callB call_len_seq (by rfl) T.n_len PySem.boot_len (pa_cons (pv 3) pa_nil)) pe_int))
      (pss_cons (ps_for PassesOwn.never rfl (pi_range1 (by rfl) T.n_range (pa_cons (pv 4) pa_nil)) (pg_name (i := 5) sc_law_pieces_right.nd rfl (.inl rfl)) (pss_one (ps_for PassesOwn.never rfl (pi_range2 (by rfl) T.n_range (pa_cons (pe_op op_add (pv 5) pe_int) (pa_cons (pe_op op_add (pv 4) pe_int) pa_nil))) (pg_name (i := 6) sc_law_pieces_right.nd rfl (.inl rfl)) (pss_cons (ps_set (i := 7) sc_law_pieces_right.nd rfl (.inl rfl) (pe_call G_piece_width (hr.mono (by decide)) (by rfl) T.D_piece_width.G T.D_piece_width.F.kp T.D_piece_width.B .nil pass0 (pa_cons (pv 2) (pa_cons (pv 5) (pa_cons (pe_ifExp (pt_cmpR op_eq (pv 6) (pv 4) (nomark _)) pe_int (pv 6)) pa_nil)))))
      (pss_one (ps_if (pt_not (pt_val (pe_call G_law_exact (hr.mono (by decide)) (by rfl) T.D_law_exact.G T.D_law_exact.F.kp T.D_law_exact.B .nil pass0 (pa_cons (pv 7) (pa_cons (pe_callB call_len_str (by rfl) T.n_len PySem.boot_len (pa_cons (pe_call G_law_piece (hr.mono (by decide)) (by rfl) T.D_law_piece.G T.D_law_piece.F.kp T.D_law_piece.B .nil pass0 (pa_cons (pv 0) (pa_cons (pv 1) (pa_cons (pe_ix ix_list (pv 3) (pv 5) (fun _ _ => rfl)) (pa_cons (pe_ix ix_list (pv 3) (pv 6) (fun _ _ => rfl)) pa_nil))))) pa_nil)) pa_nil))))) (pss_one (ps_ret pe_bl)) pss_nil))))))
      (pss_one (ps_ret pe_bl))))), ?_⟩
    have hb : (mkS zs).length ≤ sizeLine := by rw [mkS_len]; exact big_ok (by have := wd.len; omega)
    have hl := wd.len
    have hp : ∀ i j, j ≤ zs.length → (mkS (pieceN S zs i j)).length ≤ sizeLine := fun i j hj => by rw [mkS_len]; exact big_ok (by have := pieceW_small ok i j wd hj; omega)
    have hpw : ∀ i j, (((mkS (pieceN S zs i j)).length : Nat) : Int) = ((pieceW S zs i j : Nat) : Int) := fun i j => by rw [mkS_len, pieceN_len ok]
    have pln := places_len S zs
    refine ⟨by show 1 ≤ sizeLine; decide, fun Z nZ => ?_⟩
    have kZ : Same H (upd H Z (.lst [.int 0])) := same_upd (Same.refl H) nZ
    refine ⟨_, rfl, _, rfl, v, S, zs, rfl, hv.mono (same_tup kZ), ok, wd, fun L ps H1 nL k1 eL pl => ?_⟩
    refine ⟨L, rfl, ⟨ps, SqL.of eL⟩, fun D nD => ?_⟩
    refine lc_it (walk_list (K := K) (a := L) (xs := ps)) (fun n H' => Same H1 H' ∧ H' D = some (.lst (((places S zs).take n).map fun r => natV r.1))) ⟨same_upd (Same.refl H1) nD, upd_same⟩ ?_ ?_ ?_
    · rintro i H' _ ⟨k, _⟩
      exact SqL.of (k _ _ eL)
    · rintro n x H2 H3 hn ⟨k2, eD⟩ ⟨rfl, hx⟩
      obtain ⟨r, hr, b, rfl, eb⟩ := pl.at hx
      refine ⟨b, _, rfl, SqT.of (k2 _ _ eb), rfl, _, _, rfl, _, _, rfl, rfl, rfl, ?_⟩
      refine ⟨_, rfl, _, eD, ?_, same_mut k2 nD, ?_⟩
      · rw [List.length_map, List.length_take]; exact lt_s (by omega)
      · rw [upd_same, take_succ' hr, List.map_append]; rfl
    rintro H2 ⟨k2, eD⟩
    rw [pl.1, List.take_length] at eD
    have kA := (kZ.trans k1).trans k2
    have eZ : H2 Z = some (.lst [.int 0]) := k2 _ _ (k1 _ _ upd_same)
    refine ⟨Z, D, _, _, rfl, rfl, eZ, eD, ?_, fun L1 n1 => ?_⟩
    · rw [List.length_map]; exact Nat.le_of_lt (lt_s (by show 1 + _ < _; omega))
    have kB := same_upd (o := .lst ([V.int 0] ++ (places S zs).map fun r => natV r.1)) (Same.refl H2) n1
    refine ⟨_, rfl, mkS zs, rfl, hb, by show 1 ≤ sizeLine; decide, fun Z2 n2 => ?_⟩
    have kC := same_upd (o := .lst [V.int (((mkS zs).length : Nat) : Int)]) (Same.refl _) n2
    refine ⟨L1, Z2, _, _, rfl, rfl, kC _ _ upd_same, upd_same, ?_, fun L2 n3 => ?_⟩
    · rw [List.length_append, List.length_map]; exact Nat.le_of_lt (lt_s (by show 1 + _ + 1 < _; omega))
    have kD := same_upd (o := .lst (([V.int 0] ++ (places S zs).map fun r => natV r.1) ++ [V.int (((mkS zs).length : Nat) : Int)])) (Same.refl _) n3
    have e9 : ([V.int 0] ++ (places S zs).map fun r => natV r.1) ++ [V.int (((mkS zs).length : Nat) : Int)] = (ends S zs).map natV := by
      unfold ends
      rw [mkS_len, List.map_cons, List.map_append, List.map_map]; rfl
    have kE := kA.trans (kB.trans (kC.trans kD))
    generalize hH3 : upd (upd (upd H2 L1 (.lst ([V.int 0] ++ (places S zs).map fun r => natV r.1))) Z2 (.lst [V.int (((mkS zs).length : Nat) : Int)])) L2 (.lst (([V.int 0] ++ (places S zs).map fun r => natV r.1) ++ [V.int (((mkS zs).length : Nat) : Int)])) = H3 at kE kD
    have eE : H3 L2 = some (.lst ((ends S zs).map natV)) := by rw [← hH3, upd_same, e9]
    refine ⟨_, rfl, L2, _, rfl, .inl (SqL.of eE), _, _, rfl, rfl, ?_⟩
    have e10 : ((((ends S zs).map natV).length : Nat) : Int) - 1 = (((places S zs).length + 1 : Nat) : Int) := by rw [List.length_map, ends_len]; omega
    have lE := ends_len S zs
    have e11 : ((((ends S zs).map natV).length : Nat) : Int) ≤ 100 := by rw [List.length_map, lE]; omega
    refine ⟨_, rfl, _, rfl, by omega, by omega, ?_⟩
    refine for_it walk_range (fun n σ' H' => Same H3 H' ∧ ∃ (z : Int) (x5 x6 x7 x8 x9 : Option V), z = (((places S zs).length + 1 : Nat) : Int) ∧ σ' = [some v, some (sV zs), some u, some (.ref L2), some (.int z), x5, x6, x7, x8, x9]) ⟨Same.refl H3, _, none, none, none, none, none, e10, rfl⟩ (fun _ _ _ _ _ => trivial) ?_ ?_
    · rintro i x σ' H' H'' hi ⟨k1, z, x5, x6, x7, x8, x9, rfl, rfl⟩ ⟨rfl, hx⟩
      have hx : x = .int (i : Int) := by rw [hx]; show V.int (0 + (i : Int)) = _; rw [Int.zero_add]
      subst hx
      have hi : i < (places S zs).length + 1 := by
        have e12 := e10
        omega
      refine ⟨_, rfl, _, _, rfl, rfl, _, rfl, _, _, rfl, rfl, _, _, rfl, ⟨by omega, by omega, by omega, by omega⟩, ?_⟩
      refine for_it walk_range (fun n σ' H' => Same H3 H' ∧ ∃ (x6 x7 x8 x9 : Option V), σ' = [some v, some (sV zs), some u, some (.ref L2), some (.int (((places S zs).length + 1 : Nat) : Int)), some (.int (i : Int)), x6, x7, x8, x9]) ⟨k1, x6, x7, x8, x9, rfl⟩ (fun _ _ _ _ _ => trivial) ?_ ?_
      · rintro m x σ' H4 H5 hm ⟨k2, x6, x7, x8, x9, rfl⟩ ⟨rfl, hx⟩
        have hx : x = .int ((i + 1 + m : Nat) : Int) := by
          rw [hx]
          show V.int ((i : Int) + 1 + (m : Int)) = _
          rw [show (i : Int) + 1 + (m : Int) = ((i + 1 + m : Nat) : Int) by omega]
        subst hx
        obtain ⟨j, hj⟩ : ∃ j, j = i + 1 + m := ⟨_, rfl⟩
        rw [← hj]
        have hj1 : j ≤ (places S zs).length + 1 := by omega
        have ki := kE.trans k2
        have ga : (ends S zs)[i]? = some (ends S zs)[i] := List.getElem?_eq_getElem (by omega)
        have gb : (ends S zs)[j]? = some (ends S zs)[j] := List.getElem?_eq_getElem (by omega)
        have hle : ∀ (k : Nat) (y : Nat), (ends S zs)[k]? = some y → y ≤ zs.length := by
          intro k y hk
          have hm := List.mem_of_getElem? hk
          unfold ends at hm
          rcases List.mem_cons.mp hm with z | z
          · rw [z]; exact Nat.zero_le _
          · rcases List.mem_append.mp z with z | z
            · obtain ⟨r, hr, rfl⟩ := List.mem_map.mp z
              have := places_bd hr; omega
            · rw [List.mem_singleton.mp z]; exact Nat.le_refl _
        have hlt : (ends S zs)[i] ≤ (ends S zs)[j] := Nat.le_of_lt (List.pairwise_iff_getElem.mp (ends_asc S zs h0) i j (by omega) (by omega) (by omega))
        have gai : ((ends S zs).map natV)[i]? = some (natV (ends S zs)[i]) := by rw [List.getElem?_map, ga]; rfl
        have gbj : ((ends S zs).map natV)[j]? = some (natV (ends S zs)[j]) := by rw [List.getElem?_map, gb]; rfl
        refine ⟨_, rfl, _, rfl, _, rfl, _, rfl, rfl, ?_⟩
        by_cases hjn : j = (places S zs).length + 1
        · refine ⟨true, bT (by rw [hjn]), ?_⟩
          refine ⟨u, S, zs, i, j, _, _, by rw [if_pos hjn]; rfl, hs.mono (same_tup ki), ok, h0, by omega, ga, gb, fun H6 k3 => ?_⟩
          have ki3 := ki.trans k3
          have eL6 := k3 _ _ (k2 _ _ eE)
          refine ⟨_, rfl, _, rfl, _, rfl, _, rfl, _, rfl, L2, _, _, _, rfl, rfl, SqL.of eL6, atI_nat gai, _, rfl, _, rfl, L2, _, _, _, rfl, rfl, SqL.of eL6, atI_nat gbj, ?_⟩
          refine ⟨v, S, zs, (ends S zs)[i], (ends S zs)[j], rfl, hv.mono (same_tup ki3), ok, wd, hlt, hle _ _ gb, _, rfl, hp _ _ (hle _ _ gb), ?_⟩
          rw [hpw]
          exact ⟨_, _, rfl, eqv_nat _, true, rfl, k2.trans k3, _, _, _, _, rfl⟩
        · refine ⟨false, bF (fun z => hjn (by have := V.int.inj z; omega)), _, rfl, ?_⟩
          refine ⟨u, S, zs, i, j, _, _, by rw [if_neg hjn]; rfl, hs.mono (same_tup ki), ok, h0, by omega, ga, gb, fun H6 k3 => ?_⟩
          have ki3 := ki.trans k3
          have eL6 := k3 _ _ (k2 _ _ eE)
          refine ⟨_, rfl, _, rfl, _, rfl, _, rfl, _, rfl, L2, _, _, _, rfl, rfl, SqL.of eL6, atI_nat gai, _, rfl, _, rfl, L2, _, _, _, rfl, rfl, SqL.of eL6, atI_nat gbj, ?_⟩
          refine ⟨v, S, zs, (ends S zs)[i], (ends S zs)[j], rfl, hv.mono (same_tup ki3), ok, wd, hlt, hle _ _ gb, _, rfl, hp _ _ (hle _ _ gb), ?_⟩
          rw [hpw]
          exact ⟨_, _, rfl, eqv_nat _, true, rfl, k2.trans k3, _, _, _, _, rfl⟩
      · rintro σ' H4 ⟨k2, x6, x7, x8, x9, rfl⟩
        exact ⟨k2, _, _, _, _, _, _, rfl, rfl⟩
    · rintro σ' H' ⟨k1, z, x5, x6, x7, x8, x9, rfl, rfl⟩
      exact q _ (kE.trans k1)
end
end Vf

set_option Elab.async false
set_option linter.all false
set_option maxRecDepth 100000
set_option maxHeartbeats 4000000
namespace Vf
open PySem PySem.Spec PyProof.Rows L2 TL
/-! ### drawn words -/
theorem natOf {r : Int} {n : Nat} (h0 : 0 < n) (h1 : (n : Int) < 2 → r = 0) (h2 : 2 ≤ (n : Int) → 0 ≤ r ∧ r < (n : Int)) : ∃ j : Nat, r = (j : Int) ∧ j < n := by
  by_cases c : (2 : Int) ≤ n
  · have := h2 c; exact ⟨r.toNat, by omega, by omega⟩
  · exact ⟨0, h1 (by omega), h0⟩
section
variable {P : Program} {w : World} {K : PySem.W.Frag} {mg : Str → Option Value} {base : Heap}
def spSomeWord : Sp := fun vs H Q _ => ∃ (d l : Addr), vs = [.ref d] ∧ DI d l H ∧ ∀ H' zs, Kp d H H' → DI d l H' → WdOk zs → 0 < zs.length → Q (sV zs) H'
theorem ok_y_word (T : Txt K mg) : FnOk P w K mg base CX0 3 T.a_law_some_word T.d_law_some_word ["_law_d"] spSomeWord := by
  have G_law_draw : FnOk P w K mg base CX0 1 T.a_law_draw T.d_law_draw ["_law_d", "_law_many"] spDraw := ok_draw T
  have G_law_pick : FnOk P w K mg base CX0 2 T.a_law_pick T.d_law_pick ["_law_d", "_law_row"] (spPick K) := ok_pick T
  refine T.D_law_some_word.F.ok sc_law_some_word (fun vs H Q E h => ?_) (fun cdv A outer s H vs Q E hr h => ?_)
  · obtain ⟨d, l, rfl, _⟩ := h
    rfl
  · obtain ⟨d, l, rfl, hD, q⟩ := h
    refine ⟨_, (pss_cons (ps_set (i := 1) sc_law_some_word.nd rfl (.inr rfl) (pe_call G_law_pick (hr.mono (by decide)) (by rfl) T.D_law_pick.G T.D_law_pick.F.kp T.D_law_pick.B .nil pass0 (pa_cons (pv 0) (pa_cons (pe_lst (pa_cons pe_str (pa_cons pe_str (pa_cons pe_str (pa_cons pe_str (pa_cons pe_str pa_nil)))))) pa_nil))))
      (pss_cons (ps_set (i := 2) sc_law_some_word.nd rfl (.inl rfl) (pe_op op_add pe_int (pe_call G_law_draw (hr.mono (by decide)) (by rfl) T.D_law_draw.G T.D_law_draw.F.kp T.D_law_draw.B .nil pass0 (pa_cons (pv 0) (pa_cons pe_int pa_nil)))))
      (pss_cons (ps_if (pt_cmpR op_eq (pe_call G_law_draw (hr.mono (by decide)) (by rfl) T.D_law_draw.G T.D_law_draw.F.kp T.D_law_draw.B .nil pass0 (pa_cons (pv 0) (pa_cons pe_int pa_nil))) pe_int (nomark _)) (pss_one (ps_set (i := 2) sc_law_some_word.nd rfl (.inl rfl) (pe_op op_add pe_int (pe_call G_law_draw (hr.mono (by decide)) (by rfl) T.D_law_draw.G T.D_law_draw.F.kp T.D_law_draw.B .nil pass0 (pa_cons (pv 0) (pa_cons pe_int pa_nil)))))) pss_nil)
      (pss_one (ps_ret (pe_join pe_str (pe_lc (own := [("_law_k", 3)]) (g := gName 3) (tt := tYes) rfl sc_law_some_word.nd (pi_range1 (by rfl) T.n_range (pa_cons (pv 2) pa_nil)) (blkOk_by (own := [("_law_k", 3)]) (N := ["_law_d", "_law_signs", "_law_long", "_law_k"]) (sc := defScope s_law_some_word) (by decide +kernel)) (fun _ _ _ _ _ => (pg_name (i := 3) sc_law_some_word.nd rfl (.inl rfl))) (fun _ _ _ _ _ => pts_nil) (fun _ _ _ _ _ => (pe_call G_law_pick (hr.mono (by decide)) (by rfl) T.D_law_pick.G T.D_law_pick.F.kp T.D_law_pick.B .nil pass0 (pa_cons (pv 0) (pa_cons (pv 1) pa_nil))))))))))), ?_⟩
    refine ⟨_, rfl, Nat.le_of_lt (lt_s (by show _ < 100000; simp)), fun p np => ?_⟩
    refine ⟨d, l, _, _, rfl, hD.new np, .inl ⟨p, rfl, (hD.nd np).1, SqL.of upd_same⟩, by simp, by simp, fun H1 v K1 D1 hv => ?_⟩
    obtain ⟨cs, rfl, c0, c1, cb⟩ : ∃ cs : List Nat, v = sV cs ∧ 0 < cs.length ∧ cs.length ≤ 1000 ∧ ∀ c ∈ cs, c < 1114112 ∧ c ≠ 95 := by
      simp only [List.mem_cons, List.not_mem_nil, or_false] at hv
      have hall : ∀ z : Str, (0 < z.cps.toList.length && decide (z.cps.toList.length ≤ 1000) && z.cps.toList.all fun c => decide (c < 1114112) && !decide (c = 95)) = true → V.str z = sV z.cps.toList ∧ 0 < z.cps.toList.length ∧ z.cps.toList.length ≤ 1000 ∧ ∀ c ∈ z.cps.toList, c < 1114112 ∧ c ≠ 95 := by
        intro z hz
        rw [Bool.and_eq_true, Bool.and_eq_true] at hz
        exact ⟨rfl, of_decide_eq_true hz.1.1, of_decide_eq_true hz.1.2, fun c hc => by
          have := List.all_eq_true.mp hz.2 c hc
          rw [Bool.and_eq_true] at this
          exact ⟨of_decide_eq_true this.1, fun e => by rw [decide_eq_true e] at this; exact absurd this.2 (by decide)⟩⟩
      rcases hv with rfl | rfl | rfl | rfl | rfl
      all_goals exact ⟨_, hall _ (by decide +kernel)⟩
    have KA := ((Kp.refl d H).new np).trans K1
    refine ⟨_, rfl, d, l, _, rfl, D1, by decide, fun H2 r K2 D2 _ r2 => ?_⟩
    have r2 := r2 (by decide)
    refine ⟨_, _, rfl, rfl, _, rfl, d, l, _, rfl, D2, by decide, fun H3 r3 K3 D3 _ _ => ?_⟩
    have KB := KA.trans (K2.trans K3)
    have fin : ∀ (n : Int) (H4 : Hp) (x3 : Option V), 1 ≤ n → n ≤ 16 → Kp d H H4 → DI d l H4 → True := fun _ _ _ _ _ _ _ => trivial
    refine ⟨rfl, _, rfl, ite2 (fun c => ?_) (fun c => ?_)⟩
    · refine ⟨_, rfl, d, l, _, rfl, D3, by decide, fun H4 r4 K4 D4 _ r5 => ?_⟩
      have r5 := r5 (by decide)
      refine ⟨_, _, rfl, rfl, ?_⟩
      have KC := KB.trans K4
      refine ⟨⟨_, rfl⟩, _, rfl, _, rfl, by omega, by omega, fun D nD => lc_range (lo := 0) (n := (8 + r4).toNat) (PvS (One cs) d l H4 D) (PvS.start D4 nD) (fun i H5 hi p => ⟨rfl, _, rfl, _, rfl, pick_one p.dice c0 c1 fun H2 zs k2 d2 r => p.step D4 nD (by omega) k2 d2 r⟩) (fun H' p => ?_)⟩
      obtain ⟨zss, hl, hR, K5, D5, e5⟩ := p
      have ⟨f1, f2⟩ := one_flat hR
      refine ⟨_, D, zss.map mkS, rfl, rfl, .inl (SqL.of (by rw [e5, map_sV])), ?_, ?_⟩
      · rw [sum_len, f1, show (("" : Str)).length = 0 from by rw [empty_mk, mkS_len]; rfl]; omega
      · rw [join_mk]
        exact q H' _ (KC.trans K5) D5 ⟨by rw [f1, hl]; omega, fun c hc => (cb c (f2 c hc)).1, fun c hc => (cb c (f2 c hc)).2⟩ (by rw [f1, hl]; omega)
    · refine ⟨⟨_, rfl⟩, _, rfl, _, rfl, by omega, by omega, fun D nD => lc_range (lo := 0) (n := (1 + r).toNat) (PvS (One cs) d l H3 D) (PvS.start D3 nD) (fun i H5 hi p => ⟨rfl, _, rfl, _, rfl, pick_one p.dice c0 c1 fun H2 zs k2 d2 r => p.step D3 nD (by omega) k2 d2 r⟩) (fun H' p => ?_)⟩
      obtain ⟨zss, hl, hR, K5, D5, e5⟩ := p
      have ⟨f1, f2⟩ := one_flat hR
      refine ⟨_, D, zss.map mkS, rfl, rfl, .inl (SqL.of (by rw [e5, map_sV])), ?_, ?_⟩
      · rw [sum_len, f1, show (("" : Str)).length = 0 from by rw [empty_mk, mkS_len]; rfl]; omega
      · rw [join_mk]
        exact q H' _ (KB.trans K5) D5 ⟨by rw [f1, hl]; omega, fun c hc => (cb c (f2 c hc)).1, fun c hc => (cb c (f2 c hc)).2⟩ (by rw [f1, hl]; omega)
end
end Vf

set_option Elab.async false
set_option linter.all false
set_option maxRecDepth 100000
set_option maxHeartbeats 4000000
namespace Vf
open PySem PySem.Spec PyProof.Rows L2 TL
/-! ### drawn styles: the mathematics -/
theorem rising_sg : ∀ (p : Nat) (l : List Nat), risingS (sg1 p) (l.map sg1) = true → (∀ x ∈ l, p ≤ x) ∧ l.Pairwise (· ≤ ·)
  | _, [], _ => ⟨(fun _ h => nomatch h), List.Pairwise.nil⟩
  | p, x :: r, h => by
    have h : (!ltCps (sg1 x).cps.toList (sg1 p).cps.toList && risingS (sg1 x) (r.map sg1)) = true := h
    rw [Bool.and_eq_true] at h
    obtain ⟨h1, h2⟩ := rising_sg x r h.2
    have hp : p ≤ x := by
      have h3 := h.1
      have e : ltCps (sg1 x).cps.toList (sg1 p).cps.toList = (decide (x < p) || ((x == p) && false)) := rfl
      rw [e, Bool.and_false, Bool.or_false] at h3
      by_cases c : x < p
      · rw [decide_eq_true c] at h3; cases h3
      · omega
    refine ⟨fun y hy => ?_, List.pairwise_cons.mpr ⟨h1, h2⟩⟩
    rcases List.mem_cons.mp hy with z | z
    · rw [z]; exact hp
    · exact Nat.le_trans hp (h1 y z)
theorem sorted_sg {l : List Nat} (h : sortedS (l.map sg1) = true) : l.Pairwise (· ≤ ·) := by
  cases l with
  | nil => exact .nil
  | cons x r =>
    have h : risingS (sg1 x) (r.map sg1) = true := h
    obtain ⟨h1, h2⟩ := rising_sg x r h
    exact List.pairwise_cons.mpr ⟨h1, h2⟩
theorem sorted_lt {l : List Nat} (h : l.Pairwise (· ≤ ·)) (nd : l.Nodup) : l.Pairwise (· < ·) := (h.and nd).imp fun ⟨a, b⟩ => Nat.lt_of_le_of_ne a b
def le2 (a b : Nat × Nat) : Prop := a.1 < b.1 ∨ (a.1 = b.1 ∧ a.2 ≤ b.2)
theorem sorted_lex {l : List (Nat × Nat)} (h : l.Pairwise le2) (nd : l.Nodup) : l.Pairwise fun a b => lexN [a.1, a.2] [b.1, b.2] = true := (h.and nd).imp fun {a b} ⟨x, y⟩ => by
  show (if a.1 = b.1 then (if a.2 = b.2 then false else decide (a.2 < b.2)) else decide (a.1 < b.1)) = true
  by_cases e : a.1 = b.1
  · rw [if_pos e]
    by_cases e2 : a.2 = b.2
    · exact absurd (Prod.ext e e2) y
    · rw [if_neg e2]
      rcases x with x | x
      · exact absurd e (by omega)
      · exact decide_eq_true (by have := x.2; omega)
  · rw [if_neg e]
    rcases x with x | x
    · exact decide_eq_true x
    · exact absurd x.1 e
theorem fm_succ {α β : Type} {g : α → Option β} {l : List α} {n : Nat} {x : α} (h : l[n]? = some x) : (l.take (n + 1)).filterMap g = (l.take n).filterMap g ++ (g x).toList := by
  rw [take_succ' h, List.filterMap_append]
  have e2 : [x].filterMap g = (g x).toList := by
    cases e : g x with
    | none => rw [List.filterMap_cons_none e]; rfl
    | some y => rw [List.filterMap_cons_some e]; rfl
  rw [e2]
/-- rows by keys that have a value -/
theorem look_fm {κ β : Type} [DecidableEq κ] (f : κ → Option β) (l : List κ) (k : κ) : look (l.filterMap fun c => (f c).map fun p => (c, p)) k = if k ∈ l then f k else none := by
  induction l with
  | nil => rfl
  | cons c l ih =>
    cases e : f c with
    | none =>
      rw [List.filterMap_cons_none (by rw [e]; rfl), ih]
      by_cases h : k ∈ l
      · rw [if_pos h, if_pos (List.mem_cons_of_mem _ h)]
      · rw [if_neg h]
        by_cases h2 : k = c
        · rw [if_pos (by rw [h2]; exact List.mem_cons_self), h2, e]
        · rw [if_neg fun z => (List.mem_cons.mp z).elim h2 h]
    | some p =>
      rw [List.filterMap_cons_some (b := (c, p)) (by rw [e]; rfl)]
      by_cases h2 : c = k
      · subst h2
        rw [if_pos List.mem_cons_self, e]
        exact look_hit
      · rw [look_miss h2, ih]
        by_cases h : k ∈ l
        · rw [if_pos h, if_pos (List.mem_cons_of_mem _ h)]
        · rw [if_neg h, if_neg fun z => (List.mem_cons.mp z).elim (fun y => h2 y.symm) h]
theorem look_key {κ β : Type} [DecidableEq κ] {L : List (κ × β)} {k : κ} (h : k ∈ L.map (·.1)) : ∃ x, look L k = some x := by
  induction L with
  | nil => cases h
  | cons r L ih =>
    by_cases e : r.1 = k
    · exact ⟨r.2, by rw [← e]; exact look_hit⟩
    · rw [look_miss e]
      rcases List.mem_cons.mp h with z | z
      · exact absurd z.symm e
      · exact ih z
theorem look_nokey {κ β : Type} [DecidableEq κ] {L : List (κ × β)} {k : κ} (h : k ∉ L.map (·.1)) : look L k = none := look_none fun r hr e => h (List.mem_map.mpr ⟨r, hr, e⟩)
theorem valV_look {κ : Type} [DecidableEq κ] (kvs : List (κ × V)) (k : κ) : valV kvs k = look kvs k := rfl
def wkV (k : List (Nat × Nat)) : List (Key × V) := k.map fun r => (Sum.inr (sg1 r.1), natV r.2)
def kk2 (k : Nat × Nat) : List Key := [Sum.inr (sg1 k.1), Sum.inr (sg1 k.2)]
def ckV (k : List ((Nat × Nat) × Nat)) : List (List Key × V) := k.map fun r => (kk2 r.1, natV r.2)
def bkV (k : List ((Nat × Nat) × Option Nat)) : List (List Key × V) := k.map fun r => (kk2 r.1, prV r.2)
theorem sg1_inj {a b : Nat} (h : sg1 a = sg1 b) : a = b := by
  have := congrArg (fun t : Str => t.cps.toList) h
  exact (List.cons.inj this).1
theorem kk2_inj {a b : Nat × Nat} (h : kk2 a = kk2 b) : a = b := by
  have h1 := List.cons.inj h
  have h2 := List.cons.inj h1.2
  exact Prod.ext (sg1_inj (Sum.inr.inj h1.1)) (sg1_inj (Sum.inr.inj h2.1))
theorem wkV_get (k : List (Nat × Nat)) (c : Nat) : valV (wkV k) (Sum.inr (sg1 c)) = (look k c).map natV := look_map (f := fun c : Nat => (Sum.inr (sg1 c) : Key)) (g := natV) (fun a b e => sg1_inj (Sum.inr.inj e)) k c
theorem ckV_get (k : List ((Nat × Nat) × Nat)) (c : Nat × Nat) : valV (ckV k) (kk2 c) = (look k c).map natV := look_map (f := kk2) (g := natV) (fun a b e => kk2_inj e) k c
theorem bkV_get (k : List ((Nat × Nat) × Option Nat)) (c : Nat × Nat) : valV (bkV k) (kk2 c) = (look k c).map prV := look_map (f := kk2) (g := prV) (fun a b e => kk2_inj e) k c
theorem wkV_put {k : List (Nat × Nat)} {c x : Nat} (h : look k c = none) : putK (wkV k) (Sum.inr (sg1 c)) (natV x) = wkV (k ++ [(c, x)]) := by
  rw [putK_new _ (by rw [wkV_get, h]; rfl)]
  unfold wkV
  rw [List.map_append]; rfl
theorem ckV_put {k : List ((Nat × Nat) × Nat)} {c : Nat × Nat} {x : Nat} (h : look k c = none) : putK (ckV k) (kk2 c) (natV x) = ckV (k ++ [(c, x)]) := by
  rw [putK_new _ (by rw [ckV_get, h]; rfl)]
  unfold ckV
  rw [List.map_append]; rfl
theorem bkV_put {k : List ((Nat × Nat) × Option Nat)} {c : Nat × Nat} {x : Option Nat} (h : look k c = none) : putK (bkV k) (kk2 c) (prV x) = bkV (k ++ [(c, x)]) := by
  rw [putK_new _ (by rw [bkV_get, h]; rfl)]
  unfold bkV
  rw [List.map_append]; rfl
theorem bkV_again {k : List ((Nat × Nat) × Option Nat)} {c : Nat × Nat} {x y : Option Nat} (h : look k c = none) : putK (bkV (k ++ [(c, x)])) (kk2 c) (prV y) = bkV (k ++ [(c, y)]) := by
  unfold putK
  have e : valV (bkV (k ++ [(c, x)])) (kk2 c) = some (prV x) := by
    rw [bkV_get, look_snoc (fun q hq z => ?_), if_pos rfl]
    · rfl
    · obtain ⟨v, hv⟩ := look_key (L := k) (List.mem_map.mpr ⟨q, hq, z⟩)
      rw [h] at hv; cases hv
  rw [if_pos (by rw [valV_any, e]; rfl)]
  unfold bkV
  rw [List.map_append, List.map_append, List.map_append]
  congr 1
  · rw [List.map_map]
    apply List.map_congr_left
    intro r hr
    show (if kk2 r.1 = kk2 c then (kk2 r.1, prV y) else (kk2 r.1, prV r.2)) = _
    rw [if_neg]
    intro z
    obtain ⟨v, hv⟩ := look_key (L := k) (List.mem_map.mpr ⟨r, hr, kk2_inj z⟩)
    rw [h] at hv; cases hv
  · show [if kk2 c = kk2 c then (kk2 c, prV y) else (kk2 c, prV x)] = _
    rw [if_pos rfl]; rfl
/-- rows as they are gathered -/
def RowsL (H : Hp) (vs : List V) (L : List (List Nat × V)) : Prop := vs.length = L.length ∧ ∀ (i : Nat) (r : List Nat × V), L[i]? = some r → ∃ b : Addr, vs[i]? = some (.ref b) ∧ H b = some (.tup (rowV r))
theorem RowsL.same {H H' : Hp} {vs : List V} {L : List (List Nat × V)} (h : RowsL H vs L) (k : ∀ a xs, H a = some (.tup xs) → H' a = some (.tup xs)) : RowsL H' vs L := ⟨h.1, fun i r e => by
  obtain ⟨b, e1, e2⟩ := h.2 i r e
  exact ⟨b, e1, k _ _ e2⟩⟩
theorem RowsL.snoc {H : Hp} {vs : List V} {L : List (List Nat × V)} {b : Addr} {r : List Nat × V} (h : RowsL H vs L) (hb : H b = some (.tup (rowV r))) : RowsL H (vs ++ [.ref b]) (L ++ [r]) := by
  refine ⟨by rw [List.length_append, List.length_append, h.1]; rfl, fun i q e => ?_⟩
  by_cases hi : i < L.length
  · rw [List.getElem?_append_left hi] at e
    obtain ⟨y, e1, e2⟩ := h.2 i q e
    exact ⟨y, by rw [List.getElem?_append_left (by rw [h.1]; exact hi)]; exact e1, e2⟩
  · rw [List.getElem?_append_right (by omega)] at e
    have e0 : i - L.length = 0 := by
      have := (List.getElem?_eq_some_iff.mp e).1
      simp at this
      exact this
    rw [e0] at e
    have e : r = q := Option.some.inj e
    subst e
    exact ⟨b, by rw [List.getElem?_append_right (by rw [h.1]; omega), h.1, e0]; rfl, hb⟩
theorem RowsL.toV {H : Hp} {a : Addr} {vs : List V} {L : List (List Nat × V)} (h : RowsL H vs L) (e : H a = some (.tup vs)) : RowsV H (.ref a) L := ⟨a, vs, rfl, e, h.1, h.2⟩
def fW (wk : List (Nat × Nat)) (c : Nat) : Option Nat := if 1 < wOf wk c then some (wOf wk c) else none
def fC (ck : List ((Nat × Nat) × Nat)) (k : Nat × Nat) : Option Nat := if 0 < cutOf ck k.1 k.2 then some (cutOf ck k.1 k.2) else none
def fB (bk : List ((Nat × Nat) × Option Nat)) (k : Nat × Nat) : Option Nat := (look bk k).getD none
def rowsOf {κ : Type} (f : κ → Option Nat) (l : List κ) : List (κ × Nat) := l.filterMap fun c => (f c).map fun p => (c, p)
theorem rowsOf_len {κ : Type} (f : κ → Option Nat) (l : List κ) : (rowsOf f l).length ≤ l.length := List.length_filterMap_le _ _
theorem rowsOf_mem {κ : Type} {f : κ → Option Nat} {l : List κ} {r : κ × Nat} (h : r ∈ rowsOf f l) : r.1 ∈ l ∧ f r.1 = some r.2 := by
  obtain ⟨c, hc, e⟩ := List.mem_filterMap.mp h
  cases e2 : f c with
  | none => rw [e2] at e; cases e
  | some p =>
    rw [e2] at e
    have e : (c, p) = r := Option.some.inj e
    subst e
    exact ⟨hc, e2⟩
theorem rowsOf_pw {κ : Type} {R : κ → κ → Prop} {f : κ → Option Nat} {l : List κ} (h : l.Pairwise R) : (rowsOf f l).Pairwise fun a b => R a.1 b.1 := by
  refine List.Pairwise.filterMap _ ?_ h
  intro a b hab p hp q hq
  cases e1 : f a with
  | none => rw [e1] at hp; cases hp
  | some x =>
    cases e2 : f b with
    | none => rw [e2] at hq; cases hq
    | some y =>
      rw [e1] at hp
      rw [e2] at hq
      have hp : (a, x) = p := Option.some.inj hp
      have hq : (b, y) = q := Option.some.inj hq
      subst hp hq
      exact hab
structure Dicts (wk : List (Nat × Nat)) (ck : List ((Nat × Nat) × Nat)) (bk : List ((Nat × Nat) × Option Nat)) : Prop where
  nw : (wk.map (·.1)).Nodup
  w3 : ∀ r ∈ wk, 1 ≤ r.2 ∧ r.2 ≤ 3
  uw : ∀ r ∈ wk, r.1 < 1114112
  lw : wk.length ≤ 40
  nc : (ck.map (·.1)).Nodup
  cb : ck.map (·.1) = bk.map (·.1)
  lc : ck.length ≤ 40
  cw : ∀ r ∈ ck, r.2 < wOf wk r.1.1
  uc : ∀ r ∈ ck, r.1.1 < 1114112 ∧ r.1.2 < 1114112
theorem style_ok {wk : List (Nat × Nat)} {ck : List ((Nat × Nat) × Nat)} {bk : List ((Nat × Nat) × Option Nat)} (D : Dicts wk ck bk) {ys : List Nat} {ks js : List (Nat × Nat)} (h1 : ys.Perm (wk.map (·.1))) (s1 : ys.Pairwise (· ≤ ·)) (h2 : ks.Perm (ck.map (·.1))) (s2 : ks.Pairwise le2) (h3 : js.Perm (bk.map (·.1))) (s3 : js.Pairwise le2) (m dp cl : Int) :
    StyOk ⟨m, dp, cl, rowsOf (fW wk) ys, rowsOf (fC ck) ks, rowsOf (fB bk) js⟩ := by
  have hy : ∀ r ∈ rowsOf (fW wk) ys, ∃ x, look wk r.1 = some x ∧ (r.1, x) ∈ wk := fun r hr => by
    obtain ⟨x, hx⟩ := look_key (h1.mem_iff.mp (rowsOf_mem hr).1)
    exact ⟨x, hx, look_mem hx⟩
  have w1 : ∀ c, 1 ≤ wOf wk c ∧ wOf wk c ≤ 3 := fun c => by
    unfold wOf
    cases e : look wk c with
    | none => exact ⟨Nat.le_refl _, by decide⟩
    | some w => exact D.w3 _ (look_mem e)
  have wl : ∀ c, wOf (rowsOf (fW wk) ys) c = wOf wk c := fun c => by
    show (look (ys.filterMap fun c => (fW wk c).map fun p => (c, p)) c).getD 1 = _
    rw [look_fm]
    by_cases hc : c ∈ ys
    · rw [if_pos hc]
      unfold fW
      by_cases h : 1 < wOf wk c
      · rw [if_pos h]; rfl
      · rw [if_neg h]
        show 1 = _
        have := (w1 c).1
        omega
    · rw [if_neg hc]
      unfold wOf
      rw [look_nokey fun z => hc (h1.mem_iff.mpr z)]
  have nb : (bk.map (·.1)).Nodup := by rw [← D.cb]; exact D.nc
  have ub : ∀ k ∈ bk.map (·.1), k.1 < 1114112 ∧ k.2 < 1114112 := fun k hk => by
    rw [← D.cb] at hk
    obtain ⟨r, hr, rfl⟩ := List.mem_map.mp hk
    exact D.uc r hr
  refine ⟨?_, ?_, ?_, ?_, ?_, ?_, ?_, ?_, ?_, ?_, ?_⟩
  · show (List.map _ (rowsOf (fW wk) ys)).Pairwise _
    rw [List.pairwise_map]
    exact (rowsOf_pw (sorted_lt s1 (h1.nodup_iff.mpr D.nw))).imp fun {a b} h => by
      show (if a.1 = b.1 then false else decide (a.1 < b.1)) = true
      rw [if_neg (by omega)]; exact decide_eq_true h
  · show (List.map _ (rowsOf (fC ck) ks)).Pairwise _
    rw [List.pairwise_map]
    exact rowsOf_pw (sorted_lex s2 (h2.nodup_iff.mpr D.nc))
  · show (List.map _ (rowsOf (fB bk) js)).Pairwise _
    rw [List.pairwise_map]
    exact rowsOf_pw (sorted_lex s3 (h3.nodup_iff.mpr nb))
  · have := rowsOf_len (fW wk) ys
    have e := h1.length_eq
    rw [List.length_map] at e
    have := D.lw
    show (rowsOf (fW wk) ys).length ≤ 100
    omega
  · have := rowsOf_len (fC ck) ks
    have e := h2.length_eq
    rw [List.length_map] at e
    have := D.lc
    show (rowsOf (fC ck) ks).length ≤ 100
    omega
  · have := rowsOf_len (fB bk) js
    have e := h3.length_eq
    rw [← D.cb, List.length_map] at e
    have := D.lc
    show (rowsOf (fB bk) js).length ≤ 100
    omega
  · intro r hr
    have h := (rowsOf_mem hr).2
    unfold fW at h
    by_cases c : 1 < wOf wk r.1
    · rw [if_pos c] at h
      rw [← Option.some.inj h]
      exact w1 _
    · rw [if_neg c] at h; cases h
  · intro r hr c hc
    obtain ⟨q, hq, rfl⟩ := List.mem_map.mp hr
    have hc : c ∈ [q.1] := hc
    rw [List.mem_singleton.mp hc]
    obtain ⟨x, _, hx⟩ := hy q hq
    exact D.uw (q.1, x) hx
  · intro r hr c hc
    obtain ⟨q, hq, rfl⟩ := List.mem_map.mp hr
    have hk := h2.mem_iff.mp (rowsOf_mem hq).1
    obtain ⟨y, hy2, e⟩ := List.mem_map.mp hk
    have u := D.uc y hy2
    rw [e] at u
    have hc : c ∈ [q.1.1, q.1.2] := hc
    rcases List.mem_cons.mp hc with z | z
    · rw [z]; exact u.1
    · rw [List.mem_singleton.mp z]; exact u.2
  · intro r hr c hc
    obtain ⟨q, hq, rfl⟩ := List.mem_map.mp hr
    have u := ub _ (h3.mem_iff.mp (rowsOf_mem hq).1)
    have hc : c ∈ [q.1.1, q.1.2] := hc
    rcases List.mem_cons.mp hc with z | z
    · rw [z]; exact u.1
    · rw [List.mem_singleton.mp z]; exact u.2
  · intro r hr
    have h := (rowsOf_mem hr).2
    show r.2 < wOf (rowsOf (fW wk) ys) r.1.1
    rw [wl]
    unfold fC at h
    by_cases c : 0 < cutOf ck r.1.1 r.1.2
    · rw [if_pos c] at h
      rw [← Option.some.inj h]
      unfold cutOf at c ⊢
      cases e : look ck (r.1.1, r.1.2) with
      | none => rw [e] at c; cases c
      | some x =>
        exact D.cw _ (look_mem e)
    · rw [if_neg c] at h; cases h
end Vf

set_option Elab.async false
set_option linter.all false
set_option maxRecDepth 100000
set_option maxHeartbeats 4000000
namespace Vf
open PySem PySem.Spec PyProof.Rows L2 TL
theorem in_keys_snoc {κ β : Type} {L : List (κ × β)} {r : κ × β} {k : κ} : k ∈ (L ++ [r]).map (·.1) ↔ k ∈ L.map (·.1) ∨ k = r.1 := by
  rw [List.map_append, List.mem_append]
  exact or_congr Iff.rfl List.mem_singleton
theorem nd_keys_snoc {κ β : Type} [DecidableEq κ] {L : List (κ × β)} {r : κ × β} (h : (L.map (·.1)).Nodup) (e : look L r.1 = none) : ((L ++ [r]).map (·.1)).Nodup := by
  rw [List.map_append]
  refine nd_snoc h fun m => ?_
  obtain ⟨x, hx⟩ := look_key m
  rw [e] at hx; cases hx
structure WkI (t : List Nat) (n : Nat) (wk : List (Nat × Nat)) : Prop where
  len : wk.length ≤ n
  nd : (wk.map (·.1)).Nodup
  w3 : ∀ r ∈ wk, 1 ≤ r.2 ∧ r.2 ≤ 3
  has : ∀ c ∈ t.take n, c ∈ wk.map (·.1)
  from_ : ∀ r ∈ wk, r.1 ∈ t
theorem WkI.old {t : List Nat} {n c : Nat} {wk : List (Nat × Nat)} (h : WkI t n wk) (hc : t[n]? = some c) (hk : c ∈ wk.map (·.1)) : WkI t (n + 1) wk :=
  ⟨Nat.le_succ_of_le h.len, h.nd, h.w3, fun x hx => by
    rw [take_succ' hc] at hx
    rcases List.mem_append.mp hx with z | z
    · exact h.has x z
    · rw [List.mem_singleton.mp z]; exact hk, h.from_⟩
theorem WkI.new {t : List Nat} {n c x : Nat} {wk : List (Nat × Nat)} (h : WkI t n wk) (hc : t[n]? = some c) (hk : look wk c = none) (hx : 1 ≤ x ∧ x ≤ 3) : WkI t (n + 1) (wk ++ [(c, x)]) :=
  ⟨by rw [List.length_append]; exact Nat.succ_le_succ h.len, nd_keys_snoc (r := (c, x)) h.nd hk, fun r hr => by
    rcases List.mem_append.mp hr with z | z
    · exact h.w3 r z
    · rw [List.mem_singleton.mp z]; exact hx, fun y hy => by
    rw [take_succ' hc] at hy
    rw [in_keys_snoc]
    rcases List.mem_append.mp hy with z | z
    · exact .inl (h.has y z)
    · exact .inr (List.mem_singleton.mp z), fun r hr => by
    rcases List.mem_append.mp hr with z | z
    · exact h.from_ r z
    · rw [List.mem_singleton.mp z]; exact List.mem_of_getElem? hc⟩
structure CkI (wk : List (Nat × Nat)) (n : Nat) (ck : List ((Nat × Nat) × Nat)) (bk : List ((Nat × Nat) × Option Nat)) : Prop where
  len : ck.length ≤ n
  nd : (ck.map (·.1)).Nodup
  cb : ck.map (·.1) = bk.map (·.1)
  cw : ∀ r ∈ ck, r.2 < wOf wk r.1.1
  uc : ∀ r ∈ ck, r.1.1 < 1114112 ∧ r.1.2 < 1114112
theorem CkI.up {wk : List (Nat × Nat)} {n : Nat} {ck : List ((Nat × Nat) × Nat)} {bk : List ((Nat × Nat) × Option Nat)} (h : CkI wk n ck bk) {m : Nat} (hm : n ≤ m) : CkI wk m ck bk := ⟨Nat.le_trans h.len hm, h.nd, h.cb, h.cw, h.uc⟩
theorem CkI.new {wk : List (Nat × Nat)} {n : Nat} {ck : List ((Nat × Nat) × Nat)} {bk : List ((Nat × Nat) × Option Nat)} (h : CkI wk n ck bk) {k : Nat × Nat} (hk : look ck k = none) {x : Nat} (hx : x < wOf wk k.1) (hu : k.1 < 1114112 ∧ k.2 < 1114112) (o : Option Nat) : CkI wk (n + 1) (ck ++ [(k, x)]) (bk ++ [(k, o)]) :=
  ⟨by rw [List.length_append]; exact Nat.succ_le_succ h.len, nd_keys_snoc (r := (k, x)) h.nd hk, by rw [List.map_append, List.map_append, h.cb]; rfl, fun r hr => by
    rcases List.mem_append.mp hr with z | z
    · exact h.cw r z
    · rw [List.mem_singleton.mp z]; exact hx, fun r hr => by
    rcases List.mem_append.mp hr with z | z
    · exact h.uc r z
    · rw [List.mem_singleton.mp z]; exact hu⟩
theorem CkI.bnone {wk : List (Nat × Nat)} {n : Nat} {ck : List ((Nat × Nat) × Nat)} {bk : List ((Nat × Nat) × Option Nat)} (h : CkI wk n ck bk) {k : Nat × Nat} (hk : look ck k = none) : look bk k = none := by
  apply look_nokey
  rw [← h.cb]
  intro m
  obtain ⟨x, hx⟩ := look_key m
  rw [hk] at hx; cases hx
theorem keepT {H : Hp} {F : Addr} {vs us : List V} (e : H F = some (.lst vs)) : ∀ a xs, H a = some (.tup xs) → upd H F (.lst us) a = some (.tup xs) := fun a xs h => by
  rw [upd_ne (fun z => by rw [z, e] at h; cases h)]; exact h
theorem rowsOf_succ {κ : Type} {f : κ → Option Nat} {l : List κ} {n : Nat} {x : κ} (h : l[n]? = some x) : rowsOf f (l.take (n + 1)) = rowsOf f (l.take n) ++ ((f x).map fun p => (x, p)).toList := fm_succ h
theorem mem_of_at' {zs : List Nat} {k c : Nat} (h : (mkS zs).cps.toList[k]? = some c) : c ∈ zs := List.mem_of_getElem? (show zs[k]? = some c from h)
theorem Kp.freeY {d l p : Addr} {H H' : Hp} (k : Kp d H H') (D : DI d l H') (n : H' p = none) : H p = none := by
  cases e : H p with
  | none => rfl
  | some o =>
    have h := k p o (D.nd n).1 e
    rw [n] at h; cases h
section
variable {P : Program} {w : World} {K : PySem.W.Frag} {mg : Str → Option Value} {base : Heap}
def spStyleFor : Sp := fun vs H Q _ => ∃ (d l wl : Addr) (z1 z2 : List Nat), vs = [.ref d, .ref wl] ∧ DI d l H ∧ wl ≠ d ∧ H wl = some (.lst [sV z1, sV z2]) ∧ WdOk z1 ∧ WdOk z2 ∧ ∀ H' v S, Kp d H H' → DI d l H' → StyV H' v S → StyOk S → Q v H'
theorem ok_style_for (T : Txt K mg) : FnOk P w K mg base CX0 3 T.a_law_style_for T.d_law_style_for ["_law_d", "_law_words"] spStyleFor := by
  have G_law_draw : FnOk P w K mg base CX0 1 T.a_law_draw T.d_law_draw ["_law_d", "_law_many"] spDraw := ok_draw T
  have G_law_pick : FnOk P w K mg base CX0 2 T.a_law_pick T.d_law_pick ["_law_d", "_law_row"] (spPick K) := ok_pick T
  refine T.D_law_style_for.F.ok sc_law_style_for (fun vs H Q E h => ?_) (fun cdv A outer s H vs Q E hr h => ?_)
  · obtain ⟨d, l, wl, z1, z2, rfl, _⟩ := h
    rfl
  · obtain ⟨d, l, wl, z1, z2, rfl, hD, nwl, eW, w1, w2, q⟩ := h
    refine ⟨_, (pss_cons (ps_set (i := 2) sc_law_style_for.nd rfl (.inr rfl) pe_dnewK)
      (pss_cons (ps_for PassesOwn.never rfl (pi_str (pe_op op_add_str (pe_join pe_str (pv 1)) pe_str)) (pg_name (i := 3) sc_law_style_for.nd rfl (.inl rfl)) (pss_one (ps_if (pt_cmp (pc_dnotin (hu1 hr) (pv 3) (pv 2))) (pss_one (ps_dput (hu1 hr) (pv 2) (pv 3) (pe_op op_add pe_int (pe_call G_law_draw (hr.mono (by decide)) (by rfl) T.D_law_draw.G T.D_law_draw.F.kp T.D_law_draw.B .nil pass0 (pa_cons (pv 0) (pa_cons pe_int pa_nil)))) rfl)) pss_nil)))
      (pss_cons (ps_set (i := 4) sc_law_style_for.nd rfl (.inr rfl) pe_dnewT)
      (pss_cons (ps_set (i := 5) sc_law_style_for.nd rfl (.inr rfl) pe_dnewT)
      (pss_cons (ps_for PassesOwn.never rfl (pi_list (pv 1)) (pg_name (i := 6) sc_law_style_for.nd rfl (.inl rfl)) (pss_one (ps_for PassesOwn.never rfl (pi_range2 (by rfl) T.n_range (pa_cons pe_int (pa_cons (pe_callB call_len_str (by rfl) T.n_len PySem.boot_len (pa_cons (pv 6) pa_nil)) pa_nil))) (pg_name (i := 7) sc_law_style_for.nd rfl (.inl rfl)) (pss_cons (ps_set (i := 8) sc_law_style_for.nd rfl (.inl rfl) (pe_tup (pa_cons (pe_ix ix_str (pv 6) (pe_op op_sub (pv 7) pe_int) (fun _ _ => rfl)) (pa_cons (pe_ix ix_str (pv 6) (pv 7) (fun _ _ => rfl)) pa_nil))))
      (pss_one (ps_if (pt_cmp (pc_dnotin (hu1 hr) (pv 8) (pv 4))) (pss_cons (ps_dput (hu1 hr) (pv 4) (pv 8) (pe_call G_law_draw (hr.mono (by decide)) (by rfl) T.D_law_draw.G T.D_law_draw.F.kp T.D_law_draw.B .nil pass0 (pa_cons (pv 0) (pa_cons (pe_dget (hu1 hr) (pv 2) (pe_ix ix_str (pv 6) (pe_op op_sub (pv 7) pe_int) (fun _ _ => rfl)) (fun _ _ => rfl)) pa_nil))) rfl)
      (pss_cons (ps_dput (hu1 hr) (pv 5) (pv 8) pe_non rfl)
      (pss_one (ps_if (PW.pt (pw_and (pt_val (pe_bm0 PySem.F.plainAttrs_str PySem.F.slot_str_islower PySem.F.type_str_islower mt_islower (pe_slice sl_str (pv 6) (po_some (pe_op op_sub (pv 7) pe_int)) (po_some (pe_op op_add (pv 7) pe_int))))) (pw_and1 (pt_val (pe_bm0 PySem.F.plainAttrs_str PySem.F.slot_str_isalpha PySem.F.type_str_isalpha mt_isalpha (pe_slice sl_str (pv 6) (po_some (pe_op op_sub (pv 7) pe_int)) (po_some (pe_op op_add (pv 7) pe_int)))))))) (pss_one (ps_dput (hu1 hr) (pv 5) (pv 8) (pe_call G_law_pick (hr.mono (by decide)) (by rfl) T.D_law_pick.G T.D_law_pick.F.kp T.D_law_pick.B .nil pass0 (pa_cons (pv 0) (pa_cons (pe_lst (pa_cons pe_non (pa_cons pe_int (pa_cons (pe_op op_add pe_int (pe_call G_law_draw (hr.mono (by decide)) (by rfl) T.D_law_draw.G T.D_law_draw.F.kp T.D_law_draw.B .nil pass0 (pa_cons (pv 0) (pa_cons pe_int pa_nil)))) (pa_cons pe_int pa_nil))))) pa_nil))) rfl)) pss_nil)))) pss_nil))))))
      (pss_cons (ps_setLc (i := 9) (own := [("_law_sign", 3)]) (g := gName 3) rfl sc_law_style_for.nd rfl rfl (sw_true rfl rfl rfl (by decide +kernel)) (pi_list (pe_callB (call_sortedD (by rfl)) (by rfl) T.n_sorted (by decide +kernel) (pa_cons (pv 2) pa_nil))) (blkOk_by (own := [("_law_sign", 3)]) (N := ["_law_d", "_law_words", "_law_wide", "_law_sign", "_law_cuts", "_law_breaks", "_law_word", "_law_k", "_law_pair", "_law_widths", "_law_cut_rows", "_law_break_rows"]) (sc := defScope s_law_style_for) (by decide +kernel)) (fun _ _ _ _ _ => (pg_name (i := 3) sc_law_style_for.nd rfl (.inl rfl))) (fun _ _ _ _ _ => (pts_one (pt_cmpR op_gt (pe_dget (hu1 hr) (pv 2) (pv 3) (fun _ _ => rfl)) pe_int (nomark _)))) (fun _ _ _ _ _ => (pe_tup (pa_cons (pv 3) (pa_cons (pe_dget (hu1 hr) (pv 2) (pv 3) (fun _ _ => rfl)) pa_nil)))))
      (pss_cons (ps_setLc (i := 10) (own := [("_law_pair", 8)]) (g := gName 8) rfl sc_law_style_for.nd rfl rfl (sw_true rfl rfl rfl (by decide +kernel)) (pi_list (pe_callB (call_sortedDS (by rfl)) (by rfl) T.n_sorted (by decide +kernel) (pa_cons (pv 4) pa_nil))) (blkOk_by (own := [("_law_pair", 8)]) (N := ["_law_d", "_law_words", "_law_wide", "_law_sign", "_law_cuts", "_law_breaks", "_law_word", "_law_k", "_law_pair", "_law_widths", "_law_cut_rows", "_law_break_rows"]) (sc := defScope s_law_style_for) (by decide +kernel)) (fun _ _ _ _ _ => (pg_name (i := 8) sc_law_style_for.nd rfl (.inl rfl))) (fun _ _ _ _ _ => (pts_one (pt_cmpR op_gt (pe_dget (hu1 hr) (pv 4) (pv 8) (fun _ _ => rfl)) pe_int (nomark _)))) (fun _ _ _ _ _ => (pe_op (r := rCatA K) op_catA (pv 8) (pe_tup (pa_cons (pe_dget (hu1 hr) (pv 4) (pv 8) (fun _ _ => rfl)) pa_nil)))))
      (pss_cons (ps_setLc (i := 11) (own := [("_law_pair", 8)]) (g := gName 8) rfl sc_law_style_for.nd rfl rfl (sw_true rfl rfl rfl (by decide +kernel)) (pi_list (pe_callB (call_sortedDS (by rfl)) (by rfl) T.n_sorted (by decide +kernel) (pa_cons (pv 5) pa_nil))) (blkOk_by (own := [("_law_pair", 8)]) (N := ["_law_d", "_law_words", "_law_wide", "_law_sign", "_law_cuts", "_law_breaks", "_law_word", "_law_k", "_law_pair", "_law_widths", "_law_cut_rows", "_law_break_rows"]) (sc := defScope s_law_style_for) (by decide +kernel)) (fun _ _ _ _ _ => (pg_name (i := 8) sc_law_style_for.nd rfl (.inl rfl))) (fun _ _ _ _ _ => (pts_one (pt_cmpR op_notN (pe_dget (hu1 hr) (pv 5) (pv 8) (fun _ _ => rfl)) pe_non (nomark _)))) (fun _ _ _ _ _ => (pe_op (r := rCatA K) op_catA (pv 8) (pe_tup (pa_cons (pe_dget (hu1 hr) (pv 5) (pv 8) (fun _ _ => rfl)) pa_nil)))))
      (pss_one (ps_ret (pe_tup (pa_cons (pe_op op_add pe_int (pe_call G_law_draw (hr.mono (by decide)) (by rfl) T.D_law_draw.G T.D_law_draw.F.kp T.D_law_draw.B .nil pass0 (pa_cons (pv 0) (pa_cons pe_int pa_nil)))) (pa_cons (pe_op op_add pe_int (pe_call G_law_draw (hr.mono (by decide)) (by rfl) T.D_law_draw.G T.D_law_draw.F.kp T.D_law_draw.B .nil pass0 (pa_cons (pv 0) (pa_cons pe_int pa_nil)))) (pa_cons (pe_op op_add pe_int (pe_call G_law_draw (hr.mono (by decide)) (by rfl) T.D_law_draw.G T.D_law_draw.F.kp T.D_law_draw.B .nil pass0 (pa_cons (pv 0) (pa_cons pe_int pa_nil)))) (pa_cons (pe_callTy call_tuple_of (by rfl) T.n_tuple (by decide +kernel) (pa_cons (pv 9) pa_nil)) (pa_cons (pe_callTy call_tuple_of (by rfl) T.n_tuple (by decide +kernel) (pa_cons (pv 10) pa_nil)) (pa_cons (pe_callTy call_tuple_of (by rfl) T.n_tuple (by decide +kernel) (pa_cons (pv 11) pa_nil)) (pa_cons (pe_tup (pa_cons pe_int (pa_cons pe_int (pa_cons pe_int (pa_cons pe_int (pa_cons pe_int pa_nil)))))) pa_nil)))))))))))))))))), ?_⟩
    have l1 := w1.len
    have l2 := w2.len
    refine fun W nW => ?_
    have ndW := hD.nd nW
    have wlW : wl ≠ W := fun z => by rw [z, nW] at eW; cases eW
    obtain ⟨t, ht⟩ : ∃ t, t = z1 ++ z2 ++ [42, 48, 122] := ⟨_, rfl⟩
    have lt35 : t.length ≤ 35 := by rw [ht, List.length_append, List.length_append]; show _ + 3 ≤ _; omega
    have tu : ∀ c ∈ t, c < 1114112 := by
      intro c hc
      rw [ht] at hc
      rcases List.mem_append.mp hc with z | z
      · rcases List.mem_append.mp z with y | y
        · exact w1.ok c y
        · exact w2.ok c y
      · simp at z
        omega
    have tw : ∀ c, c ∈ z1 ∨ c ∈ z2 → c ∈ t := fun c hc => by
      rw [ht]
      exact List.mem_append_left _ (List.mem_append.mpr hc)
    have K0 : Kp d H (upd H W (.dK [])) := (Kp.refl d H).new nW
    have D0 := hD.new (o := .dK []) nW
    have ej : Txt.join ("" : Str) [mkS z1, mkS z2] = mkS (z1 ++ z2) := by
      have := join_mk [z1, z2]
      rw [show [z1, z2].flatten = z1 ++ z2 by simp] at this
      exact this
    have e0 : (("" : Str)).length = 0 := by rw [empty_mk, mkS_len]; rfl
    have e3 : (("*0z" : Str)) = mkS [42, 48, 122] := by decide +kernel
    refine ⟨⟨_, rfl⟩, _, rfl, _, wl, [mkS z1, mkS z2], rfl, rfl, .inl (SqL.of (by rw [upd_ne wlW]; exact eW)), ?_, _, _, rfl, rfl, ?_, ?_⟩
    · rw [e0]
      show (mkS z1).length + ((mkS z2).length + 0) + 2 * 0 ≤ _
      rw [mkS_len, mkS_len]; omega
    · rw [ej, e3, mkS_len, mkS_len, List.length_append]; exact big_ok (by show _ + 3 ≤ _; omega)
    rw [ej, e3, mkS_app, ← ht]
    refine ⟨_, rfl, for_it walk_str (fun n σ' H' => ∃ (x3 : Option V) (wk : List (Nat × Nat)), σ' = [some (.ref d), some (.ref wl), some (.ref W), x3, none, none, none, none, none, none, none, none] ∧ Kp d H H' ∧ DI d l H' ∧ H' W = some (.dK (wkV wk)) ∧ WkI t n wk)
      ⟨none, [], rfl, K0, D0, upd_same, Nat.le_refl _, .nil, (fun _ h => nomatch h), (fun _ h => by simp at h), (fun _ h => nomatch h)⟩ (fun _ _ _ _ _ => trivial) ?_ ?_⟩
    · rintro n x σ' H1 H2 hn ⟨x3, wk, rfl, K1, D1, e1, hw⟩ ⟨rfl, c, hc, rfl⟩
      have hc : t[n]? = some c := by rw [← Array.getElem?_toList] at hc; exact hc
      have hn : n < t.length := (List.getElem?_eq_some_iff.mp hc).1
      have g : DGet H2 W (sgn c) ((look wk c).map natV) := by rw [← wkV_get]; exact DGet.k (k := Sum.inr (sg1 c)) e1
      refine ⟨_, rfl, _, rfl, W, _, rfl, g, ?_⟩
      cases e : look wk c with
      | some x =>
        refine ⟨false, rfl, some (sgn c), wk, rfl, K1, D1, e1, hw.old hc ?_⟩
        exact List.mem_map.mpr ⟨_, look_mem e, rfl⟩
      | none =>
        refine ⟨true, rfl, ?_⟩
        refine ⟨_, rfl, d, l, _, rfl, D1, by decide, fun H3 r K3 D3 _ r2 => ?_⟩
        have r2 := r2 (by decide)
        obtain ⟨x, hx⟩ : ∃ x : Nat, (1 : Int) + r = (x : Int) := ⟨(1 + r).toNat, by omega⟩
        have e3 := K3 _ _ ndW.1 e1
        refine ⟨_, _, rfl, rfl, _, rfl, _, rfl, W, _, rfl, DPut.k (k := Sum.inr (sg1 c)) e3 ?_, some (sgn c), wk ++ [(c, x)], rfl, (K1.trans K3).mut nW, D3.at ndW.1 ndW.2, ?_, hw.new hc e (by omega)⟩
        · unfold wkV
          rw [List.length_map]; have := hw.len; exact lt_s (by omega)
        · rw [upd_same, ← wkV_put e]
          show some (HO.dK (putK (wkV wk) (Sum.inr (sg1 c)) (V.int (1 + r)))) = _
          rw [hx]; rfl
    · rintro σ' H1 ⟨x3, wk, rfl, K1, D1, e1, hw⟩
      have hw : WkI t t.length wk := hw
      have hasW : ∀ c, c ∈ z1 ∨ c ∈ z2 → ∃ x, look wk c = some x ∧ 1 ≤ x ∧ x ≤ 3 := fun c hc => by
        obtain ⟨x, hx⟩ := look_key (hw.has c (by rw [List.take_length]; exact tw c hc))
        exact ⟨x, hx, hw.w3 _ (look_mem hx)⟩
      refine fun C nC => ?_
      have ndC := D1.nd nC
      have nC0 := K1.freeY D1 nC
      have hCW : C ≠ W := fun z => by rw [z, e1] at nC; cases nC
      have K2 := K1.new (o := .dT []) nC
      have D2 := D1.new (o := .dT []) nC
      refine fun B nB => ?_
      have ndB := D2.nd nB
      have nB0 := K2.freeY D2 nB
      have hBC : B ≠ C := fun z => by rw [z, upd_same] at nB; cases nB
      have hBW : B ≠ W := fun z => by rw [z, upd_ne hCW.symm, e1] at nB; cases nB
      have K3 := K2.new (o := .dT []) nB
      have D3 := D2.new (o := .dT []) nB
      have eW3 : upd (upd H1 C (.dT [])) B (.dT []) W = some (.dK (wkV wk)) := by rw [upd_ne hBW.symm, upd_ne hCW.symm]; exact e1
      have eC3 : upd (upd H1 C (.dT [])) B (.dT []) C = some (.dT (ckV [])) := by rw [upd_ne hBC.symm, upd_same]; rfl
      have eB3 : upd (upd H1 C (.dT [])) B (.dT []) B = some (.dT (bkV [])) := by rw [upd_same]; rfl
      have keepW : ∀ {H' : Hp}, Kp d H H' → H' wl = some (.lst [sV z1, sV z2]) := fun k => k _ _ nwl eW
      refine ⟨_, rfl, wl, rfl, ⟨_, SqL.of (keepW K3)⟩, ?_⟩
      refine for_it (walk_list (K := K) (a := wl) (xs := [sV z1, sV z2])) (fun i σ' H' => ∃ (x6 x7 x8 : Option V) (ck : List ((Nat × Nat) × Nat)) (bk : List ((Nat × Nat) × Option Nat)), σ' = [some (.ref d), some (.ref wl), some (.ref W), x3, some (.ref C), some (.ref B), x6, x7, x8, none, none, none] ∧ Kp d H H' ∧ DI d l H' ∧ H' W = some (.dK (wkV wk)) ∧ H' C = some (.dT (ckV ck)) ∧ H' B = some (.dT (bkV bk)) ∧ CkI wk (16 * i) ck bk)
        ⟨none, none, none, [], [], rfl, K3, D3, eW3, eC3, eB3, Nat.le_refl _, .nil, rfl, (fun _ h => nomatch h), (fun _ h => nomatch h)⟩ ?_ ?_ ?_
      · rintro i σ' H' _ ⟨_, _, _, _, _, _, k, _⟩
        exact SqL.of (keepW k)
      · rintro i x σ' H4 H5 hi ⟨x6, x7, x8, ck, bk, rfl, K4, D4, eW4, eC4, eB4, hc⟩ ⟨rfl, hx⟩
        have hi2 : i < 2 := hi
        obtain ⟨zs, rfl, wd, hzs⟩ : ∃ zs, x = sV zs ∧ WdOk zs ∧ ∀ c ∈ zs, c ∈ z1 ∨ c ∈ z2 := by
          match i, hx with
          | 0, hx => exact ⟨z1, (Option.some.inj hx).symm, w1, fun c h => .inl h⟩
          | 1, hx => exact ⟨z2, (Option.some.inj hx).symm, w2, fun c h => .inr h⟩
        have hb : (mkS zs).length ≤ sizeLine := by rw [mkS_len]; exact big_ok (by have := wd.len; omega)
        have hl := wd.len
        refine ⟨_, rfl, mkS zs, rfl, hb, 1, _, rfl, ⟨by decide, by decide, by rw [mkS_len]; omega, by rw [mkS_len]; omega⟩, ?_⟩
        have en : (((mkS zs).length : Int) - 1).toNat = zs.length - 1 := by rw [mkS_len]; omega
        rw [en]
        refine for_it walk_range (fun m σ' H' => ∃ (x7 x8 : Option V) (ck : List ((Nat × Nat) × Nat)) (bk : List ((Nat × Nat) × Option Nat)), σ' = [some (.ref d), some (.ref wl), some (.ref W), x3, some (.ref C), some (.ref B), some (sV zs), x7, x8, none, none, none] ∧ Kp d H H' ∧ DI d l H' ∧ H' W = some (.dK (wkV wk)) ∧ H' C = some (.dT (ckV ck)) ∧ H' B = some (.dT (bkV bk)) ∧ CkI wk (16 * i + m) ck bk)
          ⟨x7, x8, ck, bk, rfl, K4, D4, eW4, eC4, eB4, hc⟩ (fun _ _ _ _ _ => trivial) ?_ ?_
        · rintro m x σ' H5 H6 hm ⟨x7, x8, ck, bk, rfl, K5, D5, eW5, eC5, eB5, hc⟩ ⟨rfl, hx⟩
          have hx : x = .int ((m + 1 : Nat) : Int) := by
            rw [hx]
            show V.int (1 + (m : Int)) = _
            rw [show 1 + (m : Int) = ((m + 1 : Nat) : Int) by omega]
          subst hx
          have ea : ((m + 1 : Nat) : Int) - 1 = (m : Int) := by omega
          have g1 := wd.at (show m < zs.length by omega)
          have g2 := wd.at (show m + 1 < zs.length by omega)
          refine ⟨_, rfl, _, rfl, _, _, rfl, rfl, mkS zs, _, _, rfl, rfl, hb, by rw [ea]; exact atI_nat g1.1, ?_⟩
          refine ⟨_, rfl, _, rfl, mkS zs, _, _, rfl, rfl, hb, atI_nat g2.1, Nat.le_of_lt (lt_s (by show _ < 100000; simp)), fun p np => ?_⟩
          obtain ⟨k, hk⟩ : ∃ k : Nat × Nat, k = (zs.getD m 0, zs.getD (m + 1) 0) := ⟨_, rfl⟩
          have kp := same_upd (o := .tup [sgn (zs.getD m 0), sgn (zs.getD (m + 1) 0)]) (Same.refl H6) np
          generalize hH7 : upd H6 p (.tup [V.str ⟨#[zs.getD m 0]⟩, V.str ⟨#[zs.getD (m + 1) 0]⟩]) = H7
          have kp : Same H6 H7 := by rw [← hH7]; exact kp
          have ep : H7 p = some (.tup ((kk2 k).map kV)) := by rw [← hH7, upd_same, hk]; rfl
          have K7 : Kp d H H7 := by rw [← hH7]; exact K5.new np
          have D7 : DI d l H7 := by rw [← hH7]; exact D5.new np
          have g : DGet H7 C (.ref p) ((look ck k).map natV) := by rw [← ckV_get]; exact DGet.t (kp _ _ eC5) ep
          refine ⟨_, rfl, _, rfl, C, _, rfl, g, ?_⟩
          have pd : p ≠ d := (D5.nd np).1
          have pC : p ≠ C := fun z => by rw [z, eC5] at np; cases np
          have pB : p ≠ B := fun z => by rw [z, eB5] at np; cases np
          cases e : look ck k with
          | some x =>
            refine ⟨false, rfl, some (.int ((m + 1 : Nat) : Int)), some (.ref p), ck, bk, rfl, K7, D7, kp _ _ eW5, kp _ _ eC5, kp _ _ eB5, hc.up (by omega)⟩
          | none =>
            obtain ⟨x, hx, x1, x3b⟩ := hasW (zs.getD m 0) (hzs _ (mem_of_at' g1.1))
            refine ⟨true, rfl, _, rfl, _, rfl, _, rfl, _, rfl, _, _, rfl, rfl, mkS zs, _, _, rfl, rfl, hb, by rw [ea]; exact atI_nat g1.1, W, natV x, rfl, ?_, ?_⟩
            · have := DGet.k (k := Sum.inr (sg1 (zs.getD m 0))) (kp _ _ eW5)
              rw [wkV_get, hx] at this
              exact this
            refine ⟨d, l, _, rfl, D7, by show (x : Int) ≤ _; omega, fun H8 r K8 D8 r1 r2 => ?_⟩
            obtain ⟨j, rfl, hj⟩ := natOf x1 r1 r2
            have hjw : j < wOf wk k.1 := by
              rw [hk]; unfold wOf
              show j < (look wk (zs.getD m 0)).getD 1
              rw [hx]; exact hj
            have eC8 := K8 _ _ ndC.1 (kp _ _ eC5)
            have eB8 := K8 _ _ ndB.1 (kp _ _ eB5)
            have eW8 := K8 _ _ ndW.1 (kp _ _ eW5)
            have ep8 := K8 _ _ pd ep
            have KK := K7.trans K8
            refine ⟨_, rfl, _, rfl, C, _, rfl, DPut.t eC8 ep8 ?_, ?_⟩
            · unfold ckV
              rw [List.length_map]; have := hc.len; exact lt_s (by omega)
            have ec : putK (ckV ck) (kk2 k) (natV j) = ckV (ck ++ [(k, j)]) := ckV_put e
            have K9 := KK.mut (o := .dT (putK (ckV ck) (kk2 k) (V.int (j : Int)))) nC0
            have D9 := D8.at (o := .dT (putK (ckV ck) (kk2 k) (V.int (j : Int)))) ndC.1 ndC.2
            generalize hH9 : upd H8 C (.dT (putK (ckV ck) (kk2 k) (V.int (j : Int)))) = H9 at K9 D9
            have eC9 : H9 C = some (.dT (ckV (ck ++ [(k, j)]))) := by rw [← hH9, upd_same, ← ec]; rfl
            have eB9 : H9 B = some (.dT (bkV bk)) := by rw [← hH9, upd_ne hBC]; exact eB8
            have eW9 : H9 W = some (.dK (wkV wk)) := by rw [← hH9, upd_ne hCW.symm]; exact eW8
            have ep9 : H9 p = some (.tup ((kk2 k).map kV)) := by rw [← hH9, upd_ne pC]; exact ep8
            have eb := hc.bnone e
            have hci : ∀ o, CkI wk (16 * i + (m + 1)) (ck ++ [(k, j)]) (bk ++ [(k, o)]) := fun o => hc.new e hjw (by rw [hk]; exact ⟨g1.2, g2.2⟩) o
            refine ⟨_, rfl, _, rfl, B, _, rfl, DPut.t (v := .non) eB9 ep9 ?_, ?_⟩
            · unfold bkV
              rw [List.length_map]; have := hc.len; have e9 := congrArg List.length hc.cb; rw [List.length_map, List.length_map] at e9; exact lt_s (by omega)
            have ebp : putK (bkV bk) (kk2 k) .non = bkV (bk ++ [(k, none)]) := bkV_put (x := none) eb
            have K10 := K9.mut (o := .dT (putK (bkV bk) (kk2 k) .non)) nB0
            have D10 := D9.at (o := .dT (putK (bkV bk) (kk2 k) .non)) ndB.1 ndB.2
            generalize hH10 : upd H9 B (.dT (putK (bkV bk) (kk2 k) .non)) = H10 at K10 D10
            have eB10 : H10 B = some (.dT (bkV (bk ++ [(k, none)]))) := by rw [← hH10, upd_same, ← ebp]
            have eC10 : H10 C = some (.dT (ckV (ck ++ [(k, j)]))) := by rw [← hH10, upd_ne hBC.symm]; exact eC9
            have eW10 : H10 W = some (.dK (wkV wk)) := by rw [← hH10, upd_ne hBW.symm]; exact eW9
            have ep10 : H10 p = some (.tup ((kk2 k).map kV)) := by rw [← hH10, upd_ne pB]; exact ep9
            refine ⟨_, rfl, _, rfl, _, _, rfl, rfl, _, rfl, _, rfl, _, _, rfl, rfl, _, rfl, mkS zs, rfl, hb, rfl, _, rfl, rfl, trivial, _, rfl, ?_⟩
            refine ite2 (fun c1 => ?_) (fun c1 => ?_)
            · refine ⟨_, rfl, _, rfl, _, _, rfl, rfl, _, rfl, _, rfl, _, _, rfl, rfl, _, rfl, mkS zs, rfl, hb, rfl, _, rfl, rfl, trivial, _, rfl, ite2 (fun c2 => ?_) (fun c2 => ?_)⟩
              · refine ⟨_, rfl, _, rfl, d, l, _, rfl, D10, by decide, fun H11 r K11 D11 _ r2 => ?_⟩
                have r2 := r2 (by decide)
                obtain ⟨n3, hn3⟩ : ∃ n3 : Nat, (3 : Int) + r = (n3 : Int) := ⟨(3 + r).toNat, by omega⟩
                refine ⟨_, _, rfl, rfl, Nat.le_of_lt (lt_s (by show _ < 100000; simp)), fun q9 nq => ?_⟩
                refine ⟨d, l, _, _, rfl, D11.new nq, .inl ⟨q9, rfl, (D11.nd nq).1, SqL.of upd_same⟩, by simp, by simp, fun H12 v K12 D12 hv => ?_⟩
                obtain ⟨o, rfl⟩ : ∃ o, v = prV o := by
                  simp only [List.mem_cons, List.not_mem_nil, or_false] at hv
                  rcases hv with rfl | rfl | rfl | rfl
                  · exact ⟨none, rfl⟩
                  · exact ⟨some 0, rfl⟩
                  · exact ⟨some n3, by show V.int (3 + r) = _; rw [hn3]; rfl⟩
                  · exact ⟨some 999, rfl⟩
                have KX : Kp d H10 H12 := (K11.new nq).trans K12
                have eB12 := KX _ _ ndB.1 eB10
                have eC12 := KX _ _ ndC.1 eC10
                have eW12 := KX _ _ ndW.1 eW10
                have ep12 := KX _ _ pd ep10
                refine ⟨_, rfl, _, rfl, B, _, rfl, DPut.t eB12 ep12 ?_, ?_⟩
                · have := (hci none).len
                  have e9 := congrArg List.length (hci none).cb
                  unfold bkV
                  rw [List.length_map, List.length_map] at e9
                  rw [List.length_map]; exact lt_s (by omega)
                refine ⟨some (.int ((m + 1 : Nat) : Int)), some (.ref p), _, bk ++ [(k, o)], rfl, (K10.trans KX).mut nB0, D12.at ndB.1 ndB.2, by rw [upd_ne hBW.symm]; exact eW12, by rw [upd_ne hBC.symm]; exact eC12, ?_, hci o⟩
                rw [upd_same, bkV_again eb]
              · exact ⟨some (.int ((m + 1 : Nat) : Int)), some (.ref p), _, _, rfl, K10, D10, eW10, eC10, eB10, hci none⟩
            · exact ⟨some (.int ((m + 1 : Nat) : Int)), some (.ref p), _, _, rfl, K10, D10, eW10, eC10, eB10, hci none⟩
        · rintro σ' H5 ⟨x7, x8, ck, bk, rfl, K5, D5, eW5, eC5, eB5, hc⟩
          exact ⟨_, x7, x8, ck, bk, rfl, K5, D5, eW5, eC5, eB5, hc.up (by omega)⟩
      · rintro σ' H4 ⟨x6, x7, x8, ck, bk, rfl, K4, D4, eW4, eC4, eB4, hc⟩
        have hc : CkI wk 32 ck bk := hc
        obtain ⟨lc, nc, cb, cwk, uck⟩ := hc
        have dk : Dicts wk ck bk := ⟨hw.nd, hw.w3, fun r hr => tu _ (hw.from_ r hr), by have := hw.len; omega, nc, cb, by omega, cwk, uck⟩
        have lb : bk.length ≤ 32 := by
          have e9 := congrArg List.length cb
          rw [List.length_map, List.length_map] at e9
          omega
        -- widths
        refine ⟨_, rfl, W, wkV wk, (wk.map (·.1)).map sg1, rfl, .inl eW4, ?_, ?_, fun ys0 sp hperm hsort nsp => ?_⟩
        · unfold wkV
          rw [List.map_map, List.map_map, List.map_map]; rfl
        · rw [List.length_map, List.length_map]; have := dk.lw; omega
        obtain ⟨ys, hys, rfl⟩ := perm_lift hperm
        have sy := sorted_sg hsort
        have ly : ys.length ≤ 40 := by
          have e := hys.length_eq
          rw [List.length_map] at e
          have := dk.lw; omega
        have evy : (ys.map sg1).map V.str = ys.map sgn := by rw [List.map_map]; rfl
        have K5 := K4.new (o := .lst ((ys.map sg1).map V.str)) nsp
        have D5 := D4.new (o := .lst ((ys.map sg1).map V.str)) nsp
        have hspW : sp ≠ W := fun z => by rw [z, eW4] at nsp; cases nsp
        have hspC : sp ≠ C := fun z => by rw [z, eC4] at nsp; cases nsp
        have hspB : sp ≠ B := fun z => by rw [z, eB4] at nsp; cases nsp
        have eS5 : upd H4 sp (.lst ((ys.map sg1).map V.str)) sp = some (.lst (ys.map sgn)) := by rw [upd_same, evy]
        have s45 := same_upd (o := .lst ((ys.map sg1).map V.str)) (Same.refl H4) nsp
        have eW5 := s45 _ _ eW4
        have eC5 := s45 _ _ eC4
        have eB5 := s45 _ _ eB4
        generalize hH5 : upd H4 sp (.lst ((ys.map sg1).map V.str)) = H5 at K5 D5 eS5 eW5 eC5 eB5
        refine ⟨sp, rfl, ⟨_, SqL.of eS5⟩, fun F nF => ?_⟩
        refine lc_it (walk_list (K := K) (a := sp) (xs := ys.map sgn)) (fun n H' => Same H5 H' ∧ ∃ vs, H' F = some (.lst vs) ∧ RowsL H' vs (rowsW (rowsOf (fW wk) (ys.take n)))) ⟨same_upd (Same.refl H5) nF, [], upd_same, rfl, fun i r h => by simp [rowsOf, rowsW] at h⟩ ?_ ?_ ?_
        · rintro i H' _ ⟨k, _⟩
          exact SqL.of (k _ _ eS5)
        · rintro n x H6 H7 hn ⟨k6, vs, eF, rl⟩ ⟨rfl, hx⟩
          obtain ⟨c, hcn, rfl⟩ := map_at2 hx
          obtain ⟨x, hxk⟩ := look_key (hys.mem_iff.mp (List.mem_of_getElem? hcn))
          have wx : wOf wk c = x := by unfold wOf; rw [hxk]; rfl
          have lvs : vs.length ≤ 40 := by
            rw [rl.1]
            unfold rowsW
            rw [List.length_map]
            have := rowsOf_len (fW wk) (ys.take n)
            rw [List.length_take] at this
            omega
          have g : DGet H7 W (sgn c) (some (natV x)) := by
            have := DGet.k (k := Sum.inr (sg1 c)) (k6 _ _ eW5)
            rw [wkV_get, hxk] at this
            exact this
          refine ⟨rfl, _, rfl, _, rfl, W, _, rfl, g, _, _, rfl, rfl, decide (1 < x), congrArg V.bl (decide_eq_decide.mpr ⟨fun h => by omega, fun h => by omega⟩), ite2 (fun c9 => ?_) (fun c9 => ?_)⟩
          · have c9 := of_decide_eq_true c9
            refine ⟨_, rfl, _, rfl, _, rfl, W, _, rfl, g, Nat.le_of_lt (lt_s (by show _ < 100000; simp)), fun b nb => ?_⟩
            have kb := same_upd (o := .tup [sgn c, natV x]) (Same.refl H7) nb
            refine ⟨vs, kb _ _ eF, lt_s (by omega), same_mut (k6.trans kb) nF, _, upd_same, ?_⟩
            rw [rowsOf_succ hcn, show fW wk c = some x by unfold fW; rw [wx, if_pos c9]]
            unfold rowsW
            rw [List.map_append]
            exact ((rl.same (same_tup kb)).snoc (r := ([c], natV x)) upd_same).same (keepT (kb _ _ eF))
          · refine ⟨k6, vs, eF, ?_⟩
            rw [rowsOf_succ hcn, show fW wk c = none by unfold fW; rw [wx, if_neg fun z => c9 (decide_eq_true z)]]
            show RowsL H7 vs (rowsW (rowsOf (fW wk) (ys.take n) ++ []))
            rw [List.append_nil]
            exact rl
        rintro H6 ⟨k6, vsW, eF6, rlW⟩
        rw [List.length_map, List.take_length] at rlW
        have K6 : Kp d H H6 := K5.trans fun b o _ e => k6 b o e
        have D6 : DI d l H6 := D5.keep k6
        have eC6 := k6 _ _ eC5
        have eB6 := k6 _ _ eB5
        -- cuts
        refine ⟨_, rfl, C, ckV ck, ck.map (·.1), rfl, .inl eC6, ?_, ?_, ?_, fun wsC sC hpermC hpwC hallC nsC => ?_⟩
        · unfold ckV
          rw [List.map_map, List.map_map]; rfl
        · rw [List.length_map]; omega
        · intro k hk
          obtain ⟨r, hr, rfl⟩ := List.mem_map.mp hk
          have := uck r hr
          omega
        have lsC : wsC.length ≤ 32 := by
          have e := hpermC.length_eq
          rw [List.length_map, List.length_map] at e
          omega
        have K6a := K6.new (o := .lst (wsC.map fun y => V.ref y.1)) nsC
        have D6a := D6.new (o := .lst (wsC.map fun y => V.ref y.1)) nsC
        have saC := same_upd (o := .lst (wsC.map fun y => V.ref y.1)) (Same.refl H6) nsC
        have eSC : upd H6 sC (.lst (wsC.map fun y => V.ref y.1)) sC = some (.lst (wsC.map fun y => V.ref y.1)) := upd_same
        generalize hHaC : upd H6 sC (.lst (wsC.map fun y => V.ref y.1)) = HaC at K6a D6a saC eSC
        refine ⟨sC, rfl, ⟨_, SqL.of eSC⟩, fun FC nFC => ?_⟩
        refine lc_it (walk_list (K := K) (a := sC) (xs := wsC.map fun y => V.ref y.1)) (fun n H' => Same HaC H' ∧ ∃ vs, H' FC = some (.lst vs) ∧ RowsL H' vs (rows2 (rowsOf (fC ck) ((wsC.map (·.2)).take n)))) ⟨same_upd (Same.refl HaC) nFC, [], upd_same, rfl, fun i r h => by simp [rowsOf, rows2] at h⟩ ?_ ?_ ?_
        · rintro i H' _ ⟨k, _⟩
          exact SqL.of (k _ _ eSC)
        · rintro n x H7 H8 hn ⟨k7, vs, eF, rl⟩ ⟨rfl, hx⟩
          obtain ⟨y, hyn, rfl⟩ := map_at2 hx
          have hcn : (wsC.map (·.2))[n]? = some y.2 := by rw [List.getElem?_map, hyn]; rfl
          obtain ⟨x, hxk⟩ := look_key (hpermC.mem_iff.mp (List.mem_of_getElem? hcn))
          have lvs : vs.length ≤ 40 := by
            rw [rl.1]
            unfold rows2
            rw [List.length_map]
            have := rowsOf_len (fC ck) ((wsC.map (·.2)).take n)
            rw [List.length_take, List.length_map] at this
            omega
          have ey : H8 y.1 = some (.tup ((kk2 y.2).map kV)) := k7 _ _ (saC _ _ (hallC y (List.mem_of_getElem? hyn)))
          have g : DGet H8 C (.ref y.1) (some (natV x)) := by
            have := DGet.t (k := kk2 y.2) (k7 _ _ (saC _ _ eC6)) ey
            rw [ckV_get, hxk] at this
            exact this
          have wx : cutOf ck y.2.1 y.2.2 = x := by
            unfold cutOf
            show (look ck y.2).getD 0 = x
            rw [hxk]; rfl
          refine ⟨rfl, _, rfl, _, rfl, C, _, rfl, g, _, _, rfl, rfl, decide (0 < x), congrArg V.bl (decide_eq_decide.mpr ⟨fun h => by omega, fun h => by omega⟩), ite2 (fun c9 => ?_) (fun c9 => ?_)⟩
          · have c9 := of_decide_eq_true c9
            refine ⟨_, rfl, _, rfl, _, rfl, C, _, rfl, g, Nat.le_of_lt (lt_s (by show _ < 100000; simp)), fun q8 nq8 => ?_⟩
            have kq8 := same_upd (o := .tup [natV x]) (Same.refl H8) nq8
            refine ⟨y.1, q8, _, _, rfl, rfl, SqT.of (kq8 _ _ ey), SqT.of upd_same, Nat.le_of_lt (lt_s (by show _ < 100000; simp [kk2])), (fun h => by cases h), (fun _ h => by cases h), fun _ _ b nb => ?_⟩
            have kb := same_upd (o := .tup ((kk2 y.2).map kV ++ [natV x])) (Same.refl _) nb
            have kk := kq8.trans kb
            refine ⟨vs, kk _ _ eF, lt_s (by omega), same_mut (k7.trans kk) nFC, _, upd_same, ?_⟩
            rw [rowsOf_succ hcn, show fC ck y.2 = some x by unfold fC; rw [wx, if_pos c9]]
            unfold rows2
            rw [List.map_append]
            exact ((rl.same (same_tup kk)).snoc (r := ([y.2.1, y.2.2], natV x)) upd_same).same (keepT (kk _ _ eF))
          · refine ⟨k7, vs, eF, ?_⟩
            rw [rowsOf_succ hcn, show fC ck y.2 = none by unfold fC; rw [wx, if_neg fun z => c9 (decide_eq_true z)]]
            show RowsL H8 vs (rows2 (rowsOf (fC ck) ((wsC.map (·.2)).take n) ++ []))
            rw [List.append_nil]
            exact rl
        rintro H9 ⟨k9, vsC, eFC9, rlC⟩
        rw [List.length_map, show wsC.length = (wsC.map (·.2)).length by rw [List.length_map], List.take_length] at rlC
        have K9 : Kp d H H9 := K6a.trans fun b o _ e => k9 b o e
        have D9 : DI d l H9 := D6a.keep k9
        have t69 : Same H6 H9 := saC.trans k9
        have eB9 := t69 _ _ eB6
        have eF9 := t69 _ _ eF6
        -- breaks
        refine ⟨_, rfl, B, bkV bk, bk.map (·.1), rfl, .inl eB9, ?_, ?_, ?_, fun wsB sB hpermB hpwB hallB nsB => ?_⟩
        · unfold bkV
          rw [List.map_map, List.map_map]; rfl
        · rw [List.length_map]; omega
        · intro k hk
          rw [← cb] at hk
          obtain ⟨r, hr, rfl⟩ := List.mem_map.mp hk
          have := uck r hr
          omega
        have lsB : wsB.length ≤ 32 := by
          have e := hpermB.length_eq
          rw [List.length_map, List.length_map] at e
          omega
        have K9a := K9.new (o := .lst (wsB.map fun y => V.ref y.1)) nsB
        have D9a := D9.new (o := .lst (wsB.map fun y => V.ref y.1)) nsB
        have saB := same_upd (o := .lst (wsB.map fun y => V.ref y.1)) (Same.refl H9) nsB
        have eSB : upd H9 sB (.lst (wsB.map fun y => V.ref y.1)) sB = some (.lst (wsB.map fun y => V.ref y.1)) := upd_same
        generalize hHaB : upd H9 sB (.lst (wsB.map fun y => V.ref y.1)) = HaB at K9a D9a saB eSB
        refine ⟨sB, rfl, ⟨_, SqL.of eSB⟩, fun FB nFB => ?_⟩
        refine lc_it (walk_list (K := K) (a := sB) (xs := wsB.map fun y => V.ref y.1)) (fun n H' => Same HaB H' ∧ ∃ vs, H' FB = some (.lst vs) ∧ RowsL H' vs (rows2 (rowsOf (fB bk) ((wsB.map (·.2)).take n)))) ⟨same_upd (Same.refl HaB) nFB, [], upd_same, rfl, fun i r h => by simp [rowsOf, rows2] at h⟩ ?_ ?_ ?_
        · rintro i H' _ ⟨k, _⟩
          exact SqL.of (k _ _ eSB)
        · rintro n x H7 H8 hn ⟨k7, vs, eF, rl⟩ ⟨rfl, hx⟩
          obtain ⟨y, hyn, rfl⟩ := map_at2 hx
          have hcn : (wsB.map (·.2))[n]? = some y.2 := by rw [List.getElem?_map, hyn]; rfl
          obtain ⟨x, hxk⟩ := look_key (hpermB.mem_iff.mp (List.mem_of_getElem? hcn))
          have lvs : vs.length ≤ 40 := by
            rw [rl.1]
            unfold rows2
            rw [List.length_map]
            have := rowsOf_len (fB bk) ((wsB.map (·.2)).take n)
            rw [List.length_take, List.length_map] at this
            omega
          have ey : H8 y.1 = some (.tup ((kk2 y.2).map kV)) := k7 _ _ (saB _ _ (hallB y (List.mem_of_getElem? hyn)))
          have g : DGet H8 B (.ref y.1) (some (prV x)) := by
            have := DGet.t (k := kk2 y.2) (k7 _ _ (saB _ _ eB9)) ey
            rw [bkV_get, hxk] at this
            exact this
          have wx : fB bk y.2 = x := by
            unfold fB
            rw [hxk]; rfl
          cases x with
          | some p =>
            refine ⟨rfl, _, rfl, _, rfl, B, _, rfl, g, rfl, true, rfl, ?_⟩
            refine ⟨_, rfl, _, rfl, _, rfl, B, _, rfl, g, Nat.le_of_lt (lt_s (by show _ < 100000; simp)), fun q8 nq8 => ?_⟩
            have kq8 := same_upd (o := .tup [natV p]) (Same.refl H8) nq8
            refine ⟨y.1, q8, _, _, rfl, rfl, SqT.of (kq8 _ _ ey), SqT.of upd_same, Nat.le_of_lt (lt_s (by show _ < 100000; simp [kk2])), (fun h => by cases h), (fun _ h => by cases h), fun _ _ b nb => ?_⟩
            have kb := same_upd (o := .tup ((kk2 y.2).map kV ++ [natV p])) (Same.refl _) nb
            have kk := kq8.trans kb
            refine ⟨vs, kk _ _ eF, lt_s (by omega), same_mut (k7.trans kk) nFB, _, upd_same, ?_⟩
            rw [rowsOf_succ hcn, wx]
            unfold rows2
            rw [List.map_append]
            exact ((rl.same (same_tup kk)).snoc (r := ([y.2.1, y.2.2], natV p)) upd_same).same (keepT (kk _ _ eF))
          | none =>
            refine ⟨rfl, _, rfl, _, rfl, B, _, rfl, g, rfl, false, rfl, ?_⟩
            refine ⟨k7, vs, eF, ?_⟩
            rw [rowsOf_succ hcn, wx]
            show RowsL H8 vs (rows2 (rowsOf (fB bk) ((wsB.map (·.2)).take n) ++ []))
            rw [List.append_nil]
            exact rl
        rintro H10 ⟨k10, vsB, eFB10, rlB⟩
        rw [List.length_map, show wsB.length = (wsB.map (·.2)).length by rw [List.length_map], List.take_length] at rlB
        have K10 : Kp d H H10 := K9a.trans fun b o _ e => k10 b o e
        have D10 : DI d l H10 := D9a.keep k10
        have t910 : Same H9 H10 := saB.trans k10
        have eF10 := t910 _ _ eF9
        have eFC10 := t910 _ _ eFC9
        have rlW10 := rlW.same (same_tup (t69.trans t910))
        have rlC10 := rlC.same (same_tup t910)
        have nFd := (D5.nd nF).1
        have nFCd := (D6a.nd nFC).1
        have nFBd := (D9a.nd nFB).1
        refine ⟨_, rfl, d, l, _, rfl, D10, by decide, fun Hx rx Kx Dx _ _ => ?_⟩
        refine ⟨_, _, rfl, rfl, _, rfl, d, l, _, rfl, Dx, by decide, fun Hy ry Ky Dy _ _ => ?_⟩
        refine ⟨_, _, rfl, rfl, _, rfl, d, l, _, rfl, Dy, by decide, fun Hz rz Kz Dz _ _ => ?_⟩
        have KZ := (Kx.trans Ky).trans Kz
        have eFz := KZ _ _ nFd eF10
        have eFCz := KZ _ _ nFCd eFC10
        have eFBz := KZ _ _ nFBd eFB10
        have rlWz := rlW10.same (kp_tup D10 KZ)
        have rlCz := rlC10.same (kp_tup D10 KZ)
        have rlBz := rlB.same (kp_tup D10 KZ)
        refine ⟨_, _, rfl, rfl, _, rfl, F, vsW, rfl, .inl ⟨SqL.of eFz, fun p1 np1 => ?_⟩⟩
        have s1 := same_upd (o := .tup vsW) (Same.refl Hz) np1
        refine ⟨_, rfl, FC, vsC, rfl, .inl ⟨SqL.of (s1 _ _ eFCz), fun p2 np2 => ?_⟩⟩
        have s2 := same_upd (o := .tup vsC) (Same.refl _) np2
        refine ⟨_, rfl, FB, vsB, rfl, .inl ⟨SqL.of (s2 _ _ (s1 _ _ eFBz)), fun p3 np3 => ?_⟩⟩
        have s3 := same_upd (o := .tup vsB) (Same.refl _) np3
        refine ⟨Nat.le_of_lt (lt_s (by show _ < 100000; simp)), fun p4 np4 => ?_⟩
        have s4 := same_upd (o := .tup [V.int 0, V.int 1, V.int 2, V.int 3, V.int 4]) (Same.refl _) np4
        refine ⟨Nat.le_of_lt (lt_s (by show _ < 100000; simp)), fun p5 np5 => ?_⟩
        have s5 := same_upd (o := .tup [V.int (6 + rx), V.int (3 + ry), V.int (1 + rz), V.ref p1, V.ref p2, V.ref p3, V.ref p4]) (Same.refl _) np5
        have k25 := s2.trans (s3.trans (s4.trans s5))
        have k35 := s3.trans (s4.trans s5)
        have k45 := s4.trans s5
        have k15 := s1.trans k25
        refine q _ _ ⟨6 + rx, 3 + ry, 1 + rz, rowsOf (fW wk) ys, rowsOf (fC ck) (wsC.map (·.2)), rowsOf (fB bk) (wsB.map (·.2))⟩ ((K10.trans KZ).trans fun b o _ e => k15 b o e) (Dz.keep k15) ?_ ?_
        · exact ⟨p5, _, _, _, _, rfl, upd_same, (rlWz.same (same_tup k15)).toV (k25 _ _ upd_same), (rlCz.same (same_tup k15)).toV (k35 _ _ upd_same), (rlBz.same (same_tup k15)).toV (k45 _ _ upd_same)⟩
        · exact style_ok dk hys sy hpermC hpwC hpermB hpwB _ _ _
end
end Vf

set_option Elab.async false
set_option linter.all false
set_option maxRecDepth 100000
set_option maxHeartbeats 4000000
namespace Vf
open PySem PySem.Spec PyProof.Rows L2 TL
theorem shape_eqv {H : Hp} {v u : V} {S : Sty} {zs : List Nat} (wd : WdOk zs) (hv : ShapeV H v S zs) (hu : ShapeV H u S zs) : Eqv 4 H v u := by
  obtain ⟨a, pa, vs, rfl, e1, e2, pl⟩ := hv
  obtain ⟨b, pb, us, rfl, f1, f2, ql⟩ := hu
  have pn := places_len S zs
  have hl := wd.len
  refine .inr ⟨a, b, _, _, rfl, rfl, e1, f1, rfl, by show 2 ≤ 100000; decide, fun i x y hx hy => ?_⟩
  match i, hx, hy with
  | 0, hx, hy =>
    have hx := Option.some.inj hx
    have hy := Option.some.inj hy
    subst hx hy
    exact .inl (.inr (.inl ⟨_, rfl, rfl⟩))
  | 1, hx, hy =>
    have hx := Option.some.inj hx
    have hy := Option.some.inj hy
    subst hx hy
    refine .inr ⟨pa, pb, vs, us, rfl, rfl, e2, f2, by rw [pl.1, ql.1], by rw [pl.1]; omega, fun i x y hx hy => ?_⟩
    have hi : i < (places S zs).length := by rw [← pl.1]; exact (List.getElem?_eq_some_iff.mp hx).1
    obtain ⟨x', g1, p, rfl, g2⟩ := pl.2 i _ (List.getElem?_eq_getElem hi)
    obtain ⟨y', h1, q, rfl, h2⟩ := ql.2 i _ (List.getElem?_eq_getElem hi)
    rw [hx] at g1
    rw [hy] at h1
    have g1 := Option.some.inj g1
    have h1 := Option.some.inj h1
    subst g1 h1
    refine .inr ⟨p, q, _, _, rfl, rfl, g2, h2, rfl, by show 3 ≤ 100000; decide, fun i x y hx hy => ?_⟩
    match i, hx, hy with
    | 0, hx, hy =>
      have hx := Option.some.inj hx
      have hy := Option.some.inj hy
      subst hx hy
      exact .inl (.inr (.inl ⟨_, rfl, rfl⟩))
    | 1, hx, hy =>
      have hx := Option.some.inj hx
      have hy := Option.some.inj hy
      subst hx hy
      exact .inl (.inr (.inl ⟨_, rfl, rfl⟩))
    | 2, hx, hy =>
      have hx := Option.some.inj hx
      have hy := Option.some.inj hy
      subst hx hy
      exact .inl (.inr (.inl ⟨_, rfl, rfl⟩))
    | n + 3, hx, _ => cases hx
  | n + 2, hx, _ => cases hx
section
variable {P : Program} {w : World} {K : PySem.W.Frag} {mg : Str → Option Value} {base : Heap}
def spLaw (K : PySem.W.Frag) : Sp := fun vs H Q _ => ∃ (a : Addr) (ns : List Int), vs = [.ref a] ∧ SqL K H a (ns.map V.int) ∧ ns.length ≤ 63 ∧ ∀ H', Q (.bl true) H'
theorem ok_law (T : Txt K mg) : FnOk P w K mg base CX0 6 T.a_law T.d_law ["_law_script"] (spLaw K) := by
  have G_law_begin : FnOk P w K mg base CX0 1 T.a_law_begin T.d_law_begin ["_law_script"] (spBegin K) := ok_begin T
  have G_law_some_word : FnOk P w K mg base CX0 3 T.a_law_some_word T.d_law_some_word ["_law_d"] spSomeWord := ok_y_word T
  have G_law_style_for : FnOk P w K mg base CX0 3 T.a_law_style_for T.d_law_style_for ["_law_d", "_law_words"] spStyleFor := ok_style_for T
  have G_law_shape : FnOk P w K mg base CX0 2 T.a_law_shape T.d_law_shape ["_law_style", "_law_word"] spLawShape := ok_law_shape T
  have G_shape_of : FnOk P w K mg base CX0 5 T.a_shape_of T.d_shape_of ["style", "word"] spShapeOf := ok_shape_of T
  have G_law_exact : FnOk P w K mg base CX0 5 T.a_law_exact T.d_law_exact ["_law_told", "_law_due"] (spExact 4) := ok_exact T 4
  have G_law_pieces_right : FnOk P w K mg base CX0 3 T.a_law_pieces_right T.d_law_pieces_right ["_law_style", "_law_word", "_law_shape_here"] spPiecesRight := ok_pieces_right T
  refine T.D_law.F.ok sc_law (fun vs H Q E h => ?_) (fun cdv A outer s H vs Q E hr h => ?_)
  · obtain ⟨a, ns, rfl, _⟩ := h
    rfl
  · obtain ⟨a, ns, rfl, hS, hl, q⟩ := h
    refine ⟨_, (pss_cons (ps_set (i := 1) sc_law.nd rfl (.inl rfl) (pe_call G_law_begin (hr.mono (by decide)) (by rfl) T.D_law_begin.G T.D_law_begin.F.kp T.D_law_begin.B .nil pass0 (pa_cons (pv 0) pa_nil)))
      (pss_cons (ps_set (i := 2) sc_law.nd rfl (.inl rfl) (pe_lst (pa_cons (pe_call G_law_some_word (hr.mono (by decide)) (by rfl) T.D_law_some_word.G T.D_law_some_word.F.kp T.D_law_some_word.B .nil pass0 (pa_cons (pv 1) pa_nil)) (pa_cons (pe_call G_law_some_word (hr.mono (by decide)) (by rfl) T.D_law_some_word.G T.D_law_some_word.F.kp T.D_law_some_word.B .nil pass0 (pa_cons (pv 1) pa_nil)) pa_nil))))
      (pss_cons (ps_set (i := 3) sc_law.nd rfl (.inl rfl) (pe_lst (pa_cons (pe_call G_law_style_for (hr.mono (by decide)) (by rfl) T.D_law_style_for.G T.D_law_style_for.F.kp T.D_law_style_for.B .nil pass0 (pa_cons (pv 1) (pa_cons (pv 2) pa_nil))) (pa_cons (pe_call G_law_style_for (hr.mono (by decide)) (by rfl) T.D_law_style_for.G T.D_law_style_for.F.kp T.D_law_style_for.B .nil pass0 (pa_cons (pv 1) (pa_cons (pv 2) pa_nil))) pa_nil))))
      (pss_cons (ps_for PassesOwn.never rfl (pi_list (pv 3)) (pg_name (i := 4) sc_law.nd rfl (.inl rfl)) (pss_one (ps_for PassesOwn.never rfl (pi_list (pv 2)) (pg_name (i := 5) sc_law.nd rfl (.inl rfl)) (pss_cons (ps_set (i := 6) sc_law.nd rfl (.inl rfl) (pe_call G_law_shape (hr.mono (by decide)) (by rfl) T.D_law_shape.G T.D_law_shape.F.kp T.D_law_shape.B .nil pass0 (pa_cons (pv 4) (pa_cons (pv 5) pa_nil))))
      (pss_one (ps_if (PW.pt (pw_or (pt_not (pt_val (pe_call G_law_exact (hr.mono (by decide)) (by rfl) T.D_law_exact.G T.D_law_exact.F.kp T.D_law_exact.B .nil pass0 (pa_cons (pe_call G_shape_of (hr.mono (by decide)) (by rfl) T.D_shape_of.G T.D_shape_of.F.kp T.D_shape_of.B .nil pass0 (pa_cons (pv 4) (pa_cons (pv 5) pa_nil))) (pa_cons (pv 6) pa_nil))))) (pw_or1 (pt_not (pt_val (pe_call G_law_pieces_right (hr.mono (by decide)) (by rfl) T.D_law_pieces_right.G T.D_law_pieces_right.F.kp T.D_law_pieces_right.B .nil pass0 (pa_cons (pv 4) (pa_cons (pv 5) (pa_cons (pv 6) pa_nil))))))))) (pss_one (ps_ret pe_bl)) pss_nil))))))
      (pss_one (ps_ret (pe_call G_law_exact (hr.mono (by decide)) (by rfl) T.D_law_exact.G T.D_law_exact.F.kp T.D_law_exact.B .nil pass0 (pa_cons (pe_call G_shape_of (hr.mono (by decide)) (by rfl) T.D_shape_of.G T.D_shape_of.F.kp T.D_shape_of.B .nil pass0 (pa_cons (pe_ix ix_list (pv 3) pe_int (fun _ _ => rfl)) (pa_cons (pe_ix ix_list (pv 2) pe_int (fun _ _ => rfl)) pa_nil))) (pa_cons (pe_call G_law_shape (hr.mono (by decide)) (by rfl) T.D_law_shape.G T.D_law_shape.F.kp T.D_law_shape.B .nil pass0 (pa_cons (pe_ix ix_list (pv 3) pe_int (fun _ _ => rfl)) (pa_cons (pe_ix ix_list (pv 2) pe_int (fun _ _ => rfl)) pa_nil))) pa_nil))))))))), ?_⟩
    refine ⟨_, rfl, a, ns, rfl, hS, hl, fun H1 d l s1 D1 => ?_⟩
    refine ⟨_, rfl, d, l, rfl, D1, fun H2 z1 K2 D2 w1 p1 => ?_⟩
    refine ⟨_, rfl, d, l, rfl, D2, fun H3 z2 K3 D3 w2 p2 => ?_⟩
    refine ⟨by show 2 ≤ sizeLine; decide, fun wl nwl => ?_⟩
    have D4 := D3.new (o := .lst [sV z1, sV z2]) nwl
    have ndw := (D3.nd nwl).1
    have e4 : upd H3 wl (.lst [sV z1, sV z2]) wl = some (.lst [sV z1, sV z2]) := upd_same
    generalize upd H3 wl (.lst [sV z1, sV z2]) = H4 at D4 e4
    refine ⟨_, rfl, _, rfl, d, l, wl, z1, z2, rfl, D4, ndw, e4, w1, w2, fun H5 v1 S1 K5 D5 hv1 ok1 => ?_⟩
    have e5 := K5 _ _ ndw e4
    refine ⟨_, rfl, _, rfl, d, l, wl, z1, z2, rfl, D5, ndw, e5, w1, w2, fun H6 v2 S2 K6 D6 hv2 ok2 => ?_⟩
    have e6 := K6 _ _ ndw e5
    have hv1 := hv1.mono (kp_tup D5 K6)
    refine ⟨by show 2 ≤ sizeLine; decide, fun sl nsl => ?_⟩
    have s7 := same_upd (o := .lst [v1, v2]) (Same.refl H6) nsl
    have f7 : upd H6 sl (.lst [v1, v2]) sl = some (.lst [v1, v2]) := upd_same
    generalize upd H6 sl (.lst [v1, v2]) = H7 at s7 f7
    have e7 := s7 _ _ e6
    have hv1 := hv1.mono (same_tup s7)
    have hv2 := hv2.mono (same_tup s7)
    refine ⟨_, rfl, sl, rfl, ⟨_, SqL.of f7⟩, ?_⟩
    refine for_it (walk_list (K := K) (a := sl) (xs := [v1, v2])) (fun i σ' H' => ∃ (x4 x5 x6 : Option V), σ' = [some (.ref a), some (.ref d), some (.ref wl), some (.ref sl), x4, x5, x6] ∧ Same H7 H') ⟨none, none, none, rfl, Same.refl _⟩ ?_ ?_ ?_
    · rintro i σ' H' _ ⟨_, _, _, _, k⟩
      exact SqL.of (k _ _ f7)
    · rintro i x σ' H8 H9 hi ⟨x4, x5, x6, rfl, k8⟩ ⟨rfl, hx⟩
      obtain ⟨S, hv, ok⟩ : ∃ S, StyV H7 x S ∧ StyOk S := by
        have hi : i < 2 := hi
        match i, hx with
        | 0, hx => rw [← Option.some.inj hx]; exact ⟨S1, hv1, ok1⟩
        | 1, hx => rw [← Option.some.inj hx]; exact ⟨S2, hv2, ok2⟩
      refine ⟨_, rfl, wl, rfl, ⟨_, SqL.of (k8 _ _ e7)⟩, ?_⟩
      refine for_it (walk_list (K := K) (a := wl) (xs := [sV z1, sV z2])) (fun j σ' H' => ∃ (x5 x6 : Option V), σ' = [some (.ref a), some (.ref d), some (.ref wl), some (.ref sl), some x, x5, x6] ∧ Same H7 H') ⟨x5, x6, rfl, k8⟩ ?_ ?_ ?_
      · rintro j σ' H' _ ⟨_, _, _, k⟩
        exact SqL.of (k _ _ e7)
      · rintro j y σ' H10 H11 hj ⟨x5, x6, rfl, k10⟩ ⟨rfl, hy⟩
        obtain ⟨zs, rfl, wd, p0⟩ : ∃ zs, y = sV zs ∧ WdOk zs ∧ 0 < zs.length := by
          have hj : j < 2 := hj
          match j, hy with
          | 0, hy => exact ⟨z1, (Option.some.inj hy).symm, w1, p1⟩
          | 1, hy => exact ⟨z2, (Option.some.inj hy).symm, w2, p2⟩
        refine ⟨_, rfl, _, rfl, x, S, zs, rfl, hv.mono (same_tup k10), ok, wd, fun u H12 k12 hu => ?_⟩
        refine ⟨_, rfl, _, rfl, x, S, zs, rfl, hv.mono (same_tup (k10.trans k12)), ok, wd, fun u2 H13 k13 hu2 => ?_⟩
        refine ⟨_, rfl, _, _, rfl, shape_eqv wd hu2 (hu.mono (same_tup k13)), true, rfl, ?_⟩
        have kk := k10.trans (k12.trans k13)
        refine ⟨_, rfl, _, rfl, _, rfl, x, u, S, zs, rfl, hv.mono (same_tup kk), ok, wd, p0, hu.mono (same_tup k13), fun H14 k14 => ?_⟩
        exact ⟨true, rfl, _, _, rfl, kk.trans k14⟩
      · rintro σ' H10 ⟨x5, x6, rfl, k10⟩
        exact ⟨_, x5, x6, rfl, k10⟩
    · rintro σ' H8 ⟨x4, x5, x6, rfl, k8⟩
      refine ⟨_, rfl, sl, _, 0, _, rfl, rfl, SqL.of (k8 _ _ f7), atI_nat (j := 0) rfl, _, rfl, wl, _, 0, _, rfl, rfl, SqL.of (k8 _ _ e7), atI_nat (j := 0) rfl, v1, S1, z1, rfl, hv1.mono (same_tup k8), ok1, w1, fun u H9 k9 hu => ?_⟩
      have k9b := k8.trans k9
      refine ⟨_, rfl, sl, _, 0, _, rfl, rfl, SqL.of (k9b _ _ f7), atI_nat (j := 0) rfl, _, rfl, wl, _, 0, _, rfl, rfl, SqL.of (k9b _ _ e7), atI_nat (j := 0) rfl, v1, S1, z1, rfl, hv1.mono (same_tup k9b), ok1, w1, fun u2 H10 k10 hu2 => ?_⟩
      exact ⟨_, _, rfl, shape_eqv w1 (hu.mono (same_tup k10)) hu2, q _⟩
end
theorem all_mk {l : PySem.W.OpenLaw} {w : World} {K : PySem.W.Frag} {h : Heap} {mg : Str → Option Value} {fa : Addr} (X : K.In h) (G : h.Ns mainGlobals mg) (hfa : mg "law" = some (.ref fa))
    {f_width_of : Addr} {od_width_of an_width_of : Option Addr} {sl_width_of : Array (Option Value)} {oc_width_of kV_width_of dc_width_of pm_width_of cd_width_of ct_width_of : Value}
    (a_width_of : PySem.W.nsIn K mainGlobals "width_of" = some (some (.ref f_width_of))) (l_width_of : K.lookup f_width_of = some ⟨oc_width_of, od_width_of, .func (PySem.W.fnOf "width_of" "width_of" (defArgs s_width_of) (defBody s_width_of) (defScope s_width_of) .none kV_width_of dc_width_of pm_width_of an_width_of cd_width_of ct_width_of), sl_width_of⟩) (c_width_of : PySem.W.codeIn K cd_width_of "width_of" = true) (k_width_of : PySem.W.keepIn K (.ref f_width_of) = true)
    {f_cut_of : Addr} {od_cut_of an_cut_of : Option Addr} {sl_cut_of : Array (Option Value)} {oc_cut_of kV_cut_of dc_cut_of pm_cut_of cd_cut_of ct_cut_of : Value}
    (a_cut_of : PySem.W.nsIn K mainGlobals "cut_of" = some (some (.ref f_cut_of))) (l_cut_of : K.lookup f_cut_of = some ⟨oc_cut_of, od_cut_of, .func (PySem.W.fnOf "cut_of" "cut_of" (defArgs s_cut_of) (defBody s_cut_of) (defScope s_cut_of) .none kV_cut_of dc_cut_of pm_cut_of an_cut_of cd_cut_of ct_cut_of), sl_cut_of⟩) (c_cut_of : PySem.W.codeIn K cd_cut_of "cut_of" = true) (k_cut_of : PySem.W.keepIn K (.ref f_cut_of) = true)
    {f_break_price : Addr} {od_break_price an_break_price : Option Addr} {sl_break_price : Array (Option Value)} {oc_break_price kV_break_price dc_break_price pm_break_price cd_break_price ct_break_price : Value}
    (a_break_price : PySem.W.nsIn K mainGlobals "break_price" = some (some (.ref f_break_price))) (l_break_price : K.lookup f_break_price = some ⟨oc_break_price, od_break_price, .func (PySem.W.fnOf "break_price" "break_price" (defArgs s_break_price) (defBody s_break_price) (defScope s_break_price) .none kV_break_price dc_break_price pm_break_price an_break_price cd_break_price ct_break_price), sl_break_price⟩) (c_break_price : PySem.W.codeIn K cd_break_price "break_price" = true) (k_break_price : PySem.W.keepIn K (.ref f_break_price) = true)
    {f_told : Addr} {od_told an_told : Option Addr} {sl_told : Array (Option Value)} {oc_told kV_told dc_told pm_told cd_told ct_told : Value}
    (a_told : PySem.W.nsIn K mainGlobals "_told" = some (some (.ref f_told))) (l_told : K.lookup f_told = some ⟨oc_told, od_told, .func (PySem.W.fnOf "_told" "_told" (defArgs s_told) (defBody s_told) (defScope s_told) .none kV_told dc_told pm_told an_told cd_told ct_told), sl_told⟩) (c_told : PySem.W.codeIn K cd_told "_told" = true) (k_told : PySem.W.keepIn K (.ref f_told) = true)
    {f_shape_of : Addr} {od_shape_of an_shape_of : Option Addr} {sl_shape_of : Array (Option Value)} {oc_shape_of kV_shape_of dc_shape_of pm_shape_of cd_shape_of ct_shape_of : Value}
    (a_shape_of : PySem.W.nsIn K mainGlobals "shape_of" = some (some (.ref f_shape_of))) (l_shape_of : K.lookup f_shape_of = some ⟨oc_shape_of, od_shape_of, .func (PySem.W.fnOf "shape_of" "shape_of" (defArgs s_shape_of) (defBody s_shape_of) (defScope s_shape_of) .none kV_shape_of dc_shape_of pm_shape_of an_shape_of cd_shape_of ct_shape_of), sl_shape_of⟩) (c_shape_of : PySem.W.codeIn K cd_shape_of "shape_of" = true) (k_shape_of : PySem.W.keepIn K (.ref f_shape_of) = true)
    {f_parting_places : Addr} {od_parting_places an_parting_places : Option Addr} {sl_parting_places : Array (Option Value)} {oc_parting_places kV_parting_places dc_parting_places pm_parting_places cd_parting_places ct_parting_places : Value}
    (a_parting_places : PySem.W.nsIn K mainGlobals "parting_places" = some (some (.ref f_parting_places))) (l_parting_places : K.lookup f_parting_places = some ⟨oc_parting_places, od_parting_places, .func (PySem.W.fnOf "parting_places" "parting_places" (defArgs s_parting_places) (defBody s_parting_places) (defScope s_parting_places) .none kV_parting_places dc_parting_places pm_parting_places an_parting_places cd_parting_places ct_parting_places), sl_parting_places⟩) (c_parting_places : PySem.W.codeIn K cd_parting_places "parting_places" = true) (k_parting_places : PySem.W.keepIn K (.ref f_parting_places) = true)
    {f_piece_width : Addr} {od_piece_width an_piece_width : Option Addr} {sl_piece_width : Array (Option Value)} {oc_piece_width kV_piece_width dc_piece_width pm_piece_width cd_piece_width ct_piece_width : Value}
    (a_piece_width : PySem.W.nsIn K mainGlobals "piece_width" = some (some (.ref f_piece_width))) (l_piece_width : K.lookup f_piece_width = some ⟨oc_piece_width, od_piece_width, .func (PySem.W.fnOf "piece_width" "piece_width" (defArgs s_piece_width) (defBody s_piece_width) (defScope s_piece_width) .none kV_piece_width dc_piece_width pm_piece_width an_piece_width cd_piece_width ct_piece_width), sl_piece_width⟩) (c_piece_width : PySem.W.codeIn K cd_piece_width "piece_width" = true) (k_piece_width : PySem.W.keepIn K (.ref f_piece_width) = true)
    {f_u_piece_width : Addr} {od_u_piece_width an_u_piece_width : Option Addr} {sl_u_piece_width : Array (Option Value)} {oc_u_piece_width kV_u_piece_width dc_u_piece_width pm_u_piece_width cd_u_piece_width ct_u_piece_width : Value}
    (a_u_piece_width : PySem.W.nsIn K mainGlobals "_piece_width" = some (some (.ref f_u_piece_width))) (l_u_piece_width : K.lookup f_u_piece_width = some ⟨oc_u_piece_width, od_u_piece_width, .func (PySem.W.fnOf "_piece_width" "_piece_width" (defArgs s_u_piece_width) (defBody s_u_piece_width) (defScope s_u_piece_width) .none kV_u_piece_width dc_u_piece_width pm_u_piece_width an_u_piece_width cd_u_piece_width ct_u_piece_width), sl_u_piece_width⟩) (c_u_piece_width : PySem.W.codeIn K cd_u_piece_width "_piece_width" = true) (k_u_piece_width : PySem.W.keepIn K (.ref f_u_piece_width) = true)
    {f_width_at : Addr} {od_width_at an_width_at : Option Addr} {sl_width_at : Array (Option Value)} {oc_width_at kV_width_at dc_width_at pm_width_at cd_width_at ct_width_at : Value}
    (a_width_at : PySem.W.nsIn K mainGlobals "_width_at" = some (some (.ref f_width_at))) (l_width_at : K.lookup f_width_at = some ⟨oc_width_at, od_width_at, .func (PySem.W.fnOf "_width_at" "_width_at" (defArgs s_width_at) (defBody s_width_at) (defScope s_width_at) .none kV_width_at dc_width_at pm_width_at an_width_at cd_width_at ct_width_at), sl_width_at⟩) (c_width_at : PySem.W.codeIn K cd_width_at "_width_at" = true) (k_width_at : PySem.W.keepIn K (.ref f_width_at) = true)
    {f_law_begin : Addr} {od_law_begin an_law_begin : Option Addr} {sl_law_begin : Array (Option Value)} {oc_law_begin kV_law_begin dc_law_begin pm_law_begin cd_law_begin ct_law_begin : Value}
    (a_law_begin : PySem.W.nsIn K mainGlobals "_law_begin" = some (some (.ref f_law_begin))) (l_law_begin : K.lookup f_law_begin = some ⟨oc_law_begin, od_law_begin, .func (PySem.W.fnOf "_law_begin" "_law_begin" (defArgs s_law_begin) (defBody s_law_begin) (defScope s_law_begin) .none kV_law_begin dc_law_begin pm_law_begin an_law_begin cd_law_begin ct_law_begin), sl_law_begin⟩) (c_law_begin : PySem.W.codeIn K cd_law_begin "_law_begin" = true) (k_law_begin : PySem.W.keepIn K (.ref f_law_begin) = true)
    {f_law_draw : Addr} {od_law_draw an_law_draw : Option Addr} {sl_law_draw : Array (Option Value)} {oc_law_draw kV_law_draw dc_law_draw pm_law_draw cd_law_draw ct_law_draw : Value}
    (a_law_draw : PySem.W.nsIn K mainGlobals "_law_draw" = some (some (.ref f_law_draw))) (l_law_draw : K.lookup f_law_draw = some ⟨oc_law_draw, od_law_draw, .func (PySem.W.fnOf "_law_draw" "_law_draw" (defArgs s_law_draw) (defBody s_law_draw) (defScope s_law_draw) .none kV_law_draw dc_law_draw pm_law_draw an_law_draw cd_law_draw ct_law_draw), sl_law_draw⟩) (c_law_draw : PySem.W.codeIn K cd_law_draw "_law_draw" = true) (k_law_draw : PySem.W.keepIn K (.ref f_law_draw) = true)
    {f_law_pick : Addr} {od_law_pick an_law_pick : Option Addr} {sl_law_pick : Array (Option Value)} {oc_law_pick kV_law_pick dc_law_pick pm_law_pick cd_law_pick ct_law_pick : Value}
    (a_law_pick : PySem.W.nsIn K mainGlobals "_law_pick" = some (some (.ref f_law_pick))) (l_law_pick : K.lookup f_law_pick = some ⟨oc_law_pick, od_law_pick, .func (PySem.W.fnOf "_law_pick" "_law_pick" (defArgs s_law_pick) (defBody s_law_pick) (defScope s_law_pick) .none kV_law_pick dc_law_pick pm_law_pick an_law_pick cd_law_pick ct_law_pick), sl_law_pick⟩) (c_law_pick : PySem.W.codeIn K cd_law_pick "_law_pick" = true) (k_law_pick : PySem.W.keepIn K (.ref f_law_pick) = true)
    {f_law_piece : Addr} {od_law_piece an_law_piece : Option Addr} {sl_law_piece : Array (Option Value)} {oc_law_piece kV_law_piece dc_law_piece pm_law_piece cd_law_piece ct_law_piece : Value}
    (a_law_piece : PySem.W.nsIn K mainGlobals "_law_piece" = some (some (.ref f_law_piece))) (l_law_piece : K.lookup f_law_piece = some ⟨oc_law_piece, od_law_piece, .func (PySem.W.fnOf "_law_piece" "_law_piece" (defArgs s_law_piece) (defBody s_law_piece) (defScope s_law_piece) .none kV_law_piece dc_law_piece pm_law_piece an_law_piece cd_law_piece ct_law_piece), sl_law_piece⟩) (c_law_piece : PySem.W.codeIn K cd_law_piece "_law_piece" = true) (k_law_piece : PySem.W.keepIn K (.ref f_law_piece) = true)
    {f_law_places : Addr} {od_law_places an_law_places : Option Addr} {sl_law_places : Array (Option Value)} {oc_law_places kV_law_places dc_law_places pm_law_places cd_law_places ct_law_places : Value}
    (a_law_places : PySem.W.nsIn K mainGlobals "_law_places" = some (some (.ref f_law_places))) (l_law_places : K.lookup f_law_places = some ⟨oc_law_places, od_law_places, .func (PySem.W.fnOf "_law_places" "_law_places" (defArgs s_law_places) (defBody s_law_places) (defScope s_law_places) .none kV_law_places dc_law_places pm_law_places an_law_places cd_law_places ct_law_places), sl_law_places⟩) (c_law_places : PySem.W.codeIn K cd_law_places "_law_places" = true) (k_law_places : PySem.W.keepIn K (.ref f_law_places) = true)
    {f_law_shape : Addr} {od_law_shape an_law_shape : Option Addr} {sl_law_shape : Array (Option Value)} {oc_law_shape kV_law_shape dc_law_shape pm_law_shape cd_law_shape ct_law_shape : Value}
    (a_law_shape : PySem.W.nsIn K mainGlobals "_law_shape" = some (some (.ref f_law_shape))) (l_law_shape : K.lookup f_law_shape = some ⟨oc_law_shape, od_law_shape, .func (PySem.W.fnOf "_law_shape" "_law_shape" (defArgs s_law_shape) (defBody s_law_shape) (defScope s_law_shape) .none kV_law_shape dc_law_shape pm_law_shape an_law_shape cd_law_shape ct_law_shape), sl_law_shape⟩) (c_law_shape : PySem.W.codeIn K cd_law_shape "_law_shape" = true) (k_law_shape : PySem.W.keepIn K (.ref f_law_shape) = true)
    {f_law_exact : Addr} {od_law_exact an_law_exact : Option Addr} {sl_law_exact : Array (Option Value)} {oc_law_exact kV_law_exact dc_law_exact pm_law_exact cd_law_exact ct_law_exact : Value}
    (a_law_exact : PySem.W.nsIn K mainGlobals "_law_exact" = some (some (.ref f_law_exact))) (l_law_exact : K.lookup f_law_exact = some ⟨oc_law_exact, od_law_exact, .func (PySem.W.fnOf "_law_exact" "_law_exact" (defArgs s_law_exact) (defBody s_law_exact) (defScope s_law_exact) .none kV_law_exact dc_law_exact pm_law_exact an_law_exact cd_law_exact ct_law_exact), sl_law_exact⟩) (c_law_exact : PySem.W.codeIn K cd_law_exact "_law_exact" = true) (k_law_exact : PySem.W.keepIn K (.ref f_law_exact) = true)
    {f_law_some_word : Addr} {od_law_some_word an_law_some_word : Option Addr} {sl_law_some_word : Array (Option Value)} {oc_law_some_word kV_law_some_word dc_law_some_word pm_law_some_word cd_law_some_word ct_law_some_word : Value}
    (a_law_some_word : PySem.W.nsIn K mainGlobals "_law_some_word" = some (some (.ref f_law_some_word))) (l_law_some_word : K.lookup f_law_some_word = some ⟨oc_law_some_word, od_law_some_word, .func (PySem.W.fnOf "_law_some_word" "_law_some_word" (defArgs s_law_some_word) (defBody s_law_some_word) (defScope s_law_some_word) .none kV_law_some_word dc_law_some_word pm_law_some_word an_law_some_word cd_law_some_word ct_law_some_word), sl_law_some_word⟩) (c_law_some_word : PySem.W.codeIn K cd_law_some_word "_law_some_word" = true) (k_law_some_word : PySem.W.keepIn K (.ref f_law_some_word) = true)
    {f_law_style_for : Addr} {od_law_style_for an_law_style_for : Option Addr} {sl_law_style_for : Array (Option Value)} {oc_law_style_for kV_law_style_for dc_law_style_for pm_law_style_for cd_law_style_for ct_law_style_for : Value}
    (a_law_style_for : PySem.W.nsIn K mainGlobals "_law_style_for" = some (some (.ref f_law_style_for))) (l_law_style_for : K.lookup f_law_style_for = some ⟨oc_law_style_for, od_law_style_for, .func (PySem.W.fnOf "_law_style_for" "_law_style_for" (defArgs s_law_style_for) (defBody s_law_style_for) (defScope s_law_style_for) .none kV_law_style_for dc_law_style_for pm_law_style_for an_law_style_for cd_law_style_for ct_law_style_for), sl_law_style_for⟩) (c_law_style_for : PySem.W.codeIn K cd_law_style_for "_law_style_for" = true) (k_law_style_for : PySem.W.keepIn K (.ref f_law_style_for) = true)
    {f_law_pieces_right : Addr} {od_law_pieces_right an_law_pieces_right : Option Addr} {sl_law_pieces_right : Array (Option Value)} {oc_law_pieces_right kV_law_pieces_right dc_law_pieces_right pm_law_pieces_right cd_law_pieces_right ct_law_pieces_right : Value}
    (a_law_pieces_right : PySem.W.nsIn K mainGlobals "_law_pieces_right" = some (some (.ref f_law_pieces_right))) (l_law_pieces_right : K.lookup f_law_pieces_right = some ⟨oc_law_pieces_right, od_law_pieces_right, .func (PySem.W.fnOf "_law_pieces_right" "_law_pieces_right" (defArgs s_law_pieces_right) (defBody s_law_pieces_right) (defScope s_law_pieces_right) .none kV_law_pieces_right dc_law_pieces_right pm_law_pieces_right an_law_pieces_right cd_law_pieces_right ct_law_pieces_right), sl_law_pieces_right⟩) (c_law_pieces_right : PySem.W.codeIn K cd_law_pieces_right "_law_pieces_right" = true) (k_law_pieces_right : PySem.W.keepIn K (.ref f_law_pieces_right) = true)
    {f_law : Addr} {od_law an_law : Option Addr} {sl_law : Array (Option Value)} {oc_law kV_law dc_law pm_law cd_law ct_law : Value}
    (a_law : PySem.W.nsIn K mainGlobals "law" = some (some (.ref f_law))) (l_law : K.lookup f_law = some ⟨oc_law, od_law, .func (PySem.W.fnOf "law" "law" (defArgs s_law) (defBody s_law) (defScope s_law) .none kV_law dc_law pm_law an_law cd_law ct_law), sl_law⟩) (c_law : PySem.W.codeIn K cd_law "law" = true) (k_law : PySem.W.keepIn K (.ref f_law) = true)
    (n_bool : PySem.W.nsIn K mainGlobals "bool" = some none)
    (n_int : PySem.W.nsIn K mainGlobals "int" = some none)
    (n_isinstance : PySem.W.nsIn K mainGlobals "isinstance" = some none)
    (n_len : PySem.W.nsIn K mainGlobals "len" = some none)
    (n_list : PySem.W.nsIn K mainGlobals "list" = some none)
    (n_range : PySem.W.nsIn K mainGlobals "range" = some none)
    (n_sorted : PySem.W.nsIn K mainGlobals "sorted" = some none)
    (n_str : PySem.W.nsIn K mainGlobals "str" = some none)
    (n_sum : PySem.W.nsIn K mainGlobals "sum" = some none)
    (n_tuple : PySem.W.nsIn K mainGlobals "tuple" = some none)
    : ∃ fd : FuncData, (∀ (s : Shared) (v : Value), BindsTo s fd ⟨[v], []⟩ [("_law_script", v)]) ∧ ∀ base : Heap, K.In base → base.Ns mainGlobals mg → FnOk l.prog w K mg base CX0 6 fa fd ["_law_script"] (spLaw K) := by
  have e := hfa.symm.trans (PySem.W.mg_of X G a_law)
  cases e
  have F_width_of := fun_mk (st := s_width_of) l_width_of c_width_of k_width_of
  have b_width_of := F_width_of.binds (ps := ["style", "sign"]) fun _ _ _ _ _ _ us hl => match us, hl with | [_, _], _ => rfl
  have F_cut_of := fun_mk (st := s_cut_of) l_cut_of c_cut_of k_cut_of
  have b_cut_of := F_cut_of.binds (ps := ["style", "sign", "next_sign"]) fun _ _ _ _ _ _ us hl => match us, hl with | [_, _, _], _ => rfl
  have F_break_price := fun_mk (st := s_break_price) l_break_price c_break_price k_break_price
  have b_break_price := F_break_price.binds (ps := ["style", "sign", "next_sign"]) fun _ _ _ _ _ _ us hl => match us, hl with | [_, _, _], _ => rfl
  have F_told := fun_mk (st := s_told) l_told c_told k_told
  have b_told := F_told.binds (ps := ["rows", "key", "otherwise"]) fun _ _ _ _ _ _ us hl => match us, hl with | [_, _, _], _ => rfl
  have F_shape_of := fun_mk (st := s_shape_of) l_shape_of c_shape_of k_shape_of
  have b_shape_of := F_shape_of.binds (ps := ["style", "word"]) fun _ _ _ _ _ _ us hl => match us, hl with | [_, _], _ => rfl
  have F_parting_places := fun_mk (st := s_parting_places) l_parting_places c_parting_places k_parting_places
  have b_parting_places := F_parting_places.binds (ps := ["style", "word"]) fun _ _ _ _ _ _ us hl => match us, hl with | [_, _], _ => rfl
  have F_piece_width := fun_mk (st := s_piece_width) l_piece_width c_piece_width k_piece_width
  have b_piece_width := F_piece_width.binds (ps := ["shape", "first", "last"]) fun _ _ _ _ _ _ us hl => match us, hl with | [_, _, _], _ => rfl
  have F_u_piece_width := fun_mk (st := s_u_piece_width) l_u_piece_width c_u_piece_width k_u_piece_width
  have b_u_piece_width := F_u_piece_width.binds (ps := ["style", "word", "first", "behind"]) fun _ _ _ _ _ _ us hl => match us, hl with | [_, _, _, _], _ => rfl
  have F_width_at := fun_mk (st := s_width_at) l_width_at c_width_at k_width_at
  have b_width_at := F_width_at.binds (ps := ["style", "word", "at", "behind"]) fun _ _ _ _ _ _ us hl => match us, hl with | [_, _, _, _], _ => rfl
  have F_law_begin := fun_mk (st := s_law_begin) l_law_begin c_law_begin k_law_begin
  have b_law_begin := F_law_begin.binds (ps := ["_law_script"]) fun _ _ _ _ _ _ us hl => match us, hl with | [_], _ => rfl
  have F_law_draw := fun_mk (st := s_law_draw) l_law_draw c_law_draw k_law_draw
  have b_law_draw := F_law_draw.binds (ps := ["_law_d", "_law_many"]) fun _ _ _ _ _ _ us hl => match us, hl with | [_, _], _ => rfl
  have F_law_pick := fun_mk (st := s_law_pick) l_law_pick c_law_pick k_law_pick
  have b_law_pick := F_law_pick.binds (ps := ["_law_d", "_law_row"]) fun _ _ _ _ _ _ us hl => match us, hl with | [_, _], _ => rfl
  have F_law_piece := fun_mk (st := s_law_piece) l_law_piece c_law_piece k_law_piece
  have b_law_piece := F_law_piece.binds (ps := ["_law_style", "_law_word", "_law_first", "_law_behind"]) fun _ _ _ _ _ _ us hl => match us, hl with | [_, _, _, _], _ => rfl
  have F_law_places := fun_mk (st := s_law_places) l_law_places c_law_places k_law_places
  have b_law_places := F_law_places.binds (ps := ["_law_style", "_law_word"]) fun _ _ _ _ _ _ us hl => match us, hl with | [_, _], _ => rfl
  have F_law_shape := fun_mk (st := s_law_shape) l_law_shape c_law_shape k_law_shape
  have b_law_shape := F_law_shape.binds (ps := ["_law_style", "_law_word"]) fun _ _ _ _ _ _ us hl => match us, hl with | [_, _], _ => rfl
  have F_law_exact := fun_mk (st := s_law_exact) l_law_exact c_law_exact k_law_exact
  have b_law_exact := F_law_exact.binds (ps := ["_law_told", "_law_due"]) fun _ _ _ _ _ _ us hl => match us, hl with | [_, _], _ => rfl
  have F_law_some_word := fun_mk (st := s_law_some_word) l_law_some_word c_law_some_word k_law_some_word
  have b_law_some_word := F_law_some_word.binds (ps := ["_law_d"]) fun _ _ _ _ _ _ us hl => match us, hl with | [_], _ => rfl
  have F_law_style_for := fun_mk (st := s_law_style_for) l_law_style_for c_law_style_for k_law_style_for
  have b_law_style_for := F_law_style_for.binds (ps := ["_law_d", "_law_words"]) fun _ _ _ _ _ _ us hl => match us, hl with | [_, _], _ => rfl
  have F_law_pieces_right := fun_mk (st := s_law_pieces_right) l_law_pieces_right c_law_pieces_right k_law_pieces_right
  have b_law_pieces_right := F_law_pieces_right.binds (ps := ["_law_style", "_law_word", "_law_shape_here"]) fun _ _ _ _ _ _ us hl => match us, hl with | [_, _, _], _ => rfl
  have F_law := fun_mk (st := s_law) l_law c_law k_law
  have b_law := F_law.binds (ps := ["_law_script"]) fun _ _ _ _ _ _ us hl => match us, hl with | [_], _ => rfl
  exact ⟨PySem.W.fnOf "law" "law" (defArgs s_law) (defBody s_law) (defScope s_law) .none kV_law dc_law pm_law an_law cd_law ct_law, fun s v => .of_eq rfl, fun base _ _ => ok_law (T := {
    a_width_of := _,
    d_width_of := _,
    D_width_of := ⟨F_width_of, PySem.W.mg_of X G a_width_of, b_width_of, ⟨_, _, _, _, _, _, rfl⟩⟩,
    a_cut_of := _,
    d_cut_of := _,
    D_cut_of := ⟨F_cut_of, PySem.W.mg_of X G a_cut_of, b_cut_of, ⟨_, _, _, _, _, _, rfl⟩⟩,
    a_break_price := _,
    d_break_price := _,
    D_break_price := ⟨F_break_price, PySem.W.mg_of X G a_break_price, b_break_price, ⟨_, _, _, _, _, _, rfl⟩⟩,
    a_told := _,
    d_told := _,
    D_told := ⟨F_told, PySem.W.mg_of X G a_told, b_told, ⟨_, _, _, _, _, _, rfl⟩⟩,
    a_shape_of := _,
    d_shape_of := _,
    D_shape_of := ⟨F_shape_of, PySem.W.mg_of X G a_shape_of, b_shape_of, ⟨_, _, _, _, _, _, rfl⟩⟩,
    a_parting_places := _,
    d_parting_places := _,
    D_parting_places := ⟨F_parting_places, PySem.W.mg_of X G a_parting_places, b_parting_places, ⟨_, _, _, _, _, _, rfl⟩⟩,
    a_piece_width := _,
    d_piece_width := _,
    D_piece_width := ⟨F_piece_width, PySem.W.mg_of X G a_piece_width, b_piece_width, ⟨_, _, _, _, _, _, rfl⟩⟩,
    a_u_piece_width := _,
    d_u_piece_width := _,
    D_u_piece_width := ⟨F_u_piece_width, PySem.W.mg_of X G a_u_piece_width, b_u_piece_width, ⟨_, _, _, _, _, _, rfl⟩⟩,
    a_width_at := _,
    d_width_at := _,
    D_width_at := ⟨F_width_at, PySem.W.mg_of X G a_width_at, b_width_at, ⟨_, _, _, _, _, _, rfl⟩⟩,
    a_law_begin := _,
    d_law_begin := _,
    D_law_begin := ⟨F_law_begin, PySem.W.mg_of X G a_law_begin, b_law_begin, ⟨_, _, _, _, _, _, rfl⟩⟩,
    a_law_draw := _,
    d_law_draw := _,
    D_law_draw := ⟨F_law_draw, PySem.W.mg_of X G a_law_draw, b_law_draw, ⟨_, _, _, _, _, _, rfl⟩⟩,
    a_law_pick := _,
    d_law_pick := _,
    D_law_pick := ⟨F_law_pick, PySem.W.mg_of X G a_law_pick, b_law_pick, ⟨_, _, _, _, _, _, rfl⟩⟩,
    a_law_piece := _,
    d_law_piece := _,
    D_law_piece := ⟨F_law_piece, PySem.W.mg_of X G a_law_piece, b_law_piece, ⟨_, _, _, _, _, _, rfl⟩⟩,
    a_law_places := _,
    d_law_places := _,
    D_law_places := ⟨F_law_places, PySem.W.mg_of X G a_law_places, b_law_places, ⟨_, _, _, _, _, _, rfl⟩⟩,
    a_law_shape := _,
    d_law_shape := _,
    D_law_shape := ⟨F_law_shape, PySem.W.mg_of X G a_law_shape, b_law_shape, ⟨_, _, _, _, _, _, rfl⟩⟩,
    a_law_exact := _,
    d_law_exact := _,
    D_law_exact := ⟨F_law_exact, PySem.W.mg_of X G a_law_exact, b_law_exact, ⟨_, _, _, _, _, _, rfl⟩⟩,
    a_law_some_word := _,
    d_law_some_word := _,
    D_law_some_word := ⟨F_law_some_word, PySem.W.mg_of X G a_law_some_word, b_law_some_word, ⟨_, _, _, _, _, _, rfl⟩⟩,
    a_law_style_for := _,
    d_law_style_for := _,
    D_law_style_for := ⟨F_law_style_for, PySem.W.mg_of X G a_law_style_for, b_law_style_for, ⟨_, _, _, _, _, _, rfl⟩⟩,
    a_law_pieces_right := _,
    d_law_pieces_right := _,
    D_law_pieces_right := ⟨F_law_pieces_right, PySem.W.mg_of X G a_law_pieces_right, b_law_pieces_right, ⟨_, _, _, _, _, _, rfl⟩⟩,
    a_law := _,
    d_law := _,
    D_law := ⟨F_law, PySem.W.mg_of X G a_law, b_law, ⟨_, _, _, _, _, _, rfl⟩⟩,
    n_bool := PySem.W.mg_none_of X G n_bool,
    n_int := PySem.W.mg_none_of X G n_int,
    n_isinstance := PySem.W.mg_none_of X G n_isinstance,
    n_len := PySem.W.mg_none_of X G n_len,
    n_list := PySem.W.mg_none_of X G n_list,
    n_range := PySem.W.mg_none_of X G n_range,
    n_sorted := PySem.W.mg_none_of X G n_sorted,
    n_str := PySem.W.mg_none_of X G n_str,
    n_sum := PySem.W.mg_none_of X G n_sum,
    n_tuple := PySem.W.mg_none_of X G n_tuple })⟩
end Vf
open PySem PySem.W PyProof.Rows
set_option maxHeartbeats 0 in
theorem PySem.Challenge.cw_hushedpages_k20_shapes_holds : PySem.Challenge.rw_hushedpages_k20_shapes.Holds := by
  w_on; o_law; k_head; (case hw => w_witness2)
  k_fill
  refine L2.walk_of (l := PySem.Challenge.rw_hushedpages_k20_shapes) (n := 63) (k := 6) (x := "_law_script") (CX := fun _ => L2.CX0) (sp := fun w => Vf.spLaw _) rfl (by decide) rfl ⟨rfl, by decide, by decide⟩ (fun w h Y => PySem.W.kIn_of Y) ?F (fun _ _ a ns hl _ hS => ⟨a, ns, rfl, hS, hl, fun _ => rfl⟩) (fun _ _ _ _ _ h => h)
  case F =>
    intro w mg fa h KX G hmg
    refine' Vf.all_mk KX G hmg ?a_width_of ?l_width_of ?c_width_of ?k_width_of ?a_cut_of ?l_cut_of ?c_cut_of ?k_cut_of ?a_break_price ?l_break_price ?c_break_price ?k_break_price ?a_told ?l_told ?c_told ?k_told ?a_shape_of ?l_shape_of ?c_shape_of ?k_shape_of ?a_parting_places ?l_parting_places ?c_parting_places ?k_parting_places ?a_piece_width ?l_piece_width ?c_piece_width ?k_piece_width ?a_u_piece_width ?l_u_piece_width ?c_u_piece_width ?k_u_piece_width ?a_width_at ?l_width_at ?c_width_at ?k_width_at ?a_law_begin ?l_law_begin ?c_law_begin ?k_law_begin ?a_law_draw ?l_law_draw ?c_law_draw ?k_law_draw ?a_law_pick ?l_law_pick ?c_law_pick ?k_law_pick ?a_law_piece ?l_law_piece ?c_law_piece ?k_law_piece ?a_law_places ?l_law_places ?c_law_places ?k_law_places ?a_law_shape ?l_law_shape ?c_law_shape ?k_law_shape ?a_law_exact ?l_law_exact ?c_law_exact ?k_law_exact ?a_law_some_word ?l_law_some_word ?c_law_some_word ?k_law_some_word ?a_law_style_for ?l_law_style_for ?c_law_style_for ?k_law_style_for ?a_law_pieces_right ?l_law_pieces_right ?c_law_pieces_right ?k_law_pieces_right ?a_law ?l_law ?c_law ?k_law ?n_bool ?n_int ?n_isinstance ?n_len ?n_list ?n_range ?n_sorted ?n_str ?n_sum ?n_tuple
    (case a_width_of => k_is)
    (case l_width_of => k_is)
    (case c_width_of => k_is)
    (case k_width_of => k_is)
    (case a_cut_of => k_is)
    (case l_cut_of => k_is)
    (case c_cut_of => k_is)
    (case k_cut_of => k_is)
    (case a_break_price => k_is)
    (case l_break_price => k_is)
    (case c_break_price => k_is)
    (case k_break_price => k_is)
    (case a_told => k_is)
    (case l_told => k_is)
    (case c_told => k_is)
    (case k_told => k_is)
    (case a_shape_of => k_is)
    (case l_shape_of => k_is)
    (case c_shape_of => k_is)
    (case k_shape_of => k_is)
    (case a_parting_places => k_is)
    (case l_parting_places => k_is)
    (case c_parting_places => k_is)
    (case k_parting_places => k_is)
    (case a_piece_width => k_is)
    (case l_piece_width => k_is)
    (case c_piece_width => k_is)
    (case k_piece_width => k_is)
    (case a_u_piece_width => k_is)
    (case l_u_piece_width => k_is)
    (case c_u_piece_width => k_is)
    (case k_u_piece_width => k_is)
    (case a_width_at => k_is)
    (case l_width_at => k_is)
    (case c_width_at => k_is)
    (case k_width_at => k_is)
    (case a_law_begin => k_is)
    (case l_law_begin => k_is)
    (case c_law_begin => k_is)
    (case k_law_begin => k_is)
    (case a_law_draw => k_is)
    (case l_law_draw => k_is)
    (case c_law_draw => k_is)
    (case k_law_draw => k_is)
    (case a_law_pick => k_is)
    (case l_law_pick => k_is)
    (case c_law_pick => k_is)
    (case k_law_pick => k_is)
    (case a_law_piece => k_is)
    (case l_law_piece => k_is)
    (case c_law_piece => k_is)
    (case k_law_piece => k_is)
    (case a_law_places => k_is)
    (case l_law_places => k_is)
    (case c_law_places => k_is)
    (case k_law_places => k_is)
    (case a_law_shape => k_is)
    (case l_law_shape => k_is)
    (case c_law_shape => k_is)
    (case k_law_shape => k_is)
    (case a_law_exact => k_is)
    (case l_law_exact => k_is)
    (case c_law_exact => k_is)
    (case k_law_exact => k_is)
    (case a_law_some_word => k_is)
    (case l_law_some_word => k_is)
    (case c_law_some_word => k_is)
    (case k_law_some_word => k_is)
    (case a_law_style_for => k_is)
    (case l_law_style_for => k_is)
    (case c_law_style_for => k_is)
    (case k_law_style_for => k_is)
    (case a_law_pieces_right => k_is)
    (case l_law_pieces_right => k_is)
    (case c_law_pieces_right => k_is)
    (case k_law_pieces_right => k_is)
    (case a_law => k_is)
    (case l_law => k_is)
    (case c_law => k_is)
    (case k_law => k_is)
    (case n_bool => k_is)
    (case n_int => k_is)
    (case n_isinstance => k_is)
    (case n_len => k_is)
    (case n_list => k_is)
    (case n_range => k_is)
    (case n_sorted => k_is)
    (case n_str => k_is)
    (case n_sum => k_is)
    (case n_tuple => k_is)
