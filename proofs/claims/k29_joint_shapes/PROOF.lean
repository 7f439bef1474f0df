import PyProof.Rows.All
import Wide.All
import OpenK.AllK
import Wide.FinOn
import HandS.ForMost
import HandS.IsInst
import HandS.Conv
import HandS.Evl
import PyProof.StrBlock2
import HandS.ExcInit
import HandS.ExcIs
import HandS.ExcField
import HandS.Wide
import HandS.TupSets
import HandS.DictTup
import HandS.More
import HandS.Walk
import KE.SortData
import HandS.SetBool
import HandS.Strs
import HandS.Deep
import HandS.StrMore
import HandS.Style
import PySem.Challenge.RW_hushedpages_k29_joint_shapes
set_option Elab.async false
set_option linter.all false
set_option maxRecDepth 100000
set_option maxHeartbeats 4000000
namespace Vf
open PySem PySem.Spec PyProof.Rows L2
def topS (i : Nat) : Stmt := PySem.Challenge.pw_hushedpages_k29_joint_shapes.main.body.getD i (.Pass ⟨0, 0, 0, 0⟩)
abbrev s_width_of : Stmt := topS 1
theorem sc_width_of : FnScope ["style", "sign"] ["style", "sign"] (defScope s_width_of) := ⟨rfl, rfl, rfl, by decide +kernel, rfl, by decide +kernel, by decide +kernel⟩
abbrev s_cut_of : Stmt := topS 2
theorem sc_cut_of : FnScope ["style", "sign", "next_sign"] ["style", "sign", "next_sign"] (defScope s_cut_of) := ⟨rfl, rfl, rfl, by decide +kernel, rfl, by decide +kernel, by decide +kernel⟩
abbrev s_break_price : Stmt := topS 3
theorem sc_break_price : FnScope ["style", "sign", "next_sign"] ["style", "sign", "next_sign"] (defScope s_break_price) := ⟨rfl, rfl, rfl, by decide +kernel, rfl, by decide +kernel, by decide +kernel⟩
abbrev s_told : Stmt := topS 4
theorem sc_told : FnScope ["rows", "key", "otherwise", "low", "high", "middle"] ["rows", "key", "otherwise"] (defScope s_told) := ⟨rfl, rfl, rfl, by decide +kernel, rfl, by decide +kernel, by decide +kernel⟩
abbrev s_shape_of : Stmt := topS 6
theorem sc_shape_of : FnScope ["style", "word", "partings", "at", "left", "right"] ["style", "word"] (defScope s_shape_of) := ⟨rfl, rfl, rfl, by decide +kernel, rfl, by decide +kernel, by decide +kernel⟩
abbrev s_parting_places : Stmt := topS 7
theorem sc_parting_places : FnScope ["style", "word", "at"] ["style", "word"] (defScope s_parting_places) := ⟨rfl, rfl, rfl, by decide +kernel, rfl, by decide +kernel, by decide +kernel⟩
abbrev s_piece_width : Stmt := topS 8
theorem sc_piece_width : FnScope ["style", "word", "first", "behind", "width", "at"] ["style", "word", "first", "behind"] (defScope s_piece_width) := ⟨rfl, rfl, rfl, by decide +kernel, rfl, by decide +kernel, by decide +kernel⟩
abbrev s_width_at : Stmt := topS 9
theorem sc_width_at : FnScope ["style", "word", "at", "behind"] ["style", "word", "at", "behind"] (defScope s_width_at) := ⟨rfl, rfl, rfl, by decide +kernel, rfl, by decide +kernel, by decide +kernel⟩
abbrev s_joint_shape : Stmt := topS 11
theorem sc_joint_shape : FnScope ["styles", "secret", "stem", "style", "ending"] ["styles", "secret", "stem"] (defScope s_joint_shape) := ⟨rfl, rfl, rfl, by decide +kernel, rfl, by decide +kernel, by decide +kernel⟩
abbrev s_law_begin : Stmt := topS 13
theorem sc_law_begin : FnScope ["_law_script"] ["_law_script"] (defScope s_law_begin) := ⟨rfl, rfl, rfl, by decide +kernel, rfl, by decide +kernel, by decide +kernel⟩
abbrev s_law_draw : Stmt := topS 14
theorem sc_law_draw : FnScope ["_law_d", "_law_many", "_law_cell", "_law_found"] ["_law_d", "_law_many"] (defScope s_law_draw) := ⟨rfl, rfl, rfl, by decide +kernel, rfl, by decide +kernel, by decide +kernel⟩
abbrev s_law_pick : Stmt := topS 15
theorem sc_law_pick : FnScope ["_law_d", "_law_row"] ["_law_d", "_law_row"] (defScope s_law_pick) := ⟨rfl, rfl, rfl, by decide +kernel, rfl, by decide +kernel, by decide +kernel⟩
abbrev s_law_shuffled : Stmt := topS 16
theorem sc_law_shuffled : FnScope ["_law_d", "_law_row", "_law_left", "_law_found"] ["_law_d", "_law_row"] (defScope s_law_shuffled) := ⟨rfl, rfl, rfl, by decide +kernel, rfl, by decide +kernel, by decide +kernel⟩
abbrev s_law_names : Stmt := topS 17
theorem sc_law_names : FnScope ["_law_d", "_law_many", "_law_pool"] ["_law_d", "_law_many"] (defScope s_law_names) := ⟨rfl, rfl, rfl, by decide +kernel, rfl, by decide +kernel, by decide +kernel⟩
abbrev s_law_word : Stmt := topS 18
theorem sc_law_word : FnScope ["_law_d", "_law_low", "_law_high", "_law_long", "_law_signs", "_law_k"] ["_law_d", "_law_low", "_law_high"] (defScope s_law_word) := ⟨rfl, rfl, rfl, by decide +kernel, rfl, by decide +kernel, by decide +kernel⟩
abbrev s_law_style : Stmt := topS 19
theorem sc_law_style : FnScope ["_law_d", "_law_measure", "_law_depth", "_law_columns", "_law_widths", "_law_sign", "_law_kind", "_law_cuts", "_law_wide", "_law_pairs_here", "_law_k", "_law_pair", "_law_breaks", "_law_prices", "_law_one", "_law_two"] ["_law_d", "_law_measure", "_law_depth", "_law_columns"] (defScope s_law_style) := ⟨rfl, rfl, rfl, by decide +kernel, rfl, by decide +kernel, by decide +kernel⟩
abbrev s_law_piece : Stmt := topS 20
theorem sc_law_piece : FnScope ["_law_style_here", "_law_word_here", "_law_first", "_law_behind", "_law_signs", "_law_k", "_law_wide", "_law_one", "_law_w", "_law_two", "_law_cut"] ["_law_style_here", "_law_word_here", "_law_first", "_law_behind"] (defScope s_law_piece) := ⟨rfl, rfl, rfl, by decide +kernel, rfl, by decide +kernel, by decide +kernel⟩
abbrev s_law_places : Stmt := topS 21
theorem sc_law_places : FnScope ["_law_style_here", "_law_word_here", "_law_found", "_law_k", "_law_one", "_law_two", "_law_price"] ["_law_style_here", "_law_word_here"] (defScope s_law_places) := ⟨rfl, rfl, rfl, by decide +kernel, rfl, by decide +kernel, by decide +kernel⟩
abbrev s_law_shape : Stmt := topS 22
theorem sc_law_shape : FnScope ["_law_style_here", "_law_word_here", "_law_partings", "_law_k", "_law_price", "_law_left"] ["_law_style_here", "_law_word_here"] (defScope s_law_shape) := ⟨rfl, rfl, rfl, by decide +kernel, rfl, by decide +kernel, by decide +kernel⟩
abbrev s_law_slot : Stmt := topS 23
theorem sc_law_slot : FnScope ["_law_d"] ["_law_d"] (defScope s_law_slot) := ⟨rfl, rfl, rfl, by decide +kernel, rfl, by decide +kernel, by decide +kernel⟩
abbrev s_law_joint : Stmt := topS 24
theorem sc_law_joint : FnScope ["_law_styles", "_law_secret", "_law_stem", "_law_style_here", "_law_one"] ["_law_styles", "_law_secret", "_law_stem"] (defScope s_law_joint) := ⟨rfl, rfl, rfl, by decide +kernel, rfl, by decide +kernel, by decide +kernel⟩
abbrev s_law_exact : Stmt := topS 25
theorem sc_law_exact : FnScope ["_law_told", "_law_due", "_law_k"] ["_law_told", "_law_due"] (defScope s_law_exact) := ⟨rfl, rfl, rfl, by decide +kernel, rfl, by decide +kernel, by decide +kernel⟩
abbrev s_law_secret_of : Stmt := topS 26
theorem sc_law_secret_of : FnScope ["_law_d", "_law_pattern", "_law_stock", "_law_endings", "_law_k", "_law_ending"] ["_law_d"] (defScope s_law_secret_of) := ⟨rfl, rfl, rfl, by decide +kernel, rfl, by decide +kernel, by decide +kernel⟩
abbrev s_law_pairs : Stmt := topS 27
theorem sc_law_pairs : FnScope ["_law_words", "_law_found", "_law_word_here", "_law_k"] ["_law_words"] (defScope s_law_pairs) := ⟨rfl, rfl, rfl, by decide +kernel, rfl, by decide +kernel, by decide +kernel⟩
abbrev s_law_fit_style : Stmt := topS 28
theorem sc_law_fit_style : FnScope ["_law_d", "_law_words", "_law_letters", "_law_signs", "_law_wide", "_law_k", "_law_cuts", "_law_breaks", "_law_one", "_law_two", "_law_widths", "_law_sign"] ["_law_d", "_law_words"] (defScope s_law_fit_style) := ⟨rfl, rfl, rfl, by decide +kernel, rfl, by decide +kernel, by decide +kernel⟩
abbrev s_law_world : Stmt := topS 29
theorem sc_law_world : FnScope ["_law_d", "_law_secret", "_law_pattern", "_law_stem", "_law_words", "_law_styles", "_law_k", "_law_slot_here", "_law_ending"] ["_law_d"] (defScope s_law_world) := ⟨rfl, rfl, rfl, by decide +kernel, rfl, by decide +kernel, by decide +kernel⟩
abbrev s_law : Stmt := topS 30
theorem sc_law : FnScope ["_law_script", "_law_d", "_law_worlds", "_law_dues", "_law_turn", "_law_k", "_law_styles", "_law_secret", "_law_stem"] ["_law_script"] (defScope s_law) := ⟨rfl, rfl, rfl, by decide +kernel, rfl, by decide +kernel, by decide +kernel⟩
structure DefAt (K : PySem.W.Frag) (mg : Str → Option Value) (x : Str) (st : Stmt) (ps : List Str) (f : Addr) (fd : FuncData) : Prop where
  F : Fun K x x st f fd
  G : mg x = some (.ref f)
  B : Binds K fd ps []
  E : ∃ kV doc pm an cdv ct, fd = PySem.W.fnOf x x (defArgs st) (defBody st) (defScope st) .none kV doc pm an cdv ct
structure Txt (K : PySem.W.Frag) (mg : Str → Option Value) where
  a_width_of : Addr
  d_width_of : FuncData
  D_width_of : DefAt K mg "width_of" s_width_of ["style", "sign"] a_width_of d_width_of
  a_cut_of : Addr
  d_cut_of : FuncData
  D_cut_of : DefAt K mg "cut_of" s_cut_of ["style", "sign", "next_sign"] a_cut_of d_cut_of
  a_break_price : Addr
  d_break_price : FuncData
  D_break_price : DefAt K mg "break_price" s_break_price ["style", "sign", "next_sign"] a_break_price d_break_price
  a_told : Addr
  d_told : FuncData
  D_told : DefAt K mg "_told" s_told ["rows", "key", "otherwise"] a_told d_told
  a_shape_of : Addr
  d_shape_of : FuncData
  D_shape_of : DefAt K mg "shape_of" s_shape_of ["style", "word"] a_shape_of d_shape_of
  a_parting_places : Addr
  d_parting_places : FuncData
  D_parting_places : DefAt K mg "parting_places" s_parting_places ["style", "word"] a_parting_places d_parting_places
  a_piece_width : Addr
  d_piece_width : FuncData
  D_piece_width : DefAt K mg "_piece_width" s_piece_width ["style", "word", "first", "behind"] a_piece_width d_piece_width
  a_width_at : Addr
  d_width_at : FuncData
  D_width_at : DefAt K mg "_width_at" s_width_at ["style", "word", "at", "behind"] a_width_at d_width_at
  a_joint_shape : Addr
  d_joint_shape : FuncData
  D_joint_shape : DefAt K mg "joint_shape" s_joint_shape ["styles", "secret", "stem"] a_joint_shape d_joint_shape
  a_law_begin : Addr
  d_law_begin : FuncData
  D_law_begin : DefAt K mg "_law_begin" s_law_begin ["_law_script"] a_law_begin d_law_begin
  a_law_draw : Addr
  d_law_draw : FuncData
  D_law_draw : DefAt K mg "_law_draw" s_law_draw ["_law_d", "_law_many"] a_law_draw d_law_draw
  a_law_pick : Addr
  d_law_pick : FuncData
  D_law_pick : DefAt K mg "_law_pick" s_law_pick ["_law_d", "_law_row"] a_law_pick d_law_pick
  a_law_shuffled : Addr
  d_law_shuffled : FuncData
  D_law_shuffled : DefAt K mg "_law_shuffled" s_law_shuffled ["_law_d", "_law_row"] a_law_shuffled d_law_shuffled
  a_law_names : Addr
  d_law_names : FuncData
  D_law_names : DefAt K mg "_law_names" s_law_names ["_law_d", "_law_many"] a_law_names d_law_names
  a_law_word : Addr
  d_law_word : FuncData
  D_law_word : DefAt K mg "_law_word" s_law_word ["_law_d", "_law_low", "_law_high"] a_law_word d_law_word
  a_law_style : Addr
  d_law_style : FuncData
  D_law_style : DefAt K mg "_law_style" s_law_style ["_law_d", "_law_measure", "_law_depth", "_law_columns"] a_law_style d_law_style
  a_law_piece : Addr
  d_law_piece : FuncData
  D_law_piece : DefAt K mg "_law_piece" s_law_piece ["_law_style_here", "_law_word_here", "_law_first", "_law_behind"] a_law_piece d_law_piece
  a_law_places : Addr
  d_law_places : FuncData
  D_law_places : DefAt K mg "_law_places" s_law_places ["_law_style_here", "_law_word_here"] a_law_places d_law_places
  a_law_shape : Addr
  d_law_shape : FuncData
  D_law_shape : DefAt K mg "_law_shape" s_law_shape ["_law_style_here", "_law_word_here"] a_law_shape d_law_shape
  a_law_slot : Addr
  d_law_slot : FuncData
  D_law_slot : DefAt K mg "_law_slot" s_law_slot ["_law_d"] a_law_slot d_law_slot
  a_law_joint : Addr
  d_law_joint : FuncData
  D_law_joint : DefAt K mg "_law_joint" s_law_joint ["_law_styles", "_law_secret", "_law_stem"] a_law_joint d_law_joint
  a_law_exact : Addr
  d_law_exact : FuncData
  D_law_exact : DefAt K mg "_law_exact" s_law_exact ["_law_told", "_law_due"] a_law_exact d_law_exact
  a_law_secret_of : Addr
  d_law_secret_of : FuncData
  D_law_secret_of : DefAt K mg "_law_secret_of" s_law_secret_of ["_law_d"] a_law_secret_of d_law_secret_of
  a_law_pairs : Addr
  d_law_pairs : FuncData
  D_law_pairs : DefAt K mg "_law_pairs" s_law_pairs ["_law_words"] a_law_pairs d_law_pairs
  a_law_fit_style : Addr
  d_law_fit_style : FuncData
  D_law_fit_style : DefAt K mg "_law_fit_style" s_law_fit_style ["_law_d", "_law_words"] a_law_fit_style d_law_fit_style
  a_law_world : Addr
  d_law_world : FuncData
  D_law_world : DefAt K mg "_law_world" s_law_world ["_law_d"] a_law_world d_law_world
  a_law : Addr
  d_law : FuncData
  D_law : DefAt K mg "law" s_law ["_law_script"] a_law d_law
  n_bool : mg "bool" = none
  n_int : mg "int" = none
  n_isinstance : mg "isinstance" = none
  n_len : mg "len" = none
  n_list : mg "list" = none
  n_range : mg "range" = none
  n_sorted : mg "sorted" = none
  n_str : mg "str" = none
  n_sum : mg "sum" = none
  n_tuple : mg "tuple" = none
/-! ### the dice -/
/-- at d the dice, at l the script's copy -/
structure DI (d l : Addr) (H : Hp) : Prop where
  ne : l ≠ d
  sc : ∃ ns : List Int, H l = some (.lst (ns.map V.int))
  st : ∃ i b s c : Int, 0 ≤ i ∧ H d = some (.lst [.ref l, .int i, .int b, .int s, .int c])
/-- all but the dice stands -/
def Kp (d : Addr) (H H' : Hp) : Prop := ∀ b o, b ≠ d → H b = some o → H' b = some o
theorem Kp.refl (d : Addr) (H : Hp) : Kp d H H := fun _ _ _ h => h
theorem Kp.trans {d : Addr} {H H1 H2 : Hp} (a : Kp d H H1) (b : Kp d H1 H2) : Kp d H H2 := fun x o n h => b x o n (a x o n h)
theorem Kp.upd {d : Addr} {H H' : Hp} {o : HO} (a : Kp d H H') : Kp d H (upd H' d o) := fun x u n h => by
  rw [upd_ne n]; exact a x u n h
theorem Kp.new {d p : Addr} {H H' : Hp} {o : HO} (a : Kp d H H') (hp : H' p = none) : Kp d H (L2.upd H' p o) := fun x u n h => by
  have h2 := a x u n h
  rw [upd_ne (ne_of_none h2 hp)]; exact h2
theorem Kp.mut {d p : Addr} {H H' : Hp} {o : HO} (a : Kp d H H') (hp : H p = none) : Kp d H (L2.upd H' p o) := fun x u n h => by
  rw [upd_ne (ne_of_none h hp)]; exact a x u n h
theorem Kp.sq {K : PySem.W.Frag} {d a : Addr} {H H' : Hp} {xs : List V} (k : Kp d H H') (n : a ≠ d) (h : SqL K H a xs) : SqL K H' a xs := by
  rcases h with (h | ⟨o, h⟩) | h
  · exact .inl (.inl (k _ _ n h))
  · exact .inl (.inr ⟨o, k _ _ n h⟩)
  · exact .inr h
theorem DI.keep {d l : Addr} {H H' : Hp} (h : DI d l H) (e : ∀ b o, H b = some o → H' b = some o) : DI d l H' := by
  obtain ⟨n, ⟨ns, h1⟩, i, b, s, c, h0, h2⟩ := h
  exact ⟨n, ⟨ns, e _ _ h1⟩, i, b, s, c, h0, e _ _ h2⟩
theorem DI.at {d l p : Addr} {H : Hp} {o : HO} (h : DI d l H) (n1 : p ≠ d) (n2 : p ≠ l) : DI d l (upd H p o) := by
  obtain ⟨n, ⟨ns, h1⟩, i, b, s, c, h0, h2⟩ := h
  exact ⟨n, ⟨ns, by rw [upd_ne n2.symm]; exact h1⟩, i, b, s, c, h0, by rw [upd_ne n1.symm]; exact h2⟩
theorem DI.new {d l p : Addr} {H : Hp} {o : HO} (h : DI d l H) (hp : H p = none) : DI d l (upd H p o) :=
  h.keep fun b u e => by rw [upd_ne (ne_of_none e hp)]; exact e
theorem DI.nd {d l p : Addr} {H : Hp} (h : DI d l H) (hp : H p = none) : p ≠ d ∧ p ≠ l := by
  obtain ⟨n, ⟨ns, h1⟩, i, b, s, c, h0, h2⟩ := h
  exact ⟨fun e => (by rw [e, h2] at hp; cases hp), fun e => (by rw [e, h1] at hp; cases hp)⟩
theorem DI.set {d l : Addr} {H : Hp} {i b s c : Int} (h : DI d l H) (h0 : 0 ≤ i) : DI d l (upd H d (.lst [.ref l, .int i, .int b, .int s, .int c])) := by
  obtain ⟨n, ⟨ns, h1⟩, _⟩ := h
  exact ⟨n, ⟨ns, by rw [upd_ne n]; exact h1⟩, i, b, s, c, h0, upd_same⟩
section
variable {P : Program} {w : World} {K : PySem.W.Frag} {mg : Str → Option Value} {base : Heap}
/-! ### begin -/
def spBegin (K : PySem.W.Frag) : Sp := fun vs H Q _ => ∃ (a : Addr) (ns : List Int), vs = [.ref a] ∧ SqL K H a (ns.map V.int) ∧ ns.length ≤ 63 ∧
  ∀ H' d l, Same H H' → DI d l H' → Q (.ref d) H'
theorem ok_begin (T : Txt K mg) : FnOk P w K mg base CX0 1 T.a_law_begin T.d_law_begin ["_law_script"] (spBegin K) := by
  refine T.D_law_begin.F.ok sc_law_begin (fun vs H Q E h => ?_) (fun cdv A outer s H vs Q E hr h => ?_)
  · obtain ⟨a, ns, rfl, _⟩ := h
    rfl
  · obtain ⟨a, ns, rfl, hS, hl, q⟩ := h
    refine ⟨_, (pss_one (ps_ret (pe_lst (pa_cons (pe_callTy call_list_of (by rfl) T.n_list (by decide +kernel) (pa_cons (pv 0) pa_nil)) (pa_cons pe_int (pa_cons pe_int (pa_cons pe_int (pa_cons pe_int pa_nil)))))))), ?_⟩
    refine ⟨_, rfl, a, _, rfl, .inl hS, fun l nl => ?_⟩
    refine ⟨by show 5 ≤ sizeLine; decide, fun d nd => ?_⟩
    refine q _ d l (fun b o e => ?_) ?_
    · have n1 : b ≠ l := ne_of_none e nl
      have e1 : upd H l (.lst (ns.map V.int)) b = some o := by rw [upd_ne n1]; exact e
      rw [upd_ne (ne_of_none e1 nd)]
      exact e1
    · have e1 : upd H l (.lst (ns.map V.int)) l = some (.lst (ns.map V.int)) := upd_same
      have n1 : l ≠ d := ne_of_none e1 nd
      exact ⟨n1, ⟨ns, by rw [upd_ne n1]; exact e1⟩, 0, 0, 7, 0, by decide, upd_same⟩
/-! ### draw -/
def spDraw : Sp := fun vs H Q _ => ∃ (d l : Addr) (m : Int), vs = [.ref d, .int m] ∧ DI d l H ∧ m ≤ 1000000 ∧
  ∀ H' r, Kp d H H' → DI d l H' → (m < 2 → r = 0) → (2 ≤ m → 0 ≤ r ∧ r < m) → Q (.int r) H'
theorem ok_draw (T : Txt K mg) : FnOk P w K mg base CX0 1 T.a_law_draw T.d_law_draw ["_law_d", "_law_many"] spDraw := by
  refine T.D_law_draw.F.ok sc_law_draw (fun vs H Q E h => ?_) (fun cdv A outer s H vs Q E hr h => ?_)
  · obtain ⟨d, l, m, rfl, _⟩ := h
    rfl
  · obtain ⟨d, l, m, rfl, hD, hm, q⟩ := h
    refine ⟨_, (pss_cons (ps_if (pt_cmpR op_lt (pv 1) pe_int (nomark _)) (pss_one (ps_ret pe_int)) pss_nil)
      (pss_cons (ps_set (i := 2) sc_law_draw.nd rfl (.inl rfl) (pe_op op_add (pe_op op_mul (pe_ix ix_list (pv 0) pe_int (fun _ _ => rfl)) pe_int) pe_int))
      (Evl.pss_cut (ps_if (PW.pt (pw_and (pt_cmpR op_eq (pe_ix ix_list (pv 0) pe_int (fun _ _ => rfl)) pe_int (nomark _)) (pw_and1 (pt_cmpR op_lt (pe_ix ix_list (pv 0) pe_int (fun _ _ => rfl)) (pe_callB call_len_seq (by rfl) T.n_len PySem.boot_len (pa_cons (pe_ix ix_list (pv 0) pe_int (fun _ _ => rfl)) pa_nil)) (nomark _))))) (pss_cons (ps_set (i := 2) sc_law_draw.nd rfl (.inl rfl) (pe_ix ix_list (pe_ix ix_list (pv 0) pe_int (fun _ _ => rfl)) (pe_ix ix_list (pv 0) pe_int (fun _ _ => rfl)) (fun _ _ => rfl)))
      (pss_cons (ps_asg (pe_op op_add (pe_ix ix_list (pv 0) pe_int (fun _ _ => rfl)) pe_int) (pg_sub (pv 0) pe_int set_list))
      (Evl.pss_cut (ps_if (pt_cmpR op_lt (pv 2) pe_int (nomark _)) (pss_one (ps_set (i := 2) sc_law_draw.nd rfl (.inl rfl) (pe_op op_sub pe_int (pe_op op_mul pe_int (pv 2))))) pss_nil)
      (pss_one (ps_if (pt_cmpR op_ge (pv 2) pe_int (nomark _)) (pss_cons (ps_set (i := 2) sc_law_draw.nd rfl (.inl rfl) (pe_op op_and (pv 2) (pe_op op_sub (pe_op op_shl pe_int pe_int) pe_int)))
      (pss_one (ps_asg (pv 2) (pg_sub (pv 0) pe_int set_list)))) pss_nil))))) pss_nil)
      (pss_cons (ps_if (pt_cmpR op_gt (pe_ix ix_list (pv 0) pe_int (fun _ _ => rfl)) pe_int (nomark _)) (pss_cons (ps_set (i := 3) sc_law_draw.nd rfl (.inl rfl) (pe_op op_modN (pe_callTy call_int1 (by rfl) T.n_int (by decide +kernel) (pa_cons (pe_ix ix_list (pv 0) pe_int (fun _ _ => rfl)) pa_nil)) (pv 1)))
      (pss_cons (ps_asg (pe_op op_fdivN (pe_ix ix_list (pv 0) pe_int (fun _ _ => rfl)) (pv 1)) (pg_sub (pv 0) pe_int set_list))
      (pss_one (ps_ret (pv 3))))) pss_nil)
      (pss_cons (ps_asg (pe_op op_add (pe_ix ix_list (pv 0) pe_int (fun _ _ => rfl)) pe_int) (pg_sub (pv 0) pe_int set_list))
      (pss_cons (ps_asg (pe_op op_modN (pe_callTy call_int1 (by rfl) T.n_int (by decide +kernel) (pa_cons (pe_op op_add (pe_op op_add (pe_op op_mul (pe_ix ix_list (pv 0) pe_int (fun _ _ => rfl)) pe_int) (pe_op op_mul (pv 2) pe_int)) (pe_op op_mul (pe_ix ix_list (pv 0) pe_int (fun _ _ => rfl)) pe_int)) pa_nil)) pe_int) (pg_sub (pv 0) pe_int set_list))
      (pss_one (ps_ret (pe_op op_modN (pe_callTy call_int1 (by rfl) T.n_int (by decide +kernel) (pa_cons (pe_op op_modN (pe_callTy call_int1 (by rfl) T.n_int (by decide +kernel) (pa_cons (pe_op op_add (pe_op op_add (pe_op op_mul (pe_ix ix_list (pv 0) pe_int (fun _ _ => rfl)) pe_int) (pe_op op_mul (pe_ix ix_list (pv 0) pe_int (fun _ _ => rfl)) pe_int)) pe_int) pa_nil)) pe_int) pa_nil)) (pv 1)))))))))), ?_⟩
    refine ⟨_, rfl, _, _, rfl, rfl, _, rfl, ite2 (fun e => ?_) (fun e => ?_)⟩
    · have e := of_decide_eq_true e
      exact q H 0 (Kp.refl d H) hD (fun _ => rfl) (fun z => by omega)
    have hm2 : 2 ≤ m := by
      have e2 : ¬ m < 2 := fun z => e (decide_eq_true z)
      omega
    have hmN : m ≠ 0 := by omega
    have hmA : m.natAbs < 1073741824 := by omega
    have fm : ∀ z : Int, 0 ≤ z.fmod m ∧ z.fmod m < m := fun z => ⟨Int.fmod_nonneg_of_pos z (by omega), Int.fmod_lt_of_pos z (by omega)⟩
    obtain ⟨n, ⟨ns, h1⟩, i, b, s5, c, h0, h2⟩ := id hD
    -- cell = d[4] * 977 + 3
    refine ⟨_, rfl, _, _, _, _, rfl, rfl, SqL.of h2, rfl, _, _, rfl, rfl, .inr ⟨by decide, by decide⟩, _, _, rfl, rfl, ?_⟩
    refine ⟨fun σ' H' => ∃ (cell : Int) (x3 : Option V), σ' = [some (.ref d), some (.int m), some (.int cell), x3] ∧ Kp d H H' ∧ DI d l H', ?_, ?_⟩
    · -- the cell
      refine ⟨_, rfl, _, _, _, _, rfl, rfl, SqL.of h2, rfl, rfl, _, rfl, ite2 (fun e1 => ?_) (fun e1 => ?_)⟩
      · refine ⟨_, rfl, _, _, _, _, rfl, rfl, SqL.of h2, rfl, _, rfl, _, _, _, _, rfl, rfl, SqL.of h2, rfl, _, _, rfl, .inl (SqL.of h1), _, _, rfl, rfl, _, rfl, ite2 (fun e2 => ?_) (fun e2 => ?_)⟩
        · have e2 := of_decide_eq_true e2
          rw [List.length_map] at e2
          obtain ⟨j, rfl⟩ : ∃ j : Nat, i = (j : Int) := ⟨i.toNat, by omega⟩
          have hj : j < ns.length := by omega
          have gj : (ns.map V.int)[j]? = some (.int ns[j]) := by
            rw [List.getElem?_map, List.getElem?_eq_getElem hj]; rfl
          refine ⟨_, rfl, _, _, _, _, rfl, rfl, SqL.of h2, rfl, _, rfl, _, _, _, _, rfl, rfl, SqL.of h2, rfl, _, _, _, _, rfl, rfl, SqL.of h1, atI_nat gj, ?_⟩
          -- d[1] = d[1] + 1
          refine ⟨_, rfl, _, _, _, _, rfl, rfl, SqL.of h2, rfl, _, _, rfl, rfl, _, rfl, _, _, _, _, rfl, rfl, h2, rfl, ?_⟩
          have D1 := hD.set (i := (j : Int) + 1) (b := b) (s := s5) (c := c) (by omega)
          have K1 : Kp d H (upd H d (.lst [.ref l, .int ((j : Int) + 1), .int b, .int s5, .int c])) := (Kp.refl d H).upd
          refine ⟨fun σ' H' => ∃ (cell : Int) (x3 : Option V), σ' = [some (.ref d), some (.int m), some (.int cell), x3] ∧ H' = upd H d (.lst [.ref l, .int ((j : Int) + 1), .int b, .int s5, .int c]), ?_, ?_⟩
          · refine ⟨_, rfl, _, _, rfl, rfl, _, rfl, ite2 (fun _ => ?_) (fun _ => ?_)⟩
            · exact ⟨_, rfl, _, _, rfl, rfl, .inl ⟨by decide, by decide⟩, _, _, rfl, rfl, _, _, rfl, rfl⟩
            · exact ⟨_, _, rfl, rfl⟩
          · rintro σ' H' ⟨cell, x3, rfl, rfl⟩
            refine ⟨_, rfl, _, _, rfl, rfl, _, rfl, ite2 (fun _ => ?_) (fun _ => ?_)⟩
            · refine ⟨_, rfl, _, _, rfl, rfl, ⟨by decide, by decide, by decide⟩, _, _, rfl, rfl, _, _, rfl, rfl, ?_⟩
              refine ⟨_, rfl, _, rfl, _, _, _, _, rfl, rfl, upd_same, rfl, ?_⟩
              exact ⟨_, _, rfl, K1.upd, D1.set (by omega)⟩
            · exact ⟨_, _, rfl, K1, D1⟩
        · exact ⟨_, _, rfl, Kp.refl d H, hD⟩
      · exact ⟨_, _, rfl, Kp.refl d H, hD⟩
    · rintro σ' H1 ⟨cell, x3, rfl, K1, D1⟩
      obtain ⟨n, ⟨ns, h1⟩, i, b, s5, c, h0, h2⟩ := id D1
      refine ⟨_, rfl, _, _, _, _, rfl, rfl, SqL.of h2, rfl, _, _, rfl, rfl, _, rfl, ite2 (fun e1 => ?_) (fun e1 => ?_)⟩
      · refine ⟨_, rfl, _, _, _, _, rfl, rfl, SqL.of h2, rfl, .inl ⟨_, rfl, _, rfl, _, _, rfl, rfl, hmN, ?_⟩⟩
        refine ⟨_, rfl, _, _, _, _, rfl, rfl, SqL.of h2, rfl, _, rfl, _, _, rfl, rfl, ⟨hmN, hmA⟩, _, rfl, _, _, _, _, rfl, rfl, h2, rfl, ?_⟩
        exact ⟨_, rfl, q _ _ K1.upd (D1.set h0) (fun z => by omega) (fun _ => fm _)⟩
      · refine ⟨_, rfl, _, _, _, _, rfl, rfl, SqL.of h2, rfl, _, _, rfl, rfl, _, rfl, _, _, _, _, rfl, rfl, h2, rfl, ?_⟩
        refine ⟨_, rfl, _, _, _, _, rfl, rfl, SqL.of upd_same, rfl, _, _, rfl, rfl, .inr ⟨by decide, by decide⟩, _, rfl, _, _, rfl, rfl, .inr ⟨by decide, by decide⟩, _, _, rfl, rfl, _, rfl, _, _, _, _, rfl, rfl, SqL.of upd_same, rfl, _, _, rfl, rfl, .inr ⟨by decide, by decide⟩, _, _, rfl, rfl, .inl ⟨_, rfl, _, _, rfl, rfl, (by show (2147483647 : Int) ≠ 0; decide), _, rfl, _, _, _, _, rfl, rfl, upd_same, rfl, ?_⟩⟩
        refine ⟨_, rfl, _, _, _, _, rfl, rfl, SqL.of upd_same, rfl, _, _, rfl, rfl, .inr ⟨by decide, by decide⟩, _, rfl, _, _, _, _, rfl, rfl, SqL.of upd_same, rfl, _, _, rfl, rfl, .inr ⟨by decide, by decide⟩, _, _, rfl, rfl, _, _, rfl, rfl, .inl ⟨_, rfl, _, _, rfl, rfl, (by show (2147483399 : Int) ≠ 0; decide), .inl ⟨_, rfl, _, rfl, _, _, rfl, rfl, hmN, ?_⟩⟩⟩
        exact q _ _ K1.upd.upd ((D1.set h0).set h0) (fun z => by omega) (fun _ => fm _)
end
end Vf

set_option Elab.async false
set_option linter.all false
set_option maxRecDepth 100000
set_option maxHeartbeats 4000000
namespace Vf
open PySem PySem.Spec PyProof.Rows L2 TL
/-! ### the mathematics of tokens -/
def sW : Str := "abcdefghijklmnopqrstuvwxyz0123456789.,:;!?'()+=<>*/"
def sL : Str := "abcdefghijklmnopqrstuvwxyz"
def sB : Str := " \n"
def sOdd : Str := "\"#$&-ABCDEFGHIJKLMNOPQRSTUVWXYZ[\\]^_`|~"
def cW (c : Nat) : Bool := decide (c ∈ sW.cps.toList)
def cL (c : Nat) : Bool := decide (c ∈ sL.cps.toList)
def cB (c : Nat) : Bool := decide (c ∈ sB.cps.toList)
/-- the text of these signs -/
def mkS (zs : List Nat) : Str := ⟨zs.toArray⟩
def sV (zs : List Nat) : V := .str (mkS zs)
theorem mkS_cps (zs : List Nat) : (mkS zs).cps.toList = zs := rfl
theorem mkS_of (z : Str) : mkS z.cps.toList = z := rfl
theorem mkS_len (zs : List Nat) : (mkS zs).length = zs.length := by simp [mkS, Str.length]
theorem len_cps (z : Str) : z.length = z.cps.toList.length := by simp [Str.length]
theorem mkS_app (a b : List Nat) : mkS a ++ mkS b = mkS (a ++ b) := by
  have h : (mkS a ++ mkS b).cps.toList = a ++ b := by rw [Str.cps_append, Array.toList_append]; rfl
  rw [← h]
  rfl
theorem mkS_inj {a b : List Nat} (h : mkS a = mkS b) : a = b := by
  have h2 := congrArg (fun z : Str => z.cps.toList) h
  exact h2
theorem sW_list : sW.cps.toList = [97,98,99,100,101,102,103,104,105,106,107,108,109,110,111,112,113,114,115,116,117,118,119,120,121,122,48,49,50,51,52,53,54,55,56,57,46,44,58,59,33,63,39,40,41,43,61,60,62,42,47] := by decide +kernel
theorem sL_list : sL.cps.toList = [97,98,99,100,101,102,103,104,105,106,107,108,109,110,111,112,113,114,115,116,117,118,119,120,121,122] := by decide +kernel
theorem sB_list : sB.cps.toList = [32, 10] := by decide +kernel
theorem cL_W {c : Nat} (h : cL c = true) : cW c = true := by
  have h1 := of_decide_eq_true h
  refine decide_eq_true ?_
  rw [sL_list] at h1
  rw [sW_list]
  rw [show ([97,98,99,100,101,102,103,104,105,106,107,108,109,110,111,112,113,114,115,116,117,118,119,120,121,122,48,49,50,51,52,53,54,55,56,57,46,44,58,59,33,63,39,40,41,43,61,60,62,42,47] : List Nat) = [97,98,99,100,101,102,103,104,105,106,107,108,109,110,111,112,113,114,115,116,117,118,119,120,121,122] ++ [48,49,50,51,52,53,54,55,56,57,46,44,58,59,33,63,39,40,41,43,61,60,62,42,47] from rfl]
  exact List.mem_append_left _ h1
theorem cW_B {c : Nat} (h : cW c = true) : cB c = false := by
  refine decide_eq_false fun h2 => ?_
  rw [sB_list] at h2
  have h1 := of_decide_eq_true h
  rw [sW_list] at h1
  simp only [List.mem_cons, List.not_mem_nil, or_false] at h2
  rcases h2 with rfl | rfl
  · exact absurd h1 (by decide)
  · exact absurd h1 (by decide)
theorem cW_at : cW 64 = false := by
  unfold cW
  rw [sW_list]
  decide
theorem cB_at : cB 64 = false := by
  unfold cB
  rw [sB_list]
  decide
theorem cW_ne {c : Nat} (h : cW c = true) : c ≠ 64 := fun e => by
  rw [e, cW_at] at h
  cases h
theorem drop_le {α : Type} (p : α → Bool) : ∀ l : List α, (l.dropWhile p).length ≤ l.length
  | [] => Nat.le_refl _
  | c :: r => by
    rw [List.dropWhile_cons]
    split
    · exact Nat.le_trans (drop_le p r) (Nat.le_succ _)
    · exact Nat.le_refl _
/-- the tokens of a text -/
def tokF : Nat → List Nat → List (List Nat)
  | 0, _ => []
  | _ + 1, [] => []
  | n + 1, c :: r =>
    if cB c then tokF n r else if c = 64 then (c :: r.takeWhile cL) :: tokF n (r.dropWhile cL)
    else if cW c then (c :: r.takeWhile cW) :: tokF n (r.dropWhile cW) else [c] :: tokF n r
theorem tokF_more : ∀ (n m : Nat) (zs : List Nat), zs.length ≤ n → zs.length ≤ m → tokF n zs = tokF m zs
  | 0, 0, _, _, _ => rfl
  | 0, m + 1, zs, h, _ => by
    have e : zs = [] := List.length_eq_zero_iff.mp (Nat.le_zero.mp h)
    subst e
    rfl
  | n + 1, 0, zs, _, h => by
    have e : zs = [] := List.length_eq_zero_iff.mp (Nat.le_zero.mp h)
    subst e
    rfl
  | n + 1, m + 1, [], _, _ => rfl
  | n + 1, m + 1, c :: r, h1, h2 => by
    have a1 : r.length ≤ n := Nat.le_of_succ_le_succ h1
    have a2 : r.length ≤ m := Nat.le_of_succ_le_succ h2
    have d1 := drop_le cL r
    have d2 := drop_le cW r
    show (if cB c then tokF n r else if c = 64 then (c :: r.takeWhile cL) :: tokF n (r.dropWhile cL) else if cW c then (c :: r.takeWhile cW) :: tokF n (r.dropWhile cW) else [c] :: tokF n r) =
      (if cB c then tokF m r else if c = 64 then (c :: r.takeWhile cL) :: tokF m (r.dropWhile cL) else if cW c then (c :: r.takeWhile cW) :: tokF m (r.dropWhile cW) else [c] :: tokF m r)
    rw [tokF_more n m r a1 a2, tokF_more n m _ (Nat.le_trans d1 a1) (Nat.le_trans d1 a2), tokF_more n m _ (Nat.le_trans d2 a1) (Nat.le_trans d2 a2)]
def tok (zs : List Nat) : List (List Nat) := tokF zs.length zs
theorem tok_nil : tok [] = [] := rfl
theorem tok_cons (c : Nat) (r : List Nat) : tok (c :: r) = if cB c then tok r else if c = 64 then (c :: r.takeWhile cL) :: tok (r.dropWhile cL)
    else if cW c then (c :: r.takeWhile cW) :: tok (r.dropWhile cW) else [c] :: tok r := by
  show (if cB c then tokF r.length r else if c = 64 then (c :: r.takeWhile cL) :: tokF r.length (r.dropWhile cL) else if cW c then (c :: r.takeWhile cW) :: tokF r.length (r.dropWhile cW) else [c] :: tokF r.length r) = _
  rw [tokF_more r.length (r.dropWhile cL).length (r.dropWhile cL) (drop_le _ _) (Nat.le_refl _), tokF_more r.length (r.dropWhile cW).length (r.dropWhile cW) (drop_le _ _) (Nat.le_refl _)]
  rfl
/-! #### what the law's own walk has found, and how it goes on -/
def cont : Nat → List (List Nat) → List Nat → List (List Nat)
  | 1, f, r => f.dropLast ++ ((f.getLast?.getD []) ++ r.takeWhile cW) :: tok (r.dropWhile cW)
  | 2, f, r => f.dropLast ++ ((f.getLast?.getD []) ++ r.takeWhile cL) :: tok (r.dropWhile cL)
  | _, f, r => f ++ tok r
theorem cont0 (f : List (List Nat)) (r : List Nat) : cont 0 f r = f ++ tok r := rfl
theorem cont1 (g : List (List Nat)) (t r : List Nat) : cont 1 (g ++ [t]) r = g ++ (t ++ r.takeWhile cW) :: tok (r.dropWhile cW) := by
  show (g ++ [t]).dropLast ++ (((g ++ [t]).getLast?.getD []) ++ r.takeWhile cW) :: tok (r.dropWhile cW) = _
  rw [List.dropLast_concat, List.getLast?_concat]; rfl
theorem cont2 (g : List (List Nat)) (t r : List Nat) : cont 2 (g ++ [t]) r = g ++ (t ++ r.takeWhile cL) :: tok (r.dropWhile cL) := by
  show (g ++ [t]).dropLast ++ (((g ++ [t]).getLast?.getD []) ++ r.takeWhile cL) :: tok (r.dropWhile cL) = _
  rw [List.dropLast_concat, List.getLast?_concat]; rfl
/-- a sign that goes on -/
theorem cont1_on {c : Nat} (h : cW c = true) (g : List (List Nat)) (t r : List Nat) : cont 1 (g ++ [t]) (c :: r) = cont 1 (g ++ [t ++ [c]]) r := by
  rw [cont1, cont1, List.takeWhile_cons_of_pos h, List.dropWhile_cons_of_pos h, List.append_assoc]; rfl
theorem cont2_on {c : Nat} (h : cL c = true) (g : List (List Nat)) (t r : List Nat) : cont 2 (g ++ [t]) (c :: r) = cont 2 (g ++ [t ++ [c]]) r := by
  rw [cont2, cont2, List.takeWhile_cons_of_pos h, List.dropWhile_cons_of_pos h, List.append_assoc]; rfl
/-- a sign that doesn't -/
theorem cont1_off {c : Nat} (h : cW c = false) (g : List (List Nat)) (t r : List Nat) : cont 1 (g ++ [t]) (c :: r) = cont 0 (g ++ [t]) (c :: r) := by
  rw [cont1, cont0, List.takeWhile_cons_of_neg (by rw [h]; decide), List.dropWhile_cons_of_neg (by rw [h]; decide), List.append_nil, List.append_assoc]; rfl
theorem cont2_off {c : Nat} (h : cL c = false) (g : List (List Nat)) (t r : List Nat) : cont 2 (g ++ [t]) (c :: r) = cont 0 (g ++ [t]) (c :: r) := by
  rw [cont2, cont0, List.takeWhile_cons_of_neg (by rw [h]; decide), List.dropWhile_cons_of_neg (by rw [h]; decide), List.append_nil, List.append_assoc]; rfl
theorem cont_blank {c : Nat} (h : cB c = true) (f : List (List Nat)) (r : List Nat) : cont 0 f (c :: r) = cont 0 f r := by
  rw [cont0, cont0, tok_cons, if_pos h]
theorem cont_at (f : List (List Nat)) (r : List Nat) : cont 0 f (64 :: r) = cont 2 (f ++ [[64]]) r := by
  rw [cont0, cont2, tok_cons, if_neg (by rw [cB_at]; decide), if_pos rfl]; rfl
theorem cont_word {c : Nat} (h : cW c = true) (f : List (List Nat)) (r : List Nat) : cont 0 f (c :: r) = cont 1 (f ++ [[c]]) r := by
  rw [cont0, cont1, tok_cons, if_neg (by rw [cW_B h]; decide), if_neg (cW_ne h), if_pos h]; rfl
theorem cont_odd {c : Nat} (hb : cB c = false) (h : cW c = false) (ha : c ≠ 64) (f : List (List Nat)) (r : List Nat) : cont 0 f (c :: r) = cont 0 (f ++ [[c]]) r := by
  rw [cont0, cont0, tok_cons, if_neg (by rw [hb]; decide), if_neg ha, if_neg (by rw [h]; decide), List.append_assoc]; rfl
theorem cont_end1 (g : List (List Nat)) (t : List Nat) : cont 1 (g ++ [t]) [] = g ++ [t] := by
  rw [cont1]; show g ++ [t ++ []] = _; rw [List.append_nil]
theorem cont_end2 (g : List (List Nat)) (t : List Nat) : cont 2 (g ++ [t]) [] = g ++ [t] := by
  rw [cont2]; show g ++ [t ++ []] = _; rw [List.append_nil]
theorem cont_end0 (f : List (List Nat)) : cont 0 f [] = f := by
  rw [cont0, tok_nil, List.append_nil]
/-! #### tokens put together -/
/-- blanks and line feeds alone -/
def Bl (g : List Nat) : Prop := ∀ c ∈ g, cB c = true
/-- a token -/
def Tk (t : List Nat) : Prop := (∃ c, t = [c] ∧ cB c = false ∧ cW c = false ∧ c ≠ 64) ∨ (∃ r, t = 64 :: r ∧ ∀ c ∈ r, cL c = true) ∨ (t ≠ [] ∧ ∀ c ∈ t, cW c = true)
/-- the one runs on into the other -/
def runs (t u : List Nat) : Bool := if t.headD 0 = 64 then cL (u.headD 0) else cW (t.headD 0) && cW (u.headD 0)
theorem tok_gap : ∀ (g r : List Nat), Bl g → tok (g ++ r) = tok r
  | [], _, _ => rfl
  | c :: g, r, h => by
    rw [List.cons_append, tok_cons, if_pos (h c List.mem_cons_self)]
    exact tok_gap g r fun z hz => h z (List.mem_cons_of_mem _ hz)
theorem take_all {p : Nat → Bool} : ∀ (t r : List Nat), (∀ c ∈ t, p c = true) → (∀ c r', r = c :: r' → p c = false) → (t ++ r).takeWhile p = t ∧ (t ++ r).dropWhile p = r
  | [], [], _, _ => ⟨rfl, rfl⟩
  | [], c :: r, _, h => by
    have e := h c r rfl
    rw [List.nil_append, List.takeWhile_cons_of_neg (by rw [e]; decide), List.dropWhile_cons_of_neg (by rw [e]; decide)]
    exact ⟨rfl, rfl⟩
  | c :: t, r, ht, h => by
    have ⟨a, b⟩ := take_all t r (fun z hz => ht z (List.mem_cons_of_mem _ hz)) h
    rw [List.cons_append, List.takeWhile_cons_of_pos (ht c List.mem_cons_self), List.dropWhile_cons_of_pos (ht c List.mem_cons_self), a, b]
    exact ⟨rfl, rfl⟩
theorem tok_tok {t r : List Nat} (h : Tk t) (hr : r = [] ∨ runs t r = false) : tok (t ++ r) = t :: tok r := by
  rcases h with ⟨c, rfl, hb, hw, ha⟩ | ⟨u, rfl, hu⟩ | ⟨hn, hw⟩
  · show tok (c :: r) = _
    rw [tok_cons, if_neg (by rw [hb]; decide), if_neg ha, if_neg (by rw [hw]; decide)]
  · have hs : ∀ c r', r = c :: r' → cL c = false := by
      intro c r' e
      rcases hr with z | z
      · rw [z] at e; cases e
      · subst e; exact z
    have ⟨a, b⟩ := take_all u r hu hs
    rw [List.cons_append, tok_cons, if_neg (by rw [cB_at]; decide), if_pos rfl, a, b]
  · cases t with
    | nil => exact absurd rfl hn
    | cons c u =>
      have hc := hw c List.mem_cons_self
      have hs : ∀ x r', r = x :: r' → cW x = false := by
        intro x r' e
        rcases hr with z | z
        · rw [z] at e; cases e
        · subst e
          unfold runs at z
          rw [show (c :: u).headD 0 = c from rfl, if_neg (cW_ne hc), hc] at z
          exact z
      have ⟨a, b⟩ := take_all u r (fun z hz => hw z (List.mem_cons_of_mem _ hz)) hs
      rw [List.cons_append, tok_cons, if_neg (by rw [cW_B hc]; decide), if_neg (cW_ne hc), if_pos hc, a, b]
/-- tokens and the gaps behind them, put into one row -/
def mixed : List (List Nat) → List (List Nat) → List Nat
  | t :: ts, g :: gs => t ++ (g ++ mixed ts gs)
  | _, _ => []
/-- what is asked of a gap behind token k -/
def need (ts : List (List Nat)) (k : Nat) : Bool := match ts[k]?, ts[k + 1]? with
  | some t, some u => runs t u
  | _, _ => false
theorem runs_bl {t g r : List Nat} (hn : g ≠ []) (hg : Bl g) : runs t (g ++ r) = false := by
  cases g with
  | nil => exact absurd rfl hn
  | cons c g =>
    have hb := hg c List.mem_cons_self
    have hw : cW c = false := by
      cases e : cW c with
      | false => rfl
      | true => rw [cW_B e] at hb; cases hb
    have hl : cL c = false := by
      cases e : cL c with
      | false => rfl
      | true => rw [cL_W e] at hw; cases hw
    unfold runs
    rw [List.cons_append]
    show (if t.headD 0 = 64 then cL c else cW (t.headD 0) && cW c) = false
    rw [hl, hw, Bool.and_false]
    split <;> rfl
theorem runs_head {t u r : List Nat} (hu : u ≠ []) : runs t (u ++ r) = runs t u := by
  cases u with
  | nil => exact absurd rfl hu
  | cons c u => rfl
theorem Tk.ne {t : List Nat} (h : Tk t) : t ≠ [] := by
  rcases h with ⟨c, rfl, _⟩ | ⟨r, rfl, _⟩ | ⟨h, _⟩
  · exact fun e => by cases e
  · exact fun e => by cases e
  · exact h
theorem tok_mixed : ∀ (ts gs : List (List Nat)), (∀ t ∈ ts, Tk t) → gs.length = ts.length → (∀ k g, gs[k]? = some g → Bl g ∧ (need ts k = true → g ≠ [])) → tok (mixed ts gs) = ts
  | [], [], _, _, _ => rfl
  | [], _ :: _, _, h, _ => by cases h
  | _ :: _, [], _, h, _ => by cases h
  | t :: ts, g :: gs, ht, hl, hg => by
    have ih := tok_mixed ts gs (fun u hu => ht u (List.mem_cons_of_mem _ hu)) (Nat.succ.inj hl) (fun k g' e => by
      have := hg (k + 1) g' e
      exact this)
    obtain ⟨hb, hne⟩ := hg 0 g rfl
    show tok (t ++ (g ++ mixed ts gs)) = t :: ts
    rw [tok_tok (ht t List.mem_cons_self), tok_gap g _ hb, ih]
    by_cases e : g = []
    · subst e
      rw [List.nil_append]
      cases ts with
      | nil => exact .inl (by cases gs <;> rfl)
      | cons u us =>
        cases gs with
        | nil => cases hl
        | cons g2 gs2 =>
          refine .inr ?_
          show runs t (u ++ (g2 ++ mixed us gs2)) = false
          rw [runs_head (ht u (List.mem_cons_of_mem _ List.mem_cons_self)).ne]
          cases q : runs t u with
          | false => rfl
          | true => exact absurd rfl (hne q)
    · exact .inr (runs_bl e hb)
/-! #### small things -/
theorem take_succ' {α : Type} {l : List α} {i : Nat} {x : α} (h : l[i]? = some x) : l.take (i + 1) = l.take i ++ [x] := by
  rw [List.take_add_one, h]; rfl
theorem big_ok {n : Nat} (h : n ≤ 100000) : n ≤ sizeLine := Nat.le_trans h (by decide)
theorem get_sV {ts : List (List Nat)} {i : Nat} {t : List Nat} (h : ts[i]? = some t) : (ts.map sV)[i]? = some (sV t) := by
  rw [List.getElem?_map, h]; rfl
theorem drop_at {zs : List Nat} {i c : Nat} (h : zs[i]? = some c) : zs.drop i = c :: zs.drop (i + 1) := by
  have ⟨h1, h2⟩ := List.getElem?_eq_some_iff.mp h
  rw [List.drop_eq_getElem_cons h1, h2]
theorem same_mut {H H' : Hp} {p : Addr} {o : HO} (a : Same H H') (hp : H p = none) : Same H (upd H' p o) := fun x u h => by
  rw [upd_ne (ne_of_none h hp)]; exact a x u h
theorem same_upd {H H' : Hp} {p : Addr} {o : HO} (a : Same H H') (hp : H' p = none) : Same H (upd H' p o) := fun x u h => by
  have h2 := a x u h
  rw [upd_ne (ne_of_none h2 hp)]; exact h2
theorem dec_sign (c : Nat) (z : Str) (e : Nat) (hz : z = mkS [e]) : decide (V.str ⟨#[c]⟩ = V.str z) = decide (c = e) := by
  rw [hz]
  by_cases h : c = e
  · subst h; rw [decide_eq_true rfl]; exact decide_eq_true rfl
  · rw [decide_eq_false h]
    refine decide_eq_false fun q => h ?_
    have e2 : mkS [c] = mkS [e] := V.str.inj q
    have e3 := mkS_inj e2
    injection e3
theorem tf (b : Bool) : b = true ∨ b = false := by cases b <;> simp
theorem bl_of {p : Prop} [Decidable p] {b : Bool} (h : decide p = b) : V.bl (decide p) = V.bl b := congrArg V.bl h
theorem at_mk : (("@" : Str)) = mkS [64] := by decide +kernel
/-! ### texts put together -/
theorem empty_mk : (("" : Str)) = mkS [] := by decide +kernel
theorem map_sV (zss : List (List Nat)) : zss.map sV = (zss.map mkS).map V.str := by
  rw [List.map_map]; rfl
theorem sum_len : ∀ zss : List (List Nat), ((zss.map mkS).map (·.length)).sum = zss.flatten.length
  | [] => rfl
  | z :: r => by
    rw [List.map_cons, List.map_cons, List.sum_cons, sum_len r, List.flatten_cons, List.length_append, mkS_len]
theorem joinL_nil : ∀ zss : List (List Nat), joinL [] zss = zss.flatten
  | [] => rfl
  | [z] => by show z = z ++ []; rw [List.append_nil]
  | z :: y :: r => by
    show z ++ ([] ++ joinL [] (y :: r)) = z ++ (y :: r).flatten
    rw [List.nil_append, joinL_nil (y :: r)]
theorem join_mk (zss : List (List Nat)) : Txt.join ("" : Str) (zss.map mkS) = mkS zss.flatten := by
  have h : tl (Txt.join ("" : Str) (zss.map mkS)) = zss.flatten := by
    rw [join_eq, tl_join, show (zss.map mkS).map tl = zss from (by rw [List.map_map]; exact List.map_id'' (fun _ => rfl) zss), empty_mk]
    exact joinL_nil zss
  rw [← h]; rfl
theorem flat_len {B : Nat} : ∀ {zss : List (List Nat)}, (∀ z ∈ zss, z.length ≤ B) → zss.flatten.length ≤ zss.length * B
  | [], _ => Nat.zero_le _
  | z :: r, h => by
    have ih := flat_len (zss := r) fun y hy => h y (List.mem_cons_of_mem _ hy)
    have hz := h z List.mem_cons_self
    rw [List.flatten_cons, List.length_append, List.length_cons, Nat.succ_mul]
    omega
theorem flat_one : ∀ {zss : List (List Nat)}, (∀ z ∈ zss, z.length = 1) → zss.flatten.length = zss.length
  | [], _ => rfl
  | z :: r, h => by
    rw [List.flatten_cons, List.length_append, List.length_cons, flat_one fun y hy => h y (List.mem_cons_of_mem _ hy), h z List.mem_cons_self]
    omega
theorem blank_mk : ((" " : Str)) = mkS [32] := by decide +kernel
theorem feed_mk : (("\n" : Str)) = mkS [10] := by decide +kernel
end Vf

set_option Elab.async false
set_option linter.all false
set_option maxRecDepth 100000
set_option maxHeartbeats 4000000
namespace Vf
open PySem PySem.Spec PyProof.Rows L2
/-! ### tuples of signs, sorted -/
inductive SgsAre : List Value → List Nat → Prop
  | nil : SgsAre [] []
  | cons (c : Nat) (t : Tok) {vs : List Value} {cs : List Nat} : SgsAre vs cs → SgsAre (.str ⟨#[c]⟩ t :: vs) (c :: cs)
theorem SgsAre.length {vs : List Value} {cs : List Nat} (h : SgsAre vs cs) : vs.length = cs.length := by
  induction h with
  | nil => rfl
  | cons c t _ ih => rw [List.length_cons, List.length_cons, ih]
theorem sgs_of : ∀ {cs : List Nat} {us : List Value}, Vals (cs.map fun c => V.str ⟨#[c]⟩) us → SgsAre us cs
  | [], _, .nil => .nil
  | c :: cs, _, .cons r t => by
    obtain ⟨k, rfl⟩ := r
    exact .cons c k (sgs_of t)
theorem sgs_uniq {vs : List Value} {cs ds : List Nat} (h : SgsAre vs cs) (h2 : SgsAre vs ds) : cs = ds := by
  induction h generalizing ds with
  | nil => cases h2; rfl
  | cons c t _ ih =>
    cases h2 with
    | cons d t2 h2 => rw [ih h2]
def TupSg (h : Heap) (v : Value) (cs : List Nat) : Prop := ∃ a xs, v = .ref a ∧ IsTup h a xs ∧ SgsAre xs.toList cs
theorem TupSg.keeps {h h' : Heap} {v : Value} {cs : List Nat} (x : TupSg h v cs) (k : ∀ b o, h.get? b = some o → o.cls = .type "tuple" → h'.get? b = some o) : TupSg h' v cs := by
  obtain ⟨a, xs, e, ⟨o, ho, hc, hd⟩, i⟩ := x
  exact ⟨a, xs, e, ⟨o, k _ _ ho hc, hc, hd⟩, i⟩
theorem TupSg.uniq {h : Heap} {v : Value} {cs ds : List Nat} (x : TupSg h v cs) (y : TupSg h v ds) : cs = ds := by
  obtain ⟨a, xs, e, ⟨o, ho, hc, n, hd⟩, i⟩ := x
  obtain ⟨a2, ys, e2, ⟨o2, ho2, hc2, n2, hd2⟩, i2⟩ := y
  rw [e] at e2
  cases e2
  rw [ho] at ho2
  cases ho2
  rw [hd] at hd2
  injection hd2 with h1 h2
  subst h1
  exact sgs_uniq i i2
def nats (cs : List Nat) : List Int := cs.map fun c : Nat => (c : Int)
open Classical in
/-- the signs of a tuple, read off the heap -/
noncomputable def sgsOf (h : Heap) (v : Value) : List Nat := if x : ∃ cs, TupSg h v cs then x.choose else []
theorem TupSg.sgs {h : Heap} {v : Value} {cs : List Nat} (x : TupSg h v cs) : sgsOf h v = cs := by
  have y : ∃ cs, TupSg h v cs := ⟨cs, x⟩
  unfold sgsOf
  rw [dif_pos y]
  exact y.choose_spec.uniq x
section
variable {prog : Program} {w : World} {A : Around} {E : Value → Shared → Prop} {s : Shared} {Q : Bool → Shared → Prop}
theorem oneLt_sg (b : Bool) {p q : Nat} {t u : Tok} (h : Q (decide (p < q)) s) : wpAny (model prog w) A (oneLt' b (.str ⟨#[p]⟩ t) (.str ⟨#[q]⟩ u)) Q E s := by
  have e : decide ((⟨#[p]⟩ : Str).cps.toList < (⟨#[q]⟩ : Str).cps.toList) = decide (p < q) := by
    refine decide_eq_decide.mpr ?_
    show [p] < [q] ↔ p < q
    rw [List.cons_lt_cons_iff]
    constructor
    · rintro (h | ⟨_, h⟩)
      · exact h
      · exact absurd h (List.lt_irrefl _)
    · exact fun h => .inl h
  cases b with
  | true => exact oneLt_str (by rw [e]; exact h)
  | false => exact PySem.W.kat_one _ _ (PyProof.Rows.lt_str (Q := PySem.W.BoolBack Q) (by rw [e]; exact h))
theorem lex_sgs {B : Int} {b : Bool} {xs ys : List Value} {cs ds : List Nat} (i : Nat) (hx : SgsAre xs cs) (hy : SgsAre ys ds) (hl : cs.length = ds.length) (h1 : TS.Bd B (nats cs)) (h2 : TS.Bd B (nats ds))
    (h : Q (decide (TS.code B (nats cs) < TS.code B (nats ds))) s) : PySem.W.KatLex prog w A b false Q (xs.zip ys) i s := by
  induction hx generalizing ys ds i with
  | nil =>
    cases hy with
    | nil =>
      have e : decide (TS.code B (nats []) < TS.code B (nats [])) = false := decide_eq_false (Int.lt_irrefl _)
      rw [e] at h
      exact PySem.W.kat_nil h
    | cons d u hy => simp at hl
  | @cons c t xs cs hx ih =>
    cases hy with
    | nil => simp at hl
    | @cons d u ys ds hy =>
      have hl' : cs.length = ds.length := by simpa using hl
      have hl2 : (nats cs).length = (nats ds).length := by unfold nats; rw [List.length_map, List.length_map, hl']
      show PySem.W.KatLex prog w A b false Q ((Value.str ⟨#[c]⟩ t, Value.str ⟨#[d]⟩ u) :: xs.zip ys) i s
      refine PySem.W.kat_cons (wpAny_eqBool_str ?_)
      by_cases e : c = d
      · subst e
        rw [decide_eq_true rfl]
        have dd : decide (TS.code B (nats (c :: cs)) < TS.code B (nats (c :: ds))) = decide (TS.code B (nats cs) < TS.code B (nats ds)) := decide_eq_decide.mpr (TS.code_same (d := (c : Int)) hl2)
        rw [dd] at h
        exact PySem.W.kat_yes (ih (i + 1) hy hl' h1.tail h2.tail h)
      · have ne : ¬ ((⟨#[c]⟩ : Str) = ⟨#[d]⟩) := fun z => e (by injection z with z; injection z with z; injection z)
        rw [decide_eq_false ne]
        refine PySem.W.kat_no (oneLt_sg _ ?_)
        have dd : decide (TS.code B (nats (c :: cs)) < TS.code B (nats (d :: ds))) = decide (c < d) := by
          refine decide_eq_decide.mpr ⟨fun x => ?_, fun x => TS.code_lt (d := (c : Int)) (e := (d : Int)) hl2 h1.tail h2.tail (by omega)⟩
          rcases Nat.lt_trichotomy c d with y | y | y
          · exact y
          · exact absurd y e
          · have := TS.code_lt hl2.symm h2.tail h1.tail (show ((d : Nat) : Int) < (c : Int) by omega)
            have x2 : TS.code B ((c : Int) :: nats cs) < TS.code B ((d : Int) :: nats ds) := x
            omega
        rw [dd] at h
        exact h
end
def TupsSg (h : Heap) (d : Nat) (B : Int) (vs : List Value) : Prop := ∀ v, v ∈ vs → ∃ cs, TupSg h v cs ∧ cs.length = d ∧ TS.Bd B (nats cs)
theorem TupsSg.keeps {h h' : Heap} {d : Nat} {B : Int} {vs : List Value} (x : TupsSg h d B vs) (k : ∀ b o, h.get? b = some o → o.cls = .type "tuple" → h'.get? b = some o) : TupsSg h' d B vs := fun v hv =>
  let ⟨ns, t, r⟩ := x v hv; ⟨ns, t.keeps k, r⟩
theorem firsts_sg {h : Heap} {d : Nat} {B : Int} (hd : 1 ≤ d) : ∀ vs : List Value, TupsSg h d B vs → ∃ fs, PySem.W.KatTups h vs fs ∧ fs.length = vs.length ∧ ∀ f, f ∈ fs → ∃ z t, f = Value.str z t
  | [], _ => ⟨[], PySem.W.KatTups.nil, rfl, fun f hf => by simp at hf⟩
  | v :: vs, x => by
    obtain ⟨fs, k, hl, hi⟩ := firsts_sg hd vs fun u hu => x u (List.mem_cons_of_mem _ hu)
    obtain ⟨cs, ⟨a, xs, rfl, ⟨o, ho, hc, n, hdt⟩, i⟩, hn, _⟩ := x v (List.mem_cons_self ..)
    cases q : xs.toList with
    | nil =>
      rw [q] at i
      have l := i.length
      rw [List.length_nil, hn] at l
      omega
    | cons y ys =>
      rw [q] at i
      cases i with
      | cons c t i2 =>
        refine ⟨.str ⟨#[c]⟩ t :: fs, PySem.W.KatTups.cons ho hc hdt ?_ k, by simp [hl], ?_⟩
        · have z := congrArg (fun l : List Value => l[0]?) q
          simpa using z
        · intro f hf
          rcases List.mem_cons.mp hf with rfl | hf
          · exact ⟨_, t, rfl⟩
          · exact hi f hf
section
variable {prog : Program} {w : World} {A : Around} {E : Value → Shared → Prop} {s : Shared}
theorem kind_sg {d : Nat} {B : Int} {vs : List Value} (hd : 1 ≤ d) (h2 : 2 ≤ vs.length) (x : TupsSg s.heap d B vs) (r : Value → Int) (hr : ∀ v, v ∈ vs → ∀ cs, TupSg s.heap v cs → r v = TS.code B (nats cs)) (Q : SortKind → Shared → Prop)
    (h : ∀ κ, TS.Cmp prog w A s κ (pairsOf vs) r → Q κ s) : wpAny (model prog w) A (keyKind' vs.toArray) Q E s := by
  obtain ⟨fs, k, hl, hi⟩ := firsts_sg hd vs x
  refine PySem.W.kat_kind (T := Value.type "str") k (by omega) (fun f hf => ?_) rfl (h _ ?_)
  · obtain ⟨n, t, rfl⟩ := hi f hf
    exact PySem.W.Looks.of_pure rfl
  · intro p q hp hq Q' E' hQ
    rw [pairsOf_toList] at hp hq
    obtain ⟨ns, tp, lp, bp⟩ := x _ (mem_zip_self hp).2
    obtain ⟨ms, tq, lq, bq⟩ := x _ (mem_zip_self hq).2
    have ep := hr _ (mem_zip_self hp).2 _ tp
    have eq2 := hr _ (mem_zip_self hq).2 _ tq
    have hQ' : Q' (decide (TS.code B (nats ns) < TS.code B (nats ms))) s := by
      have z : decide (r p.1 < r q.1) = decide (TS.code B (nats ns) < TS.code B (nats ms)) := by rw [ep, eq2]
      rw [← z]; exact hQ
    obtain ⟨a, xs, e1, ⟨o, ho, hc, n, hdt⟩, i⟩ := tp
    obtain ⟨a', ys, e2, ⟨o', ho', hc', n', hdt'⟩, i'⟩ := tq
    rw [e1, e2]
    refine PySem.W.kat_lt ho hdt ho' hdt' ?_
    have sz : decide (xs.size < ys.size) = false := by
      have l1 := i.length
      have l2 := i'.length
      rw [Array.length_toList] at l1 l2
      exact decide_eq_false (by omega)
    rw [sz]
    exact lex_sgs 0 i i' (by omega) bp bq hQ'
/-- list.sort of a list of tuples of signs -/
theorem sort_sgs {a : Addr} {vs : List Value} {n d : Nat} {B : Int} {P : PySem.Fin → Shared → Prop} (ho : s.heap.get? a = some (seqObj "list" vs.toArray n)) (h64 : vs.length < 64) (hd : 1 ≤ d) (x : TupsSg s.heap d B vs)
    (r : Value → Int) (hr : ∀ v, v ∈ vs → ∀ cs, TupSg s.heap v cs → r v = TS.code B (nats cs))
    (h : ∀ out : Array Value, out.toList.Perm vs → out.toList.Pairwise (fun u v => r u ≤ r v) → P (.done (.ret .none)) { s with heap := sortedHeap s.heap a vs out }) :
    wpAny (model prog w) A (Builtin.«list.sort» ⟨[.ref a], []⟩) P E s := by
  have keep : ∀ b o, s.heap.get? b = some o → o.cls = .type "tuple" → (TS.midHeap s.heap a vs).get? b = some o := fun b o e hc => by
    refine TS.midHeap_old ?_ e
    rintro rfl
    rw [ho] at e
    have e' : seqObj "list" vs.toArray n = o := Option.some.inj e
    rw [← e'] at hc
    have c' : Value.type "list" = Value.type "tuple" := hc
    injection c' with c''
    exact absurd c'' (by decide)
  refine SK.plain_sort (r := r) ho h64 (fun h2 Q hQ => ?_) fun ps out h1 h2 h3 => ?_
  · refine kind_sg (s := { s with heap := TS.midHeap s.heap a vs }) hd h2 (x.keeps keep) r (fun v hv cs t => ?_) Q hQ
    obtain ⟨cs0, t0, _⟩ := x v hv
    have e : cs = cs0 := t.uniq (t0.keeps keep)
    rw [e]
    exact hr v hv cs0 t0
  · obtain ⟨p, o⟩ := TS.out_rank h1 h2 h3
    exact h out p o
end
section
variable {X : Cx}
/-- sorted(d) of a dict with fewer than 64 keys, all tuples of two signs -/
def rSortedDS : List V → Hp → VK → Prop := fun xs H Q => ∃ (a : Addr) (kvs : List (List Key × V)) (ks : List (Nat × Nat)), xs = [.ref a] ∧ Rd H a (.dT kvs) ∧ kvs.map (·.1) = ks.map (fun k => [Sum.inr ⟨#[k.1]⟩, Sum.inr ⟨#[k.2]⟩]) ∧ ks.length < 64 ∧ (∀ k ∈ ks, k.1 < 2000000 ∧ k.2 < 2000000) ∧
    ∀ (ys : List (Addr × Nat × Nat)) (p : Addr), (ys.map (·.2)).Perm ks → (ys.map (·.2)).Pairwise (fun a b => a.1 < b.1 ∨ (a.1 = b.1 ∧ a.2 ≤ b.2)) → (∀ y ∈ ys, H y.1 = some (.tup [.str ⟨#[y.2.1]⟩, .str ⟨#[y.2.2]⟩])) → H p = none → Q (.ref p) (upd H p (.lst (ys.map fun y => V.ref y.1)))
theorem perm_lift {α β : Type} {f : α → β} : ∀ {l : List α} {m : List β}, m.Perm (l.map f) → ∃ l' : List α, l'.Perm l ∧ l'.map f = m := by
  intro l m h
  generalize e : l.map f = n at h
  induction h generalizing l with
  | nil =>
    cases l with
    | nil => exact ⟨[], .nil, rfl⟩
    | cons _ _ => cases e
  | @cons x l1 l2 h ih =>
    cases l with
    | nil => cases e
    | cons y r =>
      injection e with e1 e2
      obtain ⟨l', p, q⟩ := ih e2
      exact ⟨y :: l', p.cons y, by rw [List.map_cons, q, e1]⟩
  | swap x y r =>
    match l, e with
    | a :: b :: l, e =>
      injection e with e1 e2
      injection e2 with e2 e3
      exact ⟨b :: a :: l, .swap a b l, by rw [List.map_cons, List.map_cons, e1, e2, e3]⟩
  | trans h1 h2 ih1 ih2 =>
    obtain ⟨l', p, q⟩ := ih2 e
    obtain ⟨l'', p2, q2⟩ := ih1 q
    exact ⟨l'', p2.trans p, q2⟩
theorem call_sortedDS (hcalm : X.calm = true) : CallR X (.builtin "sorted") rSortedDS := by
  intro pins s σ H xs us Q I r q
  obtain ⟨d, kvs, ks0, ex, hd, hks, h64, hbd, q⟩ := q
  subst ex
  obtain ⟨u, rfl, rx⟩ := r.one
  cases rx
  obtain ⟨z, hs, ks, pr, o, es, ep, ho, hx, hdt, he, hn⟩ := (show ObjOk X.prog X.w H s.heap d (.dT kvs) from hd.ok I.hok)
  have l1 : es.size = ks.length := size_of_entries he
  have l2 : kvs.length = ks.length := Paired.length pr
  have l3 : kvs.length = ks0.length := by
    have e := congrArg List.length hks
    rw [List.length_map, List.length_map] at e
    exact e
  have hK : IsKeys H kvs (ks.map fun x => x.2.1) := isKeys_of pr
  generalize hbs : (ks.map fun x => x.2.1) = bs at hK
  have lb : bs.length = ks0.length := by rw [← hbs, List.length_map, ← l2, l3]
  have hb : ∀ (j : Nat) (b : Addr), bs[j]? = some b → ∃ k : Nat × Nat, ks0[j]? = some k ∧ H b = some (.tup [.str ⟨#[k.1]⟩, .str ⟨#[k.2]⟩]) := by
    intro j b hj
    obtain ⟨y, hy, hyb⟩ := L2.DX.pget hK hj
    have hj2 : j < ks0.length := by rw [← lb]; exact (List.getElem?_eq_some_iff.mp hj).1
    refine ⟨ks0[j], List.getElem?_eq_getElem hj2, ?_⟩
    have e := congrArg (fun l => l[j]?) hks
    simp only [List.getElem?_map, hy, List.getElem?_eq_getElem hj2, Option.map_some] at e
    have e2 := Option.some.inj e
    rw [hyb, e2]; rfl
  have hz : ∀ y ∈ bs.zip ks0, H y.1 = some (.tup [.str ⟨#[y.2.1]⟩, .str ⟨#[y.2.2]⟩]) := by
    intro y hy
    obtain ⟨j, hj⟩ := List.mem_iff_getElem?.mp hy
    rw [List.getElem?_zip_eq_some] at hj
    obtain ⟨k, hk, e⟩ := hb j y.1 hj.1
    rw [hj.2] at hk
    have := Option.some.inj hk
    rw [e, this]
  have hzs : (bs.zip ks0).map (·.2) = ks0 := List.map_snd_zip (by omega)
  have hzf : (bs.zip ks0).map (fun y => Value.ref y.1) = bs.map Value.ref := by
    have := congrArg (List.map Value.ref) (List.map_fst_zip (l₁ := bs) (l₂ := ks0) (by omega))
    rw [List.map_map] at this
    exact this
  refine Calls.call_function_entry PyProof.Rows.kind_sorted PyProof.Rows.plain_sorted PyProof.Rows.entry_sorted (PyProof.Rows.args_sorted1 _) ?_
  unfold Builtin.«sorted»
  refine wpAny_bind (m := checkCount "sorted" 1 1 _) (wpAny_pure ?_)
  refine wpAny_bind (PySem.W.kdu_collect (A := X.A.in1) (kdl_raw hs hx hdt) (I.ok.hd hcalm) ho (by omega) fun h' tk acc kp it => ?_)
  have ea : acc.toList = ks.map fun x => Value.ref x.2.1 := by
    have hl : acc.toList.length = ks.length := by rw [Array.length_toList, it.1]; exact l1
    apply List.ext_getElem?
    intro j
    rw [List.getElem?_map]
    cases hj : acc.toList[j]? with
    | none =>
      have h1 := List.getElem?_eq_none_iff.mp hj
      rw [List.getElem?_eq_none (by omega)]
      all_goals rfl
    | some v =>
      obtain ⟨en, hen, hv⟩ := it.2 j v (by rw [← Array.getElem?_toList]; exact hj)
      have qe := entry_at he j
      rw [hen] at qe
      cases hb : ks[j]? with
      | none =>
        rw [hb] at qe
        exact nomatch (show some en = none from qe)
      | some b =>
        rw [hb] at qe
        have e2 : en = entryOfKey (tupleKind (mixKind X.prog X.w)) b := Option.some.inj qe
        rw [hv, e2]
        all_goals rfl
  have eb : acc.toList = (bs.zip ks0).map fun y => Value.ref y.1 := by rw [ea, hzf, ← hbs, List.map_map]; all_goals rfl
  have lz : (bs.zip ks0).length = ks0.length := by rw [List.length_zip]; omega
  have I1 : Inv X pins σ H { s with heap := h', toks := tk } := I.kept kp
  have tsg : ∀ y ∈ bs.zip ks0, TupSg h' (.ref y.1) [y.2.1, y.2.2] := by
    intro y hy
    obtain ⟨its, rv, ht, _⟩ := I1.tuple (.inl (.inl (hz y hy)))
    exact ⟨y.1, its.toArray, rfl, ht, by simpa using sgs_of (cs := [y.2.1, y.2.2]) rv⟩
  have bd : ∀ y ∈ bs.zip ks0, y.2.1 < 2000000 ∧ y.2.2 < 2000000 := fun y hy => hbd y.2 (by rw [← hzs]; exact List.mem_map.mpr ⟨y, hy, rfl⟩)
  rw [eb]
  refine wpAny_bind (wpAny_newList ?_ (by rw [List.length_map, lz, sizeLine_eq]; omega))
  have hoL : (h'.push (seqObj "list" ((bs.zip ks0).map fun y => Value.ref y.1).toArray 0)).get? h'.objs.size = some (seqObj "list" ((bs.zip ks0).map fun y => Value.ref y.1).toArray 0) := Heap.get?_push_size _ rfl
  show wpAny _ _ _ _ _ { s with heap := h'.push (seqObj "list" ((bs.zip ks0).map fun y => Value.ref y.1).toArray 0), toks := tk }
  have keep : ∀ b o, h'.get? b = some o → o.cls = .type "tuple" → (h'.push (seqObj "list" ((bs.zip ks0).map fun y => Value.ref y.1).toArray 0)).get? b = some o := fun b o e _ => Heap.get?_push_of_some _ e
  have hsg : ∀ v ∈ (bs.zip ks0).map (fun y => Value.ref y.1), ∃ cs, TupSg h' v cs ∧ cs.length = 2 ∧ TS.Bd 2000000 (nats cs) := by
    intro v hv
    obtain ⟨y, hy, rfl⟩ := List.mem_map.mp hv
    refine ⟨_, tsg y hy, rfl, fun m hm => ?_⟩
    have b := bd y hy
    have hm : m ∈ [((y.2.1 : Nat) : Int), ((y.2.2 : Nat) : Int)] := hm
    simp only [List.mem_cons, List.not_mem_nil, or_false] at hm
    rcases hm with rfl | rfl <;> omega
  refine wpAny_bind (wpAny_holding (wpAny_call_entry PyProof.Rows.slot_list_sort ⟨_, hoL, rfl⟩ PyProof.Rows.entry_list_sort
    (sort_sgs (s := { s with heap := h'.push (seqObj "list" ((bs.zip ks0).map fun y => Value.ref y.1).toArray 0), toks := tk }) (d := 2) (B := 2000000) hoL (by rw [List.length_map, lz]; exact h64) (by decide)
      (fun v hv => by obtain ⟨cs, t, r⟩ := hsg v hv; exact ⟨cs, t.keeps keep, r⟩) (fun v => TS.code 2000000 (nats (sgsOf h' v))) (fun v hv cs t => by
        obtain ⟨cs0, t0, _⟩ := hsg v hv
        have e : cs = cs0 := t.uniq (t0.keeps keep)
        rw [e]
        show TS.code 2000000 (nats (sgsOf h' v)) = _
        rw [t0.sgs]) fun out g1 g2 => ⟨_, rfl, ?_⟩)
    (PyProof.Rows.args_list_sort _)))
  obtain ⟨ys, p1, p2⟩ := perm_lift g1
  have ym : ∀ y ∈ ys, y ∈ bs.zip ks0 := fun y hy => p1.mem_iff.mp hy
  obtain ⟨e', he'⟩ := PyProof.Rows.sortedHeap_at (vs := (bs.zip ks0).map fun y => Value.ref y.1) (out := out) hoL
  have hlen : (ys.map fun y => V.ref y.1).length ≤ sizeLine := by
    rw [List.length_map, p1.length_eq, lz]
    exact Nat.le_trans (Nat.le_of_lt h64) (by decide)
  have vr : ∀ l : List (Addr × Nat × Nat), Vals (l.map fun y => V.ref y.1) (l.map fun y => Value.ref y.1) := fun l => by
    induction l with
    | nil => exact .nil
    | cons y r ih => exact .cons rfl ih
  refine wpAny_pure ⟨_, rfl, .ref h'.objs.size, upd H h'.objs.size (.lst (ys.map fun y => V.ref y.1)), I1.laid (t' := tk) (fun b u e => ?_) (Nat.le_refl _)
    (show ObjOk X.prog X.w _ _ _ (.lst (ys.map fun y => V.ref y.1)) from ⟨hlen, out.toList, e', by rw [← p2]; exact vr ys, by rw [Array.toArray_toList]; exact he'⟩), rfl, q ys _ ?_ ?_ (fun y hy => hz y (ym y hy)) (I1.hok.fresh (Nat.le_refl _))⟩
  · have hb : b < h'.objs.size := Heap.lt_size e
    rw [PyProof.Rows.sortedHeap_old (Nat.ne_of_lt hb) (by rw [size_push']; exact Nat.lt_succ_of_lt hb)]
    exact Heap.get?_push_of_some _ e
  · rw [← hzs]; exact p1.map _
  · rw [← p2, List.pairwise_map] at g2
    rw [List.pairwise_map]
    refine List.Pairwise.imp_of_mem (fun {x y} hx hy h => ?_) g2
    rw [(tsg x (ym x hx)).sgs, (tsg y (ym y hy)).sgs] at h
    have b1 := bd x (ym x hx)
    have b2 := bd y (ym y hy)
    have h : ((x.2.1 : Nat) : Int) * 2000000 ^ 1 + (((x.2.2 : Nat) : Int) * 2000000 ^ 0 + 0) ≤ ((y.2.1 : Nat) : Int) * 2000000 ^ 1 + (((y.2.2 : Nat) : Int) * 2000000 ^ 0 + 0) := h
    omega
end

/-! ### t < u of tuples of texts -/
def lexS : List Str → List Str → Bool
  | [], [] => false
  | [], _ :: _ => true
  | _ :: _, [] => false
  | x :: xs, y :: ys => if x = y then lexS xs ys else decide (x.cps.toList < y.cps.toList)
section
open PySem.SeqAt
open PySem.AutoSeq1 (wpAny_loadPart')
open PySem.MeetsSeq PySem.MeetsSeq2 PySem.MeetsSeq3
theorem tuple_lt_strs (l b : Addr) (items items2 : Array Value) (n n2 : Nat) (dd dd2 : Option Addr) (sl sl2 : Array (Option Value)) (ns ms : List Str) (hi : StrsAre items.toList ns) (hj : StrsAre items2.toList ms) :
    Meets (Builtin.«tuple.__lt__» ⟨[.ref l, .ref b], []⟩)
      (fun _ R s => s.heap.get? l = some { cls := .type "tuple", dict := dd, data := .seq items n, slots := sl } ∧ s.heap.get? b = some { cls := .type "tuple", dict := dd2, data := .seq items2 n2, slots := sl2 } ∧
        R (.ok (.ret (.bool (lexS ns ms)))) s) :=
  .of_wp fun prog w A R s h => by
    obtain ⟨hp, g, d, tk, os⟩ := s; obtain ⟨hl, hb, h⟩ := h
    have f2 := AutoSeq1.sub_tuple_tuple
    have z1 : items.size = ns.length := by rw [← hi.length]; simp
    have z2 : items2.size = ms.length := by rw [← hj.length]; simp
    wp_walk using wpAny_loadPart' hl, wpAny_loadPart' hb, wpAny_forIn_list _ (fun rest b s' => b.1 = none ∧ s' = ⟨hp, g, d, tk, os⟩ ∧ ∃ (vs ws : List Value) (ns' ms' : List Str), rest = vs.zip ws ∧
      StrsAre vs ns' ∧ StrsAre ws ms' ∧ ns'.length + items2.size = ms'.length + items.size ∧ R (.ok (.ret (.bool (lexS ns' ms')))) ⟨hp, g, d, tk, os⟩) _
    case turn =>
      rintro ⟨y, x⟩ rest b s' ⟨hb', rfl, vs, ws, ns', ms', hz, hvi, hwi, hlen, hR⟩
      cases hvi with
      | nil => rw [List.zip_nil_left] at hz; cases hz
      | cons a t hvi' =>
        cases hwi with
        | nil => rw [List.zip_nil_right] at hz; cases hz
        | cons c u hwi' =>
          rw [List.zip_cons_cons] at hz
          injection hz with hyx hrest
          injection hyx with hy hx
          subst hy hx
          have e0 : ∀ p q : List Str, lexS (a :: p) (c :: q) = if a = c then lexS p q else decide (a.cps.toList < c.cps.toList) := fun _ _ => rfl
          rw [e0] at hR
          simp only [List.length_cons] at hlen
          have he := SeqAt.EqAt.str_str (A := A.in1) (s := ⟨hp, g, d, tk, os⟩) a t c u
          by_cases e : a = c
          · rw [show (a == c) = true from beq_iff_eq.mpr e] at he
            refine wpAny_bind (he prog w _ _ ?_)
            rw [if_pos e] at hR
            wp_walk
            exact ⟨rfl, rfl, _, _, _, _, hrest, hvi', hwi', by omega, hR⟩
          · rw [show (a == c) = false from beq_eq_false_iff_ne.mpr e] at he
            refine wpAny_bind (he prog w _ _ ?_)
            rw [if_neg e] at hR
            have hri := DT.rcLt_str A.in1 ⟨hp, g, d, tk, os⟩ a t c u prog w
            wp_walk using hri
            exact ⟨_, rfl, by simpa using hR⟩
    case fin =>
      rintro ⟨b1, b2⟩ s' ⟨hb', rfl, vs, ws, ns', ms', hz, hvi, hwi, hlen, hR⟩
      simp only at hb'
      subst hb'
      have hv : lexS ns' ms' = decide (items.size < items2.size) := by
        cases hvi with
        | nil =>
          cases hwi with
          | nil =>
            simp only [List.length_nil] at hlen
            exact (decide_eq_false (by omega)).symm
          | cons c u hw =>
            simp only [List.length_nil, List.length_cons] at hlen
            exact (decide_eq_true (by omega)).symm
        | cons a t hv =>
          cases hwi with
          | nil =>
            simp only [List.length_nil, List.length_cons] at hlen
            exact (decide_eq_false (by omega)).symm
          | cons c u hw =>
            rw [List.zip_cons_cons] at hz
            cases hz
      rw [hv] at hR
      wp_walk
      exact ⟨_, rfl, by simpa [Builtin.Tuple.tupleCompareSizes] using hR⟩
    case h =>
      exact ⟨rfl, rfl, items.toList, items2.toList, ns, ms, rfl, hi, hj, by omega, h⟩
end
section
variable {prog : Program} {w : World} {A : Around} {E : Value → Shared → Prop} {s : Shared}
theorem lt_tupStrs {l b : Addr} {items items2 : Array Value} {ns ms : List Str} {Q : Value → Shared → Prop} (hl : IsTup s.heap l items) (hb : IsTup s.heap b items2) (hi : StrsAre items.toList ns) (hj : StrsAre items2.toList ms)
    (hu : A.units < cLine) (h : Q (.bool (lexS ns ms)) s) : wpAny (model prog w) A (compareOp .Lt (.ref l) (.ref b)) Q E s := by
  obtain ⟨⟨cls, dd, data, sl⟩, ho, hc, n, hd⟩ := id hl
  obtain ⟨⟨cls2, dd2, data2, sl2⟩, ho2, hc2, n2, hd2⟩ := id hb
  simp only at hc hd hc2 hd2
  subst hc hd hc2 hd2
  exact richCompare_meets_room (op := .Lt) ⟨_, ho, rfl⟩ ⟨_, ho2, rfl⟩ PySem.F.slot_tuple_lt PySem.F.entry_tuple_lt (PySem.F.args_tuple_lt_2 _ _) (tuple_lt_strs l b items items2 n n2 dd dd2 sl sl2 ns ms hi hj)
    ⟨ho, ho2, show Value.bool (lexS ns ms) ≠ Value.notImplemented ∧ Q (.bool (lexS ns ms)) s from ⟨(fun x => nomatch x), h⟩⟩ hu
end
theorem strsAre_of : ∀ {ns : List Str} {us : List Value}, Vals (ns.map V.str) us → StrsAre us ns
  | [], _, .nil => .nil
  | c :: cs, _, .cons r t => by
    obtain ⟨k, rfl⟩ := r
    exact .cons c k (strsAre_of t)
def rLtS (K : PySem.W.Frag) : R2 := fun x y H Q => ∃ (a b : Addr) (ns ms : List Str), x = .ref a ∧ y = .ref b ∧ SqT K H a (ns.map V.str) ∧ SqT K H b (ms.map V.str) ∧ Q (.bl (lexS ns ms)) H
theorem op_ltS {X : Cx} (hu : X.A.units < cLine) : OpR X (compareOp .Lt) (rLtS X.K) := by
  intro pins s σ H x y v u Q I rx ry h
  obtain ⟨a, b, ns, ms, rfl, rfl, ha, hb, q⟩ := h
  cases rx
  cases ry
  obtain ⟨its, r1, p1, _⟩ := I.tuple ha
  obtain ⟨its2, r2, p2, _⟩ := I.tuple hb
  exact lt_tupStrs p1 p2 (by simpa using strsAre_of r1) (by simpa using strsAre_of r2) hu ⟨.bl (lexS ns ms), H, I, rfl, q⟩
end Vf

set_option Elab.async false
set_option linter.all false
set_option maxRecDepth 100000
set_option maxHeartbeats 4000000
namespace Vf
open PySem PySem.Spec PyProof.Rows L2 TL
/-! ### styles, pieces, shapes: the mathematics -/
theorem at_map {α β : Type} {f : α → β} {l : List α} {i : Nat} {y : β} (h : (l.map f)[i]? = some y) : ∃ x, l[i]? = some x ∧ f x = y := by
  rw [List.getElem?_map] at h
  cases e : l[i]? with
  | none => rw [e] at h; cases h
  | some x => rw [e] at h; exact ⟨x, rfl, Option.some.inj h⟩
theorem drop_y {α : Type} {l : List α} {i : Nat} {x : α} (h : l[i]? = some x) : l.drop i = x :: l.drop (i + 1) := by
  have ⟨h1, h2⟩ := List.getElem?_eq_some_iff.mp h
  rw [List.drop_eq_getElem_cons h1, h2]
theorem lt_s {n : Nat} (h : n < 100000) : n < sizeLine := Nat.lt_of_lt_of_le h (by decide)
def sg1 (c : Nat) : Str := ⟨#[c]⟩
def sgn (c : Nat) : V := sV [c]
def look {κ β : Type} [DecidableEq κ] (L : List (κ × β)) (k : κ) : Option β := (L.find? fun r => decide (r.1 = k)).map (·.2)
theorem look_nil {κ β : Type} [DecidableEq κ] (k : κ) : look ([] : List (κ × β)) k = none := rfl
theorem look_hit {κ β : Type} [DecidableEq κ] {r : κ × β} {L : List (κ × β)} : look (r :: L) r.1 = some r.2 := by
  unfold look
  rw [List.find?_cons_of_pos (by simp)]; rfl
theorem look_miss {κ β : Type} [DecidableEq κ] {r : κ × β} {L : List (κ × β)} {k : κ} (h : r.1 ≠ k) : look (r :: L) k = look L k := by
  unfold look
  rw [List.find?_cons_of_neg (by simpa using h)]
theorem look_none {κ β : Type} [DecidableEq κ] {L : List (κ × β)} {k : κ} (h : ∀ r ∈ L, r.1 ≠ k) : look L k = none := by
  induction L with
  | nil => rfl
  | cons r L ih => rw [look_miss (h r List.mem_cons_self)]; exact ih fun x hx => h x (List.mem_cons_of_mem _ hx)
theorem look_mem {κ β : Type} [DecidableEq κ] {L : List (κ × β)} {k : κ} {x : β} (h : look L k = some x) : (k, x) ∈ L := by
  induction L with
  | nil => cases h
  | cons r L ih =>
    by_cases e : r.1 = k
    · subst e
      rw [look_hit] at h
      have : r.2 = x := Option.some.inj h
      subst this
      exact List.mem_cons_self
    · rw [look_miss e] at h
      exact List.mem_cons_of_mem _ (ih h)
theorem look_map {κ κ' β β' : Type} [DecidableEq κ] [DecidableEq κ'] {f : κ → κ'} {g : β → β'} (hf : ∀ a b, f a = f b → a = b) (L : List (κ × β)) (k : κ) : look (L.map fun r => (f r.1, g r.2)) (f k) = (look L k).map g := by
  induction L with
  | nil => rfl
  | cons r L ih =>
    by_cases e : r.1 = k
    · subst e
      rw [look_hit, List.map_cons]
      exact look_hit (r := (f r.1, g r.2))
    · rw [look_miss e, List.map_cons, look_miss (r := (f r.1, g r.2)) (fun z => e (hf _ _ z)), ih]
theorem look_at {κ β : Type} [DecidableEq κ] {L : List (κ × β)} {i : Nat} {r : κ × β} (h : L[i]? = some r) (hb : ∀ (j : Nat) q, j < i → L[j]? = some q → q.1 ≠ r.1) : look L r.1 = some r.2 := by
  induction L generalizing i with
  | nil => simp at h
  | cons q L ih =>
    cases i with
    | zero =>
      have h : q = r := by simpa using h
      subst h
      exact look_hit
    | succ i =>
      rw [look_miss (hb 0 q (Nat.succ_pos _) rfl)]
      exact ih (i := i) (by simpa using h) fun j q hj hq => hb (j + 1) q (Nat.succ_lt_succ hj) (by simpa using hq)
def lexN : List Nat → List Nat → Bool
  | [], [] => false
  | [], _ :: _ => true
  | _ :: _, [] => false
  | x :: xs, y :: ys => if x = y then lexN xs ys else decide (x < y)
theorem lexN_irr : ∀ k : List Nat, lexN k k = false
  | [] => rfl
  | x :: xs => by
    show (if x = x then _ else _) = false
    rw [if_pos rfl]; exact lexN_irr xs
theorem lexN_ne {a b : List Nat} (h : lexN a b = true) : a ≠ b := fun e => by rw [e, lexN_irr] at h; cases h
theorem lexN_trans : ∀ {a b c : List Nat}, lexN a b = true → lexN b c = true → lexN a c = true
  | [], [], _, h, _ => by cases h
  | [], _ :: _, [], _, h => by cases h
  | [], _ :: _, _ :: _, _, _ => rfl
  | _ :: _, [], _, h, _ => by cases h
  | _ :: _, _ :: _, [], _, h => by cases h
  | x :: xs, y :: ys, z :: zs, h1, h2 => by
    have h1 : (if x = y then lexN xs ys else decide (x < y)) = true := h1
    have h2 : (if y = z then lexN ys zs else decide (y < z)) = true := h2
    show (if x = z then lexN xs zs else decide (x < z)) = true
    by_cases e1 : x = y
    · rw [if_pos e1] at h1
      by_cases e2 : y = z
      · rw [if_pos e2] at h2
        rw [if_pos (e1.trans e2)]; exact lexN_trans h1 h2
      · rw [if_neg e2] at h2
        rw [if_neg (fun e => e2 (e1.symm.trans e)), e1]; exact h2
    · rw [if_neg e1] at h1
      have l1 := of_decide_eq_true h1
      by_cases e2 : y = z
      · rw [if_neg (fun e => e1 (e.trans e2.symm)), ← e2]; exact h1
      · rw [if_neg e2] at h2
        have l2 := of_decide_eq_true h2
        rw [if_neg (by omega)]
        exact decide_eq_true (by omega)
theorem lexN_total : ∀ {a b : List Nat}, a ≠ b → lexN a b = true ∨ lexN b a = true
  | [], [], h => absurd rfl h
  | [], _ :: _, _ => .inl rfl
  | _ :: _, [], _ => .inr rfl
  | x :: xs, y :: ys, h => by
    show (if x = y then lexN xs ys else decide (x < y)) = true ∨ (if y = x then lexN ys xs else decide (y < x)) = true
    by_cases e : x = y
    · rw [if_pos e, if_pos e.symm]
      exact lexN_total fun z => h (by rw [e, z])
    · rw [if_neg e, if_neg (Ne.symm e)]
      rcases Nat.lt_trichotomy x y with l | l | l
      · exact .inl (decide_eq_true l)
      · exact absurd l e
      · exact .inr (decide_eq_true l)
theorem lexS_map : ∀ a b : List Nat, lexS (a.map sg1) (b.map sg1) = lexN a b
  | [], [] => rfl
  | [], _ :: _ => rfl
  | _ :: _, [] => rfl
  | x :: xs, y :: ys => by
    show (if sg1 x = sg1 y then lexS (xs.map sg1) (ys.map sg1) else decide ((sg1 x).cps.toList < (sg1 y).cps.toList)) = if x = y then lexN xs ys else decide (x < y)
    have e1 : sg1 x = sg1 y ↔ x = y := ⟨fun z => by have := congrArg (fun t : Str => t.cps.toList) z; exact (List.cons.inj this).1, fun z => by rw [z]⟩
    by_cases e : x = y
    · rw [if_pos (e1.mpr e), if_pos e, lexS_map xs ys]
    · rw [if_neg (fun z => e (e1.mp z)), if_neg e]
      refine decide_eq_decide.mpr ?_
      show [x] < [y] ↔ x < y
      rw [List.cons_lt_cons_iff]
      constructor
      · rintro (h | ⟨_, h⟩)
        · exact h
        · exact absurd h (List.lt_irrefl _)
      · exact fun h => .inl h
/-- rows by strictly ascending keys -/
def Asc {β : Type} (L : List (List Nat × β)) : Prop := L.Pairwise fun p q => lexN p.1 q.1 = true
theorem Asc.lt {β : Type} {L : List (List Nat × β)} (h : Asc L) {i j : Nat} {p q : List Nat × β} (hp : L[i]? = some p) (hq : L[j]? = some q) (hij : i < j) : lexN p.1 q.1 = true := by
  obtain ⟨p1, e1⟩ := List.getElem?_eq_some_iff.mp hp
  obtain ⟨p2, e2⟩ := List.getElem?_eq_some_iff.mp hq
  have := List.pairwise_iff_getElem.mp h i j p1 p2 hij
  rw [e1, e2] at this
  exact this
structure Sty where
  m : Int
  dp : Int
  cl : Int
  W : List (Nat × Nat)
  C : List ((Nat × Nat) × Nat)
  B : List ((Nat × Nat) × Nat)
def natV (w : Nat) : V := .int (w : Int)
def rowsW (W : List (Nat × Nat)) : List (List Nat × V) := W.map fun r => ([r.1], natV r.2)
def rows2 (C : List ((Nat × Nat) × Nat)) : List (List Nat × V) := C.map fun r => ([r.1.1, r.1.2], natV r.2)
def wOf (W : List (Nat × Nat)) (c : Nat) : Nat := (look W c).getD 1
def cutOf (C : List ((Nat × Nat) × Nat)) (a b : Nat) : Nat := (look C (a, b)).getD 0
structure StyOk (S : Sty) : Prop where
  sw : Asc (rowsW S.W)
  sc : Asc (rows2 S.C)
  sb : Asc (rows2 S.B)
  lw : S.W.length ≤ 100
  lc : S.C.length ≤ 100
  lb : S.B.length ≤ 100
  w3 : ∀ r ∈ S.W, 1 ≤ r.2 ∧ r.2 ≤ 3
  uw : ∀ r ∈ rowsW S.W, ∀ c ∈ r.1, c < 1114112
  uc : ∀ r ∈ rows2 S.C, ∀ c ∈ r.1, c < 1114112
  ub : ∀ r ∈ rows2 S.B, ∀ c ∈ r.1, c < 1114112
  cw : ∀ r ∈ S.C, r.2 < wOf S.W r.1.1
theorem look_rowsW (W : List (Nat × Nat)) (c : Nat) : look (rowsW W) [c] = (look W c).map natV :=
  look_map (f := fun c : Nat => [c]) (g := natV) (fun a b e => (List.cons.inj e).1) W c
theorem look_rows2 (C : List ((Nat × Nat) × Nat)) (a b : Nat) : look (rows2 C) [a, b] = (look C (a, b)).map natV :=
  look_map (f := fun k : Nat × Nat => [k.1, k.2]) (g := natV) (fun a b e => by
    have e1 := List.cons.inj e
    have e2 := List.cons.inj e1.2
    exact Prod.ext e1.1 e2.1) C (a, b)
theorem wOf_bd {S : Sty} (h : StyOk S) (c : Nat) : 1 ≤ wOf S.W c ∧ wOf S.W c ≤ 3 := by
  unfold wOf
  cases e : look S.W c with
  | none => exact ⟨Nat.le_refl _, by decide⟩
  | some w => exact h.w3 _ (look_mem e)
theorem cut_lt {S : Sty} (h : StyOk S) (a b : Nat) : cutOf S.C a b < wOf S.W a := by
  unfold cutOf
  cases e : look S.C (a, b) with
  | none => exact (wOf_bd h a).1
  | some w => exact h.cw _ (look_mem e)
/-- the width of the sign at k in a piece that ends ahead of j -/
def wAt (S : Sty) (zs : List Nat) (j k : Nat) : Nat := if k + 1 < j then wOf S.W (zs.getD k 0) - cutOf S.C (zs.getD k 0) (zs.getD (k + 1) 0) else wOf S.W (zs.getD k 0)
theorem wAt_bd {S : Sty} (h : StyOk S) (zs : List Nat) (j k : Nat) : 1 ≤ wAt S zs j k ∧ wAt S zs j k ≤ 3 := by
  unfold wAt
  have a := wOf_bd h (zs.getD k 0)
  have b := cut_lt h (zs.getD k 0) (zs.getD (k + 1) 0)
  by_cases c : k + 1 < j
  · rw [if_pos c]; omega
  · rw [if_neg c]; exact a
def pieceW (S : Sty) (zs : List Nat) (i j : Nat) : Nat := ((List.range' i (j - i)).map (wAt S zs j)).sum + if j < zs.length then 1 else 0
def pieceN (S : Sty) (zs : List Nat) (i j : Nat) : List Nat := (List.range' i (j - i)).flatMap (fun k => zs.getD k 0 :: List.replicate (wAt S zs j k - 1) 95) ++ if j < zs.length then [45] else []
theorem pieceN_len {S : Sty} (h : StyOk S) (zs : List Nat) (i j : Nat) : (pieceN S zs i j).length = pieceW S zs i j := by
  unfold pieceN pieceW
  rw [List.length_append]
  congr 1
  · induction (List.range' i (j - i)) with
    | nil => rfl
    | cons k r ih =>
      rw [List.flatMap_cons, List.length_append, ih, List.map_cons, List.sum_cons, List.length_cons, List.length_replicate]
      have := (wAt_bd h zs j k).1
      omega
  · by_cases c : j < zs.length
    · rw [if_pos c, if_pos c]; rfl
    · rw [if_neg c, if_neg c]; rfl
/-- what stands ahead of a place, as parts of a longer piece -/
def ahead (S : Sty) (zs : List Nat) : Nat → Int
  | 0 => 0
  | t + 1 => ahead S zs t + ((wOf S.W (zs.getD t 0) : Int) - (cutOf S.C (zs.getD t 0) (zs.getD (t + 1) 0) : Int))
theorem inner_sum {S : Sty} (h : StyOk S) (zs : List Nat) (i j : Nat) : ∀ n, i + n < j → ((((List.range' i n).map (wAt S zs j)).sum : Nat) : Int) = ahead S zs (i + n) - ahead S zs i
  | 0, _ => by rw [Nat.add_zero]; show (0 : Int) = _; omega
  | n + 1, hn => by
    have ih := inner_sum h zs i j n (by omega)
    rw [List.range'_1_concat, List.map_append, List.sum_append]
    have e : (wAt S zs j (i + n) : Int) = (wOf S.W (zs.getD (i + n) 0) : Int) - (cutOf S.C (zs.getD (i + n) 0) (zs.getD (i + n + 1) 0) : Int) := by
      unfold wAt
      rw [if_pos (by omega)]
      have := cut_lt h (zs.getD (i + n) 0) (zs.getD (i + n + 1) 0)
      omega
    have e2 : ahead S zs (i + (n + 1)) = ahead S zs (i + n) + ((wOf S.W (zs.getD (i + n) 0) : Int) - (cutOf S.C (zs.getD (i + n) 0) (zs.getD (i + n + 1) 0) : Int)) := rfl
    rw [e2, ← e]
    have e3 : (List.map (wAt S zs j) [i + n]).sum = wAt S zs j (i + n) := by simp
    rw [e3, Int.natCast_add, ih]
    omega
theorem pieceW_eq {S : Sty} (h : StyOk S) (zs : List Nat) {i j : Nat} (hij : i < j) : ((pieceW S zs i j : Nat) : Int) = ahead S zs (j - 1) - ahead S zs i + (wOf S.W (zs.getD (j - 1) 0) : Int) + (if j < zs.length then 1 else 0) := by
  unfold pieceW
  have e : j - i = (j - 1 - i) + 1 := by omega
  rw [e, List.range'_1_concat, List.map_append, List.sum_append]
  have e0 : i + (j - 1 - i) = j - 1 := by omega
  rw [e0]
  have e3 : (List.map (wAt S zs j) [j - 1]).sum = wAt S zs j (j - 1) := by simp
  have e4 : wAt S zs j (j - 1) = wOf S.W (zs.getD (j - 1) 0) := by
    unfold wAt; rw [if_neg (by omega)]
  have ih := inner_sum h zs i j (j - 1 - i) (by omega)
  rw [e0] at ih
  rw [e3, e4, Int.natCast_add, Int.natCast_add, ih]
  by_cases c : j < zs.length
  · rw [if_pos c, if_pos c]; rfl
  · rw [if_neg c, if_neg c]; rfl
/-- a piece between two partings, from both pieces beside and the whole -/
theorem pieceW_mid {S : Sty} (h : StyOk S) {zs : List Nat} {i j : Nat} (hij : i < j) (hj : j < zs.length) (hi : 0 < i) :
    ((pieceW S zs i zs.length : Nat) : Int) + ((pieceW S zs 0 j : Nat) : Int) - ((pieceW S zs 0 zs.length : Nat) : Int) = ((pieceW S zs i j : Nat) : Int) := by
  rw [pieceW_eq h zs (show i < zs.length by omega), pieceW_eq h zs (show 0 < j by omega), pieceW_eq h zs (show 0 < zs.length by omega), pieceW_eq h zs hij, if_neg (Nat.lt_irrefl _), if_pos hj]
  show _ + (_ - (0 : Int) + _ + _) - (_ - (0 : Int) + _ + _) = _
  omega
/-- the places at which a word can be parted, with their prices -/
def places (S : Sty) (zs : List Nat) : List (Nat × Nat) := (List.range' 2 (zs.length - 3)).filterMap fun k => (look S.B (zs.getD (k - 1) 0, zs.getD k 0)).map fun p => (k, p)
theorem places_bd {S : Sty} {zs : List Nat} {r : Nat × Nat} (h : r ∈ places S zs) : 2 ≤ r.1 ∧ r.1 + 1 < zs.length := by
  obtain ⟨k, hk, e⟩ := List.mem_filterMap.mp h
  rw [List.mem_range'_1] at hk
  cases el : look S.B (zs.getD (k - 1) 0, zs.getD k 0) with
  | none => rw [el] at e; cases e
  | some p =>
    rw [el] at e
    have e : (k, p) = r := Option.some.inj e
    subst e
    show 2 ≤ k ∧ k + 1 < zs.length
    omega
theorem places_asc (S : Sty) (zs : List Nat) : (places S zs).Pairwise fun p q => p.1 < q.1 := by
  unfold places
  refine List.Pairwise.filterMap _ ?_ (List.pairwise_lt_range' ..)
  intro a b hab p hp q hq
  cases ea : look S.B (zs.getD (a - 1) 0, zs.getD a 0) with
  | none => rw [ea] at hp; cases hp
  | some x =>
    cases eb : look S.B (zs.getD (b - 1) 0, zs.getD b 0) with
    | none => rw [eb] at hq; cases hq
    | some y =>
      rw [ea] at hp
      rw [eb] at hq
      have hp : (a, x) = p := Option.some.inj hp
      have hq : (b, y) = q := Option.some.inj hq
      subst hp hq
      exact hab
end Vf

set_option Elab.async false
set_option linter.all false
set_option maxRecDepth 100000
set_option maxHeartbeats 4000000
namespace Vf
open PySem PySem.Spec PyProof.Rows L2 TL
/-! ### styles as they stand; the program -/
def rowV (r : List Nat × V) : List V := r.1.map sgn ++ [r.2]
def RowsV (H : Hp) (v : V) (L : List (List Nat × V)) : Prop := ∃ (a : Addr) (vs : List V), v = .ref a ∧ H a = some (.tup vs) ∧ vs.length = L.length ∧ ∀ (i : Nat) (r : List Nat × V), L[i]? = some r → ∃ b : Addr, vs[i]? = some (.ref b) ∧ H b = some (.tup (rowV r))
def StyV (H : Hp) (v : V) (S : Sty) : Prop := ∃ (a : Addr) (wv cv bv pv : V), v = .ref a ∧ H a = some (.tup [.int S.m, .int S.dp, .int S.cl, wv, cv, bv, pv]) ∧ RowsV H wv (rowsW S.W) ∧ RowsV H cv (rows2 S.C) ∧ RowsV H bv (rows2 S.B)
theorem RowsV.mono {H H' : Hp} {v : V} {L : List (List Nat × V)} (h : RowsV H v L) (k : ∀ a xs, H a = some (.tup xs) → H' a = some (.tup xs)) : RowsV H' v L := by
  obtain ⟨a, vs, e, q, l, r⟩ := h
  exact ⟨a, vs, e, k _ _ q, l, fun i x hx => by
    obtain ⟨b, e1, q1⟩ := r i x hx
    exact ⟨b, e1, k _ _ q1⟩⟩
theorem StyV.mono {H H' : Hp} {v : V} {S : Sty} (h : StyV H v S) (k : ∀ a xs, H a = some (.tup xs) → H' a = some (.tup xs)) : StyV H' v S := by
  obtain ⟨a, wv, cv, bv, pv, e, q, h1, h2, h3⟩ := h
  exact ⟨a, wv, cv, bv, pv, e, k _ _ q, h1.mono k, h2.mono k, h3.mono k⟩
theorem same_tup {H H' : Hp} (h : Same H H') : ∀ a xs, H a = some (.tup xs) → H' a = some (.tup xs) := fun a xs e => h _ _ e
theorem DI.neT {d l a : Addr} {H : Hp} {xs : List V} (h : DI d l H) (e : H a = some (.tup xs)) : a ≠ d := by
  obtain ⟨_, _, i, b, s, c, _, h2⟩ := h
  intro z
  rw [z, h2] at e
  cases e
theorem kp_tup {d l : Addr} {H H' : Hp} (hD : DI d l H) (h : Kp d H H') : ∀ a xs, H a = some (.tup xs) → H' a = some (.tup xs) := fun a xs e => h _ _ (hD.neT e) e
theorem cut_last (l : List V) (x : V) : cutV (l ++ [x]) none (some (-1)) = l := by
  unfold cutV
  rw [HT.sIx_none]
  have e : HT.sIx (l ++ [x]).length (l ++ [x]).length (some (-1)) = l.length := by
    have e0 : ∀ n d : Nat, HT.sIx n d (some (-1)) = ((-1 : Int) + (n : Int)).toNat := fun n d => by
      unfold HT.sIx
      simp
    rw [e0, List.length_append]
    show ((-1 : Int) + ((l.length + 1 : Nat) : Int)).toNat = _
    omega
  rw [e, List.drop_zero, Nat.sub_zero, List.take_append_of_le_length (Nat.le_refl _), List.take_length]
theorem cut_part (l : List V) (x : V) : ¬ (HT.sIx (l ++ [x]).length 0 none = 0 ∧ HT.sIx (l ++ [x]).length (l ++ [x]).length (some (-1)) = (l ++ [x]).length) := by
  intro h
  have e : HT.sIx (l ++ [x]).length (l ++ [x]).length (some (-1)) = l.length := by
    have e0 : ∀ n d : Nat, HT.sIx n d (some (-1)) = ((-1 : Int) + (n : Int)).toNat := fun n d => by
      unfold HT.sIx
      simp
    rw [e0, List.length_append]
    show ((-1 : Int) + ((l.length + 1 : Nat) : Int)).toNat = _
    omega
  have h2 := h.2
  rw [e, List.length_append] at h2
  have h2 : l.length = l.length + 1 := h2
  omega
theorem sgn_str (k : List Nat) : k.map sgn = (k.map sg1).map V.str := by rw [List.map_map]; rfl
def dat (k : List Nat) : PyData := .tuple (k.map fun c => .str (sg1 c))
theorem eqvAll_key : ∀ a b : List Nat, PyData.eqvAll (a.map fun c => PyData.str (sg1 c)) (b.map fun c => .str (sg1 c)) = decide (a = b)
  | [], [] => by simp [PyData.eqvAll]
  | [], _ :: _ => by simp [PyData.eqvAll]
  | _ :: _, [] => by simp [PyData.eqvAll]
  | x :: xs, y :: ys => by
    have e1 : sg1 x = sg1 y ↔ x = y := ⟨fun z => by have := congrArg (fun t : Str => t.cps.toList) z; exact (List.cons.inj this).1, fun z => by rw [z]⟩
    simp only [List.map_cons, PyData.eqvAll, PyData.eqv]
    rw [eqvAll_key xs ys]
    by_cases e : x = y
    · subst e
      simp
    · have : (sg1 x == sg1 y) = false := beq_eq_false_iff_ne.mpr fun z => e (e1.mp z)
      rw [this]
      simp [e]
theorem eqv_key (a b : List Nat) : PyData.eqv (dat a) (dat b) = decide (a = b) := by
  show PyData.eqv (.tuple _) (.tuple _) = _
  simp only [PyData.eqv]
  exact eqvAll_key a b
theorem key_lay : ∀ {k : List Nat}, (∀ c ∈ k, c < 1114112) → PyData.canLayAll0 (k.map fun c => PyData.str (sg1 c)) = true
  | [], _ => rfl
  | c :: k, h => by
    show (PyData.strOk (sg1 c) && PyData.canLayAll0 (k.map fun c => PyData.str (sg1 c))) = true
    have e : PyData.strOk (sg1 c) = true := by
      unfold PyData.strOk sg1
      rw [List.all_toArray]
      exact List.all_eq_true.mpr fun x hx => decide_eq_true (by rw [List.mem_singleton.mp hx]; exact h c List.mem_cons_self)
    rw [e, key_lay fun z hz => h z (List.mem_cons_of_mem _ hz)]
    rfl
theorem key_depth : ∀ k : List Nat, PyData.depthAll (k.map fun c => PyData.str (sg1 c)) = 0
  | [] => rfl
  | c :: k => by
    show max 0 (PyData.depthAll (k.map fun c => PyData.str (sg1 c))) = 0
    rw [key_depth k]
    rfl
theorem shaped_key {k : List Nat} (h : ∀ c ∈ k, c < 1114112) : SeqAt.shaped (dat k) = true := by
  have h2 : PyData.depth (dat k) ≤ 64 := by
    show PyData.depthAll (k.map fun c => PyData.str (sg1 c)) + 1 ≤ 64
    rw [key_depth]
    decide
  show (PyData.canLay0 (dat k) && decide (PyData.depth (dat k) ≤ 64)) = true
  rw [Bool.and_eq_true]
  exact ⟨by unfold dat; simp only [PyData.canLay0]; exact key_lay h, decide_eq_true h2⟩
theorem dp_key {K : PySem.W.Frag} {H : Hp} {a : Addr} {k : List Nat} (e : H a = some (.tup (k.map sgn))) : Dp K H (.ref a) (dat k) := by
  refine .tup (SqT.of e) ?_
  clear e
  induction k with
  | nil => exact .nil
  | cons c r ih => exact .cons (.str (sg1 c)) ih
theorem hu0 {k : Nat} {A : Around} (r : Room k A) : A.units < cLine := by have := r.units; omega
theorem hu1 {k : Nat} {A : Around} (r : Room k A) : A.units + 1 < cLine := by have := r.units; omega
section
variable {P : Program} {w : World} {K : PySem.W.Frag} {mg : Str → Option Value} {base : Heap}
def spTold : Sp := fun vs H Q _ => ∃ (v o : V) (kb : Addr) (L : List (List Nat × V)) (key : List Nat), vs = [v, .ref kb, o] ∧ RowsV H v L ∧ Asc L ∧ L.length ≤ 1000 ∧ (∀ r ∈ L, ∀ c ∈ r.1, c < 1114112) ∧ (∀ c ∈ key, c < 1114112) ∧ H kb = some (.tup (key.map sgn)) ∧
  ∀ H', Same H H' → Q ((look L key).getD o) H'
theorem ok_told (T : Txt K mg) : FnOk P w K mg base CX0 1 T.a_told T.d_told ["rows", "key", "otherwise"] spTold := by
  refine T.D_told.F.ok sc_told (fun vs H Q E h => ?_) (fun cdv A outer s H vs Q E hr h => ?_)
  · obtain ⟨v, o, kb, L, key, rfl, _⟩ := h
    rfl
  · obtain ⟨v, o, kb, L, key, rfl, ⟨a, us, rfl, e, lu, hR⟩, hA, l1000, lk, k12, ek, q⟩ := h
    refine ⟨_, (pss_cons (ps_set (i := 3) sc_told.nd rfl (.inl rfl) pe_int)
      (pss_cons (ps_set (i := 4) sc_told.nd rfl (.inl rfl) (pe_callB call_len_seq (by rfl) T.n_len PySem.boot_len (pa_cons (pv 0) pa_nil)))
      (pss_cons (ps_while PassesOwn.never (pt_cmpR op_lt (pv 3) (pv 4) (nomark _)) (pss_cons (ps_set (i := 5) sc_told.nd rfl (.inl rfl) (pe_op op_fdivN (pe_op op_add (pv 3) (pv 4)) pe_int))
      (pss_one (ps_if (pt_cmpR (op_ltS (hu0 hr)) (pe_slice sl_tup (pe_ix ix_tup (pv 0) (pv 5) (fun _ _ => rfl)) po_none (po_some (pe_un un_neg pe_int))) (pv 1) (nomark _)) (pss_one (ps_set (i := 3) sc_told.nd rfl (.inl rfl) (pe_op op_add (pv 5) pe_int))) (pss_one (ps_set (i := 4) sc_told.nd rfl (.inl rfl) (pv 5)))))))
      (pss_cons (ps_if (PW.pt (pw_and (pt_cmpR op_lt (pv 3) (pe_callB call_len_seq (by rfl) T.n_len PySem.boot_len (pa_cons (pv 0) pa_nil)) (nomark _)) (pw_and1 (pt_cmpR (op_eqD (Room.units hr)) (pe_slice sl_tup (pe_ix ix_tup (pv 0) (pv 3) (fun _ _ => rfl)) po_none (po_some (pe_un un_neg pe_int))) (pv 1) (nomark _))))) (pss_one (ps_ret (pe_ix ix_tup (pe_ix ix_tup (pv 0) (pv 3) (fun _ _ => rfl)) (pe_un un_neg pe_int) (fun _ _ => rfl)))) pss_nil)
      (pss_one (ps_ret (pv 2))))))), ?_⟩
    refine ⟨_, rfl, a, us, rfl, .inr (SqT.of e), ?_⟩
    refine ⟨fun m σ' H' => Same H H' ∧ ∃ (lo hi : Nat) (x5 : Option V), m = hi - lo ∧ σ' = [some (.ref a), some (.ref kb), some o, some (.int (lo : Int)), some (.int (hi : Int)), x5] ∧ lo ≤ hi ∧ hi ≤ L.length ∧
      (∀ (i : Nat) r, i < lo → L[i]? = some r → lexN r.1 key = true) ∧ (∀ (i : Nat) r, hi ≤ i → L[i]? = some r → lexN r.1 key = false),
      ⟨L.length, Same.refl H, 0, L.length, none, rfl, by rw [lu]; rfl, Nat.zero_le _, Nat.le_refl _, fun i r h => absurd h (Nat.not_lt_zero _), fun i r h1 h2 => by
        have := (List.getElem?_eq_some_iff.mp h2).1
        omega⟩, fun m σ' H' hW => ?_⟩
    obtain ⟨k, lo, hi, x5, em, rfl, lh, hl, hlow, hhigh⟩ := hW
    refine ⟨_, rfl, _, rfl, _, _, rfl, rfl, _, rfl, ite2 (fun c => ?_) (fun c => ?_)⟩
    · have c := of_decide_eq_true c
      have clt : lo < hi := by omega
      have hm : (lo + hi) / 2 < L.length := by omega
      have gm : L[(lo + hi) / 2]? = some L[(lo + hi) / 2] := List.getElem?_eq_getElem hm
      obtain ⟨b, gb, eb⟩ := hR _ _ gm
      have em2 : ((lo : Int) + (hi : Int)).fdiv 2 = (((lo + hi) / 2 : Nat) : Int) := by
        rw [Int.fdiv_eq_ediv_of_nonneg _ (by decide)]
        omega
      refine ⟨fun σ'' H'' => Same H H'' ∧ ∃ (lo' hi' : Nat) (x5 : Option V), hi' - lo' < hi - lo ∧ σ'' = [some (.ref a), some (.ref kb), some o, some (.int (lo' : Int)), some (.int (hi' : Int)), x5] ∧ lo' ≤ hi' ∧ hi' ≤ L.length ∧
        (∀ (i : Nat) r, i < lo' → L[i]? = some r → lexN r.1 key = true) ∧ (∀ (i : Nat) r, hi' ≤ i → L[i]? = some r → lexN r.1 key = false), fun σ'' H'' hN => ?_, ?_⟩
      · obtain ⟨k2, lo', hi', x5', h1, h2, h3⟩ := hN
        exact ⟨hi' - lo', by omega, k2, lo', hi', x5', rfl, h2, h3⟩
      · refine ⟨_, rfl, _, rfl, _, _, rfl, rfl, _, _, rfl, rfl, ⟨by decide, by decide⟩, ?_⟩
        refine ⟨_, rfl, _, rfl, a, us, _, .ref b, rfl, rfl, SqT.of (k _ _ e), by rw [em2]; exact atI_nat gb, 1, rfl, -1, rfl, b, _, rfl, SqT.of (k _ _ eb), cut_part _ _, fun p np => ?_⟩
        have kp := same_upd (o := .tup (cutV (rowV L[(lo + hi) / 2]) none (some (-1)))) (Same.refl H') np
        refine ⟨_, rfl, p, kb, L[(lo + hi) / 2].1.map sg1, key.map sg1, rfl, rfl, SqT.of (by rw [upd_same, ← sgn_str]; exact congrArg (fun z => some (HO.tup z)) (cut_last _ _)), SqT.of (by rw [← sgn_str]; exact kp _ _ (k _ _ ek)), ?_⟩
        rw [lexS_map]
        refine ⟨_, rfl, ite2 (fun c2 => ?_) (fun c2 => ?_)⟩
        · refine ⟨_, rfl, _, _, rfl, rfl, k.trans kp, (lo + hi) / 2 + 1, hi, some (V.int (((lo : Int) + (hi : Int)).fdiv 2)), by omega, by
            show [some (V.ref a), some (V.ref kb), some o, some (V.int (((lo : Int) + (hi : Int)).fdiv 2 + 1)), some (V.int (hi : Int)), some (V.int (((lo : Int) + (hi : Int)).fdiv 2))] = _
            rw [em2]; rfl, by omega, hl, fun i r hi2 hr2 => ?_, hhigh⟩
          by_cases z : i = (lo + hi) / 2
          · rw [z, gm] at hr2
            have := Option.some.inj hr2
            rw [← this]; exact c2
          · exact lexN_trans (hA.lt hr2 gm (by omega)) c2
        · have c3 : lexN L[(lo + hi) / 2].1 key = false := by
            cases h : lexN L[(lo + hi) / 2].1 key with
            | true => exact absurd h c2
            | false => rfl
          refine ⟨_, rfl, k.trans kp, lo, (lo + hi) / 2, some (V.int (((lo : Int) + (hi : Int)).fdiv 2)), by omega, by
            show [some (V.ref a), some (V.ref kb), some o, some (V.int (lo : Int)), some (V.int (((lo : Int) + (hi : Int)).fdiv 2)), some (V.int (((lo : Int) + (hi : Int)).fdiv 2))] = _
            rw [em2], by omega, by omega, hlow, fun i r hi2 hr2 => ?_⟩
          by_cases z : i = (lo + hi) / 2
          · rw [z, gm] at hr2
            have := Option.some.inj hr2
            rw [← this]; exact c3
          · have l1 := hA.lt gm hr2 (by omega)
            cases h : lexN r.1 key with
            | true => rw [lexN_trans l1 h] at c3; cases c3
            | false => rfl
    · have ceq : lo = hi := by
        have : ¬ ((lo : Int) < (hi : Int)) := fun z => c (decide_eq_true z)
        omega
      subst ceq
      have hx : ∀ (i : Nat) r, lo < i → L[i]? = some r → r.1 ≠ key := fun i r hi2 hr2 z => by
        have h0 : lo < L.length := by have := (List.getElem?_eq_some_iff.mp hr2).1; omega
        have g0 : L[lo]? = some L[lo] := List.getElem?_eq_getElem h0
        have l1 := hA.lt g0 hr2 hi2
        have l2 := hhigh lo _ (Nat.le_refl _) g0
        rw [z, l2] at l1; cases l1
      refine ⟨_, rfl, _, rfl, a, us, rfl, .inr (SqT.of (k _ _ e)), _, _, rfl, rfl, decide (lo < L.length), ?_, ?_⟩
      · rw [lu]
        by_cases z : lo < L.length
        · rw [decide_eq_true z]; exact bl_of (decide_eq_true (show (lo : Int) < (L.length : Int) by omega))
        · rw [decide_eq_false z]; exact bl_of (decide_eq_false (show ¬ (lo : Int) < (L.length : Int) by omega))
      by_cases h0 : lo < L.length
      · rw [decide_eq_true h0]
        have g0 : L[lo]? = some L[lo] := List.getElem?_eq_getElem h0
        obtain ⟨b, gb, eb⟩ := hR _ _ g0
        refine ⟨_, rfl, _, rfl, a, us, _, .ref b, rfl, rfl, SqT.of (k _ _ e), atI_nat gb, 1, rfl, -1, rfl, b, _, rfl, SqT.of (k _ _ eb), cut_part _ _, fun p np => ?_⟩
        have kp := same_upd (o := .tup (cutV (rowV L[lo]) none (some (-1)))) (Same.refl H') np
        have ep : upd H' p (.tup (cutV (rowV L[lo]) none (some (-1)))) p = some (.tup (L[lo].1.map sgn)) := by rw [upd_same]; exact congrArg (fun z => some (HO.tup z)) (cut_last _ _)
        refine ⟨_, rfl, dat L[lo].1, dat key, dp_key ep, dp_key (kp _ _ (k _ _ ek)), shaped_key (lk _ (List.getElem_mem h0)), shaped_key k12, ?_⟩
        rw [eqv_key]
        by_cases z : L[lo].1 = key
        · refine ⟨true, by rw [decide_eq_true z], ?_⟩
          have ek2 : look L key = some L[lo].2 := by
            rw [← z]
            exact look_at g0 fun j r hj hr2 => fun y => lexN_ne (hlow j r hj hr2) (y.trans z)
          have qq := q _ (k.trans kp)
          rw [ek2] at qq
          exact ⟨_, rfl, _, rfl, a, us, _, .ref b, rfl, rfl, SqT.of (kp _ _ (k _ _ e)), atI_nat gb, 1, rfl, b, _, _, _, rfl, rfl, SqT.of (kp _ _ (k _ _ eb)), atI_last _ _, qq⟩
        · refine ⟨false, by rw [decide_eq_false z], ?_⟩
          have ek2 : look L key = none := look_none fun r hr2 => by
            obtain ⟨i, hi2⟩ := List.mem_iff_getElem?.mp hr2
            rcases Nat.lt_trichotomy i lo with y | y | y
            · exact lexN_ne (hlow i r y hi2)
            · rw [y, g0] at hi2
              have := Option.some.inj hi2
              rw [← this]; exact z
            · exact hx i r y hi2
          have qq := q _ (k.trans kp)
          rw [ek2] at qq
          exact ⟨_, rfl, qq⟩
      · rw [decide_eq_false h0]
        have ek2 : look L key = none := look_none fun r hr2 => by
          obtain ⟨i, hi2⟩ := List.mem_iff_getElem?.mp hr2
          have := (List.getElem?_eq_some_iff.mp hi2).1
          exact lexN_ne (hlow i r (by omega) hi2)
        have qq := q _ k
        rw [ek2] at qq
        exact ⟨_, rfl, qq⟩
end
end Vf

set_option Elab.async false
set_option linter.all false
set_option maxRecDepth 100000
set_option maxHeartbeats 4000000
namespace Vf
open PySem PySem.Spec PyProof.Rows L2 TL
def prV : Option Nat → V
  | none => .non
  | some p => natV p
theorem look_w (W : List (Nat × Nat)) (c : Nat) : (look (rowsW W) [c]).getD (.int 1) = natV (wOf W c) := by
  rw [look_rowsW]
  unfold wOf
  cases look W c <;> rfl
theorem look_c (C : List ((Nat × Nat) × Nat)) (a b : Nat) : (look (rows2 C) [a, b]).getD (.int 0) = natV (cutOf C a b) := by
  rw [look_rows2]
  unfold cutOf
  cases look C (a, b) <;> rfl
theorem look_b (C : List ((Nat × Nat) × Nat)) (a b : Nat) : (look (rows2 C) [a, b]).getD .non = prV (look C (a, b)) := by
  rw [look_rows2]
  cases look C (a, b) <;> rfl
theorem len_rW (W : List (Nat × Nat)) : (rowsW W).length = W.length := List.length_map ..
theorem len_r2 (W : List ((Nat × Nat) × Nat)) : (rows2 W).length = W.length := List.length_map ..
section
variable {P : Program} {w : World} {K : PySem.W.Frag} {mg : Str → Option Value} {base : Heap}
def spWidthOf : Sp := fun vs H Q _ => ∃ (v : V) (S : Sty) (c : Nat), vs = [v, sgn c] ∧ StyV H v S ∧ StyOk S ∧ c < 1114112 ∧ ∀ H', Same H H' → Q (natV (wOf S.W c)) H'
def spCutOf : Sp := fun vs H Q _ => ∃ (v : V) (S : Sty) (c d : Nat), vs = [v, sgn c, sgn d] ∧ StyV H v S ∧ StyOk S ∧ c < 1114112 ∧ d < 1114112 ∧ ∀ H', Same H H' → Q (natV (cutOf S.C c d)) H'
def spPriceOf : Sp := fun vs H Q _ => ∃ (v : V) (S : Sty) (c d : Nat), vs = [v, sgn c, sgn d] ∧ StyV H v S ∧ StyOk S ∧ c < 1114112 ∧ d < 1114112 ∧ ∀ H', Same H H' → Q (prV (look S.B (c, d))) H'
theorem ok_width_of (T : Txt K mg) : FnOk P w K mg base CX0 2 T.a_width_of T.d_width_of ["style", "sign"] spWidthOf := by
  have G_told : FnOk P w K mg base CX0 1 T.a_told T.d_told ["rows", "key", "otherwise"] spTold := ok_told T
  refine T.D_width_of.F.ok sc_width_of (fun vs H Q E h => ?_) (fun cdv A outer s H vs Q E hr h => ?_)
  · obtain ⟨v, S, c, rfl, _⟩ := h
    rfl
  · obtain ⟨v, S, c, rfl, ⟨a, wv, cv, bv, pv_, rfl, e, h1, h2, h3⟩, ok, hc, q⟩ := h
    refine ⟨_, (pss_one (ps_ret (pe_call G_told (hr.mono (by decide)) (by rfl) T.D_told.G T.D_told.F.kp T.D_told.B .nil pass0 (pa_cons (pe_ix ix_tup (pv 0) pe_int (fun _ _ => rfl)) (pa_cons (pe_tup (pa_cons (pv 1) pa_nil)) (pa_cons pe_int pa_nil)))))), ?_⟩
    refine ⟨_, rfl, a, _, _, wv, rfl, rfl, SqT.of e, rfl, _, rfl, Nat.le_of_lt (lt_s (by show _ < 100000; simp)), fun p np => ?_⟩
    have kp := same_upd (o := .tup [sgn c]) (Same.refl H) np
    refine ⟨wv, .int 1, p, rowsW S.W, [c], rfl, h1.mono (same_tup kp), ok.sw, by rw [len_rW]; have := ok.lw; omega, ok.uw, fun x hx => by rw [List.mem_singleton.mp hx]; exact hc, upd_same, fun H' k => ?_⟩
    rw [look_w]
    exact q _ (kp.trans k)
theorem ok_cut_of (T : Txt K mg) : FnOk P w K mg base CX0 2 T.a_cut_of T.d_cut_of ["style", "sign", "next_sign"] spCutOf := by
  have G_told : FnOk P w K mg base CX0 1 T.a_told T.d_told ["rows", "key", "otherwise"] spTold := ok_told T
  refine T.D_cut_of.F.ok sc_cut_of (fun vs H Q E h => ?_) (fun cdv A outer s H vs Q E hr h => ?_)
  · obtain ⟨v, S, c, d, rfl, _⟩ := h
    rfl
  · obtain ⟨v, S, c, d, rfl, ⟨a, wv, cv, bv, pv_, rfl, e, h1, h2, h3⟩, ok, hc, hd, q⟩ := h
    refine ⟨_, (pss_one (ps_ret (pe_call G_told (hr.mono (by decide)) (by rfl) T.D_told.G T.D_told.F.kp T.D_told.B .nil pass0 (pa_cons (pe_ix ix_tup (pv 0) pe_int (fun _ _ => rfl)) (pa_cons (pe_tup (pa_cons (pv 1) (pa_cons (pv 2) pa_nil))) (pa_cons pe_int pa_nil)))))), ?_⟩
    refine ⟨_, rfl, a, _, _, cv, rfl, rfl, SqT.of e, rfl, _, rfl, _, rfl, Nat.le_of_lt (lt_s (by show _ < 100000; simp)), fun p np => ?_⟩
    have kp := same_upd (o := .tup [sgn c, sgn d]) (Same.refl H) np
    refine ⟨cv, .int 0, p, rows2 S.C, [c, d], rfl, h2.mono (same_tup kp), ok.sc, by rw [len_r2]; have := ok.lc; omega, ok.uc, fun x hx => by
      rcases List.mem_cons.mp hx with z | z
      · rw [z]; exact hc
      · rw [List.mem_singleton.mp z]; exact hd, upd_same, fun H' k => ?_⟩
    rw [look_c]
    exact q _ (kp.trans k)
theorem ok_break_price (T : Txt K mg) : FnOk P w K mg base CX0 2 T.a_break_price T.d_break_price ["style", "sign", "next_sign"] spPriceOf := by
  have G_told : FnOk P w K mg base CX0 1 T.a_told T.d_told ["rows", "key", "otherwise"] spTold := ok_told T
  refine T.D_break_price.F.ok sc_break_price (fun vs H Q E h => ?_) (fun cdv A outer s H vs Q E hr h => ?_)
  · obtain ⟨v, S, c, d, rfl, _⟩ := h
    rfl
  · obtain ⟨v, S, c, d, rfl, ⟨a, wv, cv, bv, pv_, rfl, e, h1, h2, h3⟩, ok, hc, hd, q⟩ := h
    refine ⟨_, (pss_one (ps_ret (pe_call G_told (hr.mono (by decide)) (by rfl) T.D_told.G T.D_told.F.kp T.D_told.B .nil pass0 (pa_cons (pe_ix ix_tup (pv 0) pe_int (fun _ _ => rfl)) (pa_cons (pe_tup (pa_cons (pv 1) (pa_cons (pv 2) pa_nil))) (pa_cons pe_non pa_nil)))))), ?_⟩
    refine ⟨_, rfl, a, _, _, bv, rfl, rfl, SqT.of e, rfl, _, rfl, _, rfl, Nat.le_of_lt (lt_s (by show _ < 100000; simp)), fun p np => ?_⟩
    have kp := same_upd (o := .tup [sgn c, sgn d]) (Same.refl H) np
    refine ⟨bv, .non, p, rows2 S.B, [c, d], rfl, h3.mono (same_tup kp), ok.sb, by rw [len_r2]; have := ok.lb; omega, ok.ub, fun x hx => by
      rcases List.mem_cons.mp hx with z | z
      · rw [z]; exact hc
      · rw [List.mem_singleton.mp z]; exact hd, upd_same, fun H' k => ?_⟩
    rw [look_b]
    exact q _ (kp.trans k)
theorem bT {p : Prop} [Decidable p] (h : p) : V.bl (decide p) = V.bl true := by rw [decide_eq_true h]
theorem bF {p : Prop} [Decidable p] (h : ¬ p) : V.bl (decide p) = V.bl false := by rw [decide_eq_false h]
/-- a word -/
structure WdOk (zs : List Nat) : Prop where
  len : zs.length ≤ 16
  ok : ∀ c ∈ zs, c < 1114112
  nf : ∀ c ∈ zs, c ≠ 95
theorem WdOk.at {zs : List Nat} (h : WdOk zs) {k : Nat} (hk : k < zs.length) : (mkS zs).cps.toList[k]? = some (zs.getD k 0) ∧ zs.getD k 0 < 1114112 := by
  have e : zs[k]? = some (zs.getD k 0) := by rw [List.getD_eq_getElem?_getD, List.getElem?_eq_getElem hk]; rfl
  exact ⟨by rw [mkS_cps]; exact e, h.ok _ (List.mem_of_getElem? e)⟩
def spWidthAt : Sp := fun vs H Q _ => ∃ (v : V) (S : Sty) (zs : List Nat) (k j : Nat), vs = [v, sV zs, .int (k : Int), .int (j : Int)] ∧ StyV H v S ∧ StyOk S ∧ WdOk zs ∧ k < j ∧ j ≤ zs.length ∧ ∀ H', Same H H' → Q (natV (wAt S zs j k)) H'
theorem ok_width_at (T : Txt K mg) : FnOk P w K mg base CX0 3 T.a_width_at T.d_width_at ["style", "word", "at", "behind"] spWidthAt := by
  have G_width_of : FnOk P w K mg base CX0 2 T.a_width_of T.d_width_of ["style", "sign"] spWidthOf := ok_width_of T
  have G_cut_of : FnOk P w K mg base CX0 2 T.a_cut_of T.d_cut_of ["style", "sign", "next_sign"] spCutOf := ok_cut_of T
  refine T.D_width_at.F.ok sc_width_at (fun vs H Q E h => ?_) (fun cdv A outer s H vs Q E hr h => ?_)
  · obtain ⟨v, S, zs, k, j, rfl, _⟩ := h
    rfl
  · obtain ⟨v, S, zs, k, j, rfl, hv, ok, wd, hk, hj, q⟩ := h
    refine ⟨_, (pss_cons (ps_if (pt_cmpR op_lt (pe_op op_add (pv 2) pe_int) (pv 3) (nomark _)) (pss_one (ps_ret (pe_op op_sub (pe_call G_width_of (hr.mono (by decide)) (by rfl) T.D_width_of.G T.D_width_of.F.kp T.D_width_of.B .nil pass0 (pa_cons (pv 0) (pa_cons (pe_ix ix_str (pv 1) (pv 2) (fun _ _ => rfl)) pa_nil))) (pe_call G_cut_of (hr.mono (by decide)) (by rfl) T.D_cut_of.G T.D_cut_of.F.kp T.D_cut_of.B .nil pass0 (pa_cons (pv 0) (pa_cons (pe_ix ix_str (pv 1) (pv 2) (fun _ _ => rfl)) (pa_cons (pe_ix ix_str (pv 1) (pe_op op_add (pv 2) pe_int) (fun _ _ => rfl)) pa_nil))))))) pss_nil)
      (pss_one (ps_ret (pe_call G_width_of (hr.mono (by decide)) (by rfl) T.D_width_of.G T.D_width_of.F.kp T.D_width_of.B .nil pass0 (pa_cons (pv 0) (pa_cons (pe_ix ix_str (pv 1) (pv 2) (fun _ _ => rfl)) pa_nil)))))), ?_⟩
    have hb : (mkS zs).length ≤ sizeLine := by rw [mkS_len]; exact big_ok (by have := wd.len; omega)
    have g0 := wd.at (show k < zs.length by omega)
    refine ⟨_, rfl, _, _, rfl, rfl, _, rfl, _, _, rfl, rfl, _, rfl, ite2 (fun c => ?_) (fun c => ?_)⟩
    · have c := of_decide_eq_true c
      have c2 : k + 1 < j := by omega
      have g1 := wd.at (show k + 1 < zs.length by omega)
      refine ⟨_, rfl, _, rfl, _, rfl, mkS zs, (k : Int), zs.getD k 0, rfl, rfl, hb, atI_nat g0.1, v, S, _, rfl, hv, ok, g0.2, fun H1 k1 => ?_⟩
      refine ⟨_, rfl, _, rfl, _, rfl, mkS zs, (k : Int), zs.getD k 0, rfl, rfl, hb, atI_nat g0.1, _, rfl, _, rfl, _, _, rfl, rfl, mkS zs, (k : Int) + 1, zs.getD (k + 1) 0, rfl, rfl, hb, atI_nat (j := k + 1) g1.1, v, S, _, _, rfl, hv.mono (same_tup k1), ok, g0.2, g1.2, fun H2 k2 => ?_⟩
      refine ⟨_, _, rfl, rfl, ?_⟩
      have e : (wOf S.W (zs.getD k 0) : Int) - (cutOf S.C (zs.getD k 0) (zs.getD (k + 1) 0) : Int) = ((wAt S zs j k : Nat) : Int) := by
        unfold wAt
        rw [if_pos c2]
        have := cut_lt ok (zs.getD k 0) (zs.getD (k + 1) 0)
        omega
      show Q (V.int ((wOf S.W (zs.getD k 0) : Int) - (cutOf S.C (zs.getD k 0) (zs.getD (k + 1) 0) : Int))) H2
      rw [e]
      exact q _ (k1.trans k2)
    · have c2 : ¬ k + 1 < j := fun z => c (decide_eq_true (by omega))
      refine ⟨_, rfl, _, rfl, _, rfl, mkS zs, (k : Int), zs.getD k 0, rfl, rfl, hb, atI_nat g0.1, v, S, _, rfl, hv, ok, g0.2, fun H1 k1 => ?_⟩
      have e : wOf S.W (zs.getD k 0) = wAt S zs j k := by
        unfold wAt
        rw [if_neg c2]
      rw [e]
      exact q _ k1
def spPieceW : Sp := fun vs H Q _ => ∃ (v : V) (S : Sty) (zs : List Nat) (i j : Nat), vs = [v, sV zs, .int (i : Int), .int (j : Int)] ∧ StyV H v S ∧ StyOk S ∧ WdOk zs ∧ i ≤ j ∧ j ≤ zs.length ∧ ∀ H', Same H H' → Q (natV (pieceW S zs i j)) H'
theorem ok_piece_width (T : Txt K mg) : FnOk P w K mg base CX0 4 T.a_piece_width T.d_piece_width ["style", "word", "first", "behind"] spPieceW := by
  have G_width_at : FnOk P w K mg base CX0 3 T.a_width_at T.d_width_at ["style", "word", "at", "behind"] spWidthAt := ok_width_at T
  refine T.D_piece_width.F.ok sc_piece_width (fun vs H Q E h => ?_) (fun cdv A outer s H vs Q E hr h => ?_)
  · obtain ⟨v, S, zs, k, j, rfl, _⟩ := h
    rfl
  · obtain ⟨v, S, zs, i, j, rfl, hv, ok, wd, hk, hj, q⟩ := h
    refine ⟨_, (pss_cons (ps_set (i := 4) sc_piece_width.nd rfl (.inl rfl) (pe_callB (cr_sum (by rfl)) (by rfl) T.n_sum (by decide +kernel) (pa_cons (pe_lc (own := [("at", 5)]) (g := gName 5) (tt := tYes) rfl sc_piece_width.nd (pi_range2 (by rfl) T.n_range (pa_cons (pv 2) (pa_cons (pv 3) pa_nil))) (blkOk_by (own := [("at", 5)]) (N := ["style", "word", "first", "behind", "width", "at"]) (sc := (defScope s_piece_width)) (by decide +kernel)) (fun _ _ _ _ _ => (pg_name (i := 5) sc_piece_width.nd rfl (.inl rfl))) (fun _ _ _ _ _ => pts_nil) (fun _ _ _ _ _ => (pe_call G_width_at (hr.mono (by decide)) (by rfl) T.D_width_at.G T.D_width_at.F.kp T.D_width_at.B .nil pass0 (pa_cons (pv 0) (pa_cons (pv 1) (pa_cons (pv 5) (pa_cons (pv 3) pa_nil))))))) pa_nil)))
      (pss_one (ps_ret (pe_ifExp (pt_cmpR op_lt (pv 3) (pe_callB call_len_str (by rfl) T.n_len PySem.boot_len (pa_cons (pv 1) pa_nil)) (nomark _)) (pe_op op_add (pv 4) pe_int) (pv 4))))), ?_⟩
    have hb : (mkS zs).length ≤ sizeLine := by rw [mkS_len]; exact big_ok (by have := wd.len; omega)
    have hl := wd.len
    refine ⟨_, rfl, _, rfl, i, j, rfl, ⟨by omega, by omega, by omega, by omega⟩, fun D nD => ?_⟩
    have en : ((j : Int) - (i : Int)).toNat = j - i := by omega
    rw [en]
    refine lc_it walk_range (fun n H' => Same H H' ∧ H' D = some (.lst (((List.range' i n).map (wAt S zs j)).map natV))) ⟨same_upd (Same.refl H) nD, upd_same⟩ (fun _ _ _ _ => trivial) ?_ ?_
    · rintro n x H' H'' hn ⟨k1, e1⟩ ⟨rfl, rfl⟩
      refine ⟨rfl, _, rfl, _, rfl, _, rfl, _, rfl, v, S, zs, i + n, j, rfl, hv.mono (same_tup k1), ok, wd, by omega, hj, fun H2 k2 => ?_⟩
      refine ⟨_, k2 _ _ e1, ?_, same_mut (k1.trans k2) nD, ?_⟩
      · rw [List.length_map, List.length_map, List.length_range']; exact lt_s (by omega)
      · rw [upd_same, List.range'_1_concat, List.map_append, List.map_append]; rfl
    · rintro H' ⟨k1, e1⟩
      refine ⟨D, ((List.range' i (j - i)).map (wAt S zs j)).map (fun x : Nat => (x : Int)), rfl, SqL.of (by rw [e1]; simp only [List.map_map]; rfl), ?_⟩
      have es : (((List.range' i (j - i)).map (wAt S zs j)).map (fun x : Nat => (x : Int))).sum = ((((List.range' i (j - i)).map (wAt S zs j)).sum : Nat) : Int) := by
        generalize (List.range' i (j - i)).map (wAt S zs j) = l
        induction l with
        | nil => rfl
        | cons a r ih => rw [List.map_cons, List.sum_cons, List.sum_cons, ih, Int.natCast_add]
      rw [es]
      refine ⟨_, rfl, _, rfl, mkS zs, rfl, hb, _, _, rfl, rfl, _, rfl, ite2 (fun c => ?_) (fun c => ?_)⟩
      · have c := of_decide_eq_true c
        rw [mkS_len] at c
        have e : pieceW S zs i j = ((List.range' i (j - i)).map (wAt S zs j)).sum + 1 := by
          unfold pieceW
          rw [if_pos (by omega)]
        rw [e] at q
        exact ⟨_, rfl, _, _, rfl, rfl, q _ k1⟩
      · have e : pieceW S zs i j = ((List.range' i (j - i)).map (wAt S zs j)).sum := by
          unfold pieceW
          rw [if_neg fun z => c (decide_eq_true (by rw [mkS_len]; omega))]
          rfl
        rw [e] at q
        exact ⟨_, rfl, q _ k1⟩
end
end Vf

set_option Elab.async false
set_option linter.all false
set_option maxRecDepth 100000
set_option maxHeartbeats 4000000
namespace Vf
open PySem PySem.Spec PyProof.Rows L2 TL
/-! ### shapes -/
def RowAt (H : Hp) (S : Sty) (zs : List Nat) (x : V) (r : Nat × Nat) : Prop := ∃ b, x = .ref b ∧ H b = some (.tup [natV (pieceW S zs 0 r.1), natV (pieceW S zs r.1 zs.length), natV r.2])
def PartL (H : Hp) (S : Sty) (zs : List Nat) (vs : List V) (rs : List (Nat × Nat)) : Prop := vs.length = rs.length ∧ ∀ (i : Nat) (r : Nat × Nat), rs[i]? = some r → ∃ x, vs[i]? = some x ∧ RowAt H S zs x r
theorem PartL.same {H H' : Hp} {S : Sty} {zs : List Nat} {vs : List V} {rs : List (Nat × Nat)} (h : PartL H S zs vs rs) (k : ∀ a xs, H a = some (.tup xs) → H' a = some (.tup xs)) : PartL H' S zs vs rs := ⟨h.1, fun i r e => by
  obtain ⟨x, e1, b, e2, e3⟩ := h.2 i r e
  exact ⟨x, e1, b, e2, k _ _ e3⟩⟩
theorem PartL.snoc {H : Hp} {S : Sty} {zs : List Nat} {vs : List V} {rs : List (Nat × Nat)} {x : V} {r : Nat × Nat} (h : PartL H S zs vs rs) (hx : RowAt H S zs x r) : PartL H S zs (vs ++ [x]) (rs ++ [r]) := by
  refine ⟨by rw [List.length_append, List.length_append, h.1]; rfl, fun i q e => ?_⟩
  by_cases hi : i < rs.length
  · rw [List.getElem?_append_left hi] at e
    obtain ⟨y, e1, e2⟩ := h.2 i q e
    exact ⟨y, by rw [List.getElem?_append_left (by rw [h.1]; exact hi)]; exact e1, e2⟩
  · rw [List.getElem?_append_right (by omega)] at e
    have e0 : i - rs.length = 0 := by
      have := (List.getElem?_eq_some_iff.mp e).1
      simp at this
      exact this
    rw [e0] at e
    have e : r = q := Option.some.inj e
    subst e
    exact ⟨x, by rw [List.getElem?_append_right (by rw [h.1]; omega), h.1, e0]; rfl, hx⟩
def ShapeV (H : Hp) (v : V) (S : Sty) (zs : List Nat) : Prop := ∃ (a pa : Addr) (vs : List V), v = .ref a ∧ H a = some (.tup [natV (pieceW S zs 0 zs.length), .ref pa]) ∧ H pa = some (.tup vs) ∧ PartL H S zs vs (places S zs)
theorem ShapeV.mono {H H' : Hp} {v : V} {S : Sty} {zs : List Nat} (h : ShapeV H v S zs) (k : ∀ a xs, H a = some (.tup xs) → H' a = some (.tup xs)) : ShapeV H' v S zs := by
  obtain ⟨a, pa, vs, e, h1, h2, h3⟩ := h
  exact ⟨a, pa, vs, e, k _ _ h1, k _ _ h2, h3.same k⟩
def plN (S : Sty) (zs : List Nat) (n : Nat) : List (Nat × Nat) := (List.range' 2 n).filterMap fun k => (look S.B (zs.getD (k - 1) 0, zs.getD k 0)).map fun p => (k, p)
theorem plN_succ (S : Sty) (zs : List Nat) (n : Nat) : plN S zs (n + 1) = plN S zs n ++ ((look S.B (zs.getD (n + 1) 0, zs.getD (n + 2) 0)).map fun p => (n + 2, p)).toList := by
  unfold plN
  rw [List.range'_1_concat, List.filterMap_append]
  congr 1
  have e1 : 2 + n - 1 = n + 1 := by omega
  have e2 : 2 + n = n + 2 := by omega
  rw [e2]
  show List.filterMap _ [n + 2] = _
  cases h : look S.B (zs.getD (n + 1) 0, zs.getD (n + 2) 0) with
  | none => rw [List.filterMap_cons_none (by show Option.map _ (look S.B (zs.getD (n + 1) 0, zs.getD (n + 2) 0)) = none; rw [h]; rfl)]; rfl
  | some p => rw [List.filterMap_cons_some (b := (n + 2, p)) (by show Option.map _ (look S.B (zs.getD (n + 1) 0, zs.getD (n + 2) 0)) = _; rw [h]; rfl)]; rfl
def ends (S : Sty) (zs : List Nat) : List Nat := 0 :: ((places S zs).map (·.1) ++ [zs.length])
section
variable {P : Program} {w : World} {K : PySem.W.Frag} {mg : Str → Option Value} {base : Heap}
theorem places_look {S : Sty} {zs : List Nat} {r : Nat × Nat} (h : r ∈ places S zs) : look S.B (zs.getD (r.1 - 1) 0, zs.getD r.1 0) = some r.2 := by
  unfold places at h
  obtain ⟨k, hk, e⟩ := List.mem_filterMap.mp h
  cases hl : look S.B (zs.getD (k - 1) 0, zs.getD k 0) with
  | none => rw [hl] at e; cases e
  | some p =>
    rw [hl] at e
    have := Option.some.inj e
    subst this
    exact hl
theorem places_len (S : Sty) (zs : List Nat) : (places S zs).length ≤ zs.length := by
  unfold places
  have h1 := List.length_filterMap_le (fun k => (look S.B (zs.getD (k - 1) 0, zs.getD k 0)).map fun p => (k, p)) (List.range' 2 (zs.length - 3))
  rw [List.length_range'] at h1
  omega
theorem places_plN (S : Sty) (zs : List Nat) : places S zs = plN S zs (zs.length - 3) := rfl
def spPlacesOf : Sp := fun vs H Q _ => ∃ (v : V) (S : Sty) (zs : List Nat), vs = [v, sV zs] ∧ StyV H v S ∧ StyOk S ∧ WdOk zs ∧ ∀ H' D, Same H H' → H D = none → H' D = some (.lst ((places S zs).map fun r : Nat × Nat => natV r.1)) → Q (.ref D) H'
theorem ok_parting_places (T : Txt K mg) : FnOk P w K mg base CX0 3 T.a_parting_places T.d_parting_places ["style", "word"] spPlacesOf := by
  have G_break_price : FnOk P w K mg base CX0 2 T.a_break_price T.d_break_price ["style", "sign", "next_sign"] spPriceOf := ok_break_price T
  refine T.D_parting_places.F.ok sc_parting_places (fun vs H Q E h => ?_) (fun cdv A outer s H vs Q E hr h => ?_)
  · obtain ⟨v, S, zs, rfl, _⟩ := h
    rfl
  · obtain ⟨v, S, zs, rfl, hv, ok, wd, q⟩ := h
    refine ⟨_, (pss_one (ps_ret (pe_lc (own := [("at", 2)]) (g := gName 2) rfl sc_parting_places.nd (pi_range2 (by rfl) T.n_range (pa_cons pe_int (pa_cons (pe_op op_sub (pe_callB call_len_str (by rfl) T.n_len PySem.boot_len (pa_cons (pv 1) pa_nil)) pe_int) pa_nil))) (blkOk_by (own := [("at", 2)]) (N := ["style", "word", "at"]) (sc := (defScope s_parting_places)) (by decide +kernel)) (fun _ _ _ _ _ => (pg_name (i := 2) sc_parting_places.nd rfl (.inl rfl))) (fun _ _ _ _ _ => (pts_one (pt_cmpR op_notN (pe_call G_break_price (hr.mono (by decide)) (by rfl) T.D_break_price.G T.D_break_price.F.kp T.D_break_price.B .nil pass0 (pa_cons (pv 0) (pa_cons (pe_ix ix_str (pv 1) (pe_op op_sub (pv 2) pe_int) (fun _ _ => rfl)) (pa_cons (pe_ix ix_str (pv 1) (pv 2) (fun _ _ => rfl)) pa_nil)))) pe_non (nomark _)))) (fun _ _ _ _ _ => (pv 2))))), ?_⟩
    have hb : (mkS zs).length ≤ sizeLine := by rw [mkS_len]; exact big_ok (by have := wd.len; omega)
    have hl := wd.len
    refine ⟨_, rfl, mkS zs, rfl, hb, _, _, rfl, rfl, 2, _, rfl, ⟨by decide, by decide, by rw [mkS_len]; omega, by rw [mkS_len]; omega⟩, ?_⟩
    have en : (((mkS zs).length : Int) - 1 - 2).toNat = zs.length - 3 := by rw [mkS_len]; omega
    rw [en]
    refine fun D nD => lc_range (lo := 2) (n := zs.length - 3) (fun n H' => Same H H' ∧ H' D = some (.lst ((plN S zs n).map fun r : Nat × Nat => natV r.1)) ∧ (plN S zs n).length ≤ n) ⟨same_upd (Same.refl H) nD, upd_same, by simp [plN]⟩ (fun n H' hn p => ⟨rfl, ?_⟩) (fun H' p => ?_)
    · obtain ⟨k1, e1, ln⟩ := p
      have g1 := wd.at (show n + 1 < zs.length by omega)
      have g2 := wd.at (show n + 2 < zs.length by omega)
      have ea : (2 + (n : Int)) - 1 = ((n + 1 : Nat) : Int) := by omega
      have eb : (2 + (n : Int)) = ((n + 2 : Nat) : Int) := by omega
      refine ⟨_, rfl, _, rfl, _, rfl, _, _, rfl, rfl, mkS zs, (2 + (n : Int)) - 1, zs.getD (n + 1) 0, rfl, rfl, hb, by rw [ea]; exact atI_nat g1.1, _, rfl, _, rfl, mkS zs, 2 + (n : Int), zs.getD (n + 2) 0, rfl, rfl, hb, by rw [eb]; exact atI_nat g2.1, ?_⟩
      refine ⟨v, S, _, _, rfl, hv.mono (same_tup k1), ok, g1.2, g2.2, fun H1 k2 => ?_⟩
      cases hp : look S.B (zs.getD (n + 1) 0, zs.getD (n + 2) 0) with
      | none =>
        refine ⟨rfl, false, rfl, k1.trans k2, ?_, ?_⟩
        · rw [plN_succ, hp, k2 _ _ e1]; show _ = some (HO.lst ((plN S zs n ++ []).map fun r : Nat × Nat => natV r.1)); rw [List.append_nil]
        · rw [plN_succ, hp]; show (plN S zs n ++ []).length ≤ _; rw [List.append_nil]; omega
      | some p =>
        refine ⟨rfl, true, rfl, _, rfl, _, k2 _ _ e1, by rw [List.length_map]; exact lt_s (by omega), same_mut (k1.trans k2) nD, ?_, ?_⟩
        · rw [upd_same, plN_succ, hp, List.map_append, eb]; rfl
        · rw [plN_succ, hp, List.length_append]; exact Nat.succ_le_succ ln
    · obtain ⟨k1, e1, _⟩ := p
      exact q _ _ k1 nD (by rw [places_plN]; exact e1)
def spShapeOf : Sp := fun vs H Q _ => ∃ (v : V) (S : Sty) (zs : List Nat), vs = [v, sV zs] ∧ StyV H v S ∧ StyOk S ∧ WdOk zs ∧ ∀ u H', Same H H' → ShapeV H' u S zs → Q u H'
theorem ok_shape_of (T : Txt K mg) : FnOk P w K mg base CX0 5 T.a_shape_of T.d_shape_of ["style", "word"] spShapeOf := by
  have G_break_price : FnOk P w K mg base CX0 2 T.a_break_price T.d_break_price ["style", "sign", "next_sign"] spPriceOf := ok_break_price T
  have G_parting_places : FnOk P w K mg base CX0 3 T.a_parting_places T.d_parting_places ["style", "word"] spPlacesOf := ok_parting_places T
  have G_piece_width : FnOk P w K mg base CX0 4 T.a_piece_width T.d_piece_width ["style", "word", "first", "behind"] spPieceW := ok_piece_width T
  refine T.D_shape_of.F.ok sc_shape_of (fun vs H Q E h => ?_) (fun cdv A outer s H vs Q E hr h => ?_)
  · obtain ⟨v, S, zs, rfl, _⟩ := h
    rfl
  · obtain ⟨v, S, zs, rfl, hv, ok, wd, q⟩ := h
    refine ⟨_, (pss_cons (ps_set (i := 2) sc_shape_of.nd rfl (.inl rfl) (pe_lst pa_nil))
      (pss_cons (ps_for PassesOwn.never rfl (pi_list (pe_call G_parting_places (hr.mono (by decide)) (by rfl) T.D_parting_places.G T.D_parting_places.F.kp T.D_parting_places.B .nil pass0 (pa_cons (pv 0) (pa_cons (pv 1) pa_nil)))) (pg_name (i := 3) sc_shape_of.nd rfl (.inl rfl)) (pss_cons (ps_set (i := 4) sc_shape_of.nd rfl (.inl rfl) (pe_call G_piece_width (hr.mono (by decide)) (by rfl) T.D_piece_width.G T.D_piece_width.F.kp T.D_piece_width.B .nil pass0 (pa_cons (pv 0) (pa_cons (pv 1) (pa_cons pe_int (pa_cons (pv 3) pa_nil))))))
      (pss_cons (ps_set (i := 5) sc_shape_of.nd rfl (.inl rfl) (pe_call G_piece_width (hr.mono (by decide)) (by rfl) T.D_piece_width.G T.D_piece_width.F.kp T.D_piece_width.B .nil pass0 (pa_cons (pv 0) (pa_cons (pv 1) (pa_cons (pv 3) (pa_cons (pe_callB call_len_str (by rfl) T.n_len PySem.boot_len (pa_cons (pv 1) pa_nil)) pa_nil))))))
      (pss_one (ps_expr (pe_bm PySem.F.plainAttrs_list PySem.F.slot_list_append PySem.F.type_list_append mt_append (pv 2) (pa_cons (pe_tup (pa_cons (pv 4) (pa_cons (pv 5) (pa_cons (pe_call G_break_price (hr.mono (by decide)) (by rfl) T.D_break_price.G T.D_break_price.F.kp T.D_break_price.B .nil pass0 (pa_cons (pv 0) (pa_cons (pe_ix ix_str (pv 1) (pe_op op_sub (pv 3) pe_int) (fun _ _ => rfl)) (pa_cons (pe_ix ix_str (pv 1) (pv 3) (fun _ _ => rfl)) pa_nil)))) pa_nil)))) pa_nil)))))))
      (pss_one (ps_ret (pe_tup (pa_cons (pe_call G_piece_width (hr.mono (by decide)) (by rfl) T.D_piece_width.G T.D_piece_width.F.kp T.D_piece_width.B .nil pass0 (pa_cons (pv 0) (pa_cons (pv 1) (pa_cons pe_int (pa_cons (pe_callB call_len_str (by rfl) T.n_len PySem.boot_len (pa_cons (pv 1) pa_nil)) pa_nil))))) (pa_cons (pe_callTy call_tuple_of (by rfl) T.n_tuple (by decide +kernel) (pa_cons (pv 2) pa_nil)) pa_nil))))))), ?_⟩
    have hb : (mkS zs).length ≤ sizeLine := by rw [mkS_len]; exact big_ok (by have := wd.len; omega)
    have hl := wd.len
    refine ⟨by show 0 ≤ sizeLine; decide, fun D nD => ?_⟩
    have k0 : Same H (upd H D (.lst [])) := same_upd (Same.refl H) nD
    have pln := places_len S zs
    refine ⟨_, rfl, _, rfl, v, S, zs, rfl, hv.mono (same_tup k0), ok, wd, fun H1 L k1 nL eL => ?_⟩
    have kA := k0.trans k1
    have eD1 : H1 D = some (.lst []) := k1 _ _ upd_same
    refine ⟨L, rfl, ⟨_, SqL.of eL⟩, ?_⟩
    refine for_it (walk_list (K := K) (a := L) (xs := (places S zs).map fun r : Nat × Nat => natV r.1)) (fun n σ' H' => ∃ (ps : List V) (x3 x4 x5 : Option V), σ' = [some v, some (sV zs), some (.ref D), x3, x4, x5] ∧ Same H H' ∧ H' D = some (.lst ps) ∧ H' L = some (.lst ((places S zs).map fun r : Nat × Nat => natV r.1)) ∧ PartL H' S zs ps ((places S zs).take n) ∧ ps.length = n) ⟨[], none, none, none, rfl, kA, eD1, eL, ⟨rfl, fun i r h => by simp at h⟩, rfl⟩ ?_ ?_ ?_
    · rintro n σ' H' _ ⟨_, _, _, _, _, _, _, e, _⟩
      exact SqL.of e
    · rintro n x σ' H' H'' hn ⟨ps, x3, x4, x5, rfl, k1, e1, eL, pl, ln⟩ ⟨rfl, hx⟩
      rw [List.getElem?_map] at hx
      cases hr0 : (places S zs)[n]? with
      | none => rw [hr0] at hx; cases hx
      | some r =>
      rw [hr0] at hx
      have hx := Option.some.inj hx
      subst hx
      have hn : n < (places S zs).length := (List.getElem?_eq_some_iff.mp hr0).1
      have hm := List.mem_of_getElem? hr0
      have bd := places_bd hm
      have lk := places_look hm
      have hv1 := hv.mono (same_tup k1)
      have g1 := wd.at (show r.1 - 1 < zs.length by omega)
      have g2 := wd.at (show r.1 < zs.length by omega)
      have ea : (r.1 : Int) - 1 = ((r.1 - 1 : Nat) : Int) := by omega
      refine ⟨_, rfl, _, rfl, _, rfl, v, S, zs, 0, r.1, rfl, hv1, ok, wd, Nat.zero_le _, by omega, fun H2 k3 => ?_⟩
      refine ⟨_, rfl, _, rfl, _, rfl, _, rfl, mkS zs, rfl, hb, v, S, zs, r.1, zs.length, by rw [mkS_len]; rfl, hv1.mono (same_tup k3), ok, wd, by omega, Nat.le_refl _, fun H3 k4 => ?_⟩
      have e3 := k4 _ _ (k3 _ _ e1)
      refine ⟨.ref D, rfl, .inl ⟨rfl, _, .inl (.inl e3)⟩, _, rfl, _, rfl, _, rfl, _, rfl, _, rfl, _, _, rfl, rfl, mkS zs, (r.1 : Int) - 1, zs.getD (r.1 - 1) 0, rfl, rfl, hb, by rw [ea]; exact atI_nat g1.1, _, rfl, _, rfl, mkS zs, (r.1 : Int), zs.getD r.1 0, rfl, rfl, hb, atI_nat g2.1, ?_⟩
      refine ⟨v, S, _, _, rfl, (hv1.mono (same_tup k3)).mono (same_tup k4), ok, g1.2, g2.2, fun H4 k5 => ?_⟩
      rw [lk]
      have e4 := k5 _ _ e3
      refine ⟨Nat.le_of_lt (lt_s (by show 3 < 100000; decide)), fun b nb => ?_⟩
      have kr := same_upd (o := .tup [natV (pieceW S zs 0 r.1), natV (pieceW S zs r.1 zs.length), natV r.2]) (Same.refl H4) nb
      have kk := (k3.trans (k4.trans k5)).trans kr
      refine ⟨D, _, _, rfl, rfl, kk _ _ e1, lt_s (by omega), ?_⟩
      have nLD : L ≠ D := fun z => by rw [z] at eL; rw [eL] at e1; have := HO.lst.inj (Option.some.inj e1); rw [← this] at ln; rw [List.length_map] at ln; omega
      have nr2 : b ≠ D := fun z => by rw [z, e4] at nb; cases nb
      refine ⟨_, _, _, _, rfl, same_mut (k1.trans kk) nD, upd_same, by rw [upd_ne nLD]; exact kk _ _ eL, ?_, by rw [List.length_append, ln]; rfl⟩
      rw [take_succ' hr0]
      have kq : ∀ a xs, upd H4 b (.tup [natV (pieceW S zs 0 r.1), natV (pieceW S zs r.1 zs.length), natV r.2]) a = some (.tup xs) → upd (upd H4 b (.tup [natV (pieceW S zs 0 r.1), natV (pieceW S zs r.1 zs.length), natV r.2])) D (.lst (ps ++ [V.ref b])) a = some (.tup xs) := fun a xs e => by
        have : a ≠ D := fun z => by
          rw [z, kk _ _ e1] at e; cases e
        rw [upd_ne this]; exact e
      exact ((pl.same (same_tup kk)).snoc ⟨b, rfl, upd_same⟩).same kq
    · rintro σ' H' ⟨ps, x3, x4, x5, rfl, k1, e1, eL, pl, ln⟩
      rw [List.length_map, List.take_length] at pl
      have hv1 := hv.mono (same_tup k1)
      refine ⟨_, rfl, _, rfl, _, rfl, mkS zs, rfl, hb, v, S, zs, 0, zs.length, by rw [mkS_len]; rfl, hv1, ok, wd, Nat.zero_le _, Nat.le_refl _, fun H2 k3 => ?_⟩
      refine ⟨_, rfl, D, ps, rfl, .inl ⟨SqL.of (k3 _ _ e1), fun p np => ?_⟩⟩
      have kp := same_upd (o := .tup ps) (Same.refl H2) np
      refine ⟨by show 2 ≤ sizeLine; decide, fun r nr => ?_⟩
      have kr := same_upd (o := .tup [natV (pieceW S zs 0 zs.length), V.ref p]) (Same.refl _) nr
      exact q _ _ ((k1.trans k3).trans (kp.trans kr)) ⟨r, p, ps, rfl, upd_same, kr _ _ upd_same, pl.same (same_tup (k3.trans (kp.trans kr)))⟩
theorem ends_part {S : Sty} {zs : List Nat} {k : Nat} {r : Nat × Nat} (h : (places S zs)[k]? = some r) : (ends S zs)[k + 1]? = some r.1 := by
  show ((places S zs).map (·.1) ++ [zs.length])[k]? = _
  have hk := (List.getElem?_eq_some_iff.mp h).1
  rw [List.getElem?_append_left (by rw [List.length_map]; exact hk), List.getElem?_map, h]
  rfl
theorem ends_last (S : Sty) (zs : List Nat) : (ends S zs)[(places S zs).length + 1]? = some zs.length := by
  show ((places S zs).map (·.1) ++ [zs.length])[(places S zs).length]? = _
  rw [List.getElem?_append_right (by rw [List.length_map]; exact Nat.le_refl _), List.length_map, Nat.sub_self]
  rfl
theorem ends_len (S : Sty) (zs : List Nat) : (ends S zs).length = (places S zs).length + 2 := by
  unfold ends
  rw [List.length_cons, List.length_append, List.length_map]; rfl
end
end Vf

set_option Elab.async false
set_option linter.all false
set_option maxRecDepth 100000
set_option maxHeartbeats 4000000
namespace Vf
open PySem PySem.Spec PyProof.Rows L2 TL
/-! ### text times int -/
theorem op_mul_str {X : Cx} : OpR X (binaryOp .Mult) (fun x y H Q => ∃ z n, x = .str z ∧ y = .int n ∧ MulOk z n ∧ Q (.str (Txt.mul z n)) H) := by
  intro pins s σ H x y v u Q I rx ry h
  obtain ⟨z, n, rfl, rfl, hm, q⟩ := h
  obtain ⟨t, rfl⟩ := rx
  obtain ⟨t', rfl⟩ := ry
  exact SB.mul hm fun t' k => ⟨.str (Txt.mul z n), H, I.tok _, ⟨_, rfl⟩, q⟩
theorem mul_fill {k : Nat} (h : k ≤ 2) : MulOk ("_" : Str) (k : Int) ∧ Txt.mul ("_" : Str) (k : Int) = mkS (List.replicate k 95) := by
  rcases k with _ | _ | _ | k
  · exact ⟨⟨by decide, fun h => absurd (by decide) h, fun h => absurd (by decide) h⟩, by decide +kernel⟩
  · exact ⟨⟨by decide, fun _ h => absurd h (by decide), fun _ h => absurd h (by decide)⟩, by decide +kernel⟩
  · exact ⟨⟨by decide, fun _ _ => by decide +kernel, fun _ _ => by decide +kernel⟩, by decide +kernel⟩
  · omega
theorem cutMid {zs : List Nat} {i e : Nat} (h1 : i ≤ zs.length) (h2 : e ≤ zs.length) : cutS (mkS zs) (some (i : Int)) (some (e : Int)) = mkS ((zs.drop i).take (e - i)) := by
  unfold cutS
  rw [HT.sIx_nat, HT.sIx_nat, mkS_len, Nat.min_eq_left h1, Nat.min_eq_left h2]
  rfl
theorem cutOne {zs : List Nat} : cutS (mkS zs) none (some (1 : Int)) = mkS (zs.take 1) := by
  unfold cutS
  rw [show (some (1 : Int)) = some ((1 : Nat) : Int) from rfl, HT.sIx_nat, HT.sIx_none, mkS_len]
  show mkS ((zs.drop 0).take (min 1 zs.length - 0)) = _
  rw [List.drop_zero, Nat.sub_zero]
  by_cases c : 1 ≤ zs.length
  · rw [Nat.min_eq_left c]
  · rw [Nat.min_eq_right (by omega), List.take_of_length_le (Nat.le_refl _), List.take_of_length_le (by omega)]
/-- a row more -/
theorem look_snoc {κ β : Type} [DecidableEq κ] {L : List (κ × β)} {r : κ × β} (h : ∀ q ∈ L, q.1 ≠ r.1) (k : κ) : look (L ++ [r]) k = if r.1 = k then some r.2 else look L k := by
  induction L with
  | nil =>
    by_cases e : r.1 = k
    · rw [if_pos e, ← e]; exact look_hit
    · rw [if_neg e]; exact look_miss e
  | cons q L ih =>
    have ih := ih fun x hx => h x (List.mem_cons_of_mem _ hx)
    by_cases e : q.1 = k
    · have : r.1 ≠ k := fun z => h q List.mem_cons_self (e.trans z.symm)
      rw [if_neg this, ← e]
      show look (q :: (L ++ [r])) q.1 = look (q :: L) q.1
      rw [look_hit, look_hit]
    · show look (q :: (L ++ [r])) k = _
      rw [look_miss e, look_miss e, ih]
theorem fresh_W {S : Sty} (h : StyOk S) {n : Nat} {r : Nat × Nat} (hr : S.W[n]? = some r) : ∀ q ∈ S.W.take n, q.1 ≠ r.1 := by
  intro q hq e
  obtain ⟨i, hi⟩ := List.mem_iff_getElem?.mp hq
  rw [List.getElem?_take] at hi
  by_cases c : i < n
  · rw [if_pos c] at hi
    have g1 : (rowsW S.W)[i]? = some ([q.1], natV q.2) := by unfold rowsW; rw [List.getElem?_map, hi]; rfl
    have g2 : (rowsW S.W)[n]? = some ([r.1], natV r.2) := by unfold rowsW; rw [List.getElem?_map, hr]; rfl
    exact lexN_ne (h.sw.lt g1 g2 c) (by show [q.1] = [r.1]; rw [e])
  · rw [if_neg c] at hi; cases hi
theorem fresh_2 {L : List ((Nat × Nat) × Nat)} (h : Asc (rows2 L)) {n : Nat} {r : (Nat × Nat) × Nat} (hr : L[n]? = some r) : ∀ q ∈ L.take n, q.1 ≠ r.1 := by
  intro q hq e
  obtain ⟨i, hi⟩ := List.mem_iff_getElem?.mp hq
  rw [List.getElem?_take] at hi
  by_cases c : i < n
  · rw [if_pos c] at hi
    have g1 : (rows2 L)[i]? = some ([q.1.1, q.1.2], natV q.2) := by unfold rows2; rw [List.getElem?_map, hi]; rfl
    have g2 : (rows2 L)[n]? = some ([r.1.1, r.1.2], natV r.2) := by unfold rows2; rw [List.getElem?_map, hr]; rfl
    exact lexN_ne (h.lt g1 g2 c) (by show [q.1.1, q.1.2] = [r.1.1, r.1.2]; rw [e])
  · rw [if_neg c] at hi; cases hi
theorem wOf_snoc {S : Sty} (h : StyOk S) {n : Nat} {r : Nat × Nat} (hr : S.W[n]? = some r) (c : Nat) : wOf (S.W.take (n + 1)) c = if r.1 = c then r.2 else wOf (S.W.take n) c := by
  unfold wOf
  rw [take_succ' hr, look_snoc (fresh_W h hr)]
  by_cases e : r.1 = c
  · rw [if_pos e, if_pos e]; rfl
  · rw [if_neg e, if_neg e]
theorem cutOf_snoc {L : List ((Nat × Nat) × Nat)} (h : Asc (rows2 L)) {n : Nat} {r : (Nat × Nat) × Nat} (hr : L[n]? = some r) (a b : Nat) : cutOf (L.take (n + 1)) a b = (if r.1 = (a, b) then r.2 else 0) + cutOf (L.take n) a b := by
  unfold cutOf
  rw [take_succ' hr, look_snoc (fresh_2 h hr)]
  by_cases e : r.1 = (a, b)
  · rw [if_pos e, if_pos e, look_none fun q hq z => fresh_2 h hr q hq (z.trans e.symm)]; rfl
  · rw [if_neg e, if_neg e, Nat.zero_add]
theorem sgn_eq (a b : Nat) : decide (sgn a = sgn b) = decide (a = b) := decide_eq_decide.mpr ⟨fun h => by
  have h := V.str.inj h
  have := congrArg (fun t : Str => t.cps.toList) h
  exact (List.cons.inj this).1, fun h => by rw [h]⟩
theorem RowsV.row {H : Hp} {vs : List V} {L : List (List Nat × V)} {n : Nat} {x : V} (hl : vs.length = L.length) (h : ∀ (i : Nat) (r : List Nat × V), L[i]? = some r → ∃ b : Addr, vs[i]? = some (.ref b) ∧ H b = some (.tup (rowV r))) (hx : vs[n]? = some x) : ∃ (r : List Nat × V) (b : Addr), L[n]? = some r ∧ x = .ref b ∧ H b = some (.tup (rowV r)) := by
  have hn := (List.getElem?_eq_some_iff.mp hx).1
  have g : L[n]? = some L[n] := List.getElem?_eq_getElem (by omega)
  obtain ⟨b, e1, e2⟩ := h n _ g
  rw [hx] at e1
  exact ⟨_, b, g, Option.some.inj e1, e2⟩
theorem map_at2 {α β : Type} {f : α → β} {l : List α} {i : Nat} {y : β} (h : (l.map f)[i]? = some y) : ∃ x, l[i]? = some x ∧ y = f x := by
  obtain ⟨x, e1, e2⟩ := at_map h
  exact ⟨x, e1, e2.symm⟩
section
variable {P : Program} {w : World} {K : PySem.W.Frag} {mg : Str → Option Value} {base : Heap}
def spLawPiece : Sp := fun vs H Q _ => ∃ (v : V) (S : Sty) (zs : List Nat) (i j : Nat), vs = [v, sV zs, .int (i : Int), .int (j : Int)] ∧ StyV H v S ∧ StyOk S ∧ WdOk zs ∧ i ≤ j ∧ j ≤ zs.length ∧ Q (sV (pieceN S zs i j)) H
def partN (S : Sty) (zs : List Nat) (i j n : Nat) : List Nat := (List.range' i n).flatMap (fun k => zs.getD k 0 :: List.replicate (wAt S zs j k - 1) 95)
theorem partN_len {S : Sty} (h : StyOk S) (zs : List Nat) (i j n : Nat) : (partN S zs i j n).length ≤ 3 * n := by
  unfold partN
  have : ∀ l : List Nat, (l.flatMap (fun k => zs.getD k 0 :: List.replicate (wAt S zs j k - 1) 95)).length ≤ 3 * l.length := by
    intro l
    induction l with
    | nil => exact Nat.le_refl _
    | cons a r ih =>
      rw [List.flatMap_cons, List.length_append, List.length_cons, List.length_replicate, List.length_cons]
      have := wAt_bd h zs j a
      omega
  have := this (List.range' i n)
  rw [List.length_range'] at this
  exact this
theorem ok_law_piece (T : Txt K mg) : FnOk P w K mg base CX0 1 T.a_law_piece T.d_law_piece ["_law_style_here", "_law_word_here", "_law_first", "_law_behind"] spLawPiece := by
  refine T.D_law_piece.F.ok sc_law_piece (fun vs H Q E h => ?_) (fun cdv A outer s H vs Q E hr h => ?_)
  · obtain ⟨v, S, zs, k, j, rfl, _⟩ := h
    rfl
  · obtain ⟨v, S, zs, i, j, rfl, ⟨a, wv, cv, bv, pv_, rfl, e, ⟨wa, ws, rfl, ew, lw, hW⟩, ⟨ca, cs, rfl, ec, lc, hC⟩, h3⟩, ok, wd, hij, hj, q⟩ := h
    refine ⟨_, (pss_cons (ps_set (i := 4) sc_law_piece.nd rfl (.inl rfl) pe_str)
      (pss_cons (ps_for PassesOwn.never rfl (pi_range2 (by rfl) T.n_range (pa_cons (pv 2) (pa_cons (pv 3) pa_nil))) (pg_name (i := 5) sc_law_piece.nd rfl (.inl rfl)) (pss_cons (ps_set (i := 6) sc_law_piece.nd rfl (.inl rfl) pe_int)
      (pss_cons (ps_for PassesOwn.never rfl (pi_tup (pe_ix ix_tup (pv 0) pe_int (fun _ _ => rfl))) (pg_tup (by rfl) (pgs_cons (pg_name (i := 7) sc_law_piece.nd rfl (.inl rfl)) (pgs_cons (pg_name (i := 8) sc_law_piece.nd rfl (.inl rfl)) pgs_nil))) (pss_one (ps_if (pt_cmpR op_eq (pv 7) (pe_ix ix_str (pv 1) (pv 5) (fun _ _ => rfl)) (nomark _)) (pss_one (ps_set (i := 6) sc_law_piece.nd rfl (.inl rfl) (pv 8))) pss_nil)))
      (pss_cons (ps_for PassesOwn.never rfl (pi_tup (pe_ix ix_tup (pv 0) pe_int (fun _ _ => rfl))) (pg_tup (by rfl) (pgs_cons (pg_name (i := 7) sc_law_piece.nd rfl (.inl rfl)) (pgs_cons (pg_name (i := 9) sc_law_piece.nd rfl (.inl rfl)) (pgs_cons (pg_name (i := 10) sc_law_piece.nd rfl (.inl rfl)) pgs_nil)))) (pss_one (ps_if (PW.pt (pw_and (pt_cmpR op_eq (pv 7) (pe_ix ix_str (pv 1) (pv 5) (fun _ _ => rfl)) (nomark _)) (pw_and1 (pt_cmpR op_eq (pe_slice sl_str (pe_slice sl_str (pv 1) (po_some (pe_op op_add (pv 5) pe_int)) (po_some (pv 3))) po_none (po_some pe_int)) (pv 9) (nomark _))))) (pss_one (ps_set (i := 6) sc_law_piece.nd rfl (.inl rfl) (pe_op op_sub (pv 6) (pv 10)))) pss_nil)))
      (pss_one (ps_set (i := 4) sc_law_piece.nd rfl (.inl rfl) (pe_op op_add_str (pe_op op_add_str (pv 4) (pe_ix ix_str (pv 1) (pv 5) (fun _ _ => rfl))) (pe_op op_mul_str pe_str (pe_op op_sub (pv 6) pe_int)))))))))
      (pss_one (ps_ret (pe_ifExp (pt_cmpR op_lt (pv 3) (pe_callB call_len_str (by rfl) T.n_len PySem.boot_len (pa_cons (pv 1) pa_nil)) (nomark _)) (pe_op op_add_str (pv 4) pe_str) (pv 4)))))), ?_⟩
    have hb : (mkS zs).length ≤ sizeLine := by rw [mkS_len]; exact big_ok (by have := wd.len; omega)
    have hl := wd.len
    refine ⟨_, rfl, _, rfl, i, j, rfl, ⟨by omega, by omega, by omega, by omega⟩, ?_⟩
    have en : ((j : Int) - (i : Int)).toNat = j - i := by omega
    rw [en]
    refine for_it walk_range (fun n σ' H' => H' = H ∧ ∃ (x5 x6 x7 x8 x9 x10 : Option V), σ' = [some (.ref a), some (sV zs), some (.int (i : Int)), some (.int (j : Int)), some (sV (partN S zs i j n)), x5, x6, x7, x8, x9, x10]) ⟨rfl, none, none, none, none, none, none, rfl⟩ (fun _ _ _ _ _ => trivial) ?_ ?_
    · rintro n x σ' H' H'' hn ⟨rfl, x5, x6, x7, x8, x9, x10, rfl⟩ ⟨rfl, hx⟩
      have hx : x = .int ((i + n : Nat) : Int) := hx
      subst hx
      have g0 := wd.at (show i + n < zs.length by omega)
      refine ⟨_, rfl, a, _, _, _, rfl, rfl, SqT.of e, rfl, wa, rfl, ⟨ws, SqT.of ew⟩, ?_⟩
      refine for_it (walk_tup (K := K) (a := wa) (xs := ws)) (fun m σ' H2 => H2 = H'' ∧ ∃ (x7 x8 : Option V), σ' = [some (.ref a), some (sV zs), some (.int (i : Int)), some (.int (j : Int)), some (sV (partN S zs i j n)), some (.int ((i + n : Nat) : Int)), some (natV (wOf (S.W.take m) (zs.getD (i + n) 0))), x7, x8, x9, x10]) ⟨rfl, x7, x8, rfl⟩ (fun _ _ _ _ h => by rw [h.1]; exact SqT.of ew) ?_ ?_
      · rintro m x σ' H2 H3 hm ⟨rfl, x7, x8, rfl⟩ ⟨rfl, hx⟩
        obtain ⟨r, b, hr1, rfl, hb1⟩ := RowsV.row lw hW hx
        obtain ⟨r, hr2, rfl⟩ := map_at2 hr1
        refine ⟨b, _, rfl, SqT.of hb1, rfl, _, _, rfl, _, _, rfl, rfl, ?_⟩
        refine ⟨_, rfl, _, rfl, _, rfl, mkS zs, _, _, rfl, rfl, hb, atI_nat g0.1, rfl, decide (r.1 = zs.getD (i + n) 0), congrArg V.bl (sgn_eq _ _), ite2 (fun c => ?_) (fun c => ?_)⟩
        · have c := of_decide_eq_true c
          refine ⟨_, rfl, rfl, some (sgn r.1), some (natV r.2), ?_⟩
          rw [wOf_snoc ok hr2, if_pos c]; rfl
        · have c : ¬ r.1 = zs.getD (i + n) 0 := fun z => c (decide_eq_true z)
          refine ⟨rfl, some (sgn r.1), some (natV r.2), ?_⟩
          rw [wOf_snoc ok hr2, if_neg c]; rfl
      · rintro σ' H2 ⟨rfl, x7, x8, rfl⟩
        have el : S.W.take ws.length = S.W := List.take_of_length_le (by rw [lw, len_rW]; exact Nat.le_refl _)
        rw [el]
        refine ⟨_, rfl, a, _, _, _, rfl, rfl, SqT.of e, rfl, ca, rfl, ⟨cs, SqT.of ec⟩, ?_⟩
        refine for_it (walk_tup (K := K) (a := ca) (xs := cs)) (fun m σ' H3 => H3 = H2 ∧ ∃ (x7 x8 x9 x10 : Option V), σ' = [some (.ref a), some (sV zs), some (.int (i : Int)), some (.int (j : Int)), some (sV (partN S zs i j n)), some (.int ((i + n : Nat) : Int)), some (.int ((wOf S.W (zs.getD (i + n) 0) : Int) - ((if i + n + 1 < j then cutOf (S.C.take m) (zs.getD (i + n) 0) (zs.getD (i + n + 1) 0) else 0 : Nat) : Int))), x7, x8, x9, x10]) ⟨rfl, x7, x8, x9, x10, ?_⟩ (fun _ _ _ _ h => by rw [h.1]; exact SqT.of ec) ?_ ?_
        · have : (if i + n + 1 < j then cutOf (S.C.take 0) (zs.getD (i + n) 0) (zs.getD (i + n + 1) 0) else 0) = 0 := by
            by_cases c : i + n + 1 < j
            · rw [if_pos c]; rfl
            · rw [if_neg c]
          rw [this]
          show _ = [_, _, _, _, _, _, some (V.int ((wOf S.W (zs.getD (i + n) 0) : Int) - 0)), _, _, _, _]
          rw [Int.sub_zero]; rfl
        · rintro m x σ' H3 H4 hm ⟨rfl, x7, x8, x9, x10, rfl⟩ ⟨rfl, hx⟩
          obtain ⟨r, b, hr1, rfl, hb1⟩ := RowsV.row lc hC hx
          obtain ⟨r, hr2, rfl⟩ := map_at2 hr1
          have en2 := cutOf_snoc ok.sc hr2 (zs.getD (i + n) 0) (zs.getD (i + n + 1) 0)
          have en3 : ¬ r.1 = (zs.getD (i + n) 0, zs.getD (i + n + 1) 0) → cutOf (S.C.take (m + 1)) (zs.getD (i + n) 0) (zs.getD (i + n + 1) 0) = cutOf (S.C.take m) (zs.getD (i + n) 0) (zs.getD (i + n + 1) 0) := fun h => by rw [en2, if_neg h, Nat.zero_add]
          refine ⟨b, _, rfl, SqT.of hb1, rfl, _, _, rfl, _, _, rfl, _, _, rfl, rfl, ?_⟩
          refine ⟨_, rfl, _, rfl, _, rfl, mkS zs, _, _, rfl, rfl, hb, atI_nat g0.1, rfl, decide (r.1.1 = zs.getD (i + n) 0), congrArg V.bl (sgn_eq _ _), ?_⟩
          by_cases c : r.1.1 = zs.getD (i + n) 0
          · rw [decide_eq_true c]
            have ek : ((i + n : Nat) : Int) + 1 = ((i + n + 1 : Nat) : Int) := rfl
            refine ⟨_, rfl, _, rfl, _, _, rfl, rfl, _, rfl, _, rfl, _, rfl, mkS zs, rfl, hb, ?_⟩
            rw [ek, cutMid (show i + n + 1 ≤ zs.length by omega) hj]
            refine ⟨_, rfl, _, rfl, by rw [mkS_len, List.length_take, List.length_drop]; exact big_ok (by omega), ?_⟩
            rw [cutOne]
            by_cases c2 : i + n + 1 < j
            · have g1 : zs[i + n + 1]? = some (zs.getD (i + n + 1) 0) := (wd.at (show i + n + 1 < zs.length by omega)).1
              have e5 : ((zs.drop (i + n + 1)).take (j - (i + n + 1))).take 1 = [zs.getD (i + n + 1) 0] := by
                rw [drop_y g1, List.take_take, Nat.min_eq_left (by omega), List.take_succ_cons, List.take_zero]
              rw [e5]
              refine ⟨_, rfl, rfl, decide (zs.getD (i + n + 1) 0 = r.1.2), congrArg V.bl (sgn_eq _ _), ite2 (fun c3 => ?_) (fun c3 => ?_)⟩
              · have c3 := of_decide_eq_true c3
                have ev : (wOf S.W (zs.getD (i + n) 0) : Int) - ((if i + n + 1 < j then cutOf (S.C.take m) (zs.getD (i + n) 0) (zs.getD (i + n + 1) 0) else 0 : Nat) : Int) - (r.2 : Int) = (wOf S.W (zs.getD (i + n) 0) : Int) - ((if i + n + 1 < j then cutOf (S.C.take (m + 1)) (zs.getD (i + n) 0) (zs.getD (i + n + 1) 0) else 0 : Nat) : Int) := by
                  rw [if_pos c2, if_pos c2, en2, if_pos (Prod.ext c c3.symm)]
                  omega
                refine ⟨_, rfl, _, rfl, _, _, rfl, rfl, rfl, some (sgn r.1.1), x8, some (sgn r.1.2), some (natV r.2), ?_⟩
                rw [← ev]; rfl
              · refine ⟨rfl, some (sgn r.1.1), x8, some (sgn r.1.2), some (natV r.2), ?_⟩
                rw [en3 (fun z => c3 (decide_eq_true (by rw [z])))]; rfl
            · have e5 : ((zs.drop (i + n + 1)).take (j - (i + n + 1))).take 1 = [] := by
                rw [show j - (i + n + 1) = 0 by omega, List.take_zero]; rfl
              rw [e5]
              refine ⟨_, rfl, rfl, false, bF (fun z => ?_), rfl, some (sgn r.1.1), x8, some (sgn r.1.2), some (natV r.2), ?_⟩
              · have z := congrArg (fun t : Str => t.cps.toList) (V.str.inj z)
                cases z
              · rw [if_neg c2, if_neg c2]; rfl
          · rw [decide_eq_false c]
            refine ⟨rfl, some (sgn r.1.1), x8, some (sgn r.1.2), some (natV r.2), ?_⟩
            rw [en3 (fun z => c (by rw [z]))]; rfl
        · rintro σ' H3 ⟨rfl, x7, x8, x9, x10, rfl⟩
          have el2 : S.C.take cs.length = S.C := List.take_of_length_le (by rw [lc, len_r2]; exact Nat.le_refl _)
          rw [el2]
          have ew2 : (wOf S.W (zs.getD (i + n) 0) : Int) - ((if i + n + 1 < j then cutOf S.C (zs.getD (i + n) 0) (zs.getD (i + n + 1) 0) else 0 : Nat) : Int) = ((wAt S zs j (i + n) : Nat) : Int) := by
            unfold wAt
            by_cases c : i + n + 1 < j
            · rw [if_pos c, if_pos c]
              have := cut_lt ok (zs.getD (i + n) 0) (zs.getD (i + n + 1) 0)
              omega
            · rw [if_neg c, if_neg c]; omega
          rw [ew2]
          have wb := wAt_bd ok zs j (i + n)
          obtain ⟨u, eu, hu⟩ : ∃ u : Nat, wAt S zs j (i + n) = u + 1 ∧ u ≤ 2 := ⟨wAt S zs j (i + n) - 1, by omega, by omega⟩
          have pl := partN_len ok zs i j n
          have mf := mul_fill hu
          refine ⟨_, rfl, _, rfl, _, rfl, mkS zs, _, _, rfl, rfl, hb, atI_nat g0.1, mkS (partN S zs i j n), mkS [zs.getD (i + n) 0], rfl, rfl, by rw [mkS_len, mkS_len]; exact big_ok (by show _ + 1 ≤ _; omega), ?_⟩
          refine ⟨_, rfl, _, _, rfl, rfl, _, _, rfl, rfl, by rw [eu]; show MulOk _ ((u : Int) + 1 - 1); rw [Int.add_sub_cancel]; exact mf.1, ?_⟩
          rw [eu]
          have e9 : ((u + 1 : Nat) : Int) - 1 = (u : Int) := by omega
          rw [e9, mf.2, mkS_app]
          refine ⟨_, _, rfl, rfl, ?_, ?_⟩
          · rw [mkS_len, mkS_len, List.length_append, List.length_replicate]; exact big_ok (by show _ + 1 + _ ≤ _; omega)
          · have e6 : partN S zs i j (n + 1) = partN S zs i j n ++ [zs.getD (i + n) 0] ++ List.replicate u 95 := by
              unfold partN
              rw [List.range'_1_concat, List.flatMap_append, List.append_assoc]
              congr 1
              show (zs.getD (i + n) 0 :: List.replicate (wAt S zs j (i + n) - 1) 95) ++ [] = _
              rw [eu, List.append_nil]; rfl
            refine ⟨rfl, some (.int ((i + n : Nat) : Int)), some (.int ((u + 1 : Nat) : Int)), x7, x8, x9, x10, ?_⟩
            rw [e6]
            have e7 : sV (partN S zs i j n ++ [zs.getD (i + n) 0] ++ List.replicate u 95) = V.str (mkS (partN S zs i j n ++ [zs.getD (i + n) 0]) ++ mkS (List.replicate u 95)) := by rw [mkS_app]; rfl
            rw [e7]; rfl
    · rintro σ' H' ⟨rfl, x5, x6, x7, x8, x9, x10, rfl⟩
      have pl := partN_len ok zs i j (j - i)
      refine ⟨_, rfl, _, rfl, mkS zs, rfl, hb, _, _, rfl, rfl, _, rfl, ite2 (fun c => ?_) (fun c => ?_)⟩
      · have c := of_decide_eq_true c
        rw [mkS_len] at c
        refine ⟨_, rfl, mkS (partN S zs i j (j - i)), _, rfl, rfl, by rw [mkS_len]; exact big_ok (by show _ + 1 ≤ _; omega), ?_⟩
        have e1 : pieceN S zs i j = partN S zs i j (j - i) ++ [45] := by
          unfold pieceN partN
          rw [if_pos (by omega)]
        rw [e1] at q
        have e2 : sV (partN S zs i j (j - i) ++ [45]) = V.str (mkS (partN S zs i j (j - i)) ++ mkS [45]) := by rw [mkS_app]; rfl
        rw [e2] at q
        exact q
      · have e1 : pieceN S zs i j = partN S zs i j (j - i) := by
          unfold pieceN partN
          rw [if_neg fun z => c (decide_eq_true (by rw [mkS_len]; omega)), List.append_nil]
        rw [e1] at q
        exact ⟨_, rfl, q⟩
end
end Vf

set_option Elab.async false
set_option linter.all false
set_option maxRecDepth 100000
set_option maxHeartbeats 4000000
namespace Vf
open PySem PySem.Spec PyProof.Rows L2 TL
/-- what the list of a comprehension holds: texts -/
def PvS (R : List Nat → Prop) (d l : Addr) (H : Hp) (D : Addr) (i : Nat) (H' : Hp) : Prop :=
  ∃ zss : List (List Nat), zss.length = i ∧ (∀ zs ∈ zss, R zs) ∧ Kp d H H' ∧ DI d l H' ∧ H' D = some (.lst (zss.map sV))
theorem PvS.start {R : List Nat → Prop} {d l D : Addr} {H : Hp} (hD : DI d l H) (nD : H D = none) : PvS R d l H D 0 (upd H D (.lst [])) :=
  ⟨[], rfl, (fun _ h => nomatch h), (Kp.refl d H).new nD, hD.new nD, upd_same⟩
theorem PvS.dice {R : List Nat → Prop} {d l D : Addr} {H H1 : Hp} {i : Nat} (p : PvS R d l H D i H1) : DI d l H1 := by
  obtain ⟨_, _, _, _, h, _⟩ := p
  exact h
theorem PvS.step {R : List Nat → Prop} {d l D : Addr} {H H1 H2 : Hp} {i : Nat} {zs : List Nat} (hD : DI d l H) (nD : H D = none) (p : PvS R d l H D i H1) (hi : i < 100000) (K2 : Kp d H1 H2) (D2 : DI d l H2) (r : R zs) :
    ∃ acc, H2 D = some (.lst acc) ∧ acc.length < sizeLine ∧ PvS R d l H D (i + 1) (upd H2 D (.lst (acc ++ [sV zs]))) := by
  obtain ⟨zss, hl, hR, K1, D1, e1⟩ := p
  have n1 := hD.nd nD
  have e2 : H2 D = some (.lst (zss.map sV)) := K2 _ _ n1.1 e1
  refine ⟨_, e2, ?_, zss ++ [zs], ?_, ?_, (K1.trans K2).mut nD, D2.at n1.1 n1.2, ?_⟩
  · rw [List.length_map, hl]
    exact Nat.lt_of_lt_of_le hi (by decide)
  · rw [List.length_append, hl]; rfl
  · intro z hz
    rcases List.mem_append.mp hz with h | h
    · exact hR z h
    · rw [List.mem_singleton.mp h]; exact r
  · rw [upd_same, List.map_append]; rfl
section
variable {P : Program} {w : World} {K : PySem.W.Frag} {mg : Str → Option Value} {base : Heap}
/-! ### pick, rare -/
/-- what is picked from -/
def Row (K : PySem.W.Frag) (H : Hp) (d : Addr) (row : V) (xs : List V) : Prop :=
  (∃ a, row = .ref a ∧ a ≠ d ∧ SqL K H a xs) ∨ ∃ zs, row = sV zs ∧ xs = zs.map fun c => sV [c]
def spPick (K : PySem.W.Frag) : Sp := fun vs H Q _ => ∃ (d l : Addr) (row : V) (xs : List V), vs = [.ref d, row] ∧ DI d l H ∧ Row K H d row xs ∧ 0 < xs.length ∧ xs.length ≤ 1000 ∧
  ∀ H' v, Kp d H H' → DI d l H' → v ∈ xs → Q v H'
theorem at_draw {xs : List V} {r : Int} (h : 0 < xs.length) (h1 : (xs.length : Int) < 2 → r = 0) (h2 : 2 ≤ (xs.length : Int) → 0 ≤ r ∧ r < (xs.length : Int)) :
    ∃ (j : Nat) (hj : j < xs.length), r = (j : Int) := by
  by_cases h3 : 2 ≤ (xs.length : Int)
  · have ⟨a, b⟩ := h2 h3
    exact ⟨r.toNat, by omega, by omega⟩
  · exact ⟨0, h, by rw [h1 (by omega)]; rfl⟩
theorem ok_pick (T : Txt K mg) : FnOk P w K mg base CX0 2 T.a_law_pick T.d_law_pick ["_law_d", "_law_row"] (spPick K) := by
  have G_law_draw : FnOk P w K mg base CX0 1 T.a_law_draw T.d_law_draw ["_law_d", "_law_many"] spDraw := ok_draw T
  refine T.D_law_pick.F.ok sc_law_pick (fun vs H Q E h => ?_) (fun cdv A outer s H vs Q E hr h => ?_)
  · obtain ⟨d, l, row, xs, rfl, _⟩ := h
    rfl
  · obtain ⟨d, l, row, xs, rfl, hD, hR, h0, hx, q⟩ := h
    refine ⟨_, (pss_one (ps_ret (pe_ix ix_seq (pv 1) (pe_call G_law_draw (hr.mono (by decide)) (by rfl) T.D_law_draw.G T.D_law_draw.F.kp T.D_law_draw.B .nil pass0 (pa_cons (pv 0) (pa_cons (pe_callB call_len (by rfl) T.n_len PySem.boot_len (pa_cons (pv 1) pa_nil)) pa_nil))) (fun _ _ => rfl)))), ?_⟩
    have hlen : LenV K row H xs.length := by
      rcases hR with ⟨a, rfl, _, hS⟩ | ⟨zs, rfl, rfl⟩
      · exact .inl ⟨_, hS, rfl⟩
      · rw [List.length_map] at hx ⊢
        refine ⟨?_, (mkS_len zs).symm⟩
        rw [mkS_len]
        exact Nat.le_trans hx (by decide)
    refine ⟨_, rfl, _, rfl, _, rfl, _, _, rfl, hlen, d, l, _, rfl, hD, by omega, fun H' r k D' e1 e2 => ?_⟩
    obtain ⟨j, hj, rfl⟩ := at_draw h0 e1 e2
    rcases hR with ⟨a, rfl, nd, hS⟩ | ⟨zs, rfl, rfl⟩
    · exact .inl ⟨a, xs, _, xs[j], rfl, rfl, k.sq nd hS, atI_nat (List.getElem?_eq_getElem hj), q H' _ k D' (List.getElem_mem hj)⟩
    · have hj2 : j < zs.length := by rw [List.length_map] at hj; exact hj
      refine .inr (.inr ⟨mkS zs, _, zs[j], rfl, rfl, ?_, ?_, q H' _ k D' (List.mem_map.mpr ⟨zs[j], List.getElem_mem hj2, rfl⟩)⟩)
      · rw [mkS_len]; rw [List.length_map] at hx; exact Nat.le_trans hx (by decide)
      · rw [mkS_cps]; exact atI_nat (List.getElem?_eq_getElem hj2)
def spRare : Sp := fun vs H Q _ => ∃ (d l : Addr) (m : Int), vs = [.ref d, .int m] ∧ DI d l H ∧ m ≤ 1000000 ∧ ∀ H' b, Kp d H H' → DI d l H' → Q (.bl b) H'
/-! ### run, word -/
def spRun : Sp := fun vs H Q _ => ∃ (d l : Addr) (cs : List Nat) (n : Int), vs = [.ref d, sV cs, .int n] ∧ DI d l H ∧ 0 < cs.length ∧ cs.length ≤ 1000 ∧ 0 ≤ n ∧ n ≤ 1000 ∧
  ∀ H' zs, Kp d H H' → DI d l H' → (zs.length : Int) = n → (∀ c ∈ zs, c ∈ cs) → Q (sV zs) H'
/-- texts of one sign each -/
def One (cs zs : List Nat) : Prop := ∃ c, zs = [c] ∧ c ∈ cs
theorem one_flat {cs : List Nat} : ∀ {zss : List (List Nat)}, (∀ z ∈ zss, One cs z) → zss.flatten.length = zss.length ∧ ∀ c ∈ zss.flatten, c ∈ cs
  | [], _ => ⟨rfl, fun _ h => nomatch h⟩
  | z :: r, h => by
    obtain ⟨c, rfl, hc⟩ := h z List.mem_cons_self
    have ⟨a, b⟩ := one_flat (zss := r) fun y hy => h y (List.mem_cons_of_mem _ hy)
    rw [List.flatten_cons]
    refine ⟨by rw [List.length_append, a]; show 1 + r.length = r.length + 1; omega, fun x hx => ?_⟩
    rcases List.mem_append.mp hx with e | e
    · rw [List.mem_singleton.mp e]; exact hc
    · exact b x e
theorem pick_one {d l : Addr} {cs : List Nat} {H : Hp} {Q : VK} (hD : DI d l H) (h0 : 0 < cs.length) (hx : cs.length ≤ 1000) (q : ∀ H' zs, Kp d H H' → DI d l H' → One cs zs → Q (sV zs) H') : spPick K [.ref d, sV cs] H Q E0 := by
  refine ⟨d, l, _, _, rfl, hD, .inr ⟨cs, rfl, rfl⟩, by rw [List.length_map]; exact h0, by rw [List.length_map]; exact hx, fun H' v k D' hv => ?_⟩
  obtain ⟨c, hc, rfl⟩ := List.mem_map.mp hv
  exact q H' _ k D' ⟨c, rfl, hc⟩
def spWord : Sp := fun vs H Q _ => ∃ (d l : Addr) (lo hi : Int), vs = [.ref d, .int lo, .int hi] ∧ DI d l H ∧ 0 ≤ lo ∧ lo ≤ hi ∧ hi ≤ 900 ∧
  ∀ H' zs, Kp d H H' → DI d l H' → lo ≤ (zs.length : Int) → (zs.length : Int) ≤ hi → (∀ c ∈ zs, cW c = true) → Q (sV zs) H'
theorem ok_word (T : Txt K mg) : FnOk P w K mg base CX0 3 T.a_law_word T.d_law_word ["_law_d", "_law_low", "_law_high"] spWord := by
  have G_law_draw : FnOk P w K mg base CX0 1 T.a_law_draw T.d_law_draw ["_law_d", "_law_many"] spDraw := ok_draw T
  have G_law_pick : FnOk P w K mg base CX0 2 T.a_law_pick T.d_law_pick ["_law_d", "_law_row"] (spPick K) := ok_pick T
  refine T.D_law_word.F.ok sc_law_word (fun vs H Q E h => ?_) (fun cdv A outer s H vs Q E hr h => ?_)
  · obtain ⟨d, l, lo, hi, rfl, _⟩ := h
    rfl
  · obtain ⟨d, l, lo, hi, rfl, hD, h0, hlo, hhi, q⟩ := h
    refine ⟨_, (pss_cons (ps_set (i := 3) sc_law_word.nd rfl (.inl rfl) (pe_op op_add (pv 1) (pe_call G_law_draw (hr.mono (by decide)) (by rfl) T.D_law_draw.G T.D_law_draw.F.kp T.D_law_draw.B .nil pass0 (pa_cons (pv 0) (pa_cons (pe_op op_add (pe_op op_sub (pv 2) (pv 1)) pe_int) pa_nil)))))
      (pss_cons (ps_set (i := 4) sc_law_word.nd rfl (.inr rfl) (pe_call G_law_pick (hr.mono (by decide)) (by rfl) T.D_law_pick.G T.D_law_pick.F.kp T.D_law_pick.B .nil pass0 (pa_cons (pv 0) (pa_cons (pe_lst (pa_cons pe_str (pa_cons pe_str (pa_cons pe_str (pa_cons pe_str (pa_cons pe_str (pa_cons pe_str pa_nil))))))) pa_nil))))
      (pss_one (ps_ret (pe_join pe_str (pe_lc (own := [("_law_k", 5)]) (g := gName 5) (tt := tYes) rfl sc_law_word.nd (pi_range1 (by rfl) T.n_range (pa_cons (pv 3) pa_nil)) (blkOk_by (own := [("_law_k", 5)]) (N := ["_law_d", "_law_low", "_law_high", "_law_long", "_law_signs", "_law_k"]) (sc := (defScope s_law_word)) (by decide +kernel)) (fun _ _ _ _ _ => (pg_name (i := 5) sc_law_word.nd rfl (.inl rfl))) (fun _ _ _ _ _ => pts_nil) (fun _ _ _ _ _ => (pe_call G_law_pick (hr.mono (by decide)) (by rfl) T.D_law_pick.G T.D_law_pick.F.kp T.D_law_pick.B .nil pass0 (pa_cons (pv 0) (pa_cons (pv 4) pa_nil)))))))))), ?_⟩
    refine ⟨_, rfl, _, rfl, _, rfl, _, rfl, _, _, rfl, rfl, _, _, rfl, rfl, d, l, _, rfl, hD, by omega, fun H1 r K1 D1 r1 r2 => ?_⟩
    have hr0 : 0 ≤ r ∧ r ≤ hi - lo := by
      by_cases z : hi - lo + 1 < 2
      · have := r1 z; omega
      · have := r2 (by omega); omega
    refine ⟨_, _, rfl, rfl, ?_⟩
    refine ⟨_, rfl, ⟨by show 6 ≤ sizeLine; decide, fun p np => ?_⟩⟩
    refine ⟨d, l, _, _, rfl, D1.new np, .inl ⟨p, rfl, (D1.nd np).1, SqL.of upd_same⟩, by show 0 < 6; decide, by show 6 ≤ 1000; decide, fun H2 v K2 D2 hv => ?_⟩
    have hz : ∃ z : Str, v = .str z ∧ (0 < z.cps.toList.length ∧ z.cps.toList.length ≤ 1000 ∧ z.cps.toList.all cW = true) := by
      simp only [List.mem_cons, List.not_mem_nil, or_false] at hv
      rcases hv with rfl | rfl | rfl | rfl | rfl | rfl <;> exact ⟨_, rfl, by decide +kernel⟩
    obtain ⟨z, rfl, hz0, hz1, hz2⟩ := hz
    have K3 : Kp d H H2 := (K1.new np).trans K2
    refine ⟨⟨_, rfl⟩, _, rfl, _, rfl, by omega, by omega, ?_⟩
    refine fun D nD => lc_range (lo := 0) (n := (lo + r).toNat) (PvS (One z.cps.toList) d l H2 D) (PvS.start D2 nD) (fun i H1 hi p => ⟨rfl, ?_⟩) (fun H' p => ?_)
    · exact ⟨_, rfl, _, rfl, pick_one (cs := z.cps.toList) p.dice hz0 hz1 fun H2 zs k2 d2 r => p.step D2 nD (by omega) k2 d2 r⟩
    · obtain ⟨zss, hl, hR, K4, D4, e1⟩ := p
      have ⟨f1, f2⟩ := one_flat hR
      refine ⟨_, D, zss.map mkS, rfl, rfl, .inl (SqL.of (by rw [e1, map_sV])), ?_, ?_⟩
      · rw [sum_len, f1, show (("" : Str)).length = 0 from by rw [empty_mk, mkS_len]; rfl]; omega
      · rw [join_mk]
        exact q H' _ (K3.trans K4) D4 (by rw [f1, hl]; omega) (by rw [f1, hl]; omega) fun c hc => List.all_eq_true.mp hz2 c (f2 c hc)
end
end Vf

set_option Elab.async false
set_option linter.all false
set_option maxRecDepth 100000
set_option maxHeartbeats 4000000
namespace Vf
open PySem PySem.Spec PyProof.Rows L2 TL
/-- texts that the dice make, no argument but the dice -/
def spStr (R : List Nat → Prop) : Sp := fun vs H Q _ => ∃ (d l : Addr), vs = [.ref d] ∧ DI d l H ∧ ∀ H' zs, Kp d H H' → DI d l H' → R zs → Q (sV zs) H'
def spC (z : Str) : Sp := fun vs H Q _ => vs = [] ∧ Q (.str z) H
def RWord (zs : List Nat) : Prop := zs ≠ [] ∧ zs.length ≤ 16 ∧ ∀ c ∈ zs, cW c = true
def RName (zs : List Nat) : Prop := zs ≠ [] ∧ zs.length ≤ 8 ∧ ∀ c ∈ zs, cL c = true
def RTok (zs : List Nat) : Prop := Tk zs ∧ zs.length ≤ 60
theorem ne_of_len {zs : List Nat} {n : Int} (h : (zs.length : Int) = n) (h0 : 0 < n) : zs ≠ [] := fun e => by
  rw [e] at h
  have : (([] : List Nat).length : Int) = 0 := rfl
  omega
theorem mem_cW {c : Nat} (h : c ∈ sW.cps.toList) : cW c = true := decide_eq_true h
theorem mem_cL {c : Nat} (h : c ∈ sL.cps.toList) : cL c = true := decide_eq_true h
theorem sW_n : sW.cps.toList.length = 51 := by decide +kernel
theorem sL_n : sL.cps.toList.length = 26 := by decide +kernel
theorem sOdd_n : sOdd.cps.toList.length = 39 := by decide +kernel
def sNames : Str := ("let hole page note key head par list item table row cell show over up low fence grid line" : Str) ++ (" figure label contents index" : Str)
theorem names_ok : ∀ y ∈ Txt.split sNames (" " : Str), (y.cps.toList.length ≠ 0 ∧ y.cps.toList.length ≤ 8) ∧ y.cps.toList.all cL = true := by decide +kernel
theorem names_n : 0 < (Txt.split sNames (" " : Str)).length ∧ (Txt.split sNames (" " : Str)).length ≤ 1000 := by decide +kernel
section
variable {P : Program} {w : World} {K : PySem.W.Frag} {mg : Str → Option Value} {base : Heap}
end
end Vf

set_option Elab.async false
set_option linter.all false
set_option maxRecDepth 100000
set_option maxHeartbeats 4000000
namespace Vf
open PySem PySem.Spec PyProof.Rows L2 TL
/-- two values are the same data, at most n - 1 tuples deep -/
def Eqv : Nat → Hp → V → V → Prop
  | 0, _, _, _ => False
  | n + 1, H, v, u => ((∃ z, v = .str z ∧ u = .str z) ∨ (∃ i, v = .int i ∧ u = .int i) ∨ (v = .non ∧ u = .non)) ∨
      ∃ (a b : Addr) (xs ys : List V), v = .ref a ∧ u = .ref b ∧ H a = some (.tup xs) ∧ H b = some (.tup ys) ∧ xs.length = ys.length ∧ xs.length ≤ 100000 ∧ ∀ (i : Nat) x y, xs[i]? = some x → ys[i]? = some y → Eqv n H x y
def spExact (n : Nat) : Sp := fun vs H Q _ => ∃ (v u : V), vs = [v, u] ∧ Eqv n H v u ∧ Q (.bl true) H
theorem eq_self {H : Hp} {Q : VK} {x : V} (q : Q (.bl true) H) : Q (.bl (decide (x = x))) H := by
  rw [decide_eq_true rfl]; exact q
section
variable {P : Program} {w : World} {K : PySem.W.Frag} {mg : Str → Option Value} {base : Heap}
theorem ok_exact (T : Txt K mg) : ∀ n : Nat, FnOk P w K mg base CX0 (n + 1) T.a_law_exact T.d_law_exact ["_law_told", "_law_due"] (spExact n)
  | 0 => by
    refine T.D_law_exact.F.ok sc_law_exact (fun vs H Q E h => ?_) (fun cdv A outer s H vs Q E hr h => ?_)
    · obtain ⟨v, u, rfl, _⟩ := h
      rfl
    · obtain ⟨v, u, rfl, hE, q⟩ := h
      exact hE.elim
  | n + 1 => by
    have G_law_exact : FnOk P w K mg base CX0 (n + 1) T.a_law_exact T.d_law_exact ["_law_told", "_law_due"] (spExact n) := ok_exact T n
    refine T.D_law_exact.F.ok sc_law_exact (fun vs H Q E h => ?_) (fun cdv A outer s H vs Q E hr h => ?_)
    · obtain ⟨v, u, rfl, _⟩ := h
      rfl
    · obtain ⟨v, u, rfl, hE, q⟩ := h
      refine ⟨_, (pss_cons (ps_if (pt_val (pe_callB call_isi (by rfl) T.n_isinstance (by decide +kernel) (pa_cons (pv 1) (pa_cons (pe_bltn (v := .ty "tuple") (by rfl) T.n_tuple (by decide +kernel) rfl) pa_nil)))) (pss_cons (ps_if (PW.pt (pw_or (pt_not (pt_val (pe_callB call_isi (by rfl) T.n_isinstance (by decide +kernel) (pa_cons (pv 0) (pa_cons (pe_bltn (v := .ty "tuple") (by rfl) T.n_tuple (by decide +kernel) rfl) pa_nil))))) (pw_or1 (pt_cmpR op_ne (pe_callB call_len (by rfl) T.n_len PySem.boot_len (pa_cons (pv 0) pa_nil)) (pe_callB call_len (by rfl) T.n_len PySem.boot_len (pa_cons (pv 1) pa_nil)) (nomark _))))) (pss_one (ps_ret pe_bl)) pss_nil)
      (pss_cons (ps_for PassesOwn.never rfl (pi_range1 (by rfl) T.n_range (pa_cons (pe_callB call_len (by rfl) T.n_len PySem.boot_len (pa_cons (pv 1) pa_nil)) pa_nil)) (pg_name (i := 2) sc_law_exact.nd rfl (.inl rfl)) (pss_one (ps_if (pt_not (pt_val (pe_call G_law_exact hr (by rfl) T.D_law_exact.G T.D_law_exact.F.kp T.D_law_exact.B .nil pass0 (pa_cons (pe_ix ix_seq (pv 0) (pv 2) (fun _ _ => rfl)) (pa_cons (pe_ix ix_seq (pv 1) (pv 2) (fun _ _ => rfl)) pa_nil))))) (pss_one (ps_ret pe_bl)) pss_nil)))
      (pss_one (ps_ret pe_bl)))) pss_nil)
      (pss_cons (ps_if (pt_cmpR op_isN (pv 1) pe_non (nomark _)) (pss_one (ps_ret (pe_cmpR op_isN (pv 0) pe_non (nomark _)))) pss_nil)
      (pss_cons (ps_if (pt_val (pe_callB call_isi (by rfl) T.n_isinstance (by decide +kernel) (pa_cons (pv 1) (pa_cons (pe_bltn (v := .ty "bool") (by rfl) T.n_bool (by decide +kernel) rfl) pa_nil)))) (pss_one (ps_ret (pe_and (pe_callB call_isi (by rfl) T.n_isinstance (by decide +kernel) (pa_cons (pv 0) (pa_cons (pe_bltn (v := .ty "bool") (by rfl) T.n_bool (by decide +kernel) rfl) pa_nil))) (pe_one (pe_cmpR op_eq (pv 0) (pv 1) (nomark _)))))) pss_nil)
      (pss_cons (ps_if (pt_val (pe_callB call_isi (by rfl) T.n_isinstance (by decide +kernel) (pa_cons (pv 1) (pa_cons (pe_bltn (v := .ty "int") (by rfl) T.n_int (by decide +kernel) rfl) pa_nil)))) (pss_one (ps_ret (pe_and (pe_callB call_isi (by rfl) T.n_isinstance (by decide +kernel) (pa_cons (pv 0) (pa_cons (pe_bltn (v := .ty "int") (by rfl) T.n_int (by decide +kernel) rfl) pa_nil))) (pe_and (pe_not (pe_callB call_isi (by rfl) T.n_isinstance (by decide +kernel) (pa_cons (pv 0) (pa_cons (pe_bltn (v := .ty "bool") (by rfl) T.n_bool (by decide +kernel) rfl) pa_nil)))) (pe_one (pe_cmpR op_eq (pv 0) (pv 1) (nomark _))))))) pss_nil)
      (pss_one (ps_ret (pe_and (pe_callB call_isi (by rfl) T.n_isinstance (by decide +kernel) (pa_cons (pv 0) (pa_cons (pe_bltn (v := .ty "str") (by rfl) T.n_str (by decide +kernel) rfl) pa_nil))) (pe_one (pe_cmpR op_eq (pv 0) (pv 1) (nomark _)))))))))), ?_⟩
      rcases hE with (⟨z, rfl, rfl⟩ | ⟨i, rfl, rfl⟩ | ⟨rfl, rfl⟩) | ⟨a, b, xs, ys, rfl, rfl, ha, hb, el, en, hE⟩
      · refine ⟨_, rfl, _, _, .type "str", .type "tuple", false, rfl, .ty _, .base (.str _), kit_ty (by decide +kernel), _, rfl, ?_⟩
        refine ⟨_, rfl, rfl, false, bl_of (decide_eq_false (fun e => by cases e)), ?_⟩
        refine ⟨_, rfl, _, _, .type "str", .type "bool", false, rfl, .ty _, .base (.str _), kit_ty (by decide +kernel), _, rfl, ?_⟩
        refine ⟨_, rfl, _, _, .type "str", .type "int", false, rfl, .ty _, .base (.str _), kit_ty (by decide +kernel), _, rfl, ?_⟩
        exact ⟨_, rfl, _, _, .type "str", .type "str", true, rfl, .ty _, .base (.str _), kit_ty (by decide +kernel), true, rfl, _, rfl, _, rfl, rfl, eq_self q⟩
      · refine ⟨_, rfl, _, _, .type "int", .type "tuple", false, rfl, .ty _, .base (.int _), kit_ty (by decide +kernel), _, rfl, ?_⟩
        refine ⟨_, rfl, rfl, false, bl_of (decide_eq_false (fun e => by cases e)), ?_⟩
        refine ⟨_, rfl, _, _, .type "int", .type "bool", false, rfl, .ty _, .base (.int _), kit_ty (by decide +kernel), _, rfl, ?_⟩
        refine ⟨_, rfl, _, _, .type "int", .type "int", true, rfl, .ty _, .base (.int _), kit_ty (by decide +kernel), _, rfl, ?_⟩
        exact ⟨_, rfl, _, _, .type "int", .type "int", true, rfl, .ty _, .base (.int _), kit_ty (by decide +kernel), true, rfl, _, rfl, _, _, .type "int", .type "bool", false, rfl, .ty _, .base (.int _), kit_ty (by decide +kernel), false, rfl, true, rfl, _, rfl, _, rfl, rfl, eq_self q⟩
      · refine ⟨_, rfl, _, _, .type "NoneType", .type "tuple", false, rfl, .ty _, .base .non, kit_ty (by decide +kernel), _, rfl, ?_⟩
        exact ⟨_, rfl, rfl, true, bl_of (decide_eq_true rfl), _, rfl, rfl, eq_self q⟩
      · refine ⟨_, rfl, _, _, .type "tuple", .type "tuple", true, rfl, .ty _, .base (.tup hb), kit_ty (by decide +kernel), _, rfl, ?_⟩
        refine ⟨_, rfl, _, _, .type "tuple", .type "tuple", true, rfl, .ty _, .base (.tup ha), kit_ty (by decide +kernel), _, rfl, ?_⟩
        refine ⟨_, rfl, _, _, rfl, .inr ⟨_, SqT.of ha, rfl⟩, _, rfl, _, _, rfl, .inr ⟨_, SqT.of hb, rfl⟩, rfl, false, ?_, ?_⟩
        · rw [el, decide_eq_true rfl]; rfl
        refine ⟨_, rfl, _, _, rfl, .inr ⟨_, SqT.of hb, rfl⟩, _, rfl, by omega, by omega, ?_⟩
        refine for_range (lo := 0) (n := ((ys.length : Nat) : Int).toNat) (fun i σ' H' => H' = H ∧ ∃ x2 : Option V, σ' = [some (.ref a), some (.ref b), x2]) ⟨rfl, none, rfl⟩ ?_ ?_
        · rintro i σ' H' hi ⟨rfl, x2, rfl⟩
          have hi2 : i < ys.length := by omega
          have hi1 : i < xs.length := by omega
          have gx : xs[i]? = some xs[i] := List.getElem?_eq_getElem hi1
          have gy : ys[i]? = some ys[i] := List.getElem?_eq_getElem hi2
          have e0 : ((0 : Int) + (i : Int)) = (i : Int) := Int.zero_add _
          refine ⟨_, rfl, _, rfl, .inr (.inl ⟨a, xs, _, _, rfl, rfl, SqT.of ha, at_of e0 gx, ?_⟩)⟩
          refine ⟨_, rfl, _, rfl, .inr (.inl ⟨b, ys, _, _, rfl, rfl, SqT.of hb, at_of e0 gy, ?_⟩)⟩
          exact ⟨_, _, rfl, hE i _ _ gx gy, true, rfl, rfl, _, rfl⟩
        · rintro σ' H' ⟨rfl, x2, rfl⟩
          exact q
end
end Vf

set_option Elab.async false
set_option linter.all false
set_option maxRecDepth 100000
set_option maxHeartbeats 4000000
namespace Vf
open PySem PySem.Spec PyProof.Rows L2 TL
/-! ### the law's own places, shapes and pieces -/
def PlAt (H : Hp) (x : V) (r : Nat × Nat) : Prop := ∃ b, x = .ref b ∧ H b = some (.tup [natV r.1, natV r.2])
def PlL (H : Hp) (vs : List V) (rs : List (Nat × Nat)) : Prop := vs.length = rs.length ∧ ∀ (i : Nat) (r : Nat × Nat), rs[i]? = some r → ∃ x, vs[i]? = some x ∧ PlAt H x r
theorem PlL.same {H H' : Hp} {vs : List V} {rs : List (Nat × Nat)} (h : PlL H vs rs) (k : ∀ a xs, H a = some (.tup xs) → H' a = some (.tup xs)) : PlL H' vs rs := ⟨h.1, fun i r e => by
  obtain ⟨x, e1, b, e2, e3⟩ := h.2 i r e
  exact ⟨x, e1, b, e2, k _ _ e3⟩⟩
theorem PlL.snoc {H : Hp} {vs : List V} {rs : List (Nat × Nat)} {x : V} {r : Nat × Nat} (h : PlL H vs rs) (hx : PlAt H x r) : PlL H (vs ++ [x]) (rs ++ [r]) := by
  refine ⟨by rw [List.length_append, List.length_append, h.1]; rfl, fun i q e => ?_⟩
  by_cases hi : i < rs.length
  · rw [List.getElem?_append_left hi] at e
    obtain ⟨y, e1, e2⟩ := h.2 i q e
    exact ⟨y, by rw [List.getElem?_append_left (by rw [h.1]; exact hi)]; exact e1, e2⟩
  · rw [List.getElem?_append_right (by omega)] at e
    have e0 : i - rs.length = 0 := by
      have := (List.getElem?_eq_some_iff.mp e).1
      simp at this
      exact this
    rw [e0] at e
    have e : r = q := Option.some.inj e
    subst e
    exact ⟨x, by rw [List.getElem?_append_right (by rw [h.1]; omega), h.1, e0]; rfl, hx⟩
theorem PlL.at {H : Hp} {vs : List V} {rs : List (Nat × Nat)} {i : Nat} {x : V} (h : PlL H vs rs) (hx : vs[i]? = some x) : ∃ r, rs[i]? = some r ∧ PlAt H x r := by
  have hi := (List.getElem?_eq_some_iff.mp hx).1
  have hi2 : i < rs.length := by rw [← h.1]; exact hi
  have g : rs[i]? = some rs[i] := List.getElem?_eq_getElem hi2
  obtain ⟨y, e1, e2⟩ := h.2 i _ g
  rw [hx] at e1
  have := Option.some.inj e1
  subst this
  exact ⟨_, g, e2⟩
/-- places up to a row of the breaks -/
def plM (S : Sty) (zs : List Nat) (n m : Nat) : List (Nat × Nat) := plN S zs n ++ ((look (S.B.take m) (zs.getD (n + 1) 0, zs.getD (n + 2) 0)).map fun p => (n + 2, p)).toList
theorem plM_zero (S : Sty) (zs : List Nat) (n : Nat) : plM S zs n 0 = plN S zs n := List.append_nil _
theorem plM_last (S : Sty) (zs : List Nat) (n : Nat) : plM S zs n S.B.length = plN S zs (n + 1) := by
  unfold plM
  rw [List.take_length, plN_succ]
theorem plM_hit {S : Sty} (ok : StyOk S) {zs : List Nat} {n m : Nat} {r : (Nat × Nat) × Nat} (hr : S.B[m]? = some r) (h : r.1 = (zs.getD (n + 1) 0, zs.getD (n + 2) 0)) : plM S zs n (m + 1) = plM S zs n m ++ [(n + 2, r.2)] := by
  unfold plM
  rw [take_succ' hr, look_snoc (fresh_2 ok.sb hr), if_pos h, look_none fun q hq z => fresh_2 ok.sb hr q hq (z.trans h.symm)]
  show plN S zs n ++ [(n + 2, r.2)] = plN S zs n ++ [] ++ [(n + 2, r.2)]
  rw [List.append_nil]
theorem plM_miss {S : Sty} (ok : StyOk S) {zs : List Nat} {n m : Nat} {r : (Nat × Nat) × Nat} (hr : S.B[m]? = some r) (h : ¬ r.1 = (zs.getD (n + 1) 0, zs.getD (n + 2) 0)) : plM S zs n (m + 1) = plM S zs n m := by
  unfold plM
  rw [take_succ' hr, look_snoc (fresh_2 ok.sb hr), if_neg h]
theorem plM_len (S : Sty) (zs : List Nat) (n m : Nat) : (plM S zs n m).length ≤ n + 1 := by
  unfold plM plN
  rw [List.length_append]
  have h1 := List.length_filterMap_le (fun k => (look S.B (zs.getD (k - 1) 0, zs.getD k 0)).map fun p => (k, p)) (List.range' 2 n)
  rw [List.length_range'] at h1
  have h2 : ((look (S.B.take m) (zs.getD (n + 1) 0, zs.getD (n + 2) 0)).map fun p => (n + 2, p)).toList.length ≤ 1 := by
    cases look (S.B.take m) (zs.getD (n + 1) 0, zs.getD (n + 2) 0) with
    | none => exact Nat.zero_le _
    | some p => exact Nat.le_refl _
  omega
section
variable {P : Program} {w : World} {K : PySem.W.Frag} {mg : Str → Option Value} {base : Heap}
def spLawPlaces : Sp := fun vs H Q _ => ∃ (v : V) (S : Sty) (zs : List Nat), vs = [v, sV zs] ∧ StyV H v S ∧ StyOk S ∧ WdOk zs ∧ ∀ (L : Addr) (ps : List V) H', H L = none → Same H H' → H' L = some (.lst ps) → PlL H' ps (places S zs) → Q (.ref L) H'
theorem ok_law_places (T : Txt K mg) : FnOk P w K mg base CX0 1 T.a_law_places T.d_law_places ["_law_style_here", "_law_word_here"] spLawPlaces := by
  refine T.D_law_places.F.ok sc_law_places (fun vs H Q E h => ?_) (fun cdv A outer s H vs Q E hr h => ?_)
  · obtain ⟨v, S, zs, rfl, _⟩ := h
    rfl
  · obtain ⟨v, S, zs, rfl, ⟨a, wv, cv, bv, pv_, rfl, e, _, _, ⟨ba, bs, rfl, eb, lb, hB⟩⟩, ok, wd, q⟩ := h
    refine ⟨_, (pss_cons (ps_set (i := 2) sc_law_places.nd rfl (.inl rfl) (pe_lst pa_nil))
      (pss_cons (ps_for PassesOwn.never rfl (pi_range2 (by rfl) T.n_range (pa_cons pe_int (pa_cons (pe_op op_sub (pe_callB call_len_str (by rfl) T.n_len PySem.boot_len (pa_cons (pv 1) pa_nil)) pe_int) pa_nil))) (pg_name (i := 3) sc_law_places.nd rfl (.inl rfl)) (pss_one (ps_for PassesOwn.never rfl (pi_tup (pe_ix ix_tup (pv 0) pe_int (fun _ _ => rfl))) (pg_tup (by rfl) (pgs_cons (pg_name (i := 4) sc_law_places.nd rfl (.inl rfl)) (pgs_cons (pg_name (i := 5) sc_law_places.nd rfl (.inl rfl)) (pgs_cons (pg_name (i := 6) sc_law_places.nd rfl (.inl rfl)) pgs_nil)))) (pss_one (ps_if (PW.pt (pw_and (pt_cmpR op_eq (pv 4) (pe_ix ix_str (pv 1) (pe_op op_sub (pv 3) pe_int) (fun _ _ => rfl)) (nomark _)) (pw_and1 (pt_cmpR op_eq (pv 5) (pe_ix ix_str (pv 1) (pv 3) (fun _ _ => rfl)) (nomark _))))) (pss_one (ps_expr (pe_bm PySem.F.plainAttrs_list PySem.F.slot_list_append PySem.F.type_list_append mt_append (pv 2) (pa_cons (pe_tup (pa_cons (pv 3) (pa_cons (pv 6) pa_nil))) pa_nil)))) pss_nil)))))
      (pss_one (ps_ret (pv 2))))), ?_⟩
    have hb : (mkS zs).length ≤ sizeLine := by rw [mkS_len]; exact big_ok (by have := wd.len; omega)
    have hl := wd.len
    rw [len_r2] at lb
    refine ⟨by show 0 ≤ sizeLine; decide, fun D nD => ?_⟩
    have k0 : Same H (upd H D (.lst [])) := same_upd (Same.refl H) nD
    refine ⟨_, rfl, mkS zs, rfl, hb, _, _, rfl, rfl, 2, _, rfl, ⟨by decide, by decide, by rw [mkS_len]; omega, by rw [mkS_len]; omega⟩, ?_⟩
    have en : (((mkS zs).length : Int) - 1 - 2).toNat = zs.length - 3 := by rw [mkS_len]; omega
    rw [en]
    refine for_it walk_range (fun n σ' H' => ∃ (ps : List V) (x3 x4 x5 x6 : Option V), σ' = [some (.ref a), some (sV zs), some (.ref D), x3, x4, x5, x6] ∧ Same H H' ∧ H' D = some (.lst ps) ∧ PlL H' ps (plN S zs n)) ⟨[], none, none, none, none, rfl, k0, upd_same, ⟨rfl, fun i r h => by simp [plN] at h⟩⟩ (fun _ _ _ _ _ => trivial) ?_ ?_
    · rintro n x σ' H' H'' hn ⟨ps, x3, x4, x5, x6, rfl, k1, e1, pl⟩ ⟨rfl, hx⟩
      have hx : x = .int ((n + 2 : Nat) : Int) := by
        rw [hx]
        show V.int (2 + (n : Int)) = _
        rw [show 2 + (n : Int) = ((n + 2 : Nat) : Int) by omega]
      subst hx
      have g1 := wd.at (show n + 1 < zs.length by omega)
      have g2 := wd.at (show n + 2 < zs.length by omega)
      have ea : ((n + 2 : Nat) : Int) - 1 = ((n + 1 : Nat) : Int) := by omega
      refine ⟨_, rfl, a, _, _, _, rfl, rfl, SqT.of (k1 _ _ e), rfl, ba, rfl, ⟨bs, SqT.of (k1 _ _ eb)⟩, ?_⟩
      refine for_it (walk_tup (K := K) (a := ba) (xs := bs)) (fun m σ' H' => ∃ (ps : List V) (x4 x5 x6 : Option V), σ' = [some (.ref a), some (sV zs), some (.ref D), some (.int ((n + 2 : Nat) : Int)), x4, x5, x6] ∧ Same H H' ∧ H' D = some (.lst ps) ∧ PlL H' ps (plM S zs n m)) ⟨ps, x4, x5, x6, rfl, k1, e1, by rw [plM_zero]; exact pl⟩ ?_ ?_ ?_
      · rintro i σ' H' _ ⟨_, _, _, _, _, k, _⟩
        exact SqT.of (k _ _ eb)
      · rintro m x σ' H2 H3 hm ⟨ps, x4, x5, x6, rfl, k2, e2, pl⟩ ⟨rfl, hx⟩
        obtain ⟨r, b, hr1, rfl, hb1⟩ := RowsV.row (by rw [len_r2]; exact lb) hB hx
        obtain ⟨r, hr2, rfl⟩ := map_at2 hr1
        refine ⟨b, _, rfl, SqT.of (k2 _ _ hb1), rfl, _, _, rfl, _, _, rfl, _, _, rfl, rfl, ?_⟩
        refine ⟨_, rfl, _, rfl, _, rfl, _, _, rfl, rfl, mkS zs, _, _, rfl, rfl, hb, by rw [ea]; exact atI_nat g1.1, rfl, decide (r.1.1 = zs.getD (n + 1) 0), congrArg V.bl (sgn_eq _ _), ?_⟩
        by_cases c : r.1.1 = zs.getD (n + 1) 0
        · rw [decide_eq_true c]
          refine ⟨_, rfl, _, rfl, _, rfl, mkS zs, _, _, rfl, rfl, hb, atI_nat g2.1, rfl, decide (r.1.2 = zs.getD (n + 2) 0), congrArg V.bl (sgn_eq _ _), ite2 (fun c3 => ?_) (fun c3 => ?_)⟩
          · have c3 := of_decide_eq_true c3
            have lp : ps.length ≤ n + 1 := by rw [pl.1]; exact plM_len S zs n m
            refine ⟨.ref D, rfl, .inl ⟨rfl, _, .inl (.inl e2)⟩, _, rfl, _, rfl, Nat.le_of_lt (lt_s (by show _ < 100000; simp)), fun p np => ?_⟩
            have kr := same_upd (o := .tup [natV (n + 2), natV r.2]) (Same.refl H3) np
            refine ⟨D, _, _, rfl, rfl, kr _ _ e2, lt_s (by omega), ?_⟩
            refine ⟨ps ++ [.ref p], some (sgn r.1.1), some (sgn r.1.2), some (natV r.2), rfl, same_mut (k2.trans kr) nD, upd_same, ?_⟩
            rw [plM_hit ok hr2 (Prod.ext c c3)]
            have kq : ∀ a xs, upd H3 p (.tup [natV (n + 2), natV r.2]) a = some (.tup xs) → upd (upd H3 p (.tup [natV (n + 2), natV r.2])) D (.lst (ps ++ [V.ref p])) a = some (.tup xs) := fun a xs e => by
              have : a ≠ D := fun z => by
                rw [z, kr _ _ e2] at e; cases e
              rw [upd_ne this]; exact e
            exact ((pl.same (same_tup kr)).snoc ⟨p, rfl, upd_same⟩).same kq
          · refine ⟨ps, some (sgn r.1.1), some (sgn r.1.2), some (natV r.2), rfl, k2, e2, ?_⟩
            rw [plM_miss ok hr2 (fun z => c3 (decide_eq_true (by rw [z])))]
            exact pl
        · rw [decide_eq_false c]
          refine ⟨ps, some (sgn r.1.1), some (sgn r.1.2), some (natV r.2), rfl, k2, e2, ?_⟩
          rw [plM_miss ok hr2 (fun z => c (by rw [z]))]
          exact pl
      · rintro σ' H2 ⟨ps, x4, x5, x6, rfl, k2, e2, pl⟩
        rw [lb, plM_last] at pl
        exact ⟨ps, _, x4, x5, x6, rfl, k2, e2, pl⟩
    · rintro σ' H' ⟨ps, x3, x4, x5, x6, rfl, k1, e1, pl⟩
      exact ⟨_, rfl, q D ps H' nD k1 e1 pl⟩
def spLawShape : Sp := fun vs H Q _ => ∃ (v : V) (S : Sty) (zs : List Nat), vs = [v, sV zs] ∧ StyV H v S ∧ StyOk S ∧ WdOk zs ∧ ∀ u H', Same H H' → ShapeV H' u S zs → Q u H'
theorem pieceW_small {S : Sty} (ok : StyOk S) {zs : List Nat} (i j : Nat) (wd : WdOk zs) (hj : j ≤ zs.length) : (pieceN S zs i j).length ≤ 100 := by
  have h := partN_len ok zs i j (j - i)
  have hl := wd.len
  unfold pieceN
  unfold partN at h
  rw [List.length_append]
  by_cases c : j < zs.length
  · rw [if_pos c]; show _ + 1 ≤ _; omega
  · rw [if_neg c]; show _ + 0 ≤ _; omega
theorem ok_law_shape (T : Txt K mg) : FnOk P w K mg base CX0 2 T.a_law_shape T.d_law_shape ["_law_style_here", "_law_word_here"] spLawShape := by
  have G_law_places : FnOk P w K mg base CX0 1 T.a_law_places T.d_law_places ["_law_style_here", "_law_word_here"] spLawPlaces := ok_law_places T
  have G_law_piece : FnOk P w K mg base CX0 1 T.a_law_piece T.d_law_piece ["_law_style_here", "_law_word_here", "_law_first", "_law_behind"] spLawPiece := ok_law_piece T
  refine T.D_law_shape.F.ok sc_law_shape (fun vs H Q E h => ?_) (fun cdv A outer s H vs Q E hr h => ?_)
  · obtain ⟨v, S, zs, rfl, _⟩ := h
    rfl
  · obtain ⟨v, S, zs, rfl, hv, ok, wd, q⟩ := h
    refine ⟨_, (pss_cons (ps_set (i := 2) sc_law_shape.nd rfl (.inl rfl) (pe_lst pa_nil))
      (pss_cons (ps_for PassesOwn.never rfl (pi_list (pe_call G_law_places (hr.mono (by decide)) (by rfl) T.D_law_places.G T.D_law_places.F.kp T.D_law_places.B .nil pass0 (pa_cons (pv 0) (pa_cons (pv 1) pa_nil)))) (pg_tup (by rfl) (pgs_cons (pg_name (i := 3) sc_law_shape.nd rfl (.inl rfl)) (pgs_cons (pg_name (i := 4) sc_law_shape.nd rfl (.inl rfl)) pgs_nil))) (pss_cons (ps_set (i := 5) sc_law_shape.nd rfl (.inl rfl) (pe_callB call_len_str (by rfl) T.n_len PySem.boot_len (pa_cons (pe_call G_law_piece (hr.mono (by decide)) (by rfl) T.D_law_piece.G T.D_law_piece.F.kp T.D_law_piece.B .nil pass0 (pa_cons (pv 0) (pa_cons (pv 1) (pa_cons pe_int (pa_cons (pv 3) pa_nil))))) pa_nil)))
      (pss_one (ps_expr (pe_bm PySem.F.plainAttrs_list PySem.F.slot_list_append PySem.F.type_list_append mt_append (pv 2) (pa_cons (pe_tup (pa_cons (pv 5) (pa_cons (pe_callB call_len_str (by rfl) T.n_len PySem.boot_len (pa_cons (pe_call G_law_piece (hr.mono (by decide)) (by rfl) T.D_law_piece.G T.D_law_piece.F.kp T.D_law_piece.B .nil pass0 (pa_cons (pv 0) (pa_cons (pv 1) (pa_cons (pv 3) (pa_cons (pe_callB call_len_str (by rfl) T.n_len PySem.boot_len (pa_cons (pv 1) pa_nil)) pa_nil))))) pa_nil)) (pa_cons (pv 4) pa_nil)))) pa_nil))))))
      (pss_one (ps_ret (pe_tup (pa_cons (pe_callB call_len_str (by rfl) T.n_len PySem.boot_len (pa_cons (pe_call G_law_piece (hr.mono (by decide)) (by rfl) T.D_law_piece.G T.D_law_piece.F.kp T.D_law_piece.B .nil pass0 (pa_cons (pv 0) (pa_cons (pv 1) (pa_cons pe_int (pa_cons (pe_callB call_len_str (by rfl) T.n_len PySem.boot_len (pa_cons (pv 1) pa_nil)) pa_nil))))) pa_nil)) (pa_cons (pe_callTy call_tuple_of (by rfl) T.n_tuple (by decide +kernel) (pa_cons (pv 2) pa_nil)) pa_nil))))))), ?_⟩
    have hb : (mkS zs).length ≤ sizeLine := by rw [mkS_len]; exact big_ok (by have := wd.len; omega)
    have hl := wd.len
    have hp : ∀ i j, j ≤ zs.length → (mkS (pieceN S zs i j)).length ≤ sizeLine := fun i j hj => by rw [mkS_len]; exact big_ok (by have := pieceW_small ok i j wd hj; omega)
    have hpw : ∀ i j, (((mkS (pieceN S zs i j)).length : Nat) : Int) = ((pieceW S zs i j : Nat) : Int) := fun i j => by rw [mkS_len, pieceN_len ok]
    refine ⟨by show 0 ≤ sizeLine; decide, fun D nD => ?_⟩
    have k0 : Same H (upd H D (.lst [])) := same_upd (Same.refl H) nD
    refine ⟨_, rfl, _, rfl, v, S, zs, rfl, hv.mono (same_tup k0), ok, wd, fun L ps H1 nL k1 eL pl => ?_⟩
    have hLD : L ≠ D := fun z => by rw [z, upd_same] at nL; cases nL
    have k1' := k0.trans k1
    refine ⟨L, rfl, ⟨ps, SqL.of eL⟩, ?_⟩
    refine for_it (walk_list (K := K) (a := L) (xs := ps)) (fun n σ' H' => ∃ (vs : List V) (x3 x4 x5 : Option V), σ' = [some v, some (sV zs), some (.ref D), x3, x4, x5] ∧ Same H H' ∧ H' L = some (.lst ps) ∧ PlL H' ps (places S zs) ∧ H' D = some (.lst vs) ∧ PartL H' S zs vs ((places S zs).take n))
      ⟨[], none, none, none, rfl, k1', eL, pl, k1 _ _ upd_same, ⟨rfl, fun i r h => by simp at h⟩⟩ ?_ ?_ ?_
    · rintro i σ' H' _ ⟨_, _, _, _, _, _, eL, _⟩
      exact SqL.of eL
    · rintro n x σ' H2 H3 hn ⟨vs, x3, x4, x5, rfl, k2, eL, pl, eD, pt⟩ ⟨rfl, hx⟩
      obtain ⟨r, hr, b, rfl, eb⟩ := pl.at hx
      have hrm := List.mem_of_getElem? hr
      have bd := places_bd hrm
      refine ⟨b, _, rfl, SqT.of eb, rfl, _, _, rfl, _, _, rfl, rfl, ?_⟩
      refine ⟨_, rfl, _, rfl, _, rfl, v, S, zs, 0, r.1, rfl, hv.mono (same_tup k2), ok, wd, Nat.zero_le _, by omega, _, rfl, hp 0 r.1 (by omega), ?_⟩
      refine ⟨.ref D, rfl, .inl ⟨rfl, _, .inl (.inl eD)⟩, _, rfl, _, rfl, _, rfl, _, rfl, _, rfl, mkS zs, rfl, hb, v, S, zs, r.1, zs.length, by rw [mkS_len]; rfl, hv.mono (same_tup k2), ok, wd, by omega, Nat.le_refl _, _, rfl, hp r.1 zs.length (Nat.le_refl _), _, rfl, Nat.le_of_lt (lt_s (by show _ < 100000; simp)), fun p np => ?_⟩
      rw [hpw, hpw]
      have kr := same_upd (o := .tup [natV (pieceW S zs 0 r.1), natV (pieceW S zs r.1 zs.length), natV r.2]) (Same.refl H3) np
      have lv : vs.length ≤ 16 := by
        rw [pt.1, List.length_take]
        have := places_len S zs
        omega
      refine ⟨D, _, _, rfl, rfl, kr _ _ eD, lt_s (by omega), ?_⟩
      have kq : ∀ a xs, upd H3 p (.tup [natV (pieceW S zs 0 r.1), natV (pieceW S zs r.1 zs.length), natV r.2]) a = some (.tup xs) → upd (upd H3 p (.tup [natV (pieceW S zs 0 r.1), natV (pieceW S zs r.1 zs.length), natV r.2])) D (.lst (vs ++ [V.ref p])) a = some (.tup xs) := fun a xs e => by
        have : a ≠ D := fun z => by
          rw [z, kr _ _ eD] at e; cases e
        rw [upd_ne this]; exact e
      refine ⟨vs ++ [.ref p], some (natV r.1), some (natV r.2), some (natV (pieceW S zs 0 r.1)), ?_, same_mut (k2.trans kr) nD, by rw [upd_ne hLD]; exact kr _ _ eL, (pl.same (same_tup kr)).same kq, upd_same, ?_⟩
      · rfl
      · rw [take_succ' hr]
        exact ((pt.same (same_tup kr)).snoc ⟨p, rfl, upd_same⟩).same kq
    · rintro σ' H2 ⟨vs, x3, x4, x5, rfl, k2, eL, pl, eD, pt⟩
      rw [pl.1, List.take_length] at pt
      refine ⟨_, rfl, _, rfl, _, rfl, mkS zs, rfl, hb, v, S, zs, 0, zs.length, by rw [mkS_len]; rfl, hv.mono (same_tup k2), ok, wd, Nat.zero_le _, Nat.le_refl _, _, rfl, hp 0 _ (Nat.le_refl _), ?_⟩
      rw [hpw]
      refine ⟨_, rfl, D, vs, rfl, .inl ⟨SqL.of eD, fun p np => ?_⟩⟩
      have kp := same_upd (o := .tup vs) (Same.refl H2) np
      refine ⟨by show 2 ≤ sizeLine; decide, fun r nr => ?_⟩
      have kr := same_upd (o := .tup [natV (pieceW S zs 0 zs.length), V.ref p]) (Same.refl _) nr
      exact q _ _ (k2.trans (kp.trans kr)) ⟨r, p, vs, rfl, upd_same, kr _ _ upd_same, pt.same (same_tup (kp.trans kr))⟩
end
end Vf

set_option Elab.async false
set_option linter.all false
set_option maxRecDepth 100000
set_option maxHeartbeats 4000000
namespace Vf
open PySem PySem.Spec PyProof.Rows L2 TL
/-! ### rows of things, nets -/
def nV (w : Nat) : V := .int (w : Int)
def oV : Option Int → V
  | none => .non
  | some x => .int x
theorem oV_inj : ∀ {a b : Option Int}, oV a = oV b → a = b
  | none, none, _ => rfl
  | some _, some _, h => by rw [V.int.inj h]
  | none, some _, h => by cases h
  | some _, none, h => by cases h
theorem szN {n : Nat} (h : n < 100000) : n < sizeLine := Nat.lt_of_lt_of_le h (by decide)
theorem bTr {p : Prop} [Decidable p] (h : p) : V.bl (decide p) = V.bl true := by rw [decide_eq_true h]
theorem bFa {p : Prop} [Decidable p] (h : ¬ p) : V.bl (decide p) = V.bl false := by rw [decide_eq_false h]
theorem bNT {p : Prop} [Decidable p] (h : p) : V.bl (!decide p) = V.bl false := by rw [decide_eq_true h]; rfl
theorem bNF {p : Prop} [Decidable p] (h : ¬ p) : V.bl (!decide p) = V.bl true := by rw [decide_eq_false h]; rfl
/-- what stands in a list or tuple, thing by thing -/
def LV {α : Type} (R : V → α → Prop) (vs : List V) (rs : List α) : Prop := vs.length = rs.length ∧ ∀ (i : Nat) (r : α), rs[i]? = some r → ∃ x, vs[i]? = some x ∧ R x r
theorem LV.nil {α : Type} {R : V → α → Prop} : LV R [] [] := ⟨rfl, fun i r h => by cases i <;> cases h⟩
theorem LV.mono {α : Type} {R R' : V → α → Prop} {vs : List V} {rs : List α} (h : LV R vs rs) (k : ∀ x r, R x r → R' x r) : LV R' vs rs := ⟨h.1, fun i r e => by
  obtain ⟨x, e1, e2⟩ := h.2 i r e
  exact ⟨x, e1, k _ _ e2⟩⟩
theorem LV.snoc {α : Type} {R : V → α → Prop} {vs : List V} {rs : List α} {x : V} {r : α} (h : LV R vs rs) (hx : R x r) : LV R (vs ++ [x]) (rs ++ [r]) := by
  refine ⟨by rw [List.length_append, List.length_append, h.1]; rfl, fun i q e => ?_⟩
  by_cases hi : i < rs.length
  · rw [List.getElem?_append_left hi] at e
    obtain ⟨y, e1, e2⟩ := h.2 i q e
    exact ⟨y, by rw [List.getElem?_append_left (by rw [h.1]; exact hi)]; exact e1, e2⟩
  · rw [List.getElem?_append_right (by omega)] at e
    have e0 : i - rs.length = 0 := by
      have := (List.getElem?_eq_some_iff.mp e).1
      simp at this
      exact this
    rw [e0] at e
    have e : r = q := Option.some.inj e
    subst e
    exact ⟨x, by rw [List.getElem?_append_right (by rw [h.1]; omega), h.1, e0]; rfl, hx⟩
theorem LV.at {α : Type} {R : V → α → Prop} {vs : List V} {rs : List α} {i : Nat} {x : V} (h : LV R vs rs) (e : vs[i]? = some x) : ∃ r, rs[i]? = some r ∧ R x r := by
  have hi : i < rs.length := by rw [← h.1]; exact (List.getElem?_eq_some_iff.mp e).1
  obtain ⟨y, e1, e2⟩ := h.2 i _ (List.getElem?_eq_getElem hi)
  rw [e] at e1
  have := Option.some.inj e1
  subst this
  exact ⟨_, List.getElem?_eq_getElem hi, e2⟩
abbrev Arc := Nat × Nat × Nat
def ArcV (H : Hp) (x : V) (r : Arc) : Prop := ∃ b, x = .ref b ∧ H b = some (.tup [nV r.1, nV r.2.1, nV r.2.2])
theorem ArcV.mono {H H' : Hp} {x : V} {r : Arc} (h : ArcV H x r) (k : ∀ a xs, H a = some (.tup xs) → H' a = some (.tup xs)) : ArcV H' x r := by
  obtain ⟨b, e, f⟩ := h
  exact ⟨b, e, k _ _ f⟩
theorem kpTup {d l : Addr} {H H' : Hp} (D : DI d l H) (k : Kp d H H') : ∀ a xs, H a = some (.tup xs) → H' a = some (.tup xs) := fun a xs e => by
  obtain ⟨n, ⟨ns, h1⟩, i, b, s, c, h0, h2⟩ := D
  exact k _ _ (fun z => by rw [z, h2] at e; cases e) e
end Vf

set_option Elab.async false
set_option linter.all false
set_option maxRecDepth 100000
set_option maxHeartbeats 4000000
namespace Vf
open PySem PySem.Spec PyProof.Rows L2 TL
/-! ### sorted of a list of tuples of two signs -/
def encP (b : Addr × Nat × Nat) : PyData := .tuple [.str ⟨#[b.2.1]⟩, .str ⟨#[b.2.2]⟩]
def leP (a b : Nat × Nat) : Prop := a.1 < b.1 ∨ (a.1 = b.1 ∧ a.2 ≤ b.2)
instance (a b : Nat × Nat) : Decidable (leP a b) := by unfold leP; infer_instance
theorem sg_lt (c d : Nat) : PySem.W.dataLt (.str ⟨#[c]⟩) (.str ⟨#[d]⟩) = decide (c < d) := by
  rw [PySem.W.dataLt_str]
  show decide ([c] < [d]) = decide (c < d)
  by_cases h : c < d
  · rw [decide_eq_true h, decide_eq_true (show [c] < [d] from List.Lex.rel h)]
  · rw [decide_eq_false h]
    refine decide_eq_false fun z => ?_
    cases z with
    | rel z => exact h z
    | cons z => cases z
theorem sg_eqv (c d : Nat) : PyData.eqv (.str ⟨#[c]⟩) (.str ⟨#[d]⟩) = decide (c = d) := by
  by_cases h : c = d
  · subst h; simp [PyData.eqv]
  · rw [decide_eq_false h]
    simp only [PyData.eqv, beq_eq_false_iff_ne]
    intro z
    injection z with z
    injection z with z
    injection z with z
    exact h z
theorem le_encP (p q : Addr × Nat × Nat) : (!PySem.W.dataLt (encP q) (encP p)) = decide (leP p.2 q.2) := by
  unfold encP leP
  rw [PySem.W.dataLt_pair (by simp [PySem.W.alike]) (by simp [PySem.W.alike]), sg_eqv, sg_eqv, sg_lt, sg_lt]
  by_cases h1 : q.2.1 = p.2.1
  · rw [decide_eq_true h1, if_pos rfl]
    by_cases h2 : q.2.2 = p.2.2
    · rw [decide_eq_true h2, if_pos rfl]
      exact (decide_eq_true (by omega)).symm
    · rw [decide_eq_false h2, if_neg Bool.false_ne_true]
      by_cases h3 : q.2.2 < p.2.2
      · rw [decide_eq_true h3]; exact (decide_eq_false (by omega)).symm
      · rw [decide_eq_false h3]; exact (decide_eq_true (by omega)).symm
  · rw [decide_eq_false h1, if_neg Bool.false_ne_true]
    by_cases h3 : q.2.1 < p.2.1
    · rw [decide_eq_true h3]; exact (decide_eq_false (by omega)).symm
    · rw [decide_eq_false h3]; exact (decide_eq_true (by omega)).symm
theorem er_of {X : Cx} {pins : List (Addr × Obj)} {σ : L2.St} {H : Hp} {s : Shared} (I : L2.Inv X pins σ H s) : ∀ {vs : List Value} {bs : List (Addr × Nat × Nat)}, PySem.W.EachIs (fun v b => v = Value.ref b.1) vs bs → (∀ y ∈ bs, SqT X.K H y.1 [V.str ⟨#[y.2.1]⟩, V.str ⟨#[y.2.2]⟩]) → PySem.W.EachIs (fun v b => ∃ as, Reads s.heap v (encP b) as) vs bs
  | _, _, .nil, _ => .nil
  | _, b :: _, .cons h t, ht => .cons (Dp.reads I _ _ _ (.tup (ht b List.mem_cons_self) (.cons (.str _) (.cons (.str _) .nil))) h) (er_of I t fun y hy => ht y (List.mem_cons_of_mem _ hy))
def rSortedP (K : PySem.W.Frag) : List V → Hp → VK → Prop := fun vs H Q => ∃ (a : Addr) (bs : List (Addr × Nat × Nat)), vs = [V.ref a] ∧ SqL K H a (bs.map fun y => V.ref y.1) ∧ (∀ y ∈ bs, SqT K H y.1 [V.str ⟨#[y.2.1]⟩, V.str ⟨#[y.2.2]⟩]) ∧ bs.length ≤ 1000 ∧
  ∀ (ys : List (Addr × Nat × Nat)) (p : Addr), ys.Perm bs → ys.Pairwise (fun a b => leP a.2 b.2) → H p = none → Q (.ref p) (upd H p (.lst (ys.map fun y => V.ref y.1)))
theorem vals_refs : ∀ {bs : List (Addr × Nat × Nat)} {its : List Value}, Vals (bs.map fun y => V.ref y.1) its → PySem.W.EachIs (fun v b => v = Value.ref b.1) its bs
  | [], _, .nil => .nil
  | b :: bs, _, .cons r t => .cons r (vals_refs t)
theorem refs_vals : ∀ {bs : List (Addr × Nat × Nat)} {its : List Value}, PySem.W.EachIs (fun v b => v = Value.ref b.1) its bs → Vals (bs.map fun y => V.ref y.1) its
  | [], _, .nil => .nil
  | b :: bs, _, .cons r t => .cons r (refs_vals t)
theorem call_sortedP {X : Cx} (hu : X.A.units + 64 < cLine) : CallR X (.builtin "sorted") (rSortedP X.K) := by
  intro pins s σ H vs us' Q I r h
  obtain ⟨a, bs, rfl, hs, ht, hl0, q⟩ := h
  obtain ⟨its, rv, hl, _⟩ := I.list hs
  rw [Vals.ref1 r]
  have e := vals_refs rv
  have er := er_of I e ht
  refine PySem.W.sorted_data (enc := encP) hl.isList e er (fun d hd d' hd' => ?_) (.inl fun d hd => ?_) (Nat.le_trans hl0 (by decide)) (fun b _ => ?_) fun out lo eo => ?_
  · obtain ⟨x, _, rfl⟩ := List.mem_map.mp hd
    obtain ⟨y, _, rfl⟩ := List.mem_map.mp hd'
    simp [encP, PySem.W.alike, PySem.W.alikeAll]
  · obtain ⟨x, _, rfl⟩ := List.mem_map.mp hd
    exact ⟨_, _, rfl⟩
  · have : (encP b).depth = 1 := rfl
    omega
  · obtain ⟨ep, he'⟩ := PyProof.Rows.sortedAll_at s.heap its out.toArray
    have e2 : PySem.W.dataLe false encP = fun p q => decide (leP p.2 q.2) := by
      funext p q
      rw [PySem.W.dataLe_eq]
      exact le_encP p q
    rw [e2] at eo
    generalize hy : bs.mergeSort (fun p q => decide (leP p.2 q.2)) = ys at eo
    have hp : ys.Perm bs := by rw [← hy]; exact List.mergeSort_perm _ _
    have hw : ys.Pairwise (fun a b => leP a.2 b.2) := by
      rw [← hy]
      refine (List.pairwise_mergeSort (le := fun p q : Addr × Nat × Nat => decide (leP p.2 q.2)) (fun x y z hxy hyz => ?_) (fun x y => ?_) bs).imp fun h => of_decide_eq_true h
      · have hxy := of_decide_eq_true hxy
        have hyz := of_decide_eq_true hyz
        refine decide_eq_true ?_
        unfold leP at hxy hyz ⊢
        omega
      · rw [Bool.or_eq_true]
        by_cases c : leP x.2 y.2
        · exact .inl (decide_eq_true c)
        · refine .inr (decide_eq_true ?_)
          unfold leP at c ⊢
          omega
    have hlen : (ys.map fun y => V.ref y.1).length ≤ sizeLine := by rw [List.length_map, hp.length_eq]; exact Nat.le_trans hl0 (by decide)
    exact ⟨.ref _, upd H (s.heap.objs.size + 1) (.lst (ys.map fun y => V.ref y.1)), I.laid (t' := s.toks) (fun _ _ => PyProof.Rows.sortedAll_old) (Nat.le_succ _) ⟨hlen, out, ep, refs_vals eo, he'⟩, rfl, q ys _ hp hw (I.hok.fresh (Nat.le_succ _))⟩
end Vf

set_option Elab.async false
set_option linter.all false
set_option maxRecDepth 100000
set_option maxHeartbeats 4000000
namespace Vf
open PySem PySem.Spec PyProof.Rows L2
/-! ### set comprehensions of ints -/
/-- y is put into the set at D that is being made -/
def AddI (w : World) (D : Addr) (y : V) (H : Hp) (N : Hp → Prop) : Prop :=
  ∃ (k : Int) (S : Int → Bool) (n : Nat), y = .int k ∧ H D = some (SetO w D S n) ∧ n + 1 < scanBound ∧ N (upd H D (SetO w D (fun j => S j || decide (j = k)) (if S k = true then n else n + 1)))
theorem add_runs {Y : Cx} {ps : List (Addr × Obj)} {τ : L2.St} {H : Hp} {t : Shared} {D : Addr} {y : V} {u : Value} {N : Hp → Prop} {F : Value → Shared → Prop} {R : Value → Shared → Prop} (I : Inv Y ps τ H t) (ky : RelV y u) (h : AddI Y.w D y H N)
    (go : ∀ t' H', Inv Y ps τ H' t' → N H' → R .none t') :
    wpAny (model Y.prog Y.w) Y.A (call (.builtin "set.add") [.ref D, u]) R F t := by
  obtain ⟨k, S, n, ey, eD, room, hN⟩ := h
  subst ey
  obtain ⟨tk, rfl⟩ := ky
  refine setR_add (setO_get I eD) room fun h' same r => ?_
  have he : ∃ x, h'.get? D = some x := by
    obtain ⟨o, es, ep, tt, ho, rest⟩ := id r
    exact ⟨o, ho⟩
  exact go _ _ (I.write (e := D) (t' := t.toks + 1) (by rw [eD]; trivial) (.inl rfl) (fun b x hb hx => (same.2 b hb).trans hx) he (setO_new r)) hN
section
variable {X : Cx}
/-- {e for target in iter if ..}, e an int: D the new set -/
def tScI (w : World) (wi : TI) (g : TG) (tt : TT) (tk : TE) (own : List Nat) : TE := fun σ H Q => wi σ H fun J Ha => ∀ D, Ha D = none →
  ∃ W : Nat → Nat → Hp → Prop, (∃ m, W 0 m (upd Ha D (SetO w D (fun _ => false) 0))) ∧ ∀ i m Hb, W i m Hb → (J.stop i Hb ∧ Q (.ref D) Hb) ∨
    (J.go i Hb ∧ ∃ N : Hp → Prop, (∀ Hc, N Hc → ∃ m', m' < m ∧ W (i + 1) m' Hc) ∧ ∀ x Hc, J.yld i Hb x Hc →
      g x (wipe σ own) Hc fun σ2 H2 => wipe σ2 own = wipe σ own ∧ tt σ2 H2 fun b H3 => if b = true then tk σ2 H3 fun y H4 => AddI w D y H4 N else N H3)
/-- the block's promise of each part, wherever the block's own room comes to stand -/
abbrev InBlk (X : Cx) (scope : Scope) (R : Cx → Prop) : Prop := ∀ (s : Shared) (H : Hp) (C : Addr) (cl : List (Str × Addr)) (fp : List Addr), R (X.blk s H scope (compEnvC scope cl C X.env) fp)
theorem scI_core {pins : List (Addr × Obj)} {s : Shared} {σ : L2.St} {H : Hp} {Q : VK} {kx tg iter : Expr} {ifs : List Expr} {scope : Scope} {own : List (Str × Nat)} {pos pos' : Pos} {wi : TI} {g : TG} {tt : TT} {tk : TE} {use : Option (Value → Sem Unit)} {Qf : Value → Shared → Prop}
    (calm : X.calm = true) (nd : X.N.Nodup) (I : Inv X pins σ H s) (pi : PI X tg iter wi) (bk : BlkOk X.N X.env.scope scope own)
    (pg : InBlk X scope fun Y => PG Y tg g) (pt : InBlk X scope fun Y => PTs Y ifs tt) (pk : InBlk X scope fun Y => PE Y kx tk) (fold : ∀ x, foldedSetIterable iter X.env x = pure x)
    (h : tScI X.w wi g tt tk (own.map (·.2)) σ H Q)
    (leave : ∀ (D C : Addr) t ms H', Inv X pins σ H' t → Q (.ref D) H' → t.heap.Ns C ms → FpOk X pins H' C → compPost (model X.prog X.w) X.A X.xe use Qf (.ref D) C (.ok .next) t) :
    wpAny (model X.prog X.w) X.A (comprehension (.SetComp kx [⟨tg, iter, ifs, 0⟩] scope pos) scope X.env pos' (newSet (.type "set")) false (eval iter X.env) use) Qf X.xe s := by
  have has : ∀ y ∈ scope.names, y.2 = .free → ∃ c, X.env.cells.lookup y.1 = some c := by
    intro y hy e
    exact (bk.free y hy e).elim (fun k => I.ok.has _ (.inl k)) (fun k => I.ok.has _ (.inr k))
  refine wpAny_comprehension_free (use := use) rfl fold (closure_ok has) bk.kind (fun y hy e => (bk.uniq y hy).trans (congrArg some e)) ?_
  refine thn (pi.run pins s σ H _ I h) fun v0 s1 w1 => thn w1 fun v1 s2 w2 => ?_
  obtain ⟨it, fp, tn, J, Ha, rfl, Ia, T, st, fs, q⟩ := w2
  refine PpSet.newSet_ok (newEnv_comp ?_)
  -- the new set stands at D
  obtain ⟨D, eD⟩ : ∃ D, D = s2.heap.objs.size := ⟨_, rfl⟩
  obtain ⟨W, ⟨m0, w0⟩, turn⟩ := q D (Ia.hok.fresh (Nat.le_of_eq eD.symm))
  obtain ⟨s3, es3⟩ : ∃ s3 : Shared, s3 = { s2 with heap := s2.heap.push { cls := .type "set", dict := none, data := .set #[] 0 (.fresh 0 0 (!X.w.params.followText "set-order")) } } := ⟨_, rfl⟩
  have eh : s3.heap = s2.heap.push { cls := .type "set", dict := none, data := .set #[] 0 (.fresh 0 0 (!X.w.params.followText "set-order")) } := by rw [es3]
  rw [← es3, ← eD]
  have Ib : Inv X pins σ (upd Ha D (SetO X.w D (fun _ => false) 0)) s3 := by
    rw [es3, eD]
    exact Ia.laid (t' := s2.toks) (fun b o e => Heap.get?_push_of_some _ e) (Nat.le_refl _) (setO_new (setR_fresh X.w))
  have lt : ∀ b ∈ fp, b < D := fun b hb => by
    have ⟨o, e, _⟩ := T.obj _ _ st b hb
    rw [eD]; exact Heap.lt_size e
  have fd : ∀ b ∈ fp, (upd Ha D (SetO X.w D (fun _ => false) 0)) b = none := fun b hb => (upd_ne (Nat.ne_of_lt (lt b hb))).trans (fs b hb).1
  have f3 : ∀ b ∈ fp, FpOk X pins (upd Ha D (SetO X.w D (fun _ => false) 0)) b ∧ b < s3.heap.objs.size := fun b hb =>
    ⟨⟨fd b hb, (fs b hb).2⟩, by rw [eh, Heap.size_push, ← eD]; exact Nat.lt_succ_of_lt (lt b hb)⟩
  have st3 : tn 0 s3.heap := T.keep _ _ _ st fun b _ o e => by rw [eh]; exact Heap.get?_push_of_some _ e
  have Ic := block_start Ib bk nd f3
  have G := pg s3 (upd Ha D (SetO X.w D (fun _ => false) 0)) s3.heap.objs.size (cellsFrom (s3.heap.objs.size + 1) scope.names (cloFrom X.env.cells scope.names [])) fp
  have S := pt s3 (upd Ha D (SetO X.w D (fun _ => false) 0)) s3.heap.objs.size (cellsFrom (s3.heap.objs.size + 1) scope.names (cloFrom X.env.cells scope.names [])) fp
  have Kx := pk s3 (upd Ha D (SetO X.w D (fun _ => false) 0)) s3.heap.objs.size (cellsFrom (s3.heap.objs.size + 1) scope.names (cloFrom X.env.cells scope.names [])) fp
  obtain ⟨ce, ece⟩ : ∃ ce, ce = compEnvC scope (cellsFrom (s3.heap.objs.size + 1) scope.names (cloFrom X.env.cells scope.names [])) s3.heap.objs.size X.env := ⟨_, rfl⟩
  have cl : ce.locals = s3.heap.objs.size := by rw [ece]; rfl
  obtain ⟨s4, es4⟩ : ∃ s4 : Shared, s4 = { s3 with heap := pushCells (s3.heap.push { cls := .type "dict", data := .dict #[] }) scope.names } := ⟨_, rfl⟩
  rw [← ece] at Ic G S Kx
  rw [← es4] at Ic
  have st4 : tn 0 s4.heap := T.keep _ _ _ st3 fun b _ o e => by rw [es4]; exact pushCells_keeps _ _ _ _ (Heap.get?_push_of_some _ e)
  have pinned : ∀ {τ : L2.St} {H' : Hp} {t : Shared}, Inv (X.blk s3 (upd Ha D (SetO X.w D (fun _ => false) 0)) scope ce fp) [] τ H' t → (∀ b ∈ fp, H' b = none) → ∀ b ∈ fp, FpOk (X.blk s3 (upd Ha D (SetO X.w D (fun _ => false) 0)) scope ce fp) [] H' b := by
    intro τ H' t I' free b hb
    have e1 := I'.ok.exf b hb
    exact ⟨free b hb, e1.1, I'.ok.exfs b hb, .inl hb, fun x c e => e1.2 x c e, fun p hp => by cases hp⟩
  -- what the loop keeps at its turn number i
  let Keep : Nat → Shared → Prop := fun n t => ∃ i H', Inv (X.blk s3 (upd Ha D (SetO X.w D (fun _ => false) 0)) scope ce fp) [] (wipe σ (own.map (·.2))) H' t ∧ tn i t.heap ∧ (∀ b ∈ fp, H' b = none) ∧ W i n H'
  have runs : codeAny (model X.prog X.w) X.A (.compLoop (.SetComp kx [⟨tg, iter, ifs, 0⟩] scope pos) 0 (.ref it) (.ref D) ce)
      (compPost (model X.prog X.w) X.A X.xe use Qf (.ref D) s3.heap.objs.size) s4 := by
    refine PpSet.compLoopS_any Keep ?_ m0 ⟨0, _, Ic, st4, fd, w0⟩
    intro n t1 ⟨i, Hb, I1, z1, free, w1⟩
    rcases turn i n Hb w1 with ⟨stop, hQ⟩ | ⟨go, N, less, step⟩
    · -- no further thing: back in the def
      refine thnF (T.done (X.blk s3 (upd Ha D (SetO X.w D (fun _ => false) 0)) scope ce fp) rfl rfl rfl calm i [] t1 _ Hb (fun _ _ => False) I1 (pinned I1 free) z1 stop) fun r t2 ⟨er, I2⟩ => ?_
      subst er
      have Iz : Inv X pins σ Hb t2 := Ib.call' (ch := fp) I2.os I2.base I2.hok I2.bare fun b hb =>
        have f := (f3 b hb).1.2
        ⟨f.2.2.1, f.1, f.2.2.2.1, f.2.2.2.2⟩
      obtain ⟨ms, hns, _⟩ := I2.loc
      have hns : t2.heap.Ns ce.locals ms := hns
      have nl : Hb ce.locals = none := I2.free
      rw [cl] at hns nl
      exact leave D _ t2 ms Hb Iz hQ hns (Ib.fpOk (Nat.le_refl _) nl)
    · refine thnF (T.item (X.blk s3 (upd Ha D (SetO X.w D (fun _ => false) 0)) scope ce fp) rfl rfl rfl calm i [] t1 _ Hb (fun _ _ => False) I1 (pinned I1 free) z1 go) fun r t2 ⟨u, er, a2⟩ => ?_
      subst er
      refine thnF a2 fun _ t3 ⟨x, Hc, I3, rx, y3, z3, free3⟩ => ?_
      refine thnF (G.run _ t3 _ Hc x u _ (I3.pinned (pinned I3 free3) (T.obj _ _ z3)) rx (step x Hc y3)) fun _ t4 ⟨σ2, H2, I4, ew, q4⟩ => ?_
      refine thnF (S.run _ t4 σ2 H2 _ I4 q4) fun b t5 ⟨H3, I5, q5⟩ => ?_
      -- how a turn ends, in the room of the block
      have close : ∀ {t : Shared} {H' : Hp}, Inv (X.blk s3 (upd Ha D (SetO X.w D (fun _ => false) 0)) scope ce fp) ([] ++ pinsAt fp t3.heap) σ2 H' t → N H' → ∃ m, m < n ∧ Keep m t := by
        intro t H' I' hN
        obtain ⟨m', hm, w'⟩ := less H' hN
        have still : ∀ b ∈ fp, ∀ o, t3.heap.get? b = some o → t.heap.get? b = some o ∧ H' b = none := by
          intro b hb o e
          have p := I'.pin (b, o) (List.mem_append_right _ (List.mem_append_right _ (mem_pinsAt hb e)))
          exact ⟨p.1, p.2.1⟩
        have len : (wipe σ (own.map (·.2))).length = σ2.length := by rw [← ew]; exact wipe_length _ _
        refine ⟨m', hm, i + 1, H', (I'.unpinned (pins := [])).weak len fun j v e => ?_, T.keep _ _ _ z3 fun b hb o e => (still b hb o e).1, fun b hb => ?_, w'⟩
        · rw [← ew] at e; exact (wipe_some e).1
        · have ⟨o, e, _⟩ := T.obj _ _ z3 b hb
          exact (still b hb o e).2
      cases b with
      | false => exact close I5 q5
      | true =>
        refine thnF (Kx.run _ t5 σ2 H3 _ I5 q5) fun ku t6 ⟨y, H4, I6, ry, q6⟩ => ?_
        exact add_runs (Y := X.blk s3 (upd Ha D (SetO X.w D (fun _ => false) 0)) scope ce fp) I6 ry q6 fun t8 H6 I8 n8 => close I8 n8
  have whole := PpSet.codeAny_compStart_set runs (T.self X.A 0 _ _ _ st4 runs)
  rw [ece, es4] at whole
  exact whole
/-- as a value -/
theorem pe_scI {kx tg iter : Expr} {ifs : List Expr} {scope : Scope} {own : List (Str × Nat)} {pos : Pos} {wi : TI} {g : TG} {tt : TT} {tk : TE} (calm : X.calm = true) (nd : X.N.Nodup) (pi : PI X tg iter wi) (bk : BlkOk X.N X.env.scope scope own)
    (pg : InBlk X scope fun Y => PG Y tg g) (pt : InBlk X scope fun Y => PTs Y ifs tt) (pk : InBlk X scope fun Y => PE Y kx tk) (fold : ∀ x, foldedSetIterable iter X.env x = pure x := by intro _; rfl) :
    PE X (.SetComp kx [⟨tg, iter, ifs, 0⟩] scope pos) (tScI X.w wi g tt tk (own.map (·.2))) := by
  constructor
  intro pins s σ H Q I h
  rw [PpSet.eval_SetComp]
  refine scI_core calm nd I pi bk pg pt pk fold h fun D C t ms H' I' hQ hns f => ⟨ms, hns, fun h2 sb => ?_⟩
  exact ⟨.ref D, H', I'.turned (t' := t.toks) (fun b o hb e => (sb.2 b hb).trans e) f.1 f.2.1 f.2.2.2.1 f.2.2.2.2.1 f.2.2.2.2.2, rfl, hQ⟩
end
/-- over any walk: Pv by the turn and the heap -/
theorem scI_it {ww : World} {J : It} {n : Nat} {G : Hp → Prop} {Y : Nat → Hp → V → Hp → Prop} (w : Walk J n G Y) {g : TG} {tt : TT} {tk : TE} {own : List Nat} {σ : L2.St} {Ha : Hp} {D : Addr} {Qd : Hp → Prop} (Pv : Nat → Hp → Prop) (start : Pv 0 (upd Ha D (SetO ww D (fun _ => false) 0))) (stays : ∀ i H, i ≤ n → Pv i H → G H)
    (turn : ∀ i x H H', i < n → Pv i H → Y i H x H' → g x (wipe σ own) H' fun σ2 H2 => wipe σ2 own = wipe σ own ∧ tt σ2 H2 fun b H3 => if b = true then tk σ2 H3 fun y H4 => AddI ww D y H4 (Pv (i + 1)) else Pv (i + 1) H3)
    (after : ∀ H, Pv n H → Qd H) :
    ∃ W : Nat → Nat → Hp → Prop, (∃ m, W 0 m (upd Ha D (SetO ww D (fun _ => false) 0))) ∧ ∀ i m Hb, W i m Hb → (J.stop i Hb ∧ Qd Hb) ∨
      (J.go i Hb ∧ ∃ N : Hp → Prop, (∀ Hc, N Hc → ∃ m', m' < m ∧ W (i + 1) m' Hc) ∧ ∀ x Hc, J.yld i Hb x Hc →
        g x (wipe σ own) Hc fun σ2 H2 => wipe σ2 own = wipe σ own ∧ tt σ2 H2 fun b H3 => if b = true then tk σ2 H3 fun y H4 => AddI ww D y H4 N else N H3) := by
  refine ⟨fun i m H => m + i = n ∧ Pv i H, ⟨n, by omega, start⟩, fun i m Hb h => ?_⟩
  have ⟨e, p⟩ := h
  have ok := stays i Hb (by omega) p
  rcases Nat.lt_or_ge i n with lt | ge
  · refine .inr ⟨w.goes i Hb lt ok, Pv (i + 1), fun Hc q => ⟨m - 1, by omega, by omega, q⟩, fun x Hc y => turn i x Hb Hc lt p (w.yields i Hb x Hc lt ok y)⟩
  · obtain rfl : i = n := by omega
    exact .inl ⟨w.stops Hb ok, after Hb p⟩
end Vf

set_option Elab.async false
set_option linter.all false
set_option maxRecDepth 100000
set_option maxHeartbeats 4000000
namespace Vf
open PySem PySem.Spec PyProof.Rows L2 TL
/-! ### data made of tuples -/
/-- all tuples stand -/
def TK (H H' : Hp) : Prop := ∀ a xs, H a = some (.tup xs) → H' a = some (.tup xs)
theorem TK.refl (H : Hp) : TK H H := fun _ _ h => h
theorem TK.trans {H H1 H2 : Hp} (a : TK H H1) (b : TK H1 H2) : TK H H2 := fun x xs h => b x xs (a x xs h)
theorem TK.kp {d l : Addr} {H H' : Hp} (D : DI d l H) (k : Kp d H H') : TK H H' := kpTup D k
theorem TK.same {H H' : Hp} (k : Same H H') : TK H H' := fun a xs e => k _ _ e
theorem TK.new {H H' : Hp} {p : Addr} {o : HO} (k : TK H H') (hp : H' p = none) : TK H (upd H' p o) := fun a xs e => by
  have e := k _ _ e
  rw [upd_ne (ne_of_none e hp)]; exact e
theorem TK.mut {H H' : Hp} {p : Addr} {us : List V} {o : HO} (k : TK H H') (hp : H' p = some (.lst us)) : TK H (upd H' p o) := fun a xs e => by
  have e := k _ _ e
  have n : a ≠ p := fun z => by rw [z, hp] at e; cases e
  rw [upd_ne n]; exact e
/-- a relation of things that holds on while all tuples stand -/
structure Mn {α : Type} (R : Hp → V → α → Prop) : Prop where
  to : ∀ {H H' : Hp} {v : V} {x : α}, R H v x → TK H H' → R H' v x
def natR : Hp → V → Nat → Prop := fun _ v n => v = nV n
theorem nV_inj {a b : Nat} (h : nV a = nV b) : a = b := by
  have := V.int.inj h
  omega
theorem natR_mn : Mn natR := ⟨fun h _ => h⟩
def TupR {α : Type} (R : Hp → V → α → Prop) (H : Hp) (v : V) (xs : List α) : Prop := ∃ a us, v = .ref a ∧ H a = some (.tup us) ∧ LV (R H) us xs
theorem TupR.mn {α : Type} {R : Hp → V → α → Prop} (m : Mn R) : Mn (TupR R) := ⟨fun h k => by
  obtain ⟨a, us, e, h1, h2⟩ := h
  exact ⟨a, us, e, k _ _ h1, h2.mono fun _ _ z => m.to z k⟩⟩
def PairR {α β : Type} (R : Hp → V → α → Prop) (S : Hp → V → β → Prop) (H : Hp) (v : V) (p : α × β) : Prop := ∃ a u w, v = .ref a ∧ H a = some (.tup [u, w]) ∧ R H u p.1 ∧ S H w p.2
theorem PairR.mn {α β : Type} {R : Hp → V → α → Prop} {S : Hp → V → β → Prop} (m : Mn R) (n : Mn S) : Mn (PairR R S) := ⟨fun h k => by
  obtain ⟨a, u, w, e, h1, h2, h3⟩ := h
  exact ⟨a, u, w, e, k _ _ h1, m.to h2 k, n.to h3 k⟩⟩
theorem LV.nats : ∀ {us : List V} {xs : List Nat}, LV (natR H) us xs → us = xs.map nV := by
  intro us xs h
  refine List.ext_getElem? fun i => ?_
  rw [List.getElem?_map]
  by_cases hi : i < xs.length
  · obtain ⟨x, e, r⟩ := h.2 i _ (List.getElem?_eq_getElem hi)
    rw [e, List.getElem?_eq_getElem hi, show x = nV xs[i] from r]; rfl
  · rw [List.getElem?_eq_none (by rw [h.1]; omega), List.getElem?_eq_none (by omega)]; rfl
theorem LV.of_nats (H : Hp) (xs : List Nat) : LV (natR H) (xs.map nV) xs := ⟨List.length_map _, fun i r e => ⟨nV r, by rw [List.getElem?_map, e]; rfl, rfl⟩⟩
/-- a tuple of numbers -/
def NsR : Hp → V → List Nat → Prop := fun H v xs => ∃ a, v = .ref a ∧ H a = some (.tup (xs.map nV))
theorem NsR.mn : Mn NsR := ⟨fun h k => by
  obtain ⟨a, e, h⟩ := h
  exact ⟨a, e, k _ _ h⟩⟩
theorem NsR.of {H : Hp} {v : V} {xs : List Nat} (h : TupR natR H v xs) : NsR H v xs := by
  obtain ⟨a, us, e, h1, h2⟩ := h
  rw [h2.nats] at h1
  exact ⟨a, e, h1⟩
theorem NsR.new {H : Hp} {p : Addr} {xs : List Nat} : NsR (upd H p (.tup (xs.map nV))) (.ref p) xs := ⟨p, rfl, upd_same⟩
theorem LV.get {α : Type} {R : V → α → Prop} {vs : List V} {rs : List α} {i : Nat} (h : LV R vs rs) (hi : i < rs.length) : ∃ x, vs[i]? = some x ∧ R x rs[i] := h.2 i _ (List.getElem?_eq_getElem hi)
theorem LV.get0 {α : Type} {R : V → α → Prop} {vs : List V} {rs : List α} {i : Nat} (d : α) (h : LV R vs rs) (hi : i < rs.length) : ∃ x, vs[i]? = some x ∧ R x (rs.getD i d) := by
  obtain ⟨x, e, r⟩ := h.get hi
  refine ⟨x, e, ?_⟩
  rw [List.getD_eq_getElem?_getD, List.getElem?_eq_getElem hi]; exact r
theorem LV.app2 {α : Type} {R : V → α → Prop} {us vs : List V} {rs ss : List α} (h : LV R us rs) (k : LV R vs ss) : LV R (us ++ vs) (rs ++ ss) := by
  refine ⟨by rw [List.length_append, List.length_append, h.1, k.1], fun i r e => ?_⟩
  by_cases hi : i < rs.length
  · rw [List.getElem?_append_left hi] at e
    obtain ⟨y, e1, e2⟩ := h.2 i r e
    exact ⟨y, by rw [List.getElem?_append_left (by rw [h.1]; exact hi)]; exact e1, e2⟩
  · rw [List.getElem?_append_right (by omega)] at e
    obtain ⟨y, e1, e2⟩ := k.2 _ r e
    exact ⟨y, by rw [List.getElem?_append_right (by rw [h.1]; omega), h.1]; exact e1, e2⟩
theorem nat_at {xs : List Nat} {i : Nat} (h : i < xs.length) : (xs.map nV)[i]? = some (nV (xs.getD i 0)) := by
  rw [List.getElem?_map, List.getD_eq_getElem?_getD, List.getElem?_eq_getElem h]; rfl
theorem getD_mem {α : Type} {xs : List α} {i : Nat} {d : α} (h : i < xs.length) : xs.getD i d ∈ xs := by
  rw [List.getD_eq_getElem?_getD, List.getElem?_eq_getElem h]; exact List.getElem_mem h
theorem getD_of {α : Type} {xs : List α} {i : Nat} {x d : α} (h : xs[i]? = some x) : xs.getD i d = x := by
  rw [List.getD_eq_getElem?_getD, h]; rfl
theorem take_one {α : Type} {xs : List α} {i : Nat} {x : α} (h : xs[i]? = some x) : xs.take (i + 1) = xs.take i ++ [x] := by
  rw [List.take_add_one, h]; rfl
theorem take_oneD {α : Type} {xs : List α} {i : Nat} (d : α) (h : i < xs.length) : xs.take (i + 1) = xs.take i ++ [xs.getD i d] := by
  rw [take_one (List.getElem?_eq_getElem h), List.getD_eq_getElem?_getD, List.getElem?_eq_getElem h]; rfl
theorem mem_at {α : Type} {xs : List α} {x : α} (h : x ∈ xs) : ∃ i, i < xs.length ∧ xs[i]? = some x := by
  obtain ⟨i, hi, e⟩ := List.mem_iff_getElem.mp h
  exact ⟨i, hi, by rw [List.getElem?_eq_getElem hi, e]⟩
theorem flat_nats (xs : List Nat) : (xs.map nV).all flatV = true := List.all_eq_true.mpr fun v hv => by
  obtain ⟨x, _, rfl⟩ := List.mem_map.mp hv
  rfl
theorem eqV_nat (x y : Nat) : eqV (nV y) (nV x) = decide (y = x) := by
  show eqV (.int (y : Int)) (.int (x : Int)) = _
  by_cases h : y = x
  · subst h; rw [decide_eq_true rfl]; simp [eqV]
  · rw [decide_eq_false h]
    have : ¬ (y : Int) = (x : Int) := by omega
    simp [eqV, this]
theorem inV_nats (x : Nat) (xs : List Nat) : inV (nV x) (xs.map nV) = decide (x ∈ xs) := by
  unfold inV
  rw [List.any_map]
  by_cases h : x ∈ xs
  · rw [decide_eq_true h]
    refine List.any_eq_true.mpr ⟨x, h, ?_⟩
    show eqV (nV x) (nV x) = true
    rw [eqV_nat]; exact decide_eq_true rfl
  · rw [decide_eq_false h]
    refine List.any_eq_false.mpr fun y hy => ?_
    show ¬ eqV (nV y) (nV x) = true
    rw [eqV_nat]
    exact fun z => h (of_decide_eq_true z ▸ hy)
/-! ### what is met, each thing once -/
def met : List Nat → List Nat := fun l => l.foldl (fun acc x => if x ∈ acc then acc else acc ++ [x]) []
theorem met_snoc (l : List Nat) (x : Nat) : met (l ++ [x]) = if x ∈ met l then met l else met l ++ [x] := by
  unfold met; rw [List.foldl_append]; rfl
theorem list_snoc {α : Type} {p : List α → Prop} (h0 : p []) (hs : ∀ l x, p l → p (l ++ [x])) : ∀ l, p l := by
  intro l
  have : ∀ n (l : List α), l.length = n → p l := by
    intro n
    induction n with
    | zero => intro l e; rw [List.length_eq_zero_iff.mp e]; exact h0
    | succ n ih =>
      intro l e
      have hne : l ≠ [] := fun z => by rw [z] at e; cases e
      rw [← List.dropLast_concat_getLast hne]
      exact hs _ _ (ih _ (by rw [List.length_dropLast, e]; rfl))
  exact this _ l rfl
theorem met_mem (l : List Nat) : ∀ x, x ∈ met l ↔ x ∈ l := by
  refine list_snoc (p := fun l => ∀ x, x ∈ met l ↔ x ∈ l) (fun x => Iff.rfl) (fun l y ih x => ?_) l
  rw [met_snoc, List.mem_append, List.mem_singleton]
  by_cases h : y ∈ met l
  · rw [if_pos h, ih]
    exact ⟨.inl, fun z => z.elim id fun e => e ▸ (ih y).mp h⟩
  · rw [if_neg h, List.mem_append, ih, List.mem_singleton]
theorem met_nodup (l : List Nat) : (met l).Nodup := by
  refine list_snoc (p := fun l => (met l).Nodup) List.nodup_nil (fun l y ih => ?_) l
  rw [met_snoc]
  by_cases h : y ∈ met l
  · rw [if_pos h]; exact ih
  · rw [if_neg h, List.nodup_append]
    exact ⟨ih, by simp, fun a ha b hb e => h (by rw [List.mem_singleton.mp hb] at e; exact e ▸ ha)⟩
theorem met_len (l : List Nat) : (met l).length ≤ l.length := by
  refine list_snoc (p := fun l => (met l).length ≤ l.length) (Nat.le_refl _) (fun l y ih => ?_) l
  rw [met_snoc, List.length_append]
  split
  · exact Nat.le_trans ih (Nat.le_add_right _ _)
  · rw [List.length_append]; exact Nat.add_le_add_right ih _
theorem perm_nodup {α : Type} [DecidableEq α] : ∀ {xs ys : List α}, xs.Nodup → ys.Nodup → (∀ x, x ∈ xs ↔ x ∈ ys) → xs.Perm ys
  | [], ys, _, _, h => by
    cases ys with
    | nil => exact .nil
    | cons y ys => exact absurd ((h y).mpr List.mem_cons_self) (by simp)
  | x :: xs, ys, hx, hy, h => by
    have ⟨nx, hx⟩ := List.nodup_cons.mp hx
    have mx := (h x).mp List.mem_cons_self
    refine (List.Perm.cons x (perm_nodup (ys := ys.erase x) hx (hy.erase x) fun z => ?_)).trans (List.perm_cons_erase mx).symm
    rw [hy.mem_erase_iff]
    constructor
    · intro hz
      exact ⟨fun e => nx (e ▸ hz), (h z).mp (List.mem_cons_of_mem _ hz)⟩
    · rintro ⟨ne, hz⟩
      exact (List.mem_cons.mp ((h z).mpr hz)).resolve_left ne
theorem sum_cast : ∀ xs : List Nat, (xs.map (fun x : Nat => (x : Int))).sum = ((xs.sum : Nat) : Int)
  | [] => rfl
  | x :: xs => by rw [List.map_cons, List.sum_cons, List.sum_cons, sum_cast xs]; omega
theorem map_nV (xs : List Nat) : xs.map nV = (xs.map (fun x : Nat => (x : Int))).map V.int := by
  rw [List.map_map]; rfl
theorem sum_perm {xs ys : List Nat} (h : xs.Perm ys) : xs.sum = ys.sum := by
  induction h with
  | nil => rfl
  | cons x _ ih => rw [List.sum_cons, List.sum_cons, ih]
  | swap x y l => simp only [List.sum_cons]; omega
  | trans _ _ a b => exact a.trans b
theorem nat_cmp (f : Int → Int → Bool) (x y : Nat) : V.bl (f (x : Int) (y : Int)) = V.bl (f (x : Int) (y : Int)) := rfl
theorem int_nats : ∀ {ns : List Int}, (∀ x ∈ ns, ∃ k : Nat, x = (k : Int)) → ∃ ms : List Nat, ns = ms.map fun x : Nat => (x : Int)
  | [], _ => ⟨[], rfl⟩
  | x :: ns, h => by
    obtain ⟨k, rfl⟩ := h x List.mem_cons_self
    obtain ⟨ms, rfl⟩ := int_nats (ns := ns) fun y hy => h y (List.mem_cons_of_mem _ hy)
    exact ⟨k :: ms, rfl⟩
theorem nodup_of_lt {ms : List Nat} (h : (ms.map fun x : Nat => (x : Int)).Pairwise (· < ·)) : ms.Nodup := by
  rw [List.pairwise_map] at h
  exact h.imp fun {a b} z e => by subst e; omega
theorem map_Vint (ms : List Nat) : (ms.map fun x : Nat => (x : Int)).map V.int = ms.map nV := by rw [List.map_map]; rfl
theorem Same.mn {α : Type} {R : Hp → V → α → Prop} (m : Mn R) {H H' : Hp} {v : V} {x : α} (h : R H v x) (k : Same H H') : R H' v x := m.to h (TK.same k)
end Vf

set_option Elab.async false
set_option linter.all false
set_option maxRecDepth 100000
set_option maxHeartbeats 4000000
namespace Vf
open PySem PySem.Spec PyProof.Rows L2 TL
/-- the scope of a comprehension within one whose def has the scope d -/
def rel2 (inner d : Scope) : Scope := { inner with
  names := inner.names.map fun nk =>
    match nk with
    | (y, kk) => if (kk == .free && d.kind == .function && d.names.lookup y == some .cell) then (y, .cell) else (y, kk) }
def rTupleOf (K : PySem.W.Frag) : List V → Hp → VK → Prop := fun args H Q =>
  ∃ p ys, args = [V.ref p] ∧ ((SqL K H p ys ∧ ∀ l : Addr, H l = none → Q (.ref l) (upd H l (.tup ys))) ∨
    (SqT K H p ys ∧ Q (.ref p) H))
def rListOf (K : PySem.W.Frag) : List V → Hp → VK → Prop := fun args H Q =>
  ∃ p ys, args = [V.ref p] ∧ (SqL K H p ys ∨ SqT K H p ys) ∧
    ∀ l : Addr, H l = none → Q (.ref l) (upd H l (.lst ys))
def tTru (K : PySem.W.Frag) (ta : TE) : TT := fun σ H Q => ta σ H fun x H' => ∃ k, TruV K x H' k ∧ Q k H'
theorem pt_tru {X : Cx} {K : PySem.W.Frag} {a : Expr} {ta : TE} (hK : X.K = K) (ha : PE X a ta) (he : ∀ whole, isTrue a X.env whole = (do let v ← whole; standAt a.pos; holding [v] (truthy v))) : PT X a (tTru K ta) := by
  subst hK
  exact pt_truth ha he
theorem pi_or {X : Cx} {tg iter : Expr} {wa wb : TI} (ha : PI X tg iter wa) (hb : PI X tg iter wb) : PI X tg iter (fun σ H R => wa σ H R ∨ wb σ H R) :=
  ⟨fun pins s σ H R I h => h.elim (ha.run pins s σ H R I) (hb.run pins s σ H R I)⟩
theorem hu65 {k : Nat} {A : Around} (r : Room k A) : A.units + 65 < cLine := by have := r.un; omega
/-! ### tuples of numbers as data -/
def dN (xs : List Nat) : PyData := .tuple (xs.map fun x : Nat => .int (x : Int))
theorem dp_nats {K : PySem.W.Frag} {H : Hp} : ∀ xs : List Nat, DpAll K H (xs.map nV) (xs.map fun x : Nat => .int (x : Int))
  | [] => .nil
  | x :: xs => .cons (.int (x : Int)) (dp_nats xs)
theorem dN_dp {K : PySem.W.Frag} {H : Hp} {v : V} {xs : List Nat} (h : NsR H v xs) : Dp K H v (dN xs) := by
  obtain ⟨a, rfl, e⟩ := h
  exact .tup (SqT.of e) (dp_nats xs)
theorem dNs_dp {K : PySem.W.Frag} {H : Hp} : ∀ {us : List V} {F : List (List Nat)}, LV (NsR H) us F → DpAll K H us (F.map dN)
  | [], [], _ => .nil
  | [], _ :: _, h => by have := h.1; cases this
  | _ :: _, [], h => by have := h.1; cases this
  | u :: us, f :: F, h => by
    obtain ⟨x, e, r⟩ := h.2 0 f rfl
    have e := Option.some.inj e
    subst e
    exact .cons (dN_dp r) (dNs_dp ⟨Nat.succ.inj h.1, fun i r e => h.2 (i + 1) r e⟩)
theorem nats_lay : ∀ xs : List Nat, PyData.canLayAll0 (xs.map fun x : Nat => .int (x : Int)) = true
  | [] => by simp [PyData.canLayAll0]
  | x :: xs => by simp [PyData.canLayAll0, PyData.canLay0, nats_lay xs]
theorem nats_depth : ∀ xs : List Nat, PyData.depthAll (xs.map fun x : Nat => .int (x : Int)) = 0
  | [] => by simp [PyData.depthAll]
  | x :: xs => by simp [PyData.depthAll, PyData.depth, nats_depth xs]
theorem dN_lay (xs : List Nat) : (dN xs).canLay0 = true := by
  unfold dN; simp only [PyData.canLay0]; exact nats_lay xs
theorem dN_depth (xs : List Nat) : (dN xs).depth = 1 := by
  unfold dN; simp only [PyData.depth, nats_depth]
theorem dNs_lay : ∀ F : List (List Nat), PyData.canLayAll0 (F.map dN) = true
  | [] => by simp [PyData.canLayAll0]
  | x :: xs => by simp [PyData.canLayAll0, dN_lay x, dNs_lay xs]
theorem dNs_depth : ∀ F : List (List Nat), PyData.depthAll (F.map dN) ≤ 1
  | [] => by simp [PyData.depthAll]
  | x :: xs => by
    have h1 := dNs_depth xs
    have h2 := dN_depth x
    simp only [List.map_cons, PyData.depthAll]
    omega
theorem dN_shaped (xs : List Nat) : SeqAt.shaped (dN xs) = true := Bool.and_eq_true_iff.mpr ⟨dN_lay xs, decide_eq_true (by rw [dN_depth]; decide)⟩
theorem dNs_shaped (F : List (List Nat)) : SeqAt.shaped (.list (F.map dN)) = true :=
  Bool.and_eq_true_iff.mpr ⟨by simp only [PyData.canLay0]; exact dNs_lay F, decide_eq_true (by simp only [PyData.depth]; have := dNs_depth F; omega)⟩
theorem nats_eqv : ∀ xs ys : List Nat, PyData.eqvAll (xs.map fun x : Nat => .int (x : Int)) (ys.map fun x : Nat => .int (x : Int)) = decide (xs = ys)
  | [], [] => by simp [PyData.eqvAll]
  | [], _ :: _ => by simp [PyData.eqvAll]
  | _ :: _, [] => by simp [PyData.eqvAll]
  | x :: xs, y :: ys => by
    simp only [List.map_cons, PyData.eqvAll, PyData.eqv, nats_eqv xs ys]
    by_cases h1 : x = y
    · subst h1
      by_cases h2 : xs = ys
      · subst h2; simp
      · simp [h2]
    · have : ¬ (x : Int) = (y : Int) := by omega
      simp [h1, this]
theorem dN_eqv (xs ys : List Nat) : PyData.eqv (dN xs) (dN ys) = decide (xs = ys) := by
  unfold dN; simp only [PyData.eqv]; exact nats_eqv xs ys
theorem dNs_any (F : List (List Nat)) (f : List Nat) : ((F.map dN).any fun z => PyData.eqv z (dN f)) = decide (f ∈ F) := by
  rw [List.any_map]
  by_cases h : f ∈ F
  · rw [decide_eq_true h]
    exact List.any_eq_true.mpr ⟨f, h, by show PyData.eqv (dN f) (dN f) = true; rw [dN_eqv]; exact decide_eq_true rfl⟩
  · rw [decide_eq_false h]
    refine List.any_eq_false.mpr fun y hy => ?_
    show ¬ PyData.eqv (dN y) (dN f) = true
    rw [dN_eqv]
    exact fun z => h (of_decide_eq_true z ▸ hy)
/-- sorted of a list of tuples of equally many small ints -/
def rSortX (K : PySem.W.Frag) : List V → Hp → VK → Prop := fun vs H Q => ∃ (d : Nat) (B : Int), 1 ≤ d ∧ rSortU K d B vs H Q
theorem cr_sortX {X : Cx} : CallR X (.builtin "sorted") (rSortX X.K) := by
  intro pins s σ H vs us Q I r h
  obtain ⟨d, B, hd, h⟩ := h
  exact cr_sortT hd pins s σ H vs us Q I r h
theorem LV.perm {α : Type} {R : V → α → Prop} {us ws : List V} (hp : us.Perm ws) : ∀ {rs : List α}, LV R ws rs → ∃ ss, LV R us ss ∧ ss.Perm rs := by
  induction hp with
  | nil =>
    intro rs h
    have : rs = [] := List.length_eq_zero_iff.mp h.1.symm
    subst this
    exact ⟨[], LV.nil, .nil⟩
  | @cons x l₁ l₂ _ ih =>
    intro rs h
    cases rs with
    | nil => have := h.1; cases this
    | cons r rs =>
      obtain ⟨y, e, hr⟩ := h.2 0 r rfl
      have e := Option.some.inj e
      subst e
      obtain ⟨ss, h1, h2⟩ := ih (rs := rs) ⟨Nat.succ.inj h.1, fun i r e => h.2 (i + 1) r e⟩
      refine ⟨r :: ss, ⟨by rw [List.length_cons, List.length_cons, h1.1], fun i q e => ?_⟩, h2.cons r⟩
      cases i with
      | zero => exact ⟨_, rfl, (Option.some.inj e) ▸ hr⟩
      | succ i => exact h1.2 i q e
  | swap x y l =>
    intro rs h
    match rs, h with
    | [], h => have := h.1; cases this
    | [_], h => have := h.1; cases this
    | r :: s :: rs, h =>
      obtain ⟨y1, e, hr⟩ := h.2 0 r rfl
      have e := Option.some.inj e
      subst e
      obtain ⟨y2, e, hs⟩ := h.2 1 s rfl
      have e := Option.some.inj e
      subst e
      refine ⟨s :: r :: rs, ⟨h.1, fun i q e => ?_⟩, .swap _ _ _⟩
      match i, e with
      | 0, e => exact ⟨_, rfl, (Option.some.inj e) ▸ hs⟩
      | 1, e => exact ⟨_, rfl, (Option.some.inj e) ▸ hr⟩
      | i + 2, e => exact h.2 (i + 2) q e
  | trans _ _ a b =>
    intro rs h
    obtain ⟨ss, h1, p1⟩ := b h
    obtain ⟨ts, h2, p2⟩ := a h1
    exact ⟨ts, h2, p2.trans p1⟩
theorem fdiv_nV (a b : Nat) : V.int ((a : Int).fdiv (b : Int)) = nV (a / b) := by
  rw [Int.fdiv_eq_ediv_of_nonneg _ (by omega)]; rfl
theorem fmod_nV (a b : Nat) : V.int ((a : Int).fmod (b : Int)) = nV (a % b) := by
  rw [Int.fmod_eq_emod_of_nonneg _ (by omega)]; rfl
theorem low_snoc {os S : List Nat} {j g : Nat} (lo : os.length = j) (ho : ∀ s, s < j → os.getD s 0 < S.getD s 0) (hg : g < S.getD j 0) : ∀ s, s < j + 1 → (os ++ [g]).getD s 0 < S.getD s 0 := fun s hs => by
  rcases Nat.lt_or_ge s j with h | h
  · rw [List.getD_eq_getElem?_getD, List.getElem?_append_left (by omega), ← List.getD_eq_getElem?_getD]; exact ho s h
  · have : s = j := by omega
    subst this
    rw [List.getD_eq_getElem?_getD, List.getElem?_append_right (by omega), lo, Nat.sub_self]; exact hg
theorem PE.to {X : Cx} {e : Expr} {t t' : TE} (h : PE X e t) (i : ∀ σ H Q, t' σ H Q → t σ H Q) : PE X e t' := ⟨fun pins s σ H Q I hq => h.run pins s σ H Q I (i σ H Q hq)⟩
theorem rgV_nats (n : Nat) : rgV 0 (n : Int) = (List.range n).map nV := by
  unfold rgV
  rw [show ((n : Int) - 0).toNat = n by omega]
  refine List.map_congr_left fun i _ => ?_
  rw [Int.zero_add]; rfl
theorem toNat_k {n : Nat} : ((n : Nat) : Int).toNat = n := Int.toNat_natCast n
theorem int0 (i : Nat) : V.int (0 + (i : Int)) = nV i := by rw [Int.zero_add]; rfl
theorem ixN_last {n : Nat} (h : 0 < n) : ixN n (-1) = some (n - 1) := by
  unfold ixN
  rw [if_neg (by decide), if_pos (by omega)]
  congr 1
  omega
theorem atI_l {α : Type} {xs : List α} {v : α} (h : xs[xs.length - 1]? = some v) : atI xs (-1) = some v := by
  have h0 : 0 < xs.length := by
    have := (List.getElem?_eq_some_iff.mp h).1
    omega
  unfold atI
  rw [ixN_last h0]
  exact h
def isN (lo hi : Nat) : V → Bool
  | .int g => decide ((lo : Int) ≤ g) && decide (g ≤ (hi : Int))
  | _ => false
theorem isN_of {lo hi : Nat} {v : V} (h : isN lo hi v = true) : ∃ m : Nat, v = nV m ∧ lo ≤ m ∧ m ≤ hi := by
  cases v with
  | int g =>
    have ⟨a, b⟩ := Bool.and_eq_true_iff.mp h
    have a := of_decide_eq_true a
    have b := of_decide_eq_true b
    exact ⟨g.toNat, by unfold nV; rw [Int.toNat_of_nonneg (by omega)], by omega, by omega⟩
  | _ => cases h
theorem none_kp {d : Addr} {H H' : Hp} {b : Addr} (k : Kp d H H') (n : b ≠ d) (h : H' b = none) : H b = none := by
  cases e : H b with
  | none => rfl
  | some o => rw [k _ _ n e] at h; cases h
theorem none_same {H H' : Hp} {b : Addr} (k : Same H H') (h : H' b = none) : H b = none := by
  cases e : H b with
  | none => rfl
  | some o => rw [k _ _ e] at h; cases h
theorem draw_nt {m r : Int} (h : 0 < m) (e1 : m < 2 → r = 0) (e2 : 2 ≤ m → 0 ≤ r ∧ r < m) : ∃ j : Nat, r = (j : Int) ∧ (j : Int) < m := by
  by_cases c : m < 2
  · exact ⟨0, e1 c, by omega⟩
  · have := e2 (by omega)
    exact ⟨r.toNat, by omega, by omega⟩
end Vf

set_option Elab.async false
set_option linter.all false
set_option maxRecDepth 100000
set_option maxHeartbeats 4000000
namespace Vf
open PySem PySem.Spec PyProof.Rows L2 TL
/-! ### joint shapes -/
def sgR : Hp → V → List Nat → Prop := fun _ v zs => v = sV zs
theorem sgR.mn : Mn sgR := ⟨fun h _ => h⟩
def StyR : Hp → V → Sty → Prop := fun H v S => StyV H v S
theorem StyR.mn : Mn StyR := ⟨fun h k => StyV.mono h k⟩
/-- a secret with its endings -/
def SeR (H : Hp) (v : V) (eds : List (List Nat)) : Prop := ∃ a x y z w, v = .ref a ∧ H a = some (.tup [x, y, z, w]) ∧ TupR sgR H w eds
theorem SeR.mn : Mn SeR := ⟨fun ⟨a, x, y, z, w, e, h, t⟩ k => ⟨a, x, y, z, w, e, k _ _ h, (TupR.mn sgR.mn).to t k⟩⟩
def ShR (S : Sty) : Hp → V → List Nat → Prop := fun H u zs => ShapeV H u S zs
theorem ShR.mn {S : Sty} : Mn (ShR S) := ⟨fun h k => ShapeV.mono h k⟩
def JrR (ws : List (List Nat)) : Hp → V → Sty → Prop := fun H u S => TupR (ShR S) H u ws
theorem JrR.mn {ws : List (List Nat)} : Mn (JrR ws) := ⟨fun h k => (TupR.mn ShR.mn).to h k⟩
def JtR (H : Hp) (v : V) (Ss : List Sty) (ws : List (List Nat)) : Prop := TupR (JrR ws) H v Ss
theorem JtR.to {H H' : Hp} {v : V} {Ss : List Sty} {ws : List (List Nat)} (h : JtR H v Ss ws) (k : TK H H') : JtR H' v Ss ws := (TupR.mn JrR.mn).to h k
section
variable {P : Program} {w : World} {K : PySem.W.Frag} {mg : Str → Option Value} {base : Heap}
def spJoint : Sp := fun vs H Q _ => ∃ (stv sev : V) (Ss : List Sty) (eds : List (List Nat)) (stem : List Nat), vs = [stv, sev, sV stem] ∧ TupR StyR H stv Ss ∧ (∀ S ∈ Ss, StyOk S) ∧ SeR H sev eds ∧ (∀ e ∈ eds, WdOk (stem ++ e)) ∧ Ss.length ≤ 10 ∧ eds.length ≤ 10 ∧
  ∀ H' u, Same H H' → JtR H' u Ss (eds.map (stem ++ ·)) → Q u H'
theorem ok_joint_shape (T : Txt K mg) : FnOk P w K mg base CX0 6 T.a_joint_shape T.d_joint_shape ["styles", "secret", "stem"] spJoint := by
  have G_shape_of : FnOk P w K mg base CX0 5 T.a_shape_of T.d_shape_of ["style", "word"] spShapeOf := ok_shape_of T
  refine T.D_joint_shape.F.ok sc_joint_shape (fun vs H Q E h => ?_) (fun cdv A outer s H vs Q E hr h => ?_)
  · obtain ⟨stv, sev, Ss, eds, stem, rfl, _⟩ := h
    rfl
  · obtain ⟨stv, sev, Ss, eds, stem, rfl, ⟨sa, sus, rfl, esa, lS⟩, hok, ⟨ea, x0, x1, x2, ev, rfl, eea, da, dus, rfl, eda, lE⟩, hwd, S10, E10, q⟩ := h
    refine ⟨_, (pss_one (ps_ret (pe_callTy call_tuple_of (by rfl) T.n_tuple (by decide +kernel) (pa_cons (pe_lc (own := [("style", 3)]) (g := gName 3) (tt := tYes) rfl sc_joint_shape.nd (pi_tup (pv 0)) (blkOk_by (own := [("style", 3)]) (N := ["styles", "secret", "stem", "style", "ending"]) (sc := (defScope s_joint_shape)) (by decide +kernel)) (fun _ _ _ _ _ => (pg_name (i := 3) sc_joint_shape.nd rfl (.inr rfl))) (fun _ _ _ _ _ => pts_nil) (fun _ _ _ _ _ => (pe_callTy (T := "tuple") (r := rTupleOf K) call_tuple_of (by rfl) T.n_tuple (by decide +kernel) (pa_cons (pe_lc (own := [("ending", 4)]) (wi := iTup K _) (g := gName 4) (tt := tYes) rfl sc_joint_shape.nd (pi_tup (pe_ix (r := rIxT K) ix_tup (pv 1) pe_int (fun _ _ => rfl))) (blkOk_by (own := [("ending", 4)]) (N := ["styles", "secret", "stem", "style", "ending"]) (sc := (rel2 _ (defScope s_joint_shape))) (by decide +kernel)) (fun _ _ _ _ _ => (pg_name (i := 4) sc_joint_shape.nd rfl (.inl rfl))) (fun _ _ _ _ _ => pts_nil) (fun _ _ _ _ _ => (pe_call G_shape_of (hr.mono (by decide)) (by rfl) T.D_shape_of.G T.D_shape_of.F.kp T.D_shape_of.B .nil pass0 (pa_cons (pv 3) (pa_cons (pe_op op_add_str (pv 2) (pv 4)) pa_nil))))) pa_nil)))) pa_nil)))), ?_⟩
    have lsl := lS.1
    have lel := lE.1
    refine ⟨_, rfl, sa, rfl, ⟨_, SqT.of esa⟩, fun D nD => ?_⟩
    refine lc_it (walk_tup (K := K) (a := sa) (xs := sus)) (fun i H' => ∃ zs, H' D = some (.lst zs) ∧ LV (JrR (eds.map (stem ++ ·)) H') zs (Ss.take i) ∧ Same H H') ⟨[], upd_same, LV.nil, same_upd (Same.refl H) nD⟩ ?_ ?_ ?_
    · rintro i H' _ ⟨_, _, _, k⟩
      exact SqT.of (k _ _ esa)
    · rintro i x H1 H2 hi ⟨zs, eD, lz, k1⟩ ⟨rfl, hx⟩
      obtain ⟨S, eS, hS⟩ := lS.at hx
      have okS := hok S (List.mem_of_getElem? eS)
      have lzl := lz.1
      rw [List.length_take] at lzl
      rw [take_one eS]
      refine ⟨rfl, ?_⟩
      refine ⟨_, rfl, ea, _, _, _, rfl, rfl, SqT.of (k1 _ _ eea), atI_nat (j := 3) rfl, da, rfl, ⟨_, SqT.of (k1 _ _ eda)⟩, fun D2 nD2 => ?_⟩
      refine lc_it (walk_tup (K := K) (a := da) (xs := dus)) (fun j H' => ∃ ys, H' D2 = some (.lst ys) ∧ LV (ShR S H') ys ((eds.map (stem ++ ·)).take j) ∧ Same H2 H') ⟨[], upd_same, LV.nil, same_upd (Same.refl H2) nD2⟩ ?_ ?_ ?_
      · rintro j H' _ ⟨_, _, _, k⟩
        exact SqT.of (k _ _ (k1 _ _ eda))
      · rintro j y H3 H4 hj ⟨ys, eD2, ly, k3⟩ ⟨rfl, hy⟩
        obtain ⟨e, ee, rfl⟩ := lE.at hy
        have wd := hwd e (List.mem_of_getElem? ee)
        have lyl := ly.1
        rw [List.length_take, List.length_map] at lyl
        have wl := wd.len
        rw [List.length_append] at wl
        have eem : (eds.map (stem ++ ·))[j]? = some (stem ++ e) := by rw [List.getElem?_map, ee]; rfl
        rw [take_one eem]
        refine ⟨rfl, ?_⟩
        refine ⟨_, rfl, _, rfl, _, rfl, _, _, rfl, rfl, by rw [mkS_len, mkS_len]; exact big_ok (by omega), ?_⟩
        refine ⟨x, S, stem ++ e, by rw [mkS_app]; rfl, StyV.mono hS (same_tup (k1.trans k3)), okS, wd, fun u H5 k5 hu => ?_⟩
        have eD5 := k5 _ _ eD2
        refine ⟨ys, eD5, szN (by omega), ys ++ [u], upd_same, ?_, same_mut (k3.trans k5) nD2⟩
        have tm : TK H5 (upd H5 D2 (.lst (ys ++ [u]))) := TK.mut (TK.refl _) eD5
        exact ((ly.mono fun _ _ z => ShR.mn.to z (TK.same k5)).snoc hu).mono fun _ _ z => ShR.mn.to z tm
      · rintro H3 ⟨ys, eD2, ly, k3⟩
        rw [List.take_of_length_le (by rw [List.length_map]; omega)] at ly
        have k13 := k1.trans k3
        refine ⟨D2, _, rfl, .inl ⟨SqL.of eD2, fun p np => ?_⟩⟩
        have eD3 := k3 _ _ eD
        have eDp : upd H3 p (.tup ys) D = some (.lst zs) := by rw [upd_ne (ne_of_none eD3 np)]; exact eD3
        have tp : TK H3 (upd H3 p (.tup ys)) := TK.new (TK.refl _) np
        have hp : JrR (eds.map (stem ++ ·)) (upd H3 p (.tup ys)) (.ref p) S := ⟨p, ys, rfl, upd_same, ly.mono fun _ _ z => ShR.mn.to z tp⟩
        have lz3 : LV (JrR (eds.map (stem ++ ·)) (upd H3 p (.tup ys))) zs (Ss.take i) := lz.mono fun _ _ z => JrR.mn.to z ((TK.same k3).new np)
        have k4 := same_upd (o := .tup ys) k13 np
        generalize upd H3 p (.tup ys) = H5 at eDp hp lz3 k4
        refine ⟨zs, eDp, szN (by omega), zs ++ [.ref p], upd_same, ?_, same_mut k4 nD⟩
        exact (lz3.snoc hp).mono fun _ _ z => JrR.mn.to z (TK.mut (TK.refl _) eDp)
    · rintro H1 ⟨zs, eD, lz, k1⟩
      rw [List.take_of_length_le (by omega)] at lz
      refine ⟨D, _, rfl, .inl ⟨SqL.of eD, fun p np => ?_⟩⟩
      exact q _ _ (same_upd k1 np) ⟨p, zs, rfl, upd_same, lz.mono fun _ _ z => JrR.mn.to z (TK.new (TK.refl _) np)⟩
theorem ok_law_joint (T : Txt K mg) : FnOk P w K mg base CX0 3 T.a_law_joint T.d_law_joint ["_law_styles", "_law_secret", "_law_stem"] spJoint := by
  have G_law_shape : FnOk P w K mg base CX0 2 T.a_law_shape T.d_law_shape ["_law_style_here", "_law_word_here"] spLawShape := ok_law_shape T
  refine T.D_law_joint.F.ok sc_law_joint (fun vs H Q E h => ?_) (fun cdv A outer s H vs Q E hr h => ?_)
  · obtain ⟨stv, sev, Ss, eds, stem, rfl, _⟩ := h
    rfl
  · obtain ⟨stv, sev, Ss, eds, stem, rfl, ⟨sa, sus, rfl, esa, lS⟩, hok, ⟨ea, x0, x1, x2, ev, rfl, eea, da, dus, rfl, eda, lE⟩, hwd, S10, E10, q⟩ := h
    refine ⟨_, (pss_one (ps_ret (pe_callTy call_tuple_of (by rfl) T.n_tuple (by decide +kernel) (pa_cons (pe_lc (own := [("_law_style_here", 3)]) (g := gName 3) (tt := tYes) rfl sc_law_joint.nd (pi_tup (pv 0)) (blkOk_by (own := [("_law_style_here", 3)]) (N := ["_law_styles", "_law_secret", "_law_stem", "_law_style_here", "_law_one"]) (sc := (defScope s_law_joint)) (by decide +kernel)) (fun _ _ _ _ _ => (pg_name (i := 3) sc_law_joint.nd rfl (.inr rfl))) (fun _ _ _ _ _ => pts_nil) (fun _ _ _ _ _ => (pe_callTy (T := "tuple") (r := rTupleOf K) call_tuple_of (by rfl) T.n_tuple (by decide +kernel) (pa_cons (pe_lc (own := [("_law_one", 4)]) (wi := iTup K _) (g := gName 4) (tt := tYes) rfl sc_law_joint.nd (pi_tup (pe_ix (r := rIxT K) ix_tup (pv 1) pe_int (fun _ _ => rfl))) (blkOk_by (own := [("_law_one", 4)]) (N := ["_law_styles", "_law_secret", "_law_stem", "_law_style_here", "_law_one"]) (sc := (rel2 _ (defScope s_law_joint))) (by decide +kernel)) (fun _ _ _ _ _ => (pg_name (i := 4) sc_law_joint.nd rfl (.inl rfl))) (fun _ _ _ _ _ => pts_nil) (fun _ _ _ _ _ => (pe_call G_law_shape (hr.mono (by decide)) (by rfl) T.D_law_shape.G T.D_law_shape.F.kp T.D_law_shape.B .nil pass0 (pa_cons (pv 3) (pa_cons (pe_op op_add_str (pv 2) (pv 4)) pa_nil))))) pa_nil)))) pa_nil)))), ?_⟩
    have lsl := lS.1
    have lel := lE.1
    refine ⟨_, rfl, sa, rfl, ⟨_, SqT.of esa⟩, fun D nD => ?_⟩
    refine lc_it (walk_tup (K := K) (a := sa) (xs := sus)) (fun i H' => ∃ zs, H' D = some (.lst zs) ∧ LV (JrR (eds.map (stem ++ ·)) H') zs (Ss.take i) ∧ Same H H') ⟨[], upd_same, LV.nil, same_upd (Same.refl H) nD⟩ ?_ ?_ ?_
    · rintro i H' _ ⟨_, _, _, k⟩
      exact SqT.of (k _ _ esa)
    · rintro i x H1 H2 hi ⟨zs, eD, lz, k1⟩ ⟨rfl, hx⟩
      obtain ⟨S, eS, hS⟩ := lS.at hx
      have okS := hok S (List.mem_of_getElem? eS)
      have lzl := lz.1
      rw [List.length_take] at lzl
      rw [take_one eS]
      refine ⟨rfl, ?_⟩
      refine ⟨_, rfl, ea, _, _, _, rfl, rfl, SqT.of (k1 _ _ eea), atI_nat (j := 3) rfl, da, rfl, ⟨_, SqT.of (k1 _ _ eda)⟩, fun D2 nD2 => ?_⟩
      refine lc_it (walk_tup (K := K) (a := da) (xs := dus)) (fun j H' => ∃ ys, H' D2 = some (.lst ys) ∧ LV (ShR S H') ys ((eds.map (stem ++ ·)).take j) ∧ Same H2 H') ⟨[], upd_same, LV.nil, same_upd (Same.refl H2) nD2⟩ ?_ ?_ ?_
      · rintro j H' _ ⟨_, _, _, k⟩
        exact SqT.of (k _ _ (k1 _ _ eda))
      · rintro j y H3 H4 hj ⟨ys, eD2, ly, k3⟩ ⟨rfl, hy⟩
        obtain ⟨e, ee, rfl⟩ := lE.at hy
        have wd := hwd e (List.mem_of_getElem? ee)
        have lyl := ly.1
        rw [List.length_take, List.length_map] at lyl
        have wl := wd.len
        rw [List.length_append] at wl
        have eem : (eds.map (stem ++ ·))[j]? = some (stem ++ e) := by rw [List.getElem?_map, ee]; rfl
        rw [take_one eem]
        refine ⟨rfl, ?_⟩
        refine ⟨_, rfl, _, rfl, _, rfl, _, _, rfl, rfl, by rw [mkS_len, mkS_len]; exact big_ok (by omega), ?_⟩
        refine ⟨x, S, stem ++ e, by rw [mkS_app]; rfl, StyV.mono hS (same_tup (k1.trans k3)), okS, wd, fun u H5 k5 hu => ?_⟩
        have eD5 := k5 _ _ eD2
        refine ⟨ys, eD5, szN (by omega), ys ++ [u], upd_same, ?_, same_mut (k3.trans k5) nD2⟩
        have tm : TK H5 (upd H5 D2 (.lst (ys ++ [u]))) := TK.mut (TK.refl _) eD5
        exact ((ly.mono fun _ _ z => ShR.mn.to z (TK.same k5)).snoc hu).mono fun _ _ z => ShR.mn.to z tm
      · rintro H3 ⟨ys, eD2, ly, k3⟩
        rw [List.take_of_length_le (by rw [List.length_map]; omega)] at ly
        have k13 := k1.trans k3
        refine ⟨D2, _, rfl, .inl ⟨SqL.of eD2, fun p np => ?_⟩⟩
        have eD3 := k3 _ _ eD
        have eDp : upd H3 p (.tup ys) D = some (.lst zs) := by rw [upd_ne (ne_of_none eD3 np)]; exact eD3
        have tp : TK H3 (upd H3 p (.tup ys)) := TK.new (TK.refl _) np
        have hp : JrR (eds.map (stem ++ ·)) (upd H3 p (.tup ys)) (.ref p) S := ⟨p, ys, rfl, upd_same, ly.mono fun _ _ z => ShR.mn.to z tp⟩
        have lz3 : LV (JrR (eds.map (stem ++ ·)) (upd H3 p (.tup ys))) zs (Ss.take i) := lz.mono fun _ _ z => JrR.mn.to z ((TK.same k3).new np)
        have k4 := same_upd (o := .tup ys) k13 np
        generalize upd H3 p (.tup ys) = H5 at eDp hp lz3 k4
        refine ⟨zs, eDp, szN (by omega), zs ++ [.ref p], upd_same, ?_, same_mut k4 nD⟩
        exact (lz3.snoc hp).mono fun _ _ z => JrR.mn.to z (TK.mut (TK.refl _) eDp)
    · rintro H1 ⟨zs, eD, lz, k1⟩
      rw [List.take_of_length_le (by omega)] at lz
      refine ⟨D, _, rfl, .inl ⟨SqL.of eD, fun p np => ?_⟩⟩
      exact q _ _ (same_upd k1 np) ⟨p, zs, rfl, upd_same, lz.mono fun _ _ z => JrR.mn.to z (TK.new (TK.refl _) np)⟩
end
end Vf

set_option Elab.async false
set_option linter.all false
set_option maxRecDepth 100000
set_option maxHeartbeats 4000000
namespace Vf
open PySem PySem.Spec PyProof.Rows L2 TL
/-! ### drawn styles, by rows -/
def WrR : Hp → V → Nat × Nat → Prop := fun H v r => ∃ a, v = .ref a ∧ H a = some (.tup [sgn r.1, natV r.2])
theorem WrR.mn : Mn WrR := ⟨fun ⟨a, e, h⟩ k => ⟨a, e, k _ _ h⟩⟩
def CrR : Hp → V → (Nat × Nat) × Nat → Prop := fun H v r => ∃ a, v = .ref a ∧ H a = some (.tup [sgn r.1.1, sgn r.1.2, natV r.2])
theorem CrR.mn : Mn CrR := ⟨fun ⟨a, e, h⟩ k => ⟨a, e, k _ _ h⟩⟩
theorem rowsW_of {H : Hp} {a : Addr} {us : List V} {W : List (Nat × Nat)} (e : H a = some (.tup us)) (lv : LV (WrR H) us W) : RowsV H (.ref a) (rowsW W) := by
  refine ⟨a, us, rfl, e, by rw [len_rW]; exact lv.1, fun i r er => ?_⟩
  obtain ⟨x, ex, rfl⟩ := at_map er
  obtain ⟨y, ey, b, rfl, eb⟩ := lv.2 i x ex
  exact ⟨b, ey, eb⟩
theorem rows2_of {H : Hp} {a : Addr} {us : List V} {C : List ((Nat × Nat) × Nat)} (e : H a = some (.tup us)) (lv : LV (CrR H) us C) : RowsV H (.ref a) (rows2 C) := by
  refine ⟨a, us, rfl, e, by rw [len_r2]; exact lv.1, fun i r er => ?_⟩
  obtain ⟨x, ex, rfl⟩ := at_map er
  obtain ⟨y, ey, b, rfl, eb⟩ := lv.2 i x ex
  exact ⟨b, ey, eb⟩
theorem asc_W {W : List (Nat × Nat)} (h : (W.map Prod.fst).Pairwise (· < ·)) : Asc (rowsW W) := by
  unfold Asc rowsW
  rw [List.pairwise_map]
  rw [List.pairwise_map] at h
  refine h.imp fun {a b} z => ?_
  show (if a.1 = b.1 then _ else decide (a.1 < b.1)) = true
  rw [if_neg (by omega)]
  exact decide_eq_true z
/-- ascending pairs -/
def ltP (a b : Nat × Nat) : Prop := a.1 < b.1 ∨ (a.1 = b.1 ∧ a.2 < b.2)
theorem asc_2 {C : List ((Nat × Nat) × Nat)} (h : (C.map Prod.fst).Pairwise ltP) : Asc (rows2 C) := by
  unfold Asc rows2
  rw [List.pairwise_map]
  rw [List.pairwise_map] at h
  refine h.imp fun {a b} z => ?_
  show (if a.1.1 = b.1.1 then (if a.1.2 = b.1.2 then lexN [] [] else decide (a.1.2 < b.1.2)) else decide (a.1.1 < b.1.1)) = true
  rcases z with z | ⟨z, y⟩
  · rw [if_neg (by omega)]; exact decide_eq_true z
  · rw [if_pos z, if_neg (by omega)]; exact decide_eq_true y
theorem look_of_mem {W : List (Nat × Nat)} (h : (W.map Prod.fst).Nodup) {r : Nat × Nat} (hr : r ∈ W) : look W r.1 = some r.2 := by
  obtain ⟨i, hi, e⟩ := mem_at hr
  refine look_at e fun j q hj hq z => ?_
  have hn := List.pairwise_iff_getElem.mp h j i (by rw [List.length_map]; omega) (by rw [List.length_map]; omega) hj
  have e1 : (W.map Prod.fst)[j]'(by rw [List.length_map]; omega) = q.1 := by
    rw [List.getElem_map]
    rw [List.getElem?_eq_getElem (by omega)] at hq
    rw [Option.some.inj hq]
  have e2 : (W.map Prod.fst)[i]'(by rw [List.length_map]; omega) = r.1 := by
    rw [List.getElem_map]
    rw [List.getElem?_eq_getElem (by omega)] at e
    rw [Option.some.inj e]
  rw [e1, e2] at hn
  exact hn z
theorem nd_lt {l : List Nat} (h : l.Pairwise (· < ·)) : l.Nodup := h.imp fun {a b} z => by omega
theorem leP_lt {bs : List (Addr × Nat × Nat)} (h : bs.Pairwise fun a b => leP a.2 b.2) (n : (bs.map Prod.snd).Nodup) : (bs.map Prod.snd).Pairwise ltP := by
  rw [List.pairwise_map]
  unfold List.Nodup at n
  rw [List.pairwise_map] at n
  refine (h.and n).imp fun {a b} ⟨z, y⟩ => ?_
  rcases z with z | ⟨z, w⟩
  · exact .inl z
  · refine .inr ⟨z, Nat.lt_of_le_of_ne w fun e => y (Prod.ext z e)⟩
/-! pairs of signs as data -/
def dP (p : Nat × Nat) : PyData := .tuple [.str ⟨#[p.1]⟩, .str ⟨#[p.2]⟩]
theorem dP_dp {K : PySem.W.Frag} {H : Hp} {a : Addr} {p : Nat × Nat} (h : H a = some (.tup [sgn p.1, sgn p.2])) : Dp K H (.ref a) (dP p) := .tup (SqT.of h) (.cons (.str _) (.cons (.str _) .nil))
theorem dPs_dp {K : PySem.W.Frag} {H : Hp} : ∀ {bs : List (Addr × Nat × Nat)}, (∀ y ∈ bs, H y.1 = some (.tup [sgn y.2.1, sgn y.2.2])) → DpAll K H (bs.map fun y => V.ref y.1) (bs.map fun y => dP y.2)
  | [], _ => .nil
  | b :: bs, h => .cons (dP_dp (h b List.mem_cons_self)) (dPs_dp fun y hy => h y (List.mem_cons_of_mem _ hy))
theorem sg_beq (c d : Nat) : ((⟨#[c]⟩ : Str) == ⟨#[d]⟩) = decide (c = d) := by
  have h := sg_eqv c d
  simp only [PyData.eqv] at h
  exact h
theorem dP_eqv (p q : Nat × Nat) : PyData.eqv (dP p) (dP q) = decide (p = q) := by
  unfold dP
  simp only [PyData.eqv, PyData.eqvAll]
  rw [sg_beq, sg_beq]
  by_cases h : p = q
  · subst h; simp
  · rw [decide_eq_false h]
    by_cases h1 : p.1 = q.1
    · have : ¬ p.2 = q.2 := fun z => h (Prod.ext h1 z)
      simp [this]
    · simp [h1]
theorem dP_any (ps : List (Nat × Nat)) (p : Nat × Nat) : ((ps.map dP).any fun z => PyData.eqv z (dP p)) = decide (p ∈ ps) := by
  rw [List.any_map]
  by_cases h : p ∈ ps
  · rw [decide_eq_true h]
    exact List.any_eq_true.mpr ⟨p, h, by show PyData.eqv (dP p) (dP p) = true; rw [dP_eqv]; exact decide_eq_true rfl⟩
  · rw [decide_eq_false h]
    refine List.any_eq_false.mpr fun q hq => ?_
    show ¬ PyData.eqv (dP q) (dP p) = true
    rw [dP_eqv]
    exact fun z => h (of_decide_eq_true z ▸ hq)
def P2 (p : Nat × Nat) : Prop := p.1 < 1114112 ∧ p.2 < 1114112
theorem dP_lay {p : Nat × Nat} (h : P2 p) : (dP p).canLay0 = true := by
  have h1 := h.1
  have h2 := h.2
  unfold dP
  simp [PyData.canLay0, PyData.canLayAll0, PyData.strOk]
  exact ⟨h1, h2⟩
theorem dPs_lay : ∀ {ps : List (Nat × Nat)}, (∀ p ∈ ps, P2 p) → PyData.canLayAll0 (ps.map dP) = true
  | [], _ => rfl
  | p :: ps, h => by
    simp only [List.map_cons, PyData.canLayAll0, Bool.and_eq_true]
    exact ⟨dP_lay (h p List.mem_cons_self), dPs_lay fun q hq => h q (List.mem_cons_of_mem _ hq)⟩
theorem dP_depth (p : Nat × Nat) : (dP p).depth = 1 := by
  unfold dP; simp only [PyData.depth, PyData.depthAll]; rfl
theorem dPs_depth : ∀ ps : List (Nat × Nat), PyData.depthAll (ps.map dP) ≤ 1
  | [] => Nat.zero_le _
  | p :: ps => by
    have := dPs_depth ps
    have e := dP_depth p
    simp only [List.map_cons, PyData.depthAll]
    omega
theorem dP_shaped {p : Nat × Nat} (h : P2 p) : SeqAt.shaped (dP p) = true := Bool.and_eq_true_iff.mpr ⟨dP_lay h, decide_eq_true (by rw [dP_depth]; decide)⟩
theorem dPs_shaped {ps : List (Nat × Nat)} (h : ∀ p ∈ ps, P2 p) : SeqAt.shaped (.list (ps.map dP)) = true :=
  Bool.and_eq_true_iff.mpr ⟨by simp only [PyData.canLay0]; exact dPs_lay h, decide_eq_true (by have := dPs_depth ps; simp only [PyData.depth]; omega)⟩
theorem tup_new {H : Hp} {p : Addr} {xs : List V} (n : H p = none) : TK H (upd H p (.tup xs)) ∧ Same H (upd H p (.tup xs)) ∧ upd H p (.tup xs) p = some (.tup xs) := ⟨TK.new (TK.refl _) n, same_upd (Same.refl H) n, upd_same⟩
theorem Kp.of_same {d : Addr} {H H' : Hp} (k : Same H H') : Kp d H H' := fun b o _ e => k _ _ e
def SgB (H : Hp) (bs : List (Addr × Nat × Nat)) : Prop := ∀ y ∈ bs, H y.1 = some (.tup [sgn y.2.1, sgn y.2.2])
theorem SgB.to {H H' : Hp} {bs : List (Addr × Nat × Nat)} (h : SgB H bs) (k : TK H H') : SgB H' bs := fun y hy => k _ _ (h y hy)
theorem nd_snoc2 {α : Type} {l : List α} {x : α} (h : l.Nodup) (n : x ∉ l) : (l ++ [x]).Nodup := by
  rw [List.nodup_append]
  exact ⟨h, by simp, fun a ha b hb e => n (by rw [List.mem_singleton.mp hb] at e; exact e ▸ ha)⟩
def tSt : List Nat := [42, 49, 50, 57, 63, 97, 109, 115]
theorem tSt_e : ("*129?ams" : Str) = mkS tSt := by decide +kernel
section
variable {P : Program} {w : World} {K : PySem.W.Frag} {mg : Str → Option Value} {base : Heap}
def spStyle : Sp := fun vs H Q _ => ∃ (d l : Addr) (m dp cl : Int), vs = [.ref d, .int m, .int dp, .int cl] ∧ DI d l H ∧ ∀ H' v S, Kp d H H' → DI d l H' → StyV H' v S → StyOk S → Q v H'
theorem ok_style (T : Txt K mg) : FnOk P w K mg base CX0 3 T.a_law_style T.d_law_style ["_law_d", "_law_measure", "_law_depth", "_law_columns"] spStyle := by
  have G_law_draw : FnOk P w K mg base CX0 1 T.a_law_draw T.d_law_draw ["_law_d", "_law_many"] spDraw := ok_draw T
  have G_law_pick : FnOk P w K mg base CX0 2 T.a_law_pick T.d_law_pick ["_law_d", "_law_row"] (spPick K) := ok_pick T
  refine T.D_law_style.F.ok sc_law_style (fun vs H Q E h => ?_) (fun cdv A outer s H vs Q E hr h => ?_)
  · obtain ⟨d, l, m, dp, cl, rfl, _⟩ := h
    rfl
  · obtain ⟨d, l, m, dp, cl, rfl, hD, q⟩ := h
    refine ⟨_, (pss_cons (ps_set (i := 4) sc_law_style.nd rfl (.inl rfl) (pe_lst pa_nil))
      (pss_cons (ps_for PassesOwn.never rfl (pi_str pe_str) (pg_name (i := 5) sc_law_style.nd rfl (.inl rfl)) (pss_cons (ps_set (i := 6) sc_law_style.nd rfl (.inl rfl) (pe_call G_law_draw (hr.mono (by decide)) (by rfl) T.D_law_draw.G T.D_law_draw.F.kp T.D_law_draw.B .nil pass0 (pa_cons (pv 0) (pa_cons pe_int pa_nil))))
      (pss_one (ps_if (PW.pt (pw_or (pt_cmpR op_eq (pv 6) pe_int (nomark _)) (pw_or1 (pt_cmpR op_eq (pv 6) pe_int (nomark _))))) (pss_one (ps_expr (pe_bm PySem.F.plainAttrs_list PySem.F.slot_list_append PySem.F.type_list_append mt_append (pv 4) (pa_cons (pe_tup (pa_cons (pv 5) (pa_cons (pe_op op_add (pv 6) pe_int) pa_nil))) pa_nil)))) pss_nil))))
      (pss_cons (ps_set (i := 7) sc_law_style.nd rfl (.inl rfl) (pe_lst pa_nil))
      (pss_cons (ps_for PassesOwn.never rfl (pi_list (pv 4)) (pg_tup (by rfl) (pgs_cons (pg_name (i := 5) sc_law_style.nd rfl (.inl rfl)) (pgs_cons (pg_name (i := 8) sc_law_style.nd rfl (.inl rfl)) pgs_nil))) (pss_one (ps_if (PW.pt (pw_and (pt_cmpR op_in_sign (pv 5) pe_str (by rfl)) (pw_and1 (pt_cmpR op_eq (pe_call G_law_draw (hr.mono (by decide)) (by rfl) T.D_law_draw.G T.D_law_draw.F.kp T.D_law_draw.B .nil pass0 (pa_cons (pv 0) (pa_cons pe_int pa_nil))) pe_int (nomark _))))) (pss_one (ps_expr (pe_bm PySem.F.plainAttrs_list PySem.F.slot_list_append PySem.F.type_list_append mt_append (pv 7) (pa_cons (pe_tup (pa_cons (pv 5) (pa_cons (pe_call G_law_pick (hr.mono (by decide)) (by rfl) T.D_law_pick.G T.D_law_pick.F.kp T.D_law_pick.B .nil pass0 (pa_cons (pv 0) (pa_cons pe_str pa_nil))) (pa_cons (pe_op op_add pe_int (pe_call G_law_draw (hr.mono (by decide)) (by rfl) T.D_law_draw.G T.D_law_draw.F.kp T.D_law_draw.B .nil pass0 (pa_cons (pv 0) (pa_cons (pe_op op_sub (pv 8) pe_int) pa_nil)))) pa_nil)))) pa_nil)))) pss_nil)))
      (pss_cons (ps_set (i := 9) sc_law_style.nd rfl (.inl rfl) (pe_lst pa_nil))
      (pss_cons (ps_for PassesOwn.never rfl (pi_range1 (by rfl) T.n_range (pa_cons (pe_call G_law_draw (hr.mono (by decide)) (by rfl) T.D_law_draw.G T.D_law_draw.F.kp T.D_law_draw.B .nil pass0 (pa_cons (pv 0) (pa_cons pe_int pa_nil))) pa_nil)) (pg_name (i := 10) sc_law_style.nd rfl (.inl rfl)) (pss_cons (ps_set (i := 11) sc_law_style.nd rfl (.inl rfl) (pe_tup (pa_cons (pe_call G_law_pick (hr.mono (by decide)) (by rfl) T.D_law_pick.G T.D_law_pick.F.kp T.D_law_pick.B .nil pass0 (pa_cons (pv 0) (pa_cons pe_str pa_nil))) (pa_cons (pe_call G_law_pick (hr.mono (by decide)) (by rfl) T.D_law_pick.G T.D_law_pick.F.kp T.D_law_pick.B .nil pass0 (pa_cons (pv 0) (pa_cons pe_str pa_nil))) pa_nil))))
      (pss_one (ps_if (pt_cmpR (op_notInD (hu65 hr)) (pv 11) (pv 9) (by rfl)) (pss_one (ps_expr (pe_bm PySem.F.plainAttrs_list PySem.F.slot_list_append PySem.F.type_list_append mt_append (pv 9) (pa_cons (pv 11) pa_nil)))) pss_nil))))
      (pss_cons (ps_setLc (i := 12) (own := [("_law_one", 14), ("_law_two", 15)]) (g := (gTup K 2 (gCons (gName 14) (gCons (gName 15) gNil)))) (tt := tYes) rfl sc_law_style.nd rfl rfl (sw_true rfl rfl rfl (by decide +kernel)) (pi_list (pe_callB (call_sortedP (Room.units hr)) (by rfl) T.n_sorted (by decide +kernel) (pa_cons (pv 9) pa_nil))) (blkOk_by (own := [("_law_one", 14), ("_law_two", 15)]) (N := ["_law_d", "_law_measure", "_law_depth", "_law_columns", "_law_widths", "_law_sign", "_law_kind", "_law_cuts", "_law_wide", "_law_pairs_here", "_law_k", "_law_pair", "_law_breaks", "_law_prices", "_law_one", "_law_two"]) (sc := (defScope s_law_style)) (by decide +kernel)) (fun _ _ _ _ _ => (pg_tup (by rfl) (pgs_cons (pg_name (i := 14) sc_law_style.nd rfl (.inl rfl)) (pgs_cons (pg_name (i := 15) sc_law_style.nd rfl (.inl rfl)) pgs_nil)))) (fun _ _ _ _ _ => pts_nil) (fun _ _ _ _ _ => (pe_tup (pa_cons (pv 14) (pa_cons (pv 15) (pa_cons (pe_call G_law_pick (hr.mono (by decide)) (by rfl) T.D_law_pick.G T.D_law_pick.F.kp T.D_law_pick.B .nil pass0 (pa_cons (pv 0) (pa_cons (pe_lst (pa_cons pe_int (pa_cons pe_int (pa_cons pe_int (pa_cons pe_int (pa_cons pe_int (pa_cons pe_int pa_nil))))))) pa_nil))) pa_nil))))))
      (pss_cons (ps_setLc (i := 13) (own := [("_law_k", 10)]) (g := gName 10) (tt := tYes) rfl sc_law_style.nd rfl rfl (sw_true rfl rfl rfl (by decide +kernel)) (pi_range1 (by rfl) T.n_range (pa_cons pe_int pa_nil)) (blkOk_by (own := [("_law_k", 10)]) (N := ["_law_d", "_law_measure", "_law_depth", "_law_columns", "_law_widths", "_law_sign", "_law_kind", "_law_cuts", "_law_wide", "_law_pairs_here", "_law_k", "_law_pair", "_law_breaks", "_law_prices", "_law_one", "_law_two"]) (sc := (defScope s_law_style)) (by decide +kernel)) (fun _ _ _ _ _ => (pg_name (i := 10) sc_law_style.nd rfl (.inl rfl))) (fun _ _ _ _ _ => pts_nil) (fun _ _ _ _ _ => (pe_call G_law_pick (hr.mono (by decide)) (by rfl) T.D_law_pick.G T.D_law_pick.F.kp T.D_law_pick.B .nil pass0 (pa_cons (pv 0) (pa_cons (pe_lst (pa_cons pe_int (pa_cons pe_int (pa_cons pe_int (pa_cons pe_int (pa_cons pe_int (pa_cons pe_int pa_nil))))))) pa_nil)))))
      (pss_one (ps_ret (pe_tup (pa_cons (pv 1) (pa_cons (pv 2) (pa_cons (pv 3) (pa_cons (pe_callTy call_tuple_of (by rfl) T.n_tuple (by decide +kernel) (pa_cons (pv 4) pa_nil)) (pa_cons (pe_callTy call_tuple_of (by rfl) T.n_tuple (by decide +kernel) (pa_cons (pv 7) pa_nil)) (pa_cons (pe_callTy call_tuple_of (by rfl) T.n_tuple (by decide +kernel) (pa_cons (pv 12) pa_nil)) (pa_cons (pe_callTy call_tuple_of (by rfl) T.n_tuple (by decide +kernel) (pa_cons (pv 13) pa_nil)) pa_nil)))))))))))))))))), ?_⟩
    refine ⟨by show 0 ≤ sizeLine; decide, fun A0 nA => ?_⟩
    have nAd := hD.nd nA
    have k0 := (Kp.refl d H).new (o := .lst []) nA
    have D0 := hD.new (o := .lst []) nA
    have eA0 : upd H A0 (.lst []) A0 = some (.lst []) := upd_same
    generalize upd H A0 (.lst []) = H0 at k0 D0 eA0
    rw [tSt_e]
    refine ⟨_, rfl, for_it walk_str (fun n σ' H' => ∃ (W : List (Nat × Nat)) (us : List V) (x5 x6 : Option V), σ' = [some (.ref d), some (.int m), some (.int dp), some (.int cl), some (.ref A0), x5, x6, none, none, none, none, none, none, none, none, none] ∧ Kp d H H' ∧ DI d l H' ∧ H' A0 = some (.lst us) ∧ LV (WrR H') us W ∧ (W.map Prod.fst).Sublist (tSt.take n) ∧ ∀ r ∈ W, r.2 = 2 ∨ r.2 = 3)
      ⟨[], [], none, none, rfl, k0, D0, eA0, LV.nil, List.Sublist.refl _, fun _ h => nomatch h⟩ (fun _ _ _ _ _ => trivial) ?_ ?_⟩
    · rintro n x σ' H1 H2 hn ⟨W, us, x5, x6, rfl, k1, D1, eA1, lv, hsub, hw⟩ ⟨rfl, c, hc, rfl⟩
      have hc : tSt[n]? = some c := by rw [← Array.getElem?_toList] at hc; exact hc
      have et := take_one hc
      have lW : W.length ≤ 8 := by
        have := hsub.length_le
        rw [List.length_map, List.length_take] at this
        exact Nat.le_trans this (Nat.min_le_right _ _)
      have lu := lv.1
      refine ⟨_, rfl, d, l, 5, rfl, D1, by decide, fun H3 r k3 D3 a1 a2 => ?_⟩
      obtain ⟨g, rfl, hg⟩ := draw_nt (by decide) a1 a2
      have eA3 := k3 _ _ nAd.1 eA1
      have k13 := k1.trans k3
      have lv3 : LV (WrR H3) us W := lv.mono fun _ _ z => WrR.mn.to z (kpTup D1 k3)
      by_cases c1 : g = 1
      · subst c1
        refine ⟨_, rfl, rfl, true, bTr rfl, ?_⟩
        refine ⟨.ref A0, rfl, .inl ⟨rfl, _, .inl (.inl eA3)⟩, ?_⟩
        refine ⟨_, rfl, _, rfl, _, _, rfl, rfl, by show 2 ≤ sizeLine; decide, fun p np => ?_⟩
        have eAp : upd H3 p (.tup [sgn c, natV 2]) A0 = some (.lst us) := by rw [upd_ne (ne_of_none eA3 np)]; exact eA3
        have kp := k13.new (o := .tup [sgn c, natV 2]) np
        have Dp := D3.new (o := .tup [sgn c, natV 2]) np
        have lvp : LV (WrR (upd H3 p (.tup [sgn c, natV 2]))) (us ++ [.ref p]) (W ++ [(c, 2)]) := (lv3.mono fun _ _ z => WrR.mn.to z (TK.new (TK.refl _) np)).snoc ⟨p, rfl, upd_same⟩
        have lvq : LV (WrR (upd (upd H3 p (.tup [sgn c, natV 2])) A0 (.lst (us ++ [.ref p])))) (us ++ [.ref p]) (W ++ [(c, 2)]) := lvp.mono fun _ _ z => WrR.mn.to z (TK.mut (TK.refl _) eAp)
        refine ⟨A0, us, _, rfl, rfl, eAp, szN (by omega), ?_⟩
        refine ⟨W ++ [(c, 2)], us ++ [V.ref p], _, _, rfl, kp.mut nA, Dp.at nAd.1 nAd.2, upd_same, lvq, by rw [et, List.map_append]; exact hsub.append (List.Sublist.refl _), fun r hr => ?_⟩
        rcases List.mem_append.mp hr with h | h
        · exact hw r h
        · rw [List.mem_singleton.mp h]; exact .inl rfl
      · by_cases c2 : g = 2
        · subst c2
          refine ⟨_, rfl, rfl, false, bFa (fun z => c1 (nV_inj z)), _, rfl, rfl, true, bTr rfl, ?_⟩
          refine ⟨.ref A0, rfl, .inl ⟨rfl, _, .inl (.inl eA3)⟩, ?_⟩
          refine ⟨_, rfl, _, rfl, _, _, rfl, rfl, by show 2 ≤ sizeLine; decide, fun p np => ?_⟩
          have eAp : upd H3 p (.tup [sgn c, natV 3]) A0 = some (.lst us) := by rw [upd_ne (ne_of_none eA3 np)]; exact eA3
          have kp := k13.new (o := .tup [sgn c, natV 3]) np
          have Dp := D3.new (o := .tup [sgn c, natV 3]) np
          have lvp : LV (WrR (upd H3 p (.tup [sgn c, natV 3]))) (us ++ [.ref p]) (W ++ [(c, 3)]) := (lv3.mono fun _ _ z => WrR.mn.to z (TK.new (TK.refl _) np)).snoc ⟨p, rfl, upd_same⟩
          have lvq : LV (WrR (upd (upd H3 p (.tup [sgn c, natV 3])) A0 (.lst (us ++ [.ref p])))) (us ++ [.ref p]) (W ++ [(c, 3)]) := lvp.mono fun _ _ z => WrR.mn.to z (TK.mut (TK.refl _) eAp)
          refine ⟨A0, us, _, rfl, rfl, eAp, szN (by omega), ?_⟩
          refine ⟨W ++ [(c, 3)], us ++ [V.ref p], _, _, rfl, kp.mut nA, Dp.at nAd.1 nAd.2, upd_same, lvq, by rw [et, List.map_append]; exact hsub.append (List.Sublist.refl _), fun r hr => ?_⟩
          rcases List.mem_append.mp hr with h | h
          · exact hw r h
          · rw [List.mem_singleton.mp h]; exact .inr rfl
        · refine ⟨_, rfl, rfl, false, bFa (fun z => c1 (nV_inj z)), _, rfl, rfl, false, bFa (fun z => c2 (nV_inj z)), ?_⟩
          exact ⟨W, us, _, _, rfl, k13, D3, eA3, lv3, by rw [et]; exact hsub.trans (List.sublist_append_left _ _), hw⟩
    · rintro σ' H1 ⟨W, us, x5, x6, rfl, k1, D1, eA1, lv, hsub, hw⟩
      have hsub : (W.map Prod.fst).Sublist tSt := hsub
      have lW : W.length ≤ 8 := by
        have := hsub.length_le
        rw [List.length_map] at this
        exact this
      have aW : (W.map Prod.fst).Pairwise (· < ·) := List.Pairwise.sublist hsub (by decide)
      have uW : ∀ r ∈ W, r.1 < 1000 := fun r hr => by
        have : r.1 ∈ tSt := hsub.subset (List.mem_map.mpr ⟨r, hr, rfl⟩)
        exact (by decide : ∀ c ∈ tSt, c < 1000) _ this
      have lu := lv.1
      refine ⟨by show 0 ≤ sizeLine; decide, fun C0 nC => ?_⟩
      have nCd := D1.nd nC
      have nAC : A0 ≠ C0 := ne_of_none eA1 nC
      have k2 := k1.new (o := .lst []) nC
      have D2 := D1.new (o := .lst []) nC
      have nCH := none_kp k1 nCd.1 nC
      have eA2 : upd H1 C0 (.lst []) A0 = some (.lst us) := by rw [upd_ne nAC]; exact eA1
      have eC2 : upd H1 C0 (.lst []) C0 = some (.lst []) := upd_same
      have lv2 : LV (WrR (upd H1 C0 (.lst []))) us W := lv.mono fun _ _ z => WrR.mn.to z (TK.new (TK.refl _) nC)
      generalize upd H1 C0 (.lst []) = H2 at k2 D2 eA2 eC2 lv2
      refine ⟨_, rfl, A0, rfl, ⟨_, SqL.of eA2⟩, ?_⟩
      refine for_it (walk_list (K := K) (a := A0) (xs := us)) (fun i σ' H' => ∃ (C : List ((Nat × Nat) × Nat)) (vs : List V) (x5 x8 : Option V), σ' = [some (.ref d), some (.int m), some (.int dp), some (.int cl), some (.ref A0), x5, x6, some (.ref C0), x8, none, none, none, none, none, none, none] ∧ Kp d H H' ∧ DI d l H' ∧ H' A0 = some (.lst us) ∧ H' C0 = some (.lst vs) ∧ LV (CrR H') vs C ∧ LV (WrR H') us W ∧ (C.map fun r => r.1.1).Sublist ((W.take i).map Prod.fst) ∧ ∀ r ∈ C, r.2 < wOf W r.1.1 ∧ r.1.2 < 1000)
        ⟨[], [], _, _, rfl, k2, D2, eA2, eC2, LV.nil, lv2, List.Sublist.refl _, fun _ h => nomatch h⟩ ?_ ?_ ?_
      · rintro i σ' H' _ ⟨_, _, _, _, _, _, _, e, _⟩
        exact SqL.of e
      · rintro i x σ' H3 H4 hi ⟨C, vs, x5, x8, rfl, k3, D3, eA3, eC3, lc, lv3, hsc, hc⟩ ⟨rfl, hx⟩
        obtain ⟨⟨c, wd⟩, er, b, rfl, eb⟩ := lv3.at hx
        have hm := List.mem_of_getElem? er
        have hw2 := hw _ hm
        have hw2 : wd = 2 ∨ wd = 3 := hw2
        have hlk := look_of_mem (nd_lt aW) hm
        have hlk : look W c = some wd := hlk
        have et : (W.take (i + 1)).map Prod.fst = (W.take i).map Prod.fst ++ [c] := by rw [take_one er, List.map_append]; rfl
        have lC : C.length ≤ 8 := by
          have := hsc.length_le
          rw [List.length_map, List.length_map, List.length_take] at this
          omega
        have lcl := lc.1
        refine ⟨b, _, rfl, SqT.of eb, rfl, _, _, rfl, _, _, rfl, rfl, ?_⟩
        have hold : ∀ (H5 : Hp), TK H4 H5 → LV (CrR H5) vs C := fun H5 k => lc.mono fun _ _ z => CrR.mn.to z k
        have stay : ∀ (H5 : Hp) (x5 x8 : Option V), Kp d H4 H5 → DI d l H5 → ∃ (C : List ((Nat × Nat) × Nat)) (vs : List V) (y5 y8 : Option V), [some (.ref d), some (.int m), some (.int dp), some (.int cl), some (.ref A0), x5, x6, some (.ref C0), x8, none, none, none, none, none, none, none] = [some (.ref d), some (.int m), some (.int dp), some (.int cl), some (.ref A0), y5, x6, some (.ref C0), y8, none, none, none, none, none, none, none] ∧ Kp d H H5 ∧ DI d l H5 ∧ H5 A0 = some (.lst us) ∧ H5 C0 = some (.lst vs) ∧ LV (CrR H5) vs C ∧ LV (WrR H5) us W ∧ (C.map fun r => r.1.1).Sublist ((W.take (i + 1)).map Prod.fst) ∧ ∀ r ∈ C, r.2 < wOf W r.1.1 ∧ r.1.2 < 1000 := fun H5 x5 x8 k D =>
          ⟨C, vs, x5, x8, rfl, k3.trans k, D, k _ _ nAd.1 eA3, k _ _ nCd.1 eC3, hold H5 (kpTup D3 k), lv3.mono fun _ _ z => WrR.mn.to z (kpTup D3 k), by rw [et]; exact hsc.trans (List.sublist_append_left _ _), hc⟩
        by_cases ha : c ∈ ("ams" : Str).cps.toList
        · refine ⟨_, rfl, c, _, rfl, rfl, true, bTr ha, ?_⟩
          refine ⟨_, rfl, d, l, 2, rfl, D3, by decide, fun H5 r k5 D5 a1 a2 => ?_⟩
          obtain ⟨g, rfl, hg⟩ := draw_nt (by decide) a1 a2
          by_cases c1 : g = 1
          · subst c1
            refine ⟨rfl, true, bTr rfl, ?_⟩
            have eC5 := k5 _ _ nCd.1 eC3
            refine ⟨.ref C0, rfl, .inl ⟨rfl, _, .inl (.inl eC5)⟩, ?_⟩
            refine ⟨_, rfl, _, rfl, d, l, .str ("abn" : Str), _, rfl, D5, .inr ⟨("abn" : Str).cps.toList, rfl, rfl⟩, by decide +kernel, by decide +kernel, fun H6 v k6 D6 hv => ?_⟩
            obtain ⟨c2, hc2, rfl⟩ := List.mem_map.mp hv
            have hc2 : c2 < 1000 := of_decide_eq_true (List.all_eq_true.mp (show (("abn" : Str).cps.toList.all fun c => decide (c < 1000)) = true by decide +kernel) c2 hc2)
            refine ⟨_, rfl, _, rfl, _, _, rfl, rfl, d, l, (wd : Int) - 1, rfl, D6, by show (wd : Int) - 1 ≤ _; omega, fun H7 r7 k7 D7 b1 b2 => ?_⟩
            obtain ⟨j, rfl, hj⟩ := draw_nt (m := (wd : Int) - 1) (by omega) b1 b2
            refine ⟨_, _, rfl, rfl, by show 3 ≤ sizeLine; decide, fun t nt => ?_⟩
            have e1 : V.int (1 + (j : Int)) = natV (1 + j) := congrArg V.int (by omega)
            have k47 := k5.trans (k6.trans k7)
            have eC7 := k47 _ _ nCd.1 eC3
            have eA7 := k47 _ _ nAd.1 eA3
            generalize hX : upd H7 t (.tup [sgn (c, wd).fst, sV [c2], (fun i j => V.int (i + j)) 1 (j : Int)]) = X
            have hX : X = upd H7 t (.tup [sgn c, sgn c2, natV (1 + j)]) := by rw [← hX, ← e1]; rfl
            have eCX : X C0 = some (.lst vs) := by rw [hX, upd_ne (ne_of_none eC7 nt)]; exact eC7
            have eAX : X A0 = some (.lst us) := by rw [hX, upd_ne (ne_of_none eA7 nt)]; exact eA7
            have kX : Kp d H X := by rw [hX]; exact (k3.trans k47).new nt
            have DX : DI d l X := by rw [hX]; exact D7.new nt
            have tX : TK H4 X := by rw [hX]; exact TK.new (kpTup D3 k47) nt
            have rX : CrR X (.ref t) ((c, c2), 1 + j) := by rw [hX]; exact ⟨t, rfl, upd_same⟩
            have lX : LV (CrR X) (vs ++ [.ref t]) (C ++ [((c, c2), 1 + j)]) := (hold X tX).snoc rX
            have tm : TK X (upd X C0 (.lst (vs ++ [V.ref t]))) := TK.mut (TK.refl _) eCX
            refine ⟨C0, vs, _, rfl, rfl, eCX, szN (by omega), ?_⟩
            refine ⟨C ++ [((c, c2), 1 + j)], vs ++ [V.ref t], _, _, rfl, kX.mut nCH, DX.at nCd.1 nCd.2, by rw [upd_ne nAC]; exact eAX, upd_same, lX.mono fun _ _ z => CrR.mn.to z tm, lv3.mono fun _ _ z => WrR.mn.to z (tX.trans tm), by rw [et, List.map_append]; exact hsc.append (List.Sublist.refl _), fun r hr => ?_⟩
            rcases List.mem_append.mp hr with h | h
            · exact hc r h
            · rw [List.mem_singleton.mp h]
              refine ⟨?_, hc2⟩
              show 1 + j < (look W c).getD 1
              rw [hlk]
              show 1 + j < wd
              omega
          · refine ⟨rfl, false, bFa (fun z => c1 (nV_inj z)), ?_⟩
            exact stay _ _ _ k5 D5
        · refine ⟨_, rfl, c, _, rfl, rfl, false, bFa ha, ?_⟩
          exact stay _ _ _ (Kp.refl d _) D3
      · rintro σ' H3 ⟨C, cvs, x5, x8, rfl, k3, D3, eA3, eC3, lc, lv3, hsc, hc⟩
        rw [show us.length = W.length from lu, List.take_length] at hsc
        have lC : C.length ≤ 8 := by
          have := hsc.length_le
          rw [List.length_map, List.length_map] at this
          omega
        have lcl := lc.1
        have aC : (C.map Prod.fst).Pairwise ltP := by
          have h := List.Pairwise.sublist hsc aW
          rw [List.pairwise_map] at h ⊢
          exact h.imp fun {a b} z => .inl z
        have uC : ∀ r ∈ C, r.1.1 < 1000 ∧ r.1.2 < 1000 := fun r hr => by
          refine ⟨?_, (hc r hr).2⟩
          have : r.1.1 ∈ W.map Prod.fst := hsc.subset (List.mem_map.mpr ⟨r, hr, rfl⟩)
          obtain ⟨y, hy, e⟩ := List.mem_map.mp this
          rw [← e]; exact uW y hy
        refine ⟨by show 0 ≤ sizeLine; decide, fun P0 nP => ?_⟩
        have nPd := D3.nd nP
        have k4 := (Kp.refl d H3).new (o := .lst []) nP
        have D4 := D3.new (o := .lst []) nP
        have eP4 : upd H3 P0 (.lst []) P0 = some (.lst (([] : List (Addr × Nat × Nat)).map fun y => V.ref y.1)) := upd_same
        generalize upd H3 P0 (.lst []) = H4 at k4 D4 eP4
        refine ⟨_, rfl, d, l, 10, rfl, D4, by decide, fun H5 r k5 D5 a1 a2 => ?_⟩
        obtain ⟨g, rfl, hg⟩ := draw_nt (by decide) a1 a2
        refine ⟨(g : Int), rfl, by omega, by omega, ?_⟩
        rw [toNat_k]
        have hg : g < 10 := by omega
        refine for_it walk_range (fun i σ' H' => ∃ (bs : List (Addr × Nat × Nat)) (x10 x11 : Option V), σ' = [some (.ref d), some (.int m), some (.int dp), some (.int cl), some (.ref A0), x5, x6, some (.ref C0), x8, some (.ref P0), x10, x11, none, none, none, none] ∧ Kp d H3 H' ∧ DI d l H' ∧ H' P0 = some (.lst (bs.map fun y => V.ref y.1)) ∧ SgB H' bs ∧ bs.length ≤ i ∧ (bs.map Prod.snd).Nodup ∧ ∀ y ∈ bs, y.2.1 < 1000 ∧ y.2.2 < 1000)
          ⟨[], _, _, rfl, k4.trans k5, D5, k5 _ _ nPd.1 eP4, (fun _ h => nomatch h), Nat.le_refl _, List.nodup_nil, fun _ h => nomatch h⟩ (fun _ _ _ _ _ => trivial) ?_ ?_
        · rintro i x σ' H6 H7 hi ⟨bs, x10, x11, rfl, k6, D6, eP, hS, lb, nd, hb⟩ ⟨rfl, hx⟩
          have hall : ∀ c ∈ ("abimns" : Str).cps.toList, c < 1000 := fun c hc => of_decide_eq_true (List.all_eq_true.mp (show (("abimns" : Str).cps.toList.all fun c => decide (c < 1000)) = true by decide +kernel) c hc)
          refine ⟨_, rfl, d, l, .str ("abimns" : Str), _, rfl, D6, .inr ⟨("abimns" : Str).cps.toList, rfl, rfl⟩, by decide +kernel, by decide +kernel, fun H8 v k8 D8 hv => ?_⟩
          obtain ⟨c1, hc1, rfl⟩ := List.mem_map.mp hv
          refine ⟨_, rfl, d, l, .str ("abimns" : Str), _, rfl, D8, .inr ⟨("abimns" : Str).cps.toList, rfl, rfl⟩, by decide +kernel, by decide +kernel, fun H9 v k9 D9 hv => ?_⟩
          obtain ⟨c2, hc2, rfl⟩ := List.mem_map.mp hv
          have hc1 := hall c1 hc1
          have hc2 := hall c2 hc2
          refine ⟨by show 2 ≤ sizeLine; decide, fun t nt => ?_⟩
          have k69 := k8.trans k9
          have eP9 := k69 _ _ nPd.1 eP
          have tPt : P0 ≠ t := ne_of_none eP9 nt
          have ePt : upd H9 t (.tup [sV [c1], sV [c2]]) P0 = some (.lst (bs.map fun y => V.ref y.1)) := by rw [upd_ne tPt]; exact eP9
          have kt := (k6.trans k69).new (o := .tup [sV [c1], sV [c2]]) nt
          have Dt := D9.new (o := .tup [sV [c1], sV [c2]]) nt
          have ett : upd H9 t (.tup [sV [c1], sV [c2]]) t = some (.tup [sgn c1, sgn c2]) := upd_same
          have hSt : SgB (upd H9 t (.tup [sV [c1], sV [c2]])) bs := hS.to (TK.new (kpTup D6 k69) nt)
          generalize upd H9 t (.tup [sV [c1], sV [c2]]) = H10 at ePt kt Dt ett hSt
          have hP2 : ∀ q ∈ bs.map Prod.snd, P2 q := fun q hq => by
            obtain ⟨y, hy, rfl⟩ := List.mem_map.mp hq
            have := hb y hy
            exact ⟨by omega, by omega⟩
          have ebd : bs.map (fun y => dP y.2) = (bs.map Prod.snd).map dP := by rw [List.map_map]; rfl
          refine ⟨_, rfl, _, rfl, dP (c1, c2), (bs.map Prod.snd).map dP, dP_dp ett, .lst (SqL.of ePt) (by rw [← ebd]; exact dPs_dp hSt), dP_shaped ⟨by show c1 < _; omega, by show c2 < _; omega⟩, dPs_shaped hP2, ?_⟩
          rw [dP_any]
          by_cases hin : (c1, c2) ∈ bs.map Prod.snd
          · refine ⟨false, by rw [decide_eq_true hin]; rfl, ?_⟩
            exact ⟨bs, _, _, rfl, kt, Dt, ePt, hSt, by omega, nd, hb⟩
          · refine ⟨true, by rw [decide_eq_false hin]; rfl, ?_⟩
            refine ⟨.ref P0, rfl, .inl ⟨rfl, _, .inl (.inl ePt)⟩, _, rfl, P0, _, _, rfl, rfl, ePt, szN (by rw [List.length_map]; omega), ?_⟩
            have tm : TK H10 (upd H10 P0 (.lst (bs.map (fun y => V.ref y.1) ++ [V.ref t]))) := TK.mut (TK.refl _) ePt
            refine ⟨bs ++ [(t, c1, c2)], _, _, rfl, kt.mut nP, Dt.at nPd.1 nPd.2, by rw [upd_same, List.map_append]; rfl, fun y hy => ?_, by rw [List.length_append]; exact Nat.succ_le_succ lb, by rw [List.map_append]; exact nd_snoc2 nd hin, fun y hy => ?_⟩
            · rcases List.mem_append.mp hy with h | h
              · exact tm _ _ (hSt y h)
              · rw [List.mem_singleton.mp h]; exact tm _ _ ett
            · rcases List.mem_append.mp hy with h | h
              · exact hb y h
              · rw [List.mem_singleton.mp h]; exact ⟨hc1, hc2⟩
        · rintro σ' H6 ⟨bs, x10, x11, rfl, k6, D6, eP, hS, lb, nd, hb⟩
          refine ⟨_, rfl, P0, bs, rfl, SqL.of eP, fun y hy => SqT.of (hS y hy), by omega, fun ys p hp hpw np => ?_⟩
          have k7 := k6.new (o := .lst (ys.map fun y => V.ref y.1)) np
          have D7 := D6.new (o := .lst (ys.map fun y => V.ref y.1)) np
          have npd := (D6.nd np).1
          have ep : upd H6 p (.lst (ys.map fun y => V.ref y.1)) p = some (.lst (ys.map fun y => V.ref y.1)) := upd_same
          have hSy : SgB (upd H6 p (.lst (ys.map fun y => V.ref y.1))) ys := fun y hy => TK.new (TK.refl _) np _ _ (hS y (hp.mem_iff.mp hy))
          have ndy : (ys.map Prod.snd).Nodup := ((hp.map Prod.snd).nodup_iff).mpr nd
          have hasc := leP_lt hpw ndy
          have lys := hp.length_eq
          have hby : ∀ y ∈ ys, y.2.1 < 1000 ∧ y.2.2 < 1000 := fun y hy => hb y (hp.mem_iff.mp hy)
          generalize upd H6 p (.lst (ys.map fun y => V.ref y.1)) = H7 at k7 D7 ep hSy
          refine ⟨p, rfl, ⟨_, SqL.of ep⟩, fun D8 nD8 => ?_⟩
          have nDd := D7.nd nD8
          refine lc_it (walk_list (K := K) (a := p) (xs := ys.map fun y => V.ref y.1)) (fun i H' => ∃ (B : List ((Nat × Nat) × Nat)) (vs : List V), H' D8 = some (.lst vs) ∧ LV (CrR H') vs B ∧ B.map Prod.fst = (ys.take i).map Prod.snd ∧ Kp d H7 H' ∧ DI d l H') ⟨[], [], upd_same, LV.nil, rfl, (Kp.refl d H7).new nD8, D7.new nD8⟩ ?_ ?_ ?_
          · rintro i H' _ ⟨_, _, _, _, _, k, _⟩
            exact SqL.of (k _ _ npd ep)
          · rintro i x H8 H9 hi ⟨B, vs, eD, lv, eB, k8, D8'⟩ ⟨rfl, hx⟩
            obtain ⟨y, ey, rfl⟩ := at_map hx
            have hys := hSy y (List.mem_of_getElem? ey)
            have hys := kpTup D7 k8 _ _ hys
            have lB : B.length ≤ i := by
              have := congrArg List.length eB
              rw [List.length_map, List.length_map, List.length_take] at this
              omega
            have lvl := lv.1
            rw [List.length_map] at hi
            refine ⟨y.1, _, rfl, SqT.of hys, rfl, _, _, rfl, _, _, rfl, rfl, rfl, ?_⟩
            refine ⟨_, rfl, _, rfl, _, rfl, by show 6 ≤ sizeLine; decide, fun M nM => ?_⟩
            refine ⟨d, l, .ref M, _, rfl, D8'.new nM, .inl ⟨M, rfl, (D8'.nd nM).1, SqL.of upd_same⟩, Nat.succ_pos _, by show 6 ≤ 1000; decide, fun H10 v k10 D10 hv => ?_⟩
            have k10 := ((Kp.refl d H9).new (o := .lst [V.int 0, V.int 1, V.int 3, V.int 8, V.int 20, V.int 999]) nM).trans k10
            obtain ⟨pr, rfl, _, _⟩ := isN_of (lo := 0) (hi := 999) (List.all_eq_true.mp (show List.all _ (isN 0 999) = true from rfl) v hv)
            refine ⟨by show 3 ≤ sizeLine; decide, fun t nt => ?_⟩
            have eD10 := k10 _ _ nDd.1 eD
            have eDt : upd H10 t (.tup [sgn y.2.1, sgn y.2.2, nV pr]) D8 = some (.lst vs) := by rw [upd_ne (ne_of_none eD10 nt)]; exact eD10
            have tm : TK (upd H10 t (.tup [sgn y.2.1, sgn y.2.2, nV pr])) (upd (upd H10 t (.tup [sgn y.2.1, sgn y.2.2, nV pr])) D8 (.lst (vs ++ [V.ref t]))) := TK.mut (TK.refl _) eDt
            have rt : CrR (upd H10 t (.tup [sgn y.2.1, sgn y.2.2, nV pr])) (.ref t) (y.2, pr) := ⟨t, rfl, upd_same⟩
            have lt : LV (CrR (upd H10 t (.tup [sgn y.2.1, sgn y.2.2, nV pr]))) (vs ++ [V.ref t]) (B ++ [(y.2, pr)]) := (lv.mono fun _ _ z => CrR.mn.to z (TK.new (kpTup D8' k10) nt)).snoc rt
            refine ⟨vs, eDt, szN (by omega), B ++ [(y.2, pr)], vs ++ [V.ref t], upd_same, lt.mono fun _ _ z => CrR.mn.to z tm, by rw [take_one ey, List.map_append, List.map_append, eB]; rfl, ((k8.trans k10).new nt).mut nD8, (D10.new nt).at nDd.1 nDd.2⟩
          · rintro H8 ⟨B, vs, eD, lv, eB, k8, D8'⟩
            rw [List.length_map, List.take_length] at eB
            have lB : B.length ≤ 10 := by
              have := congrArg List.length eB
              rw [List.length_map, List.length_map] at this
              omega
            refine ⟨5, rfl, by omega, by omega, fun D9 nD9 => ?_⟩
            have nD9d := D8'.nd nD9
            refine lc_it walk_range (fun i H' => ∃ ps : List V, H' D9 = some (.lst ps) ∧ ps.length = i ∧ Kp d H8 H' ∧ DI d l H') ⟨[], upd_same, rfl, (Kp.refl d H8).new nD9, D8'.new nD9⟩ (fun _ _ _ _ => trivial) ?_ ?_
            · rintro i x H9 H10 hi ⟨ps, eD9, lps, k9, D9'⟩ ⟨rfl, hx⟩
              refine ⟨rfl, ?_⟩
              refine ⟨_, rfl, by show 6 ≤ sizeLine; decide, fun M nM => ?_⟩
              refine ⟨d, l, .ref M, _, rfl, D9'.new nM, .inl ⟨M, rfl, (D9'.nd nM).1, SqL.of upd_same⟩, Nat.succ_pos _, by show 6 ≤ 1000; decide, fun H11 v k11 D11 hv => ?_⟩
              have k11 := ((Kp.refl d H10).new (o := .lst [V.int 0, V.int 1, V.int 2, V.int 5, V.int 30, V.int 999]) nM).trans k11
              have hi : i < 5 := hi
              exact ⟨ps, k11 _ _ nD9d.1 eD9, szN (by omega), ps ++ [v], upd_same, by rw [List.length_append, lps]; rfl, (k9.trans k11).mut nD9, D11.at nD9d.1 nD9d.2⟩
            · rintro H9 ⟨ps, eD9, lps, k9, D9'⟩
              have k39 := k7.trans (k8.trans k9)
              have eA9 := k39 _ _ nAd.1 eA3
              have eC9 := k39 _ _ nCd.1 eC3
              have eB9 := k9 _ _ nDd.1 eD
              have lv9 : LV (WrR H9) us W := lv3.mono fun _ _ z => WrR.mn.to z (kpTup D3 k39)
              have lc9 : LV (CrR H9) cvs C := lc.mono fun _ _ z => CrR.mn.to z (kpTup D3 k39)
              have lb9 : LV (CrR H9) vs B := lv.mono fun _ _ z => CrR.mn.to z (kpTup D8' k9)
              have kAll := k3.trans k39
              refine ⟨_, rfl, _, rfl, _, rfl, _, rfl, A0, _, rfl, .inl ⟨SqL.of eA9, fun p1 np1 => ?_⟩⟩
              have ⟨t1, s1, f1⟩ := tup_new (xs := us) np1
              generalize upd H9 p1 (.tup us) = X1 at t1 s1 f1
              refine ⟨_, rfl, C0, _, rfl, .inl ⟨SqL.of (s1 _ _ eC9), fun p2 np2 => ?_⟩⟩
              have ⟨t2, s2, f2⟩ := tup_new (xs := cvs) np2
              generalize upd X1 p2 (.tup cvs) = X2 at t2 s2 f2
              refine ⟨_, rfl, D8, _, rfl, .inl ⟨SqL.of (s2 _ _ (s1 _ _ eB9)), fun p3 np3 => ?_⟩⟩
              have ⟨t3, s3, f3⟩ := tup_new (xs := vs) np3
              generalize upd X2 p3 (.tup vs) = X3 at t3 s3 f3
              refine ⟨_, rfl, D9, _, rfl, .inl ⟨SqL.of (s3 _ _ (s2 _ _ (s1 _ _ eD9))), fun p4 np4 => ⟨by show 7 ≤ sizeLine; decide, fun ra nra => ?_⟩⟩⟩
              have ⟨t4, s4, f4⟩ := tup_new (xs := ps) np4
              generalize upd X3 p4 (.tup ps) = X4 at t4 s4 f4 nra
              have ⟨t5, s5, f5⟩ := tup_new (xs := [V.int m, .int dp, .int cl, .ref p1, .ref p2, .ref p3, .ref p4]) nra
              have sAll := s1.trans (s2.trans (s3.trans (s4.trans s5)))
              have tAll := TK.same sAll
              have t25 : TK X1 (upd X4 ra (.tup [V.int m, .int dp, .int cl, .ref p1, .ref p2, .ref p3, .ref p4])) := t2.trans (t3.trans (t4.trans t5))
              have t35 : TK X2 (upd X4 ra (.tup [V.int m, .int dp, .int cl, .ref p1, .ref p2, .ref p3, .ref p4])) := t3.trans (t4.trans t5)
              have t45 : TK X3 (upd X4 ra (.tup [V.int m, .int dp, .int cl, .ref p1, .ref p2, .ref p3, .ref p4])) := t4.trans t5
              refine q _ _ ⟨m, dp, cl, W, C, B⟩ (kAll.trans (Kp.of_same sAll)) (D9'.keep sAll) ⟨ra, _, _, _, _, rfl, f5, rowsW_of (t25 _ _ f1) (lv9.mono fun _ _ z => WrR.mn.to z tAll), rows2_of (t35 _ _ f2) (lc9.mono fun _ _ z => CrR.mn.to z tAll), rows2_of (t45 _ _ f3) (lb9.mono fun _ _ z => CrR.mn.to z tAll)⟩ ?_
              have hB : ∀ r ∈ B, r.1.1 < 1000 ∧ r.1.2 < 1000 := fun r hr => by
                have : r.1 ∈ ys.map Prod.snd := by rw [← eB]; exact List.mem_map.mpr ⟨r, hr, rfl⟩
                obtain ⟨y, hy, e⟩ := List.mem_map.mp this
                rw [← e]; exact hby y hy
              refine ⟨asc_W aW, asc_2 aC, asc_2 (by rw [eB]; exact hasc), by show W.length ≤ 100; omega, by show C.length ≤ 100; omega, by show B.length ≤ 100; omega, fun r hr => ?_, fun r hr c hc => ?_, fun r hr c hc => ?_, fun r hr c hc => ?_, fun r hr => (hc r hr).1⟩
              · rcases hw r hr with e | e <;> omega
              · obtain ⟨r, hr2, rfl⟩ := List.mem_map.mp hr
                have := uW r hr2
                have e : c = r.1 := List.mem_singleton.mp hc
                omega
              · obtain ⟨r, hr2, rfl⟩ := List.mem_map.mp hr
                have ⟨a, b⟩ := uC r hr2
                have hc : c ∈ [r.1.1, r.1.2] := hc
                simp only [List.mem_cons, List.not_mem_nil, or_false] at hc
                omega
              · obtain ⟨r, hr2, rfl⟩ := List.mem_map.mp hr
                have ⟨a, b⟩ := hB r hr2
                have hc : c ∈ [r.1.1, r.1.2] := hc
                simp only [List.mem_cons, List.not_mem_nil, or_false] at hc
                omega
end
end Vf

set_option Elab.async false
set_option linter.all false
set_option maxRecDepth 100000
set_option maxHeartbeats 4000000
namespace Vf
open PySem PySem.Spec PyProof.Rows L2 TL
/-! ### drawn styles: the mathematics -/
theorem rising_sg : ∀ (p : Nat) (l : List Nat), risingS (sg1 p) (l.map sg1) = true → (∀ x ∈ l, p ≤ x) ∧ l.Pairwise (· ≤ ·)
  | _, [], _ => ⟨(fun _ h => nomatch h), List.Pairwise.nil⟩
  | p, x :: r, h => by
    have h : (!ltCps (sg1 x).cps.toList (sg1 p).cps.toList && risingS (sg1 x) (r.map sg1)) = true := h
    rw [Bool.and_eq_true] at h
    obtain ⟨h1, h2⟩ := rising_sg x r h.2
    have hp : p ≤ x := by
      have h3 := h.1
      have e : ltCps (sg1 x).cps.toList (sg1 p).cps.toList = (decide (x < p) || ((x == p) && false)) := rfl
      rw [e, Bool.and_false, Bool.or_false] at h3
      by_cases c : x < p
      · rw [decide_eq_true c] at h3; cases h3
      · omega
    refine ⟨fun y hy => ?_, List.pairwise_cons.mpr ⟨h1, h2⟩⟩
    rcases List.mem_cons.mp hy with z | z
    · rw [z]; exact hp
    · exact Nat.le_trans hp (h1 y z)
theorem sorted_sg {l : List Nat} (h : sortedS (l.map sg1) = true) : l.Pairwise (· ≤ ·) := by
  cases l with
  | nil => exact .nil
  | cons x r =>
    have h : risingS (sg1 x) (r.map sg1) = true := h
    obtain ⟨h1, h2⟩ := rising_sg x r h
    exact List.pairwise_cons.mpr ⟨h1, h2⟩
theorem sorted_lt {l : List Nat} (h : l.Pairwise (· ≤ ·)) (nd : l.Nodup) : l.Pairwise (· < ·) := (h.and nd).imp fun ⟨a, b⟩ => Nat.lt_of_le_of_ne a b
def le2 (a b : Nat × Nat) : Prop := a.1 < b.1 ∨ (a.1 = b.1 ∧ a.2 ≤ b.2)
theorem sorted_lex {l : List (Nat × Nat)} (h : l.Pairwise le2) (nd : l.Nodup) : l.Pairwise fun a b => lexN [a.1, a.2] [b.1, b.2] = true := (h.and nd).imp fun {a b} ⟨x, y⟩ => by
  show (if a.1 = b.1 then (if a.2 = b.2 then false else decide (a.2 < b.2)) else decide (a.1 < b.1)) = true
  by_cases e : a.1 = b.1
  · rw [if_pos e]
    by_cases e2 : a.2 = b.2
    · exact absurd (Prod.ext e e2) y
    · rw [if_neg e2]
      rcases x with x | x
      · exact absurd e (by omega)
      · exact decide_eq_true (by have := x.2; omega)
  · rw [if_neg e]
    rcases x with x | x
    · exact decide_eq_true x
    · exact absurd x.1 e
theorem fm_succ {α β : Type} {g : α → Option β} {l : List α} {n : Nat} {x : α} (h : l[n]? = some x) : (l.take (n + 1)).filterMap g = (l.take n).filterMap g ++ (g x).toList := by
  rw [take_succ' h, List.filterMap_append]
  have e2 : [x].filterMap g = (g x).toList := by
    cases e : g x with
    | none => rw [List.filterMap_cons_none e]; rfl
    | some y => rw [List.filterMap_cons_some e]; rfl
  rw [e2]
/-- rows by keys that have a value -/
theorem look_fm {κ β : Type} [DecidableEq κ] (f : κ → Option β) (l : List κ) (k : κ) : look (l.filterMap fun c => (f c).map fun p => (c, p)) k = if k ∈ l then f k else none := by
  induction l with
  | nil => rfl
  | cons c l ih =>
    cases e : f c with
    | none =>
      rw [List.filterMap_cons_none (by rw [e]; rfl), ih]
      by_cases h : k ∈ l
      · rw [if_pos h, if_pos (List.mem_cons_of_mem _ h)]
      · rw [if_neg h]
        by_cases h2 : k = c
        · rw [if_pos (by rw [h2]; exact List.mem_cons_self), h2, e]
        · rw [if_neg fun z => (List.mem_cons.mp z).elim h2 h]
    | some p =>
      rw [List.filterMap_cons_some (b := (c, p)) (by rw [e]; rfl)]
      by_cases h2 : c = k
      · subst h2
        rw [if_pos List.mem_cons_self, e]
        exact look_hit
      · rw [look_miss h2, ih]
        by_cases h : k ∈ l
        · rw [if_pos h, if_pos (List.mem_cons_of_mem _ h)]
        · rw [if_neg h, if_neg fun z => (List.mem_cons.mp z).elim (fun y => h2 y.symm) h]
theorem look_key {κ β : Type} [DecidableEq κ] {L : List (κ × β)} {k : κ} (h : k ∈ L.map (·.1)) : ∃ x, look L k = some x := by
  induction L with
  | nil => cases h
  | cons r L ih =>
    by_cases e : r.1 = k
    · exact ⟨r.2, by rw [← e]; exact look_hit⟩
    · rw [look_miss e]
      rcases List.mem_cons.mp h with z | z
      · exact absurd z.symm e
      · exact ih z
theorem look_nokey {κ β : Type} [DecidableEq κ] {L : List (κ × β)} {k : κ} (h : k ∉ L.map (·.1)) : look L k = none := look_none fun r hr e => h (List.mem_map.mpr ⟨r, hr, e⟩)
theorem valV_look {κ : Type} [DecidableEq κ] (kvs : List (κ × V)) (k : κ) : valV kvs k = look kvs k := rfl
def wkV (k : List (Nat × Nat)) : List (Key × V) := k.map fun r => (Sum.inr (sg1 r.1), natV r.2)
def kk2 (k : Nat × Nat) : List Key := [Sum.inr (sg1 k.1), Sum.inr (sg1 k.2)]
def ckV (k : List ((Nat × Nat) × Nat)) : List (List Key × V) := k.map fun r => (kk2 r.1, natV r.2)
def bkV (k : List ((Nat × Nat) × Option Nat)) : List (List Key × V) := k.map fun r => (kk2 r.1, prV r.2)
theorem sg1_inj {a b : Nat} (h : sg1 a = sg1 b) : a = b := by
  have := congrArg (fun t : Str => t.cps.toList) h
  exact (List.cons.inj this).1
theorem kk2_inj {a b : Nat × Nat} (h : kk2 a = kk2 b) : a = b := by
  have h1 := List.cons.inj h
  have h2 := List.cons.inj h1.2
  exact Prod.ext (sg1_inj (Sum.inr.inj h1.1)) (sg1_inj (Sum.inr.inj h2.1))
theorem wkV_get (k : List (Nat × Nat)) (c : Nat) : valV (wkV k) (Sum.inr (sg1 c)) = (look k c).map natV := look_map (f := fun c : Nat => (Sum.inr (sg1 c) : Key)) (g := natV) (fun a b e => sg1_inj (Sum.inr.inj e)) k c
theorem ckV_get (k : List ((Nat × Nat) × Nat)) (c : Nat × Nat) : valV (ckV k) (kk2 c) = (look k c).map natV := look_map (f := kk2) (g := natV) (fun a b e => kk2_inj e) k c
theorem bkV_get (k : List ((Nat × Nat) × Option Nat)) (c : Nat × Nat) : valV (bkV k) (kk2 c) = (look k c).map prV := look_map (f := kk2) (g := prV) (fun a b e => kk2_inj e) k c
theorem wkV_put {k : List (Nat × Nat)} {c x : Nat} (h : look k c = none) : putK (wkV k) (Sum.inr (sg1 c)) (natV x) = wkV (k ++ [(c, x)]) := by
  rw [putK_new _ (by rw [wkV_get, h]; rfl)]
  unfold wkV
  rw [List.map_append]; rfl
theorem ckV_put {k : List ((Nat × Nat) × Nat)} {c : Nat × Nat} {x : Nat} (h : look k c = none) : putK (ckV k) (kk2 c) (natV x) = ckV (k ++ [(c, x)]) := by
  rw [putK_new _ (by rw [ckV_get, h]; rfl)]
  unfold ckV
  rw [List.map_append]; rfl
theorem bkV_put {k : List ((Nat × Nat) × Option Nat)} {c : Nat × Nat} {x : Option Nat} (h : look k c = none) : putK (bkV k) (kk2 c) (prV x) = bkV (k ++ [(c, x)]) := by
  rw [putK_new _ (by rw [bkV_get, h]; rfl)]
  unfold bkV
  rw [List.map_append]; rfl
theorem bkV_again {k : List ((Nat × Nat) × Option Nat)} {c : Nat × Nat} {x y : Option Nat} (h : look k c = none) : putK (bkV (k ++ [(c, x)])) (kk2 c) (prV y) = bkV (k ++ [(c, y)]) := by
  unfold putK
  have e : valV (bkV (k ++ [(c, x)])) (kk2 c) = some (prV x) := by
    rw [bkV_get, look_snoc (fun q hq z => ?_), if_pos rfl]
    · rfl
    · obtain ⟨v, hv⟩ := look_key (L := k) (List.mem_map.mpr ⟨q, hq, z⟩)
      rw [h] at hv; cases hv
  rw [if_pos (by rw [valV_any, e]; rfl)]
  unfold bkV
  rw [List.map_append, List.map_append, List.map_append]
  congr 1
  · rw [List.map_map]
    apply List.map_congr_left
    intro r hr
    show (if kk2 r.1 = kk2 c then (kk2 r.1, prV y) else (kk2 r.1, prV r.2)) = _
    rw [if_neg]
    intro z
    obtain ⟨v, hv⟩ := look_key (L := k) (List.mem_map.mpr ⟨r, hr, kk2_inj z⟩)
    rw [h] at hv; cases hv
  · show [if kk2 c = kk2 c then (kk2 c, prV y) else (kk2 c, prV x)] = _
    rw [if_pos rfl]; rfl
/-- rows as they are gathered -/
def RowsL (H : Hp) (vs : List V) (L : List (List Nat × V)) : Prop := vs.length = L.length ∧ ∀ (i : Nat) (r : List Nat × V), L[i]? = some r → ∃ b : Addr, vs[i]? = some (.ref b) ∧ H b = some (.tup (rowV r))
theorem RowsL.same {H H' : Hp} {vs : List V} {L : List (List Nat × V)} (h : RowsL H vs L) (k : ∀ a xs, H a = some (.tup xs) → H' a = some (.tup xs)) : RowsL H' vs L := ⟨h.1, fun i r e => by
  obtain ⟨b, e1, e2⟩ := h.2 i r e
  exact ⟨b, e1, k _ _ e2⟩⟩
theorem RowsL.snoc {H : Hp} {vs : List V} {L : List (List Nat × V)} {b : Addr} {r : List Nat × V} (h : RowsL H vs L) (hb : H b = some (.tup (rowV r))) : RowsL H (vs ++ [.ref b]) (L ++ [r]) := by
  refine ⟨by rw [List.length_append, List.length_append, h.1]; rfl, fun i q e => ?_⟩
  by_cases hi : i < L.length
  · rw [List.getElem?_append_left hi] at e
    obtain ⟨y, e1, e2⟩ := h.2 i q e
    exact ⟨y, by rw [List.getElem?_append_left (by rw [h.1]; exact hi)]; exact e1, e2⟩
  · rw [List.getElem?_append_right (by omega)] at e
    have e0 : i - L.length = 0 := by
      have := (List.getElem?_eq_some_iff.mp e).1
      simp at this
      exact this
    rw [e0] at e
    have e : r = q := Option.some.inj e
    subst e
    exact ⟨b, by rw [List.getElem?_append_right (by rw [h.1]; omega), h.1, e0]; rfl, hb⟩
theorem RowsL.toV {H : Hp} {a : Addr} {vs : List V} {L : List (List Nat × V)} (h : RowsL H vs L) (e : H a = some (.tup vs)) : RowsV H (.ref a) L := ⟨a, vs, rfl, e, h.1, h.2⟩
def fW (wk : List (Nat × Nat)) (c : Nat) : Option Nat := if 1 < wOf wk c then some (wOf wk c) else none
def fC (ck : List ((Nat × Nat) × Nat)) (k : Nat × Nat) : Option Nat := if 0 < cutOf ck k.1 k.2 then some (cutOf ck k.1 k.2) else none
def fB (bk : List ((Nat × Nat) × Option Nat)) (k : Nat × Nat) : Option Nat := (look bk k).getD none
def rowsOf {κ : Type} (f : κ → Option Nat) (l : List κ) : List (κ × Nat) := l.filterMap fun c => (f c).map fun p => (c, p)
theorem rowsOf_len {κ : Type} (f : κ → Option Nat) (l : List κ) : (rowsOf f l).length ≤ l.length := List.length_filterMap_le _ _
theorem rowsOf_mem {κ : Type} {f : κ → Option Nat} {l : List κ} {r : κ × Nat} (h : r ∈ rowsOf f l) : r.1 ∈ l ∧ f r.1 = some r.2 := by
  obtain ⟨c, hc, e⟩ := List.mem_filterMap.mp h
  cases e2 : f c with
  | none => rw [e2] at e; cases e
  | some p =>
    rw [e2] at e
    have e : (c, p) = r := Option.some.inj e
    subst e
    exact ⟨hc, e2⟩
theorem rowsOf_pw {κ : Type} {R : κ → κ → Prop} {f : κ → Option Nat} {l : List κ} (h : l.Pairwise R) : (rowsOf f l).Pairwise fun a b => R a.1 b.1 := by
  refine List.Pairwise.filterMap _ ?_ h
  intro a b hab p hp q hq
  cases e1 : f a with
  | none => rw [e1] at hp; cases hp
  | some x =>
    cases e2 : f b with
    | none => rw [e2] at hq; cases hq
    | some y =>
      rw [e1] at hp
      rw [e2] at hq
      have hp : (a, x) = p := Option.some.inj hp
      have hq : (b, y) = q := Option.some.inj hq
      subst hp hq
      exact hab
structure Dicts (wk : List (Nat × Nat)) (ck : List ((Nat × Nat) × Nat)) (bk : List ((Nat × Nat) × Option Nat)) : Prop where
  nw : (wk.map (·.1)).Nodup
  w3 : ∀ r ∈ wk, 1 ≤ r.2 ∧ r.2 ≤ 3
  uw : ∀ r ∈ wk, r.1 < 1114112
  lw : wk.length ≤ 40
  nc : (ck.map (·.1)).Nodup
  cb : ck.map (·.1) = bk.map (·.1)
  lc : ck.length ≤ 40
  cw : ∀ r ∈ ck, r.2 < wOf wk r.1.1
  uc : ∀ r ∈ ck, r.1.1 < 1114112 ∧ r.1.2 < 1114112
theorem style_ok {wk : List (Nat × Nat)} {ck : List ((Nat × Nat) × Nat)} {bk : List ((Nat × Nat) × Option Nat)} (D : Dicts wk ck bk) {ys : List Nat} {ks js : List (Nat × Nat)} (h1 : ys.Perm (wk.map (·.1))) (s1 : ys.Pairwise (· ≤ ·)) (h2 : ks.Perm (ck.map (·.1))) (s2 : ks.Pairwise le2) (h3 : js.Perm (bk.map (·.1))) (s3 : js.Pairwise le2) (m dp cl : Int) :
    StyOk ⟨m, dp, cl, rowsOf (fW wk) ys, rowsOf (fC ck) ks, rowsOf (fB bk) js⟩ := by
  have hy : ∀ r ∈ rowsOf (fW wk) ys, ∃ x, look wk r.1 = some x ∧ (r.1, x) ∈ wk := fun r hr => by
    obtain ⟨x, hx⟩ := look_key (h1.mem_iff.mp (rowsOf_mem hr).1)
    exact ⟨x, hx, look_mem hx⟩
  have w1 : ∀ c, 1 ≤ wOf wk c ∧ wOf wk c ≤ 3 := fun c => by
    unfold wOf
    cases e : look wk c with
    | none => exact ⟨Nat.le_refl _, by decide⟩
    | some w => exact D.w3 _ (look_mem e)
  have wl : ∀ c, wOf (rowsOf (fW wk) ys) c = wOf wk c := fun c => by
    show (look (ys.filterMap fun c => (fW wk c).map fun p => (c, p)) c).getD 1 = _
    rw [look_fm]
    by_cases hc : c ∈ ys
    · rw [if_pos hc]
      unfold fW
      by_cases h : 1 < wOf wk c
      · rw [if_pos h]; rfl
      · rw [if_neg h]
        show 1 = _
        have := (w1 c).1
        omega
    · rw [if_neg hc]
      unfold wOf
      rw [look_nokey fun z => hc (h1.mem_iff.mpr z)]
  have nb : (bk.map (·.1)).Nodup := by rw [← D.cb]; exact D.nc
  have ub : ∀ k ∈ bk.map (·.1), k.1 < 1114112 ∧ k.2 < 1114112 := fun k hk => by
    rw [← D.cb] at hk
    obtain ⟨r, hr, rfl⟩ := List.mem_map.mp hk
    exact D.uc r hr
  refine ⟨?_, ?_, ?_, ?_, ?_, ?_, ?_, ?_, ?_, ?_, ?_⟩
  · show (List.map _ (rowsOf (fW wk) ys)).Pairwise _
    rw [List.pairwise_map]
    exact (rowsOf_pw (sorted_lt s1 (h1.nodup_iff.mpr D.nw))).imp fun {a b} h => by
      show (if a.1 = b.1 then false else decide (a.1 < b.1)) = true
      rw [if_neg (by omega)]; exact decide_eq_true h
  · show (List.map _ (rowsOf (fC ck) ks)).Pairwise _
    rw [List.pairwise_map]
    exact rowsOf_pw (sorted_lex s2 (h2.nodup_iff.mpr D.nc))
  · show (List.map _ (rowsOf (fB bk) js)).Pairwise _
    rw [List.pairwise_map]
    exact rowsOf_pw (sorted_lex s3 (h3.nodup_iff.mpr nb))
  · have := rowsOf_len (fW wk) ys
    have e := h1.length_eq
    rw [List.length_map] at e
    have := D.lw
    show (rowsOf (fW wk) ys).length ≤ 100
    omega
  · have := rowsOf_len (fC ck) ks
    have e := h2.length_eq
    rw [List.length_map] at e
    have := D.lc
    show (rowsOf (fC ck) ks).length ≤ 100
    omega
  · have := rowsOf_len (fB bk) js
    have e := h3.length_eq
    rw [← D.cb, List.length_map] at e
    have := D.lc
    show (rowsOf (fB bk) js).length ≤ 100
    omega
  · intro r hr
    have h := (rowsOf_mem hr).2
    unfold fW at h
    by_cases c : 1 < wOf wk r.1
    · rw [if_pos c] at h
      rw [← Option.some.inj h]
      exact w1 _
    · rw [if_neg c] at h; cases h
  · intro r hr c hc
    obtain ⟨q, hq, rfl⟩ := List.mem_map.mp hr
    have hc : c ∈ [q.1] := hc
    rw [List.mem_singleton.mp hc]
    obtain ⟨x, _, hx⟩ := hy q hq
    exact D.uw (q.1, x) hx
  · intro r hr c hc
    obtain ⟨q, hq, rfl⟩ := List.mem_map.mp hr
    have hk := h2.mem_iff.mp (rowsOf_mem hq).1
    obtain ⟨y, hy2, e⟩ := List.mem_map.mp hk
    have u := D.uc y hy2
    rw [e] at u
    have hc : c ∈ [q.1.1, q.1.2] := hc
    rcases List.mem_cons.mp hc with z | z
    · rw [z]; exact u.1
    · rw [List.mem_singleton.mp z]; exact u.2
  · intro r hr c hc
    obtain ⟨q, hq, rfl⟩ := List.mem_map.mp hr
    have u := ub _ (h3.mem_iff.mp (rowsOf_mem hq).1)
    have hc : c ∈ [q.1.1, q.1.2] := hc
    rcases List.mem_cons.mp hc with z | z
    · rw [z]; exact u.1
    · rw [List.mem_singleton.mp z]; exact u.2
  · intro r hr
    have h := (rowsOf_mem hr).2
    show r.2 < wOf (rowsOf (fW wk) ys) r.1.1
    rw [wl]
    unfold fC at h
    by_cases c : 0 < cutOf ck r.1.1 r.1.2
    · rw [if_pos c] at h
      rw [← Option.some.inj h]
      unfold cutOf at c ⊢
      cases e : look ck (r.1.1, r.1.2) with
      | none => rw [e] at c; cases c
      | some x =>
        exact D.cw _ (look_mem e)
    · rw [if_neg c] at h; cases h
end Vf

set_option Elab.async false
set_option linter.all false
set_option maxRecDepth 100000
set_option maxHeartbeats 4000000
namespace Vf
open PySem PySem.Spec PyProof.Rows L2 TL
/-! ### styles that fit words -/
def setW (wk : List (Nat × Nat)) (c x : Nat) : List (Nat × Nat) := if (look wk c).isSome then wk.map fun r => if r.1 = c then (r.1, x) else r else wk ++ [(c, x)]
theorem wkV_set (wk : List (Nat × Nat)) (c x : Nat) : putK (wkV wk) (Sum.inr (sg1 c)) (natV x) = wkV (setW wk c x) := by
  unfold setW
  cases h : look wk c with
  | none =>
    rw [if_neg (by decide)]
    exact wkV_put h
  | some y =>
    rw [if_pos (show (some y).isSome = true from rfl)]
    unfold putK
    rw [if_pos (by rw [valV_any, wkV_get, h]; rfl)]
    unfold wkV
    rw [List.map_map, List.map_map]
    refine List.map_congr_left fun r _ => ?_
    show (if (Sum.inr (sg1 r.1) : Key) = Sum.inr (sg1 c) then ((Sum.inr (sg1 r.1) : Key), natV x) else ((Sum.inr (sg1 r.1) : Key), natV r.2)) = (Sum.inr (sg1 (if r.1 = c then (r.1, x) else r).1), natV (if r.1 = c then (r.1, x) else r).2)
    by_cases e : r.1 = c
    · rw [if_pos e, if_pos (by rw [e])]
    · rw [if_neg e, if_neg fun z => e (sg1_inj (Sum.inr.inj z))]
theorem setW_keys (wk : List (Nat × Nat)) (c x : Nat) : (setW wk c x).map (·.1) = if (look wk c).isSome then wk.map (·.1) else wk.map (·.1) ++ [c] := by
  unfold setW
  split
  · rw [List.map_map]
    refine List.map_congr_left fun r _ => ?_
    show (if r.1 = c then (r.1, x) else r).1 = r.1
    split <;> rfl
  · rw [List.map_append]; rfl
theorem setW_mem {wk : List (Nat × Nat)} {c x : Nat} {r : Nat × Nat} (h : r ∈ setW wk c x) : r = (c, x) ∨ r ∈ wk := by
  unfold setW at h
  split at h
  · obtain ⟨q, hq, rfl⟩ := List.mem_map.mp h
    by_cases e : q.1 = c
    · rw [if_pos e]; exact .inl (by rw [e])
    · rw [if_neg e]; exact .inr hq
  · rcases List.mem_append.mp h with h | h
    · exact .inr h
    · exact .inl (List.mem_singleton.mp h)
theorem setW_len (wk : List (Nat × Nat)) (c x : Nat) : (setW wk c x).length ≤ wk.length + 1 := by
  have := congrArg List.length (setW_keys wk c x)
  rw [List.length_map] at this
  rw [this]
  split
  · rw [List.length_map]; omega
  · rw [List.length_append, List.length_map]; exact Nat.le_refl _
theorem setW_nd {wk : List (Nat × Nat)} {c x : Nat} (h : (wk.map (·.1)).Nodup) : ((setW wk c x).map (·.1)).Nodup := by
  rw [setW_keys]
  cases e : look wk c with
  | some y => exact h
  | none =>
    refine nd_snoc2 h fun z => ?_
    obtain ⟨y, hy⟩ := look_key z
    rw [e] at hy; cases hy
structure WwOk (wk : List (Nat × Nat)) (n : Nat) : Prop where
  nd : (wk.map (·.1)).Nodup
  w3 : ∀ r ∈ wk, r.2 = 2 ∨ r.2 = 3
  uc : ∀ r ∈ wk, r.1 < 1114112
  ln : wk.length ≤ n
/-- a word of at least one sign -/
def WdP (z : List Nat) : Prop := WdOk z ∧ 0 < z.length
section
variable {P : Program} {w : World} {K : PySem.W.Frag} {mg : Str → Option Value} {base : Heap}
def spPairs : Sp := fun vs H Q _ => ∃ (wl : Addr) (ws : List (List Nat)), vs = [.ref wl] ∧ H wl = some (.lst (ws.map sV)) ∧ (∀ z ∈ ws, WdP z) ∧ ws.length ≤ 5 ∧
  ∀ H' p (ys : List (Addr × Nat × Nat)), Same H H' → H p = none → H' p = some (.lst (ys.map fun y => V.ref y.1)) → SgB H' ys → ys.length ≤ 80 → (ys.map Prod.snd).Pairwise ltP → (∀ y ∈ ys, P2 y.2) → Q (.ref p) H'
theorem ok_pairs (T : Txt K mg) : FnOk P w K mg base CX0 1 T.a_law_pairs T.d_law_pairs ["_law_words"] spPairs := by
  refine T.D_law_pairs.F.ok sc_law_pairs (fun vs H Q E h => ?_) (fun cdv A outer s H vs Q E hr h => ?_)
  · obtain ⟨wl, ws, rfl, _⟩ := h
    rfl
  · obtain ⟨wl, ws, rfl, ewl, hws, l5, q⟩ := h
    refine ⟨_, (pss_cons (ps_set (i := 1) sc_law_pairs.nd rfl (.inl rfl) (pe_lst pa_nil))
      (pss_cons (ps_for PassesOwn.never rfl (pi_list (pv 0)) (pg_name (i := 2) sc_law_pairs.nd rfl (.inl rfl)) (pss_one (ps_for PassesOwn.never rfl (pi_range1 (by rfl) T.n_range (pa_cons (pe_op op_sub (pe_callB call_len_str (by rfl) T.n_len PySem.boot_len (pa_cons (pv 2) pa_nil)) pe_int) pa_nil)) (pg_name (i := 3) sc_law_pairs.nd rfl (.inl rfl)) (pss_one (ps_if (pt_cmpR (op_notInD (hu65 hr)) (pe_tup (pa_cons (pe_ix ix_str (pv 2) (pv 3) (fun _ _ => rfl)) (pa_cons (pe_ix ix_str (pv 2) (pe_op op_add (pv 3) pe_int) (fun _ _ => rfl)) pa_nil))) (pv 1) (by rfl)) (pss_one (ps_expr (pe_bm PySem.F.plainAttrs_list PySem.F.slot_list_append PySem.F.type_list_append mt_append (pv 1) (pa_cons (pe_tup (pa_cons (pe_ix ix_str (pv 2) (pv 3) (fun _ _ => rfl)) (pa_cons (pe_ix ix_str (pv 2) (pe_op op_add (pv 3) pe_int) (fun _ _ => rfl)) pa_nil))) pa_nil)))) pss_nil)))))
      (pss_one (ps_ret (pe_callB (call_sortedP (Room.units hr)) (by rfl) T.n_sorted (by decide +kernel) (pa_cons (pv 1) pa_nil)))))), ?_⟩
    refine ⟨by show 0 ≤ sizeLine; decide, fun P0 nP => ?_⟩
    have k0 := same_upd (o := .lst []) (Same.refl H) nP
    have eP0 : upd H P0 (.lst []) P0 = some (.lst (([] : List (Addr × Nat × Nat)).map fun y => V.ref y.1)) := upd_same
    generalize upd H P0 (.lst []) = H0 at k0 eP0
    refine ⟨_, rfl, wl, rfl, ⟨_, SqL.of (k0 _ _ ewl)⟩, ?_⟩
    refine for_it (walk_list (K := K) (a := wl) (xs := ws.map sV)) (fun i σ' H' => ∃ (bs : List (Addr × Nat × Nat)) (x2 x3 : Option V), σ' = [some (.ref wl), some (.ref P0), x2, x3] ∧ Same H H' ∧ H' P0 = some (.lst (bs.map fun y => V.ref y.1)) ∧ SgB H' bs ∧ bs.length ≤ i * 16 ∧ (bs.map Prod.snd).Nodup ∧ ∀ y ∈ bs, P2 y.2)
      ⟨[], none, none, rfl, k0, eP0, (fun _ h => nomatch h), Nat.zero_le _, List.nodup_nil, fun _ h => nomatch h⟩ ?_ ?_ ?_
    · rintro i σ' H' _ ⟨_, _, _, _, k, _⟩
      exact SqL.of (k _ _ ewl)
    · rintro i x σ' H1 H2 hi ⟨bs, x2, x3, rfl, k1, eP, hS, lb, nd, hb⟩ ⟨rfl, hx⟩
      obtain ⟨z, ez, rfl⟩ := map_at2 hx
      obtain ⟨wd, z0⟩ := hws z (List.mem_of_getElem? ez)
      have zl := wd.len
      have hbig : (mkS z).length ≤ sizeLine := by rw [mkS_len]; exact big_ok (by omega)
      rw [List.length_map] at hi
      refine ⟨_, rfl, mkS z, rfl, hbig, _, _, rfl, rfl, ((z.length - 1 : Nat) : Int), by rw [mkS_len]; exact congrArg (fun i : Int => [V.int i]) (show (z.length : Int) - 1 = ((z.length - 1 : Nat) : Int) by omega), by omega, by omega, ?_⟩
      rw [toNat_k]
      refine for_it walk_range (fun j σ' H' => ∃ (bs : List (Addr × Nat × Nat)) (x3 : Option V), σ' = [some (.ref wl), some (.ref P0), some (sV z), x3] ∧ Same H H' ∧ H' P0 = some (.lst (bs.map fun y => V.ref y.1)) ∧ SgB H' bs ∧ bs.length ≤ i * 16 + j ∧ (bs.map Prod.snd).Nodup ∧ ∀ y ∈ bs, P2 y.2)
        ⟨bs, _, rfl, k1, eP, hS, by omega, nd, hb⟩ (fun _ _ _ _ _ => trivial) ?_ ?_
      · rintro k x σ' H3 H4 hk ⟨bs, x3, rfl, k3, eP, hS, lb, nd, hb⟩ ⟨rfl, hx⟩
        have hx : x = nV k := by rw [hx]; exact int0 k
        subst hx
        have g1 := wd.at (show k < z.length by omega)
        have g2 := wd.at (show k + 1 < z.length by omega)
        have a1 : atI (mkS z).cps.toList (k : Int) = some (z.getD k 0) := atI_nat g1.1
        have a2 : atI (mkS z).cps.toList ((k : Int) + 1) = some (z.getD (k + 1) 0) := by rw [show (k : Int) + 1 = ((k + 1 : Nat) : Int) by omega]; exact atI_nat g2.1
        have u1 := g1.2
        have u2 := g2.2
        generalize z.getD k 0 = c1 at a1 u1
        generalize z.getD (k + 1) 0 = c2 at a2 u2
        refine ⟨_, rfl, _, rfl, mkS z, _, _, rfl, rfl, hbig, a1, ?_⟩
        refine ⟨_, rfl, _, rfl, _, _, rfl, rfl, mkS z, _, _, rfl, rfl, hbig, a2, by show 2 ≤ sizeLine; decide, fun t nt => ?_⟩
        have ⟨tt, st, ett⟩ := tup_new (xs := [sgn c1, sgn c2]) nt
        have hSt := hS.to tt
        have ePt := st _ _ eP
        generalize hX : upd H4 t (.tup [V.str ⟨#[c1]⟩, V.str ⟨#[c2]⟩]) = X
        have hX : upd H4 t (.tup [sgn c1, sgn c2]) = X := hX
        rw [hX] at tt st ett hSt ePt
        have kX := k3.trans st
        have hP2 : ∀ q ∈ bs.map Prod.snd, P2 q := fun q hq => by
          obtain ⟨y, hy, rfl⟩ := List.mem_map.mp hq
          exact hb y hy
        have ebd : bs.map (fun y => dP y.2) = (bs.map Prod.snd).map dP := by rw [List.map_map]; rfl
        refine ⟨_, rfl, dP (c1, c2), (bs.map Prod.snd).map dP, dP_dp ett, .lst (SqL.of ePt) (by rw [← ebd]; exact dPs_dp hSt), dP_shaped ⟨u1, u2⟩, dPs_shaped hP2, ?_⟩
        rw [dP_any]
        by_cases hin : (c1, c2) ∈ bs.map Prod.snd
        · refine ⟨false, by rw [decide_eq_true hin]; rfl, ?_⟩
          exact ⟨bs, _, rfl, kX, ePt, hSt, by omega, nd, hb⟩
        · refine ⟨true, by rw [decide_eq_false hin]; rfl, ?_⟩
          refine ⟨.ref P0, rfl, .inl ⟨rfl, _, .inl (.inl ePt)⟩, ?_⟩
          refine ⟨_, rfl, _, rfl, mkS z, _, _, rfl, rfl, hbig, a1, ?_⟩
          refine ⟨_, rfl, _, rfl, _, _, rfl, rfl, mkS z, _, _, rfl, rfl, hbig, a2, by show 2 ≤ sizeLine; decide, fun t2 nt2 => ?_⟩
          have ⟨tt2, st2, ett2⟩ := tup_new (xs := [sgn c1, sgn c2]) nt2
          have hSt2 := hSt.to tt2
          have ePt2 := st2 _ _ ePt
          generalize hY : upd X t2 (.tup [V.str ⟨#[c1]⟩, V.str ⟨#[c2]⟩]) = Y
          have hY : upd X t2 (.tup [sgn c1, sgn c2]) = Y := hY
          rw [hY] at tt2 st2 ett2 hSt2 ePt2
          refine ⟨P0, _, _, rfl, rfl, ePt2, szN (by rw [List.length_map]; omega), ?_⟩
          have tm : TK Y (upd Y P0 (.lst (bs.map (fun y => V.ref y.1) ++ [V.ref t2]))) := TK.mut (TK.refl _) ePt2
          refine ⟨bs ++ [(t2, c1, c2)], _, rfl, same_mut (kX.trans st2) nP, by rw [upd_same, List.map_append]; rfl, fun y hy => ?_, by rw [List.length_append]; show bs.length + 1 ≤ _; omega, by rw [List.map_append]; exact nd_snoc2 nd hin, fun y hy => ?_⟩
          · rcases List.mem_append.mp hy with h | h
            · exact tm _ _ (hSt2 y h)
            · rw [List.mem_singleton.mp h]; exact tm _ _ ett2
          · rcases List.mem_append.mp hy with h | h
            · exact hb y h
            · rw [List.mem_singleton.mp h]; exact ⟨u1, u2⟩
      · rintro σ' H3 ⟨bs, x3, rfl, k3, eP, hS, lb, nd, hb⟩
        exact ⟨bs, _, _, rfl, k3, eP, hS, by omega, nd, hb⟩
    · rintro σ' H1 ⟨bs, x2, x3, rfl, k1, eP, hS, lb, nd, hb⟩
      rw [List.length_map] at lb
      refine ⟨_, rfl, P0, bs, rfl, SqL.of eP, fun y hy => SqT.of (hS y hy), by omega, fun ys p hp hpw np => ?_⟩
      have lys := hp.length_eq
      exact q _ p ys (same_upd k1 np) (none_same k1 np) upd_same (fun y hy => TK.new (TK.refl _) np _ _ (hS y (hp.mem_iff.mp hy))) (by omega) (leP_lt hpw (((hp.map Prod.snd).nodup_iff).mpr nd)) fun y hy => hb y (hp.mem_iff.mp hy)
end
end Vf

set_option Elab.async false
set_option linter.all false
set_option maxRecDepth 100000
set_option maxHeartbeats 4000000
namespace Vf
open PySem PySem.Spec PyProof.Rows L2 TL
theorem ltP_nd {l : List (Nat × Nat)} (h : l.Pairwise ltP) : l.Nodup := h.imp fun {a b} z e => by
  subst e
  rcases z with z | ⟨_, z⟩ <;> omega
theorem flat_pos {ws : List (List Nat)} (h : ∀ z ∈ ws, 0 < z.length) (l : 0 < ws.length) : 0 < ws.flatten.length := by
  cases ws with
  | nil => cases l
  | cons z r =>
    rw [List.flatten_cons, List.length_append]
    have := h z List.mem_cons_self
    omega
theorem flat_up {ws : List (List Nat)} {b : Nat} (h : ∀ z ∈ ws, z.length ≤ b) : ws.flatten.length ≤ ws.length * b := by
  induction ws with
  | nil => exact Nat.zero_le _
  | cons c cs ih =>
    rw [List.flatten_cons, List.length_append, List.length_cons, Nat.add_mul]
    have := h c List.mem_cons_self
    have := ih fun c hc => h c (List.mem_cons_of_mem _ hc)
    omega
theorem wOf_pick {wk W : List (Nat × Nat)} {c x : Nat} (hn : (W.map (·.1)).Nodup) (hm : ∀ r, r ∈ W ↔ r ∈ wk) (hk : look wk c = some x) : wOf W c = x := by
  have h := (hm _).mpr (look_mem hk)
  have := look_of_mem hn h
  unfold wOf
  rw [this]; rfl
section
variable {P : Program} {w : World} {K : PySem.W.Frag} {mg : Str → Option Value} {base : Heap}
def spFit : Sp := fun vs H Q _ => ∃ (d l wl : Addr) (ws : List (List Nat)), vs = [.ref d, .ref wl] ∧ DI d l H ∧ wl ≠ d ∧ H wl = some (.lst (ws.map sV)) ∧ (∀ z ∈ ws, WdP z) ∧ 1 ≤ ws.length ∧ ws.length ≤ 5 ∧ ∀ H' v S, Kp d H H' → DI d l H' → StyV H' v S → StyOk S → Q v H'
theorem ok_fit (T : Txt K mg) : FnOk P w K mg base CX0 3 T.a_law_fit_style T.d_law_fit_style ["_law_d", "_law_words"] spFit := by
  have G_law_draw : FnOk P w K mg base CX0 1 T.a_law_draw T.d_law_draw ["_law_d", "_law_many"] spDraw := ok_draw T
  have G_law_pick : FnOk P w K mg base CX0 2 T.a_law_pick T.d_law_pick ["_law_d", "_law_row"] (spPick K) := ok_pick T
  have G_law_pairs : FnOk P w K mg base CX0 1 T.a_law_pairs T.d_law_pairs ["_law_words"] spPairs := ok_pairs T
  refine T.D_law_fit_style.F.ok sc_law_fit_style (fun vs H Q E h => ?_) (fun cdv A outer s H vs Q E hr h => ?_)
  · obtain ⟨d, l, wl, ws, rfl, _⟩ := h
    rfl
  · obtain ⟨d, l, wl, ws, rfl, hD, nwl, ewl, hws, w1, w5, q⟩ := h
    refine ⟨_, (pss_cons (ps_set (i := 2) sc_law_fit_style.nd rfl (.inl rfl) pe_str)
      (pss_cons (ps_set (i := 3) sc_law_fit_style.nd rfl (.inl rfl) (pe_join pe_str (pv 1)))
      (pss_cons (ps_set (i := 4) sc_law_fit_style.nd rfl (.inr rfl) pe_dnewK)
      (pss_cons (ps_for PassesOwn.never rfl (pi_range1 (by rfl) T.n_range (pa_cons (pe_call G_law_draw (hr.mono (by decide)) (by rfl) T.D_law_draw.G T.D_law_draw.F.kp T.D_law_draw.B .nil pass0 (pa_cons (pv 0) (pa_cons pe_int pa_nil))) pa_nil)) (pg_name (i := 5) sc_law_fit_style.nd rfl (.inl rfl)) (pss_one (ps_dput (hu1 hr) (pv 4) (pe_call G_law_pick (hr.mono (by decide)) (by rfl) T.D_law_pick.G T.D_law_pick.F.kp T.D_law_pick.B .nil pass0 (pa_cons (pv 0) (pa_cons (pv 3) pa_nil))) (pe_op op_add pe_int (pe_call G_law_draw (hr.mono (by decide)) (by rfl) T.D_law_draw.G T.D_law_draw.F.kp T.D_law_draw.B .nil pass0 (pa_cons (pv 0) (pa_cons pe_int pa_nil)))) rfl)))
      (pss_cons (ps_set (i := 6) sc_law_fit_style.nd rfl (.inl rfl) (pe_lst pa_nil))
      (pss_cons (ps_set (i := 7) sc_law_fit_style.nd rfl (.inl rfl) (pe_lst pa_nil))
      (pss_cons (ps_for PassesOwn.never rfl (pi_list (pe_call G_law_pairs (hr.mono (by decide)) (by rfl) T.D_law_pairs.G T.D_law_pairs.F.kp T.D_law_pairs.B .nil pass0 (pa_cons (pv 1) pa_nil))) (pg_tup (by rfl) (pgs_cons (pg_name (i := 8) sc_law_fit_style.nd rfl (.inl rfl)) (pgs_cons (pg_name (i := 9) sc_law_fit_style.nd rfl (.inl rfl)) pgs_nil))) (Evl.pss_cut (ps_if (PW.pt (pw_and (pt_cmp (pc_din (hu1 hr) (pv 8) (pv 4))) (pw_and1 (pt_cmpR op_eq (pe_call G_law_draw (hr.mono (by decide)) (by rfl) T.D_law_draw.G T.D_law_draw.F.kp T.D_law_draw.B .nil pass0 (pa_cons (pv 0) (pa_cons pe_int pa_nil))) pe_int (nomark _))))) (pss_one (ps_expr (pe_bm PySem.F.plainAttrs_list PySem.F.slot_list_append PySem.F.type_list_append mt_append (pv 6) (pa_cons (pe_tup (pa_cons (pv 8) (pa_cons (pv 9) (pa_cons (pe_op op_add pe_int (pe_call G_law_draw (hr.mono (by decide)) (by rfl) T.D_law_draw.G T.D_law_draw.F.kp T.D_law_draw.B .nil pass0 (pa_cons (pv 0) (pa_cons (pe_op op_sub (pe_dget (hu1 hr) (pv 4) (pv 8) (fun _ _ => rfl)) pe_int) pa_nil)))) pa_nil)))) pa_nil)))) pss_nil)
      (pss_one (ps_if (PW.pt (pw_and (pt_cmpR op_in_sign (pv 8) (pv 2) (by rfl)) (pw_and (pt_cmpR op_in_sign (pv 9) (pv 2) (by rfl)) (pw_and1 (pt_cmpR op_gt (pe_call G_law_draw (hr.mono (by decide)) (by rfl) T.D_law_draw.G T.D_law_draw.F.kp T.D_law_draw.B .nil pass0 (pa_cons (pv 0) (pa_cons pe_int pa_nil))) pe_int (nomark _)))))) (pss_one (ps_expr (pe_bm PySem.F.plainAttrs_list PySem.F.slot_list_append PySem.F.type_list_append mt_append (pv 7) (pa_cons (pe_tup (pa_cons (pv 8) (pa_cons (pv 9) (pa_cons (pe_call G_law_pick (hr.mono (by decide)) (by rfl) T.D_law_pick.G T.D_law_pick.F.kp T.D_law_pick.B .nil pass0 (pa_cons (pv 0) (pa_cons (pe_lst (pa_cons pe_int (pa_cons pe_int (pa_cons pe_int (pa_cons pe_int pa_nil))))) pa_nil))) pa_nil)))) pa_nil)))) pss_nil))))
      (pss_cons (ps_set (i := 10) sc_law_fit_style.nd rfl (.inl rfl) (pe_callTy call_tuple_of (by rfl) T.n_tuple (by decide +kernel) (pa_cons (pe_lc (own := [("_law_sign", 11)]) (g := gName 11) (tt := tYes) rfl sc_law_fit_style.nd (pi_list (pe_callB (call_sortedD (by rfl)) (by rfl) T.n_sorted (by decide +kernel) (pa_cons (pv 4) pa_nil))) (blkOk_by (own := [("_law_sign", 11)]) (N := ["_law_d", "_law_words", "_law_letters", "_law_signs", "_law_wide", "_law_k", "_law_cuts", "_law_breaks", "_law_one", "_law_two", "_law_widths", "_law_sign"]) (sc := (defScope s_law_fit_style)) (by decide +kernel)) (fun _ _ _ _ _ => (pg_name (i := 11) sc_law_fit_style.nd rfl (.inl rfl))) (fun _ _ _ _ _ => pts_nil) (fun _ _ _ _ _ => (pe_tup (pa_cons (pv 11) (pa_cons (pe_dget (hu1 hr) (pv 4) (pv 11) (fun _ _ => rfl)) pa_nil))))) pa_nil)))
      (pss_one (ps_ret (pe_tup (pa_cons pe_int (pa_cons pe_int (pa_cons pe_int (pa_cons (pv 10) (pa_cons (pe_callTy call_tuple_of (by rfl) T.n_tuple (by decide +kernel) (pa_cons (pv 6) pa_nil)) (pa_cons (pe_callTy call_tuple_of (by rfl) T.n_tuple (by decide +kernel) (pa_cons (pv 7) pa_nil)) (pa_cons (pe_tup (pa_cons pe_int (pa_cons pe_int (pa_cons pe_int (pa_cons pe_int (pa_cons pe_int pa_nil)))))) pa_nil)))))))))))))))))), ?_⟩
    have fp := flat_pos (fun z hz => (hws z hz).2) w1
    have fu := flat_up (b := 16) fun z hz => (hws z hz).1.len
    have fc : ∀ c ∈ ws.flatten, c < 1114112 := fun c hc => by
      obtain ⟨z, hz, hc⟩ := List.mem_flatten.mp hc
      exact (hws z hz).1.ok c hc
    refine ⟨⟨_, rfl⟩, _, rfl, _, wl, ws.map mkS, rfl, rfl, .inl (SqL.of (by rw [ewl, map_sV])), ?_, ?_⟩
    · rw [sum_len, show (("" : Str)).length = 0 from by rw [empty_mk, mkS_len]; rfl]; exact big_ok (by omega)
    rw [join_mk]
    generalize ws.flatten = t at fp fu fc
    refine fun W nW => ?_
    have ndW := hD.nd nW
    have K0 : Kp d H (upd H W (.dK [])) := (Kp.refl d H).new nW
    have D0 := hD.new (o := .dK []) nW
    have eW0 : upd H W (.dK []) W = some (.dK (wkV [])) := upd_same
    generalize upd H W (.dK []) = H0 at K0 D0 eW0
    refine ⟨_, rfl, d, l, 5, rfl, D0, by decide, fun H1 r k1 D1 a1 a2 => ?_⟩
    obtain ⟨g, rfl, hg⟩ := draw_nt (by decide) a1 a2
    refine ⟨(g : Int), rfl, by omega, by omega, ?_⟩
    rw [toNat_k]
    refine for_it walk_range (fun i σ' H' => ∃ (wk : List (Nat × Nat)) (x5 : Option V), σ' = [some (.ref d), some (.ref wl), some (.str ("abcdefghijklmnopqrstuvwxyz" : Str)), some (sV t), some (.ref W), x5, none, none, none, none, none, none] ∧ Kp d H H' ∧ DI d l H' ∧ H' W = some (.dK (wkV wk)) ∧ WwOk wk i)
      ⟨[], none, rfl, K0.trans k1, D1, k1 _ _ ndW.1 eW0, List.nodup_nil, (fun _ h => nomatch h), (fun _ h => nomatch h), Nat.le_refl _⟩ (fun _ _ _ _ _ => trivial) ?_ ?_
    · rintro i x σ' H2 H3 hi ⟨wk, x5, rfl, k2, D2, eW, ok⟩ ⟨rfl, hx⟩
      refine ⟨_, rfl, d, l, 2, rfl, D2, by decide, fun H4 r k4 D4 b1 b2 => ?_⟩
      obtain ⟨j, rfl, hj⟩ := draw_nt (by decide) b1 b2
      have eW4 := k4 _ _ ndW.1 eW
      refine ⟨_, _, rfl, rfl, _, rfl, _, rfl, _, rfl, d, l, sV t, _, rfl, D4, .inr ⟨t, rfl, rfl⟩, by rw [List.length_map]; exact fp, by rw [List.length_map]; omega, fun H5 v k5 D5 hv => ?_⟩
      obtain ⟨c, hc, rfl⟩ := List.mem_map.mp hv
      have eW5 := k5 _ _ ndW.1 eW4
      have ln := ok.ln
      refine ⟨W, _, rfl, DPut.k (k := Sum.inr (sg1 c)) eW5 (by unfold wkV; rw [List.length_map]; exact lt_s (by omega)), ?_⟩
      have e2 : V.int (2 + (j : Int)) = natV (2 + j) := congrArg V.int (by omega)
      refine ⟨setW wk c (2 + j), _, rfl, (k2.trans (k4.trans k5)).mut nW, D5.at ndW.1 ndW.2, ?_, setW_nd ok.nd, fun r hr => ?_, fun r hr => ?_, Nat.le_trans (setW_len _ _ _) (Nat.succ_le_succ ln)⟩
      · rw [upd_same, ← wkV_set, ← e2]
      · rcases setW_mem hr with rfl | h
        · show 2 + j = 2 ∨ 2 + j = 3
          omega
        · exact ok.w3 r h
      · rcases setW_mem hr with rfl | h
        · exact fc c hc
        · exact ok.uc r h
    · rintro σ' H2 ⟨wk, x5, rfl, k2, D2, eW, ok⟩
      have ln := ok.ln
      refine ⟨by show 0 ≤ sizeLine; decide, fun C0 nC => ⟨by show 0 ≤ sizeLine; decide, fun B0 nB => ?_⟩⟩
      have nCd := D2.nd nC
      have nCH := none_kp k2 nCd.1 nC
      have nWC : W ≠ C0 := ne_of_none eW nC
      have kC := k2.new (o := .lst []) nC
      have DC := D2.new (o := .lst []) nC
      have eCC : upd H2 C0 (.lst []) C0 = some (.lst []) := upd_same
      have eWC : upd H2 C0 (.lst []) W = some (.dK (wkV wk)) := by rw [upd_ne nWC]; exact eW
      generalize upd H2 C0 (.lst []) = H3 at nB kC DC eCC eWC
      have nBd := DC.nd nB
      have nBH := none_kp kC nBd.1 nB
      have nWB : W ≠ B0 := ne_of_none eWC nB
      have nCB : C0 ≠ B0 := ne_of_none eCC nB
      have kB := kC.new (o := .lst []) nB
      have DB := DC.new (o := .lst []) nB
      have eBB : upd H3 B0 (.lst []) B0 = some (.lst []) := upd_same
      have eCB : upd H3 B0 (.lst []) C0 = some (.lst []) := by rw [upd_ne nCB]; exact eCC
      have eWB : upd H3 B0 (.lst []) W = some (.dK (wkV wk)) := by rw [upd_ne nWB]; exact eWC
      generalize upd H3 B0 (.lst []) = H4 at kB DB eBB eCB eWB
      refine ⟨_, rfl, wl, ws, rfl, kB _ _ nwl ewl, hws, w5, fun H5 p ys k5 np ep hS ly asc hP => ?_⟩
      have npC : p ≠ C0 := (ne_of_none eCB np).symm
      have npB : p ≠ B0 := (ne_of_none eBB np).symm
      have npd := (DB.nd np).1
      have D5 := DB.keep k5
      refine ⟨p, rfl, ⟨_, SqL.of ep⟩, ?_⟩
      refine for_it (walk_list (K := K) (a := p) (xs := ys.map fun y => V.ref y.1)) (fun i σ' H' => ∃ (C B : List ((Nat × Nat) × Nat)) (cs bs : List V) (x8 x9 : Option V), σ' = [some (.ref d), some (.ref wl), some (.str ("abcdefghijklmnopqrstuvwxyz" : Str)), some (sV t), some (.ref W), x5, some (.ref C0), some (.ref B0), x8, x9, none, none] ∧ Kp d H H' ∧ DI d l H' ∧ TK H5 H' ∧ H' W = some (.dK (wkV wk)) ∧ H' p = some (.lst (ys.map fun y => V.ref y.1)) ∧ H' C0 = some (.lst cs) ∧ H' B0 = some (.lst bs) ∧ LV (CrR H') cs C ∧ LV (CrR H') bs B ∧ (C.map Prod.fst).Sublist ((ys.take i).map Prod.snd) ∧ (B.map Prod.fst).Sublist ((ys.take i).map Prod.snd) ∧ ∀ r ∈ C, ∃ x, look wk r.1.1 = some x ∧ r.2 < x)
        ⟨[], [], [], [], none, none, rfl, kB.trans (fun b o _ e => k5 b o e), D5, TK.refl _, k5 _ _ eWB, ep, k5 _ _ eCB, k5 _ _ eBB, LV.nil, LV.nil, List.Sublist.refl _, List.Sublist.refl _, fun _ h => nomatch h⟩ ?_ ?_ ?_
      · rintro i σ' H' _ ⟨_, _, _, _, _, _, _, _, _, _, _, e, _⟩
        exact SqL.of e
      · rintro i x σ' H6 H7 hi ⟨C, B, cs, bs, x8, x9, rfl, k6, D6, t6, eW6, ep6, eC6, eB6, lc, lb, sc, sb, hC⟩ ⟨rfl, hx⟩
        obtain ⟨y, ey, rfl⟩ := map_at2 hx
        have ey1 := t6 _ _ (hS y (List.mem_of_getElem? ey))
        have et : (ys.take (i + 1)).map Prod.snd = (ys.take i).map Prod.snd ++ [y.2] := by rw [take_one ey, List.map_append]; rfl
        have lC : C.length ≤ 80 := by
          have := sc.length_le
          rw [List.length_map, List.length_map, List.length_take] at this
          omega
        have lB : B.length ≤ 80 := by
          have := sb.length_le
          rw [List.length_map, List.length_map, List.length_take] at this
          omega
        have lcl := lc.1
        have lbl := lb.1
        rw [et]
        refine ⟨y.1, _, rfl, SqT.of ey1, rfl, _, _, rfl, _, _, rfl, rfl, ?_⟩
        refine ⟨fun σ' H' => ∃ (C B : List ((Nat × Nat) × Nat)) (cs bs : List V), σ' = [some (.ref d), some (.ref wl), some (.str ("abcdefghijklmnopqrstuvwxyz" : Str)), some (sV t), some (.ref W), x5, some (.ref C0), some (.ref B0), some (sgn y.2.1), some (sgn y.2.2), none, none] ∧ Kp d H H' ∧ DI d l H' ∧ TK H5 H' ∧ H' W = some (.dK (wkV wk)) ∧ H' p = some (.lst (ys.map fun y => V.ref y.1)) ∧ H' C0 = some (.lst cs) ∧ H' B0 = some (.lst bs) ∧ LV (CrR H') cs C ∧ LV (CrR H') bs B ∧ (C.map Prod.fst).Sublist ((ys.take i).map Prod.snd ++ [y.2]) ∧ (B.map Prod.fst).Sublist ((ys.take i).map Prod.snd) ∧ ∀ r ∈ C, ∃ x, look wk r.1.1 = some x ∧ r.2 < x, ?_, ?_⟩
        · have gg : ∀ {X : Hp}, X W = some (.dK (wkV wk)) → DGet X W (sgn y.2.1) ((look wk y.2.1).map natV) := fun e => by rw [← wkV_get]; exact DGet.k (k := Sum.inr (sg1 y.2.1)) e
          have stay : ∀ (X : Hp), Kp d H7 X → DI d l X → ∃ (C B : List ((Nat × Nat) × Nat)) (cs bs : List V), [some (.ref d), some (.ref wl), some (.str ("abcdefghijklmnopqrstuvwxyz" : Str)), some (sV t), some (.ref W), x5, some (.ref C0), some (.ref B0), some (sgn y.2.1), some (sgn y.2.2), none, none] = [some (.ref d), some (.ref wl), some (.str ("abcdefghijklmnopqrstuvwxyz" : Str)), some (sV t), some (.ref W), x5, some (.ref C0), some (.ref B0), some (sgn y.2.1), some (sgn y.2.2), none, none] ∧ Kp d H X ∧ DI d l X ∧ TK H5 X ∧ X W = some (.dK (wkV wk)) ∧ X p = some (.lst (ys.map fun y => V.ref y.1)) ∧ X C0 = some (.lst cs) ∧ X B0 = some (.lst bs) ∧ LV (CrR X) cs C ∧ LV (CrR X) bs B ∧ (C.map Prod.fst).Sublist ((ys.take i).map Prod.snd ++ [y.2]) ∧ (B.map Prod.fst).Sublist ((ys.take i).map Prod.snd) ∧ ∀ r ∈ C, ∃ x, look wk r.1.1 = some x ∧ r.2 < x := fun X k D =>
            ⟨C, B, cs, bs, rfl, k6.trans k, D, TK.trans t6 (kpTup D6 k), k _ _ ndW.1 eW6, k _ _ npd ep6, k _ _ nCd.1 eC6, k _ _ nBd.1 eB6, lc.mono fun _ _ z => CrR.mn.to z (kpTup D6 k), lb.mono fun _ _ z => CrR.mn.to z (kpTup D6 k), sc.trans (List.sublist_append_left _ _), sb, hC⟩
          refine ⟨_, rfl, _, rfl, W, _, rfl, gg eW6, ?_⟩
          cases hk : look wk y.2.1 with
          | none => exact ⟨false, rfl, stay H7 (Kp.refl d _) D6⟩
          | some x =>
            refine ⟨true, rfl, ?_⟩
            refine ⟨_, rfl, d, l, 2, rfl, D6, by decide, fun H8 r k8 D8 b1 b2 => ?_⟩
            obtain ⟨j, rfl, hj⟩ := draw_nt (by decide) b1 b2
            by_cases c1 : j = 1
            · subst c1
              refine ⟨rfl, true, bTr rfl, ?_⟩
              have hx23 := ok.w3 _ (look_mem hk)
              have hx23 : x = 2 ∨ x = 3 := hx23
              have eC8 := k8 _ _ nCd.1 eC6
              have eW8 := k8 _ _ ndW.1 eW6
              refine ⟨.ref C0, rfl, .inl ⟨rfl, _, .inl (.inl eC8)⟩, ?_⟩
              refine ⟨_, rfl, _, rfl, _, rfl, _, rfl, _, rfl, W, natV x, rfl, by have := gg eW8; rw [hk] at this; exact this, _, _, rfl, rfl, ?_⟩
              refine ⟨d, l, (x : Int) - 1, rfl, D8, by show (x : Int) - 1 ≤ _; omega, fun H9 r9 k9 D9 b1 b2 => ?_⟩
              obtain ⟨j, rfl, hj⟩ := draw_nt (m := (x : Int) - 1) (by omega) b1 b2
              refine ⟨_, _, rfl, rfl, by show 3 ≤ sizeLine; decide, fun u nu => ?_⟩
              have e1 : V.int (1 + (j : Int)) = natV (1 + j) := congrArg V.int (by omega)
              have k89 := k8.trans k9
              have ⟨tu, su, eu⟩ := tup_new (xs := [sgn y.2.1, sgn y.2.2, natV (1 + j)]) nu
              generalize hX : upd H9 u (.tup [sgn y.2.1, sgn y.2.2, (fun i j => V.int (i + j)) 1 (j : Int)]) = X
              have hX : upd H9 u (.tup [sgn y.2.1, sgn y.2.2, natV (1 + j)]) = X := by rw [← hX, ← e1]
              rw [hX] at tu su eu
              have kX : Kp d H7 X := k89.trans fun b o _ e => su b o e
              have DX := D9.keep su
              have tX := kpTup D6 kX
              have eCX := kX _ _ nCd.1 eC6
              have tm : TK X (upd X C0 (.lst (cs ++ [V.ref u]))) := TK.mut (TK.refl _) eCX
              have ru : CrR X (.ref u) (y.2, 1 + j) := ⟨u, rfl, eu⟩
              refine ⟨C0, cs, _, rfl, rfl, eCX, szN (by omega), ?_⟩
              refine ⟨C ++ [(y.2, 1 + j)], B, cs ++ [V.ref u], bs, rfl, (k6.trans kX).mut nCH, DX.at nCd.1 nCd.2, TK.trans t6 (TK.trans tX tm), by rw [upd_ne nWC]; exact kX _ _ ndW.1 eW6, by rw [upd_ne npC]; exact kX _ _ npd ep6, upd_same, by rw [upd_ne nCB.symm]; exact kX _ _ nBd.1 eB6, ((lc.mono fun _ _ z => CrR.mn.to z tX).snoc ru).mono fun _ _ z => CrR.mn.to z tm, lb.mono fun _ _ z => CrR.mn.to z (TK.trans tX tm), by rw [List.map_append]; exact sc.append (List.Sublist.refl _), sb, fun r hr => ?_⟩
              rcases List.mem_append.mp hr with h | h
              · exact hC r h
              · rw [List.mem_singleton.mp h]
                exact ⟨x, hk, by show 1 + j < x; omega⟩
            · refine ⟨rfl, false, bFa (fun z => c1 (nV_inj z)), ?_⟩
              exact stay H8 k8 D8
        · rintro σ' H8 ⟨C, B, cs, bs, rfl, k8, D8, t8, eW8, ep8, eC8, eB8, lc, lb, sc, sb, hC⟩
          have lB : B.length ≤ 80 := by
            have := sb.length_le
            rw [List.length_map, List.length_map, List.length_take] at this
            omega
          have lbl := lb.1
          have stay : ∀ (X : Hp), Kp d H8 X → DI d l X → ∃ (C B : List ((Nat × Nat) × Nat)) (cs bs : List V) (z8 z9 : Option V), [some (.ref d), some (.ref wl), some (.str ("abcdefghijklmnopqrstuvwxyz" : Str)), some (sV t), some (.ref W), x5, some (.ref C0), some (.ref B0), some (sgn y.2.1), some (sgn y.2.2), none, none] = [some (.ref d), some (.ref wl), some (.str ("abcdefghijklmnopqrstuvwxyz" : Str)), some (sV t), some (.ref W), x5, some (.ref C0), some (.ref B0), z8, z9, none, none] ∧ Kp d H X ∧ DI d l X ∧ TK H5 X ∧ X W = some (.dK (wkV wk)) ∧ X p = some (.lst (ys.map fun y => V.ref y.1)) ∧ X C0 = some (.lst cs) ∧ X B0 = some (.lst bs) ∧ LV (CrR X) cs C ∧ LV (CrR X) bs B ∧ (C.map Prod.fst).Sublist ((ys.take i).map Prod.snd ++ [y.2]) ∧ (B.map Prod.fst).Sublist ((ys.take i).map Prod.snd ++ [y.2]) ∧ ∀ r ∈ C, ∃ x, look wk r.1.1 = some x ∧ r.2 < x := fun X k D =>
            ⟨C, B, cs, bs, _, _, rfl, k8.trans k, D, TK.trans t8 (kpTup D8 k), k _ _ ndW.1 eW8, k _ _ npd ep8, k _ _ nCd.1 eC8, k _ _ nBd.1 eB8, lc.mono fun _ _ z => CrR.mn.to z (kpTup D8 k), lb.mono fun _ _ z => CrR.mn.to z (kpTup D8 k), sc, sb.trans (List.sublist_append_left _ _), hC⟩
          by_cases h1 : y.2.1 ∈ ("abcdefghijklmnopqrstuvwxyz" : Str).cps.toList
          · refine ⟨_, rfl, _, rfl, y.2.1, _, rfl, rfl, true, bTr h1, ?_⟩
            by_cases h2 : y.2.2 ∈ ("abcdefghijklmnopqrstuvwxyz" : Str).cps.toList
            · refine ⟨_, rfl, _, rfl, y.2.2, _, rfl, rfl, true, bTr h2, ?_⟩
              refine ⟨_, rfl, d, l, 3, rfl, D8, by decide, fun H9 r k9 D9 b1 b2 => ?_⟩
              obtain ⟨j, rfl, hj⟩ := draw_nt (by decide) b1 b2
              by_cases c1 : 0 < j
              · refine ⟨_, _, rfl, rfl, true, bTr (by omega), ?_⟩
                have eB9 := k9 _ _ nBd.1 eB8
                refine ⟨.ref B0, rfl, .inl ⟨rfl, _, .inl (.inl eB9)⟩, ?_⟩
                refine ⟨_, rfl, _, rfl, _, rfl, by show 4 ≤ sizeLine; decide, fun M nM => ?_⟩
                refine ⟨d, l, .ref M, _, rfl, D9.new nM, .inl ⟨M, rfl, (D9.nd nM).1, SqL.of upd_same⟩, Nat.succ_pos _, by show 4 ≤ 1000; decide, fun H10 v k10 D10 hv => ?_⟩
                have k10 := ((Kp.refl d H9).new (o := .lst [V.int 0, V.int 1, V.int 7, V.int 999]) nM).trans k10
                obtain ⟨pr, rfl, _, _⟩ := isN_of (lo := 0) (hi := 999) (List.all_eq_true.mp (show List.all _ (isN 0 999) = true from rfl) v hv)
                refine ⟨by show 3 ≤ sizeLine; decide, fun u nu => ?_⟩
                have ⟨tu, su, eu⟩ := tup_new (xs := [sgn y.2.1, sgn y.2.2, nV pr]) nu
                generalize upd H10 u (.tup [sgn y.2.1, sgn y.2.2, nV pr]) = X at tu su eu
                have kX : Kp d H8 X := (k9.trans k10).trans fun b o _ e => su b o e
                have DX := D10.keep su
                have tX := kpTup D8 kX
                have eBX := kX _ _ nBd.1 eB8
                have tm : TK X (upd X B0 (.lst (bs ++ [V.ref u]))) := TK.mut (TK.refl _) eBX
                have ru : CrR X (.ref u) (y.2, pr) := ⟨u, rfl, eu⟩
                refine ⟨B0, bs, _, rfl, rfl, eBX, szN (by omega), ?_⟩
                exact ⟨C, B ++ [(y.2, pr)], cs, bs ++ [V.ref u], _, _, rfl, (k8.trans kX).mut nBH, DX.at nBd.1 nBd.2, TK.trans t8 (TK.trans tX tm), by rw [upd_ne nWB]; exact kX _ _ ndW.1 eW8, by rw [upd_ne npB]; exact kX _ _ npd ep8, by rw [upd_ne nCB]; exact kX _ _ nCd.1 eC8, upd_same, lc.mono fun _ _ z => CrR.mn.to z (TK.trans tX tm), ((lb.mono fun _ _ z => CrR.mn.to z tX).snoc ru).mono fun _ _ z => CrR.mn.to z tm, sc, by rw [List.map_append]; exact sb.append (List.Sublist.refl _), hC⟩
              · refine ⟨_, _, rfl, rfl, false, bFa (by omega), ?_⟩
                exact stay H9 k9 D9
            · refine ⟨_, rfl, _, rfl, y.2.2, _, rfl, rfl, false, bFa h2, ?_⟩
              exact stay H8 (Kp.refl d _) D8
          · refine ⟨_, rfl, _, rfl, y.2.1, _, rfl, rfl, false, bFa h1, ?_⟩
            exact stay H8 (Kp.refl d _) D8
      · rintro σ' H6 ⟨C, B, cs, bs, x8, x9, rfl, k6, D6, t6, eW6, ep6, eC6, eB6, lc, lb, sc, sb, hC⟩
        rw [List.length_map, List.take_length] at sc sb
        have lC : C.length ≤ 80 := by
          have := sc.length_le
          rw [List.length_map, List.length_map] at this
          omega
        have lB : B.length ≤ 80 := by
          have := sb.length_le
          rw [List.length_map, List.length_map] at this
          omega
        refine ⟨_, rfl, W, wkV wk, (wk.map (·.1)).map sg1, rfl, .inl eW6, ?_, ?_, fun ys0 sp hperm hsort nsp => ?_⟩
        · unfold wkV
          rw [List.map_map, List.map_map, List.map_map]; rfl
        · rw [List.length_map, List.length_map]; omega
        obtain ⟨zs, hzs, rfl⟩ := perm_lift hperm
        have sz := sorted_sg hsort
        have ndz : zs.Nodup := (hzs.nodup_iff).mpr ok.nd
        have az := sorted_lt sz ndz
        have lz : zs.length ≤ 5 := by
          have e := hzs.length_eq
          rw [List.length_map] at e
          omega
        have evz : (zs.map sg1).map V.str = zs.map sgn := by rw [List.map_map]; rfl
        have s7 := same_upd (o := .lst ((zs.map sg1).map V.str)) (Same.refl H6) nsp
        have eS7 : upd H6 sp (.lst ((zs.map sg1).map V.str)) sp = some (.lst (zs.map sgn)) := by rw [upd_same, evz]
        generalize upd H6 sp (.lst ((zs.map sg1).map V.str)) = H7 at s7 eS7
        have eW7 := s7 _ _ eW6
        refine ⟨sp, rfl, ⟨_, SqL.of eS7⟩, fun F nF => ?_⟩
        refine lc_it (walk_list (K := K) (a := sp) (xs := zs.map sgn)) (fun n H' => ∃ (Wd : List (Nat × Nat)) (vs : List V), H' F = some (.lst vs) ∧ LV (WrR H') vs Wd ∧ Wd.map Prod.fst = zs.take n ∧ (∀ r ∈ Wd, look wk r.1 = some r.2) ∧ Same H7 H') ⟨[], [], upd_same, LV.nil, rfl, (fun _ h => nomatch h), same_upd (Same.refl H7) nF⟩ ?_ ?_ ?_
        · rintro i H' _ ⟨_, _, _, _, _, _, k⟩
          exact SqL.of (k _ _ eS7)
        · rintro n x H8 H9 hn ⟨Wd, vs, eF, lv, eWd, hW, k8⟩ ⟨rfl, hx⟩
          obtain ⟨c, hcn, rfl⟩ := map_at2 hx
          obtain ⟨x, hxk⟩ := look_key (hzs.mem_iff.mp (List.mem_of_getElem? hcn))
          have g : DGet H9 W (sgn c) (some (natV x)) := by
            have := DGet.k (k := Sum.inr (sg1 c)) (k8 _ _ eW7)
            rw [wkV_get, hxk] at this
            exact this
          have lW : Wd.length ≤ 5 := by
            have := congrArg List.length eWd
            rw [List.length_map, List.length_take] at this
            omega
          have lvl := lv.1
          refine ⟨rfl, ?_⟩
          refine ⟨_, rfl, _, rfl, _, rfl, W, _, rfl, g, by show 2 ≤ sizeLine; decide, fun u nu => ?_⟩
          have ⟨tu, su, eu⟩ := tup_new (xs := [sgn c, natV x]) nu
          generalize upd H9 u (.tup [sgn c, natV x]) = X at tu su eu
          have eFX := su _ _ eF
          have tm : TK X (upd X F (.lst (vs ++ [V.ref u]))) := TK.mut (TK.refl _) eFX
          have ru : WrR X (.ref u) (c, x) := ⟨u, rfl, eu⟩
          refine ⟨vs, eFX, szN (by omega), Wd ++ [(c, x)], vs ++ [V.ref u], upd_same, ((lv.mono fun _ _ z => WrR.mn.to z tu).snoc ru).mono fun _ _ z => WrR.mn.to z tm, by rw [List.map_append, eWd, take_one hcn]; rfl, fun r hr => ?_, same_mut (k8.trans su) nF⟩
          rcases List.mem_append.mp hr with h | h
          · exact hW r h
          · rw [List.mem_singleton.mp h]; exact hxk
        · rintro H8 ⟨Wd, vs, eF, lv, eWd, hW, k8⟩
          rw [List.length_map, List.take_length] at eWd
          have kk := s7.trans k8
          have lWd : Wd.length ≤ 5 := by
            have := congrArg List.length eWd
            rw [List.length_map] at this
            omega
          refine ⟨F, _, rfl, .inl ⟨SqL.of eF, fun p1 np1 => ?_⟩⟩
          have ⟨t1, s1, f1⟩ := tup_new (xs := vs) np1
          generalize upd H8 p1 (.tup vs) = X1 at t1 s1 f1
          refine ⟨_, rfl, _, rfl, C0, _, rfl, .inl ⟨SqL.of (s1 _ _ (kk _ _ eC6)), fun p2 np2 => ?_⟩⟩
          have ⟨t2, s2, f2⟩ := tup_new (xs := cs) np2
          generalize upd X1 p2 (.tup cs) = X2 at t2 s2 f2
          refine ⟨_, rfl, B0, _, rfl, .inl ⟨SqL.of (s2 _ _ (s1 _ _ (kk _ _ eB6))), fun p3 np3 => ⟨by show 5 ≤ sizeLine; decide, fun p4 np4 => ⟨by show 7 ≤ sizeLine; decide, fun ra nra => ?_⟩⟩⟩⟩
          have ⟨t3, s3, f3⟩ := tup_new (xs := bs) np3
          generalize upd X2 p3 (.tup bs) = X3 at t3 s3 f3 np4 nra
          have ⟨t4, s4, f4⟩ := tup_new (xs := [V.int 0, .int 0, .int 0, .int 0, .int 0]) np4
          generalize upd X3 p4 (.tup [V.int 0, .int 0, .int 0, .int 0, .int 0]) = X4 at t4 s4 f4 nra
          have ⟨t5, s5, f5⟩ := tup_new (xs := [V.int 12, .int 5, .int 1, .ref p1, .ref p2, .ref p3, .ref p4]) nra
          have sAll := kk.trans (s1.trans (s2.trans (s3.trans (s4.trans s5))))
          have tA6 := TK.same sAll
          have tA8 := TK.same (s1.trans (s2.trans (s3.trans (s4.trans s5))))
          have t25 := t2.trans (t3.trans (t4.trans t5))
          have t35 := t3.trans (t4.trans t5)
          have t45 := t4.trans t5
          have aWd : (Wd.map Prod.fst).Pairwise (· < ·) := by rw [eWd]; exact az
          refine q _ _ ⟨12, 5, 1, Wd, C, B⟩ (k6.trans (Kp.of_same sAll)) (D6.keep sAll) ⟨ra, _, _, _, _, rfl, f5, rowsW_of (t25 _ _ f1) (lv.mono fun _ _ z => WrR.mn.to z tA8), rows2_of (t35 _ _ f2) (lc.mono fun _ _ z => CrR.mn.to z tA6), rows2_of (t45 _ _ f3) (lb.mono fun _ _ z => CrR.mn.to z tA6)⟩ ?_
          have hin : ∀ {D : List ((Nat × Nat) × Nat)}, (D.map Prod.fst).Sublist (ys.map Prod.snd) → ∀ r ∈ D, P2 r.1 := fun s r hr => by
            have : r.1 ∈ ys.map Prod.snd := s.subset (List.mem_map.mpr ⟨r, hr, rfl⟩)
            obtain ⟨y, hy, e⟩ := List.mem_map.mp this
            rw [← e]; exact hP y hy
          refine ⟨asc_W aWd, asc_2 (List.Pairwise.sublist sc asc), asc_2 (List.Pairwise.sublist sb asc), by show Wd.length ≤ 100; omega, by show C.length ≤ 100; omega, by show B.length ≤ 100; omega, fun r hr => ?_, fun r hr c hc => ?_, fun r hr c hc => ?_, fun r hr c hc => ?_, fun r hr => ?_⟩
          · have := ok.w3 _ (look_mem (hW r hr))
            have : r.2 = 2 ∨ r.2 = 3 := this
            omega
          · obtain ⟨r, hr2, rfl⟩ := List.mem_map.mp hr
            have := ok.uc _ (look_mem (hW r hr2))
            have this : r.1 < 1114112 := this
            rw [List.mem_singleton.mp hc]; exact this
          · obtain ⟨r, hr2, rfl⟩ := List.mem_map.mp hr
            have ⟨a, b⟩ := hin sc r hr2
            have hc : c ∈ [r.1.1, r.1.2] := hc
            simp only [List.mem_cons, List.not_mem_nil, or_false] at hc
            rcases hc with rfl | rfl
            · exact a
            · exact b
          · obtain ⟨r, hr2, rfl⟩ := List.mem_map.mp hr
            have ⟨a, b⟩ := hin sb r hr2
            have hc : c ∈ [r.1.1, r.1.2] := hc
            simp only [List.mem_cons, List.not_mem_nil, or_false] at hc
            rcases hc with rfl | rfl
            · exact a
            · exact b
          · obtain ⟨x, hx, lt⟩ := hC r hr
            have hz : r.1.1 ∈ Wd.map Prod.fst := by
              rw [eWd]
              exact hzs.mem_iff.mpr (List.mem_map.mpr ⟨_, look_mem hx, rfl⟩)
            obtain ⟨y, hy, ey⟩ := List.mem_map.mp hz
            have h1 := look_of_mem (nd_lt aWd) hy
            have h2 := hW y hy
            rw [ey] at h1 h2
            rw [hx] at h2
            have h2 := Option.some.inj h2
            show r.2 < (look Wd r.1.1).getD 1
            rw [h1]
            show r.2 < y.2
            omega
end
end Vf

set_option Elab.async false
set_option linter.all false
set_option maxRecDepth 100000
set_option maxHeartbeats 4000000
namespace Vf
open PySem PySem.Spec PyProof.Rows L2
/-! ### t[::-1] of a tuple -/
theorem adjust_rev (n : Nat) : Builtin.Slice.sliceAdjust none none (-1) (n : Int) = ((n : Int) - 1, -1) := by
  unfold Builtin.Slice.sliceAdjust
  simp
theorem places_rev (n : Nat) : Builtin.Slice.slicePlaces ((n : Int) - 1) (-1) (-1) = n := by
  unfold Builtin.Slice.slicePlaces
  have h1 : ¬ ((-1 : Int) > 0) := by decide
  simp only [h1, if_false]
  by_cases h : (n : Int) - 1 > -1
  · rw [if_pos h]
    have e : ((n : Int) - 1 - -1 - 1) / (- -1) + 1 = (n : Int) := by
      rw [show (- -1 : Int) = 1 by decide, Int.ediv_one]; omega
    rw [e]; exact Int.toNat_natCast n
  · rw [if_neg h]
    show 0 = n
    omega
theorem fmap_congr {α β : Type} {f g : α → Option β} : ∀ {l : List α}, (∀ x ∈ l, f x = g x) → l.filterMap f = l.filterMap g
  | [], _ => rfl
  | x :: l, h => by
    have e := h x List.mem_cons_self
    have ih := fmap_congr (l := l) fun y hy => h y (List.mem_cons_of_mem _ hy)
    simp only [List.filterMap_cons, e, ih]
theorem pick_rev (xs : Array Value) : ((List.range xs.size).filterMap fun (m : Nat) => xs[(((xs.size : Int) - 1) + (m : Int) * (-1)).toNat]?).toArray = xs.toList.reverse.toArray := by
  have h := PySem.W.krv_pick xs
  unfold slicePick at h
  rw [PySem.W.krv_bounds] at h
  have h : ((sliceRange ((xs.size : Int) - 1) (-1) (-1)).filterMap (xs[·]?)).toArray = xs.toList.reverse.toArray := h
  rw [PySem.W.krv_sliceRange, List.filterMap_map] at h
  rw [← h]
  refine congrArg List.toArray (fmap_congr fun m hm => ?_)
  have hm := List.mem_range.mp hm
  show xs[(((xs.size : Int) - 1) + (m : Int) * (-1)).toNat]? = xs[xs.size - 1 - m]?
  have : (((xs.size : Int) - 1) + (m : Int) * (-1)).toNat = xs.size - 1 - m := by omega
  rw [this]
section
variable {prog : Program} {w : World} {A : Around} {E : Value → Shared → Prop} {s : Shared}
theorem sliceApplied_rev {sl : Addr} {vs : Value} {n : Nat} {Q : Int × Int × Nat → Shared → Prop} (hs : s.heap.IsSliceOf sl .none .none vs) (ps : IsPart vs (some (-1))) (h : Q ((n : Int) - 1, -1, n) s) :
    wpAny (model prog w) A (Builtin.Slice.sliceApplied (.ref sl) (pure (n : Int))) Q E s := by
  obtain ⟨os, hos, hcs, hds⟩ := id hs
  unfold Builtin.Slice.sliceApplied Builtin.Slice.sliceFields
  refine wpAny_bind (wpAny_bind (wpAny_field hos hds (x := .none) rfl (wpAny_bind (wpAny_field hos hds (x := .none) rfl (wpAny_bind (wpAny_field hos hds (x := vs) rfl (wpAny_pure ?_)))))))
  refine wpAny_bind (HT.slicePart_ ps ?_)
  show wpAny _ _ (if ((-1 : Int) == 0) = true then _ else _) _ _ s
  rw [if_neg (by decide)]
  refine wpAny_bind (slicePart_none (wpAny_bind (slicePart_none (wpAny_bind (wpAny_pure ?_)))))
  show wpAny _ _ (match Builtin.Slice.sliceAdjust none none (-1) (n : Int) with | (lo, hi) => pure (lo, (-1 : Int), Builtin.Slice.slicePlaces lo hi (-1))) _ _ s
  rw [adjust_rev]
  show wpAny _ _ (pure ((n : Int) - 1, (-1 : Int), Builtin.Slice.slicePlaces ((n : Int) - 1) (-1) (-1))) _ _ s
  rw [places_rev]
  exact wpAny_pure h
theorem getItem_tuple_rev {t sl : Addr} {items : Array Value} {vs : Value} {Q : Value → Shared → Prop} (ht : IsTup s.heap t items) (hs : s.heap.IsSliceOf sl .none .none vs) (ps : IsPart vs (some (-1)))
    (h : Q (.ref s.heap.objs.size) { s with heap := s.heap.push { cls := .type "tuple", data := .seq items.toList.reverse.toArray } })
    (hsz : items.size ≤ sizeLine) : wpAny (model prog w) A (getItem (.ref t) (.ref sl)) Q E s := by
  have htake : sizeOk (.seq items.toList.reverse.toArray) := by
    show items.toList.reverse.toArray.size ≤ sizeLine
    rw [List.size_toArray, List.length_reverse, Array.length_toList]
    exact hsz
  obtain ⟨os, hos, hcs, hds⟩ := id hs
  have hTs : s.TypeIs (.ref sl) "slice" := ⟨os, hos, hcs⟩
  unfold getItem
  try with_reducible refine wpAny_holding ?_
  first | refine wpAny_bind (wpAny_pure ?_) | skip
  refine wpAny_bind (wpAny_sequenceKey ht.typeIs (by decide) ?_)
  refine wpAny_bind (wpAny_callSpecial?_slot (name := Str.ofString "__getitem__") ht.typeIs PyProof.Rows.slot_tuple_getitem
    (wpAny_call_entry PyProof.Rows.slot_tuple_getitem ht.typeIs PyProof.Rows.entry_tuple_getitem ?_ (PyProof.Rows.args_tuple_getitem _ _)))
  show wpAny _ _ (Builtin.Tuple.tupleItemsOf (.ref t) >>= _) _ _ s
  refine wpAny_bind (tupleItemsOf_ ht ?_)
  refine wpAny_bind (wpAny_typeOf hTs ?_)
  rw [if_pos (by decide)]
  refine wpAny_bind (sliceApplied_rev hs ps ?_)
  have hno : ¬ ((((items.size : Int) - 1) == 0 && (-1 : Int) == 1 && items.size == items.size) = true) := by
    intro q
    rw [Bool.and_eq_true, Bool.and_eq_true] at q
    exact absurd q.1.2 (by decide)
  show wpAny _ _ (if (((items.size : Int) - 1) == 0 && (-1 : Int) == 1 && items.size == items.size) = true then _ else _) _ _ s
  rw [if_neg hno, pick_rev]
  first
    | exact wpAny_bind (m := Builtin.Tuple.tupleExact _) (wpAny_newObj_type (wpAny_pure ⟨_, rfl, wpAny_pure h⟩) htake)
    | exact wpAny_bind (m := Builtin.Tuple.tupleExact _) (wpAny_newObj_type (wpAny_bind (wpAny_pure (wpAny_pure ⟨_, rfl, wpAny_pure h⟩))) htake)
    | exact wpAny_bind (wpAny_bind (m := Builtin.Tuple.tupleExact _) (wpAny_newObj_type (wpAny_pure (wpAny_pure ⟨_, rfl, wpAny_pure h⟩)) htake))
    | exact wpAny_bind (wpAny_bind (m := Builtin.Tuple.tupleExact _) (wpAny_newObj_type (wpAny_pure ⟨_, rfl, wpAny_pure h⟩) htake))
end
def tRevT (K : PySem.W.Frag) (te : TE) : TE := fun σ H Q => te σ H fun x H1 => ∃ a xs, x = .ref a ∧ SqT K H1 a xs ∧ ∀ p, H1 p = none → Q (.ref p) (upd H1 p (.tup xs.reverse))
theorem pe_revT {X : Cx} {e : Expr} {te : TE} {k : Nat} {p1 p2 p3 pos : Pos} (he : PE X e te) : PE X (.Subscript e (.Slice none none (some (.UnaryOp .USub (.Constant (.int 1) k p1) p2)) p3) pos) (tRevT X.K te) := by
  refine ⟨fun pins s σ H Q I h => ?_⟩
  refine Subscript_ (thn (he.run pins s σ H _ I h) fun v s1 ⟨x, H1, I1, r1, q1⟩ => ?_)
  obtain ⟨a, xs, ex, hx, q⟩ := q1
  subst ex
  cases r1
  have hst : PO X (some (.UnaryOp .USub (.Constant (.int 1) k p1) p2)) (tPart (tUn (rU fun i => .int (-i)) (tC (.int 1)))) := po_some (pe_un un_neg pe_int)
  refine wpAny_Slice (thn (po_none.run pins s1 σ H1 (fun o H2 => o = none ∧ H2 = H1) I1 ⟨rfl, rfl⟩) fun vl s2 ⟨l, H2, I2, pl, el, e2⟩ => ?_)
  subst el e2
  refine thn (po_none.run pins s2 σ H2 (fun o H3 => o = none ∧ H3 = H2) I2 ⟨rfl, rfl⟩) fun vu s3 ⟨u, H3, I3, pu, eu, e3⟩ => ?_
  subst eu e3
  refine thn (hst.run pins s3 σ H3 (fun o H4 => o = some (-1) ∧ H4 = H3) I3 ⟨1, rfl, -1, rfl, rfl, rfl⟩) fun vs s4 ⟨o, H4, I4, ps, eo, e4⟩ => ?_
  subst eo e4
  cases pl
  cases pu
  have I5 : Inv X pins σ H4 { s4 with heap := s4.heap.push { cls := .type "slice", data := .fields #[.none, .none, vs] } } := I4.kept (t' := s4.toks) fun b ob q => Heap.get?_push_of_some _ q
  obtain ⟨its, r, ht, hz⟩ := I5.tuple hx
  have hlen := r.length
  show wpAny (model X.prog X.w) X.A (subscriptTail e (.Slice none none (some (.UnaryOp .USub (.Constant (.int 1) k p1) p2)) p3) (.ref a) (.ref s4.heap.objs.size)) (EP X pins σ Q) X.xe { s4 with heap := s4.heap.push { cls := .type "slice", data := .fields #[.none, .none, vs] } }
  refine tail_any (ops := [.ref a, .ref s4.heap.objs.size]) ht.typeIs (PyProof.Rows.slot_tuple_getitem.lookup) ?_ (by with_unfolding_all rfl)
  refine getItem_tuple_rev ht (Heap.IsSliceOf.new _ .none .none vs) ps ?_ (by rw [List.size_toArray]; omega)
  refine ⟨.ref _, _, I5.laid (t' := s4.toks) (o := .tup xs.reverse) (fun b ob q => Heap.get?_push_of_some _ q) (Nat.le_refl _) ?_, rfl, q _ (I5.hok.fresh (Nat.le_refl _))⟩
  exact ⟨by rw [List.length_reverse]; exact hz, _, r.reverse, ⟨_, Heap.get?_push_size _ rfl, rfl, 0, rfl⟩⟩
end Vf

set_option Elab.async false
set_option linter.all false
set_option maxRecDepth 100000
set_option maxHeartbeats 4000000
namespace Vf
open PySem PySem.Spec PyProof.Rows L2 TL
/-! ### rows shuffled, whatever stands in them -/
theorem seqIxV {n k : Nat} (h : k < n) : seqIndex? (k : Int) n = some k := by
  unfold seqIndex?
  simp only [if_neg (show ¬ ((k : Int) < 0) by omega)]
  rw [if_pos (by rw [decide_eq_true (show (0 : Int) ≤ (k : Int) by omega), decide_eq_true (show (k : Int) < (n : Int) by omega)]; rfl)]
  rfl
theorem erase_permV {α : Type} {z : α} : ∀ {l : List α} {k : Nat}, l[k]? = some z → (z :: l.eraseIdx k).Perm l
  | [], _, h => by cases h
  | x :: l, 0, h => by
    have e := Option.some.inj h
    subst e
    exact List.Perm.refl _
  | x :: l, k + 1, h => (List.Perm.swap x z _).trans (List.Perm.cons x (erase_permV (l := l) (k := k) h))
theorem draw_nat {m r : Int} (h : 0 < m) (e1 : m < 2 → r = 0) (e2 : 2 ≤ m → 0 ≤ r ∧ r < m) : ∃ j : Nat, r = (j : Int) ∧ (j : Int) < m := by
  by_cases c : m < 2
  · exact ⟨0, e1 c, by omega⟩
  · have := e2 (by omega)
    exact ⟨r.toNat, by omega, by omega⟩
section
variable {P : Program} {w : World} {K : PySem.W.Frag} {mg : Str → Option Value} {base : Heap}
def spShufV : Sp := fun vs H Q _ => ∃ (d l r : Addr) (zs : List V), vs = [.ref d, .ref r] ∧ DI d l H ∧ H r = some (.lst zs) ∧ zs.length ≤ 2000 ∧
  ∀ H' p (us : List V), Kp d H H' → DI d l H' → H p = none → H' p = some (.lst us) → us.Perm zs → Q (.ref p) H'
theorem ok_shufV (T : Txt K mg) : FnOk P w K mg base CX0 2 T.a_law_shuffled T.d_law_shuffled ["_law_d", "_law_row"] spShufV := by
  have G_law_draw : FnOk P w K mg base CX0 1 T.a_law_draw T.d_law_draw ["_law_d", "_law_many"] spDraw := ok_draw T
  refine T.D_law_shuffled.F.ok sc_law_shuffled (fun vs H Q E h => ?_) (fun cdv A outer s H vs Q E hr h => ?_)
  · obtain ⟨d, l, r, zs, rfl, _⟩ := h
    rfl
  · obtain ⟨d, l, r, zs, rfl, hD, hr1, hl, q⟩ := h
    refine ⟨_, (pss_cons (ps_set (i := 2) sc_law_shuffled.nd rfl (.inl rfl) (pe_callTy call_list_of (by rfl) T.n_list (by decide +kernel) (pa_cons (pv 1) pa_nil)))
      (pss_cons (ps_set (i := 3) sc_law_shuffled.nd rfl (.inl rfl) (pe_lst pa_nil))
      (pss_cons (ps_while PassesOwn.never (pt_truth (pv 2) (by intro _; rfl)) (pss_one (ps_expr (pe_bm PySem.F.plainAttrs_list PySem.F.slot_list_append PySem.F.type_list_append mt_append (pv 3) (pa_cons (pe_bm PySem.F.plainAttrs_list PySem.F.slot_list_pop PySem.F.type_list_pop mt_popAt (pv 2) (pa_cons (pe_call G_law_draw (hr.mono (by decide)) (by rfl) T.D_law_draw.G T.D_law_draw.F.kp T.D_law_draw.B .nil pass0 (pa_cons (pv 0) (pa_cons (pe_callB call_len_seq (by rfl) T.n_len PySem.boot_len (pa_cons (pv 2) pa_nil)) pa_nil))) pa_nil)) pa_nil)))))
      (pss_one (ps_ret (pv 3)))))), ?_⟩
    refine ⟨_, rfl, r, _, rfl, .inl (SqL.of hr1), fun L nL => ?_⟩
    have D1 := hD.new (o := .lst zs) nL
    have K1 := (Kp.refl d H).new (o := .lst zs) nL
    refine ⟨by show 0 ≤ sizeLine; decide, fun F nF => ?_⟩
    have D2 := D1.new (o := .lst []) nF
    have K2 := K1.new (o := .lst []) nF
    have eL : upd (upd H L (.lst zs)) F (.lst []) L = some (.lst zs) := by rw [upd_ne (ne_of_none upd_same nF)]; exact upd_same
    have nLF : L ≠ F := ne_of_none upd_same nF
    have ndL := hD.nd nL
    have nFH : H F = none := by rw [upd_ne nLF.symm] at nF; exact nF
    have ndF := hD.nd nFH
    refine ⟨fun m σ H' => ∃ (ls fs : List V), m = ls.length ∧ σ = [some (.ref d), some (.ref r), some (.ref L), some (.ref F)] ∧ Kp d H H' ∧ DI d l H' ∧ H' L = some (.lst ls) ∧ H' F = some (.lst fs) ∧ (ls ++ fs).Perm zs,
      ⟨_, zs, [], rfl, rfl, K2, D2, eL, upd_same, by rw [List.append_nil]⟩, fun m σ H' hW => ?_⟩
    obtain ⟨ls, fs, rfl, rfl, K3, D3, e1, e2, hp⟩ := hW
    have pl := hp.length_eq
    rw [List.length_append] at pl
    refine ⟨_, rfl, !ls.isEmpty, .inl ⟨_, SqL.of e1, rfl⟩, ?_⟩
    cases ls with
    | nil =>
      exact ⟨_, rfl, q H' F fs K3 D3 nFH e2 hp⟩
    | cons z0 ls =>
      rw [List.length_cons] at pl
      refine ⟨fun σ' H1 => ∃ (ls2 fs2 : List V), ls2.length = ls.length ∧ σ' = [some (.ref d), some (.ref r), some (.ref L), some (.ref F)] ∧ Kp d H H1 ∧ DI d l H1 ∧ H1 L = some (.lst ls2) ∧ H1 F = some (.lst fs2) ∧ (ls2 ++ fs2).Perm zs, fun σ' H1 hN => ?_, ?_⟩
      · obtain ⟨ls2, fs2, el, rfl, a1, a2, a3, a4, a5⟩ := hN
        exact ⟨ls2.length, by rw [List.length_cons]; omega, ls2, fs2, rfl, rfl, a1, a2, a3, a4, a5⟩
      · refine ⟨.ref F, rfl, .inl ⟨rfl, _, SqL.of e2⟩, .ref L, rfl, .inl ⟨rfl, _, SqL.of e1⟩, _, rfl, _, rfl, L, _, rfl, .inl (SqL.of e1), d, l, _, rfl, D3, by rw [List.length_cons]; omega, fun H4 i K4 D4 i1 i2 => ?_⟩
        have e1' := K4 _ _ ndL.1 e1
        have e2' := K4 _ _ ndF.1 e2
        obtain ⟨k, rfl, hk⟩ := draw_nat (by rw [List.length_cons]; omega) i1 i2
        have hk : k < (z0 :: ls).length := by omega
        have g : (z0 :: ls)[k]? = some (z0 :: ls)[k] := List.getElem?_eq_getElem hk
        obtain ⟨z, ez⟩ : ∃ z, (z0 :: ls)[k] = z := ⟨_, rfl⟩
        rw [ez] at g
        have lk : (z0 :: ls).length = ls.length + 1 := rfl
        refine ⟨L, _, (k : Int), k, z, rfl, rfl, e1', by omega, by omega, seqIxV hk, g, ?_⟩
        have e2'' : upd H4 L (.lst ((z0 :: ls).eraseIdx k)) F = some (.lst fs) := by rw [upd_ne nLF.symm]; exact e2'
        refine ⟨F, _, _, rfl, rfl, e2'', szN (by omega), ?_⟩
        refine ⟨(z0 :: ls).eraseIdx k, fs ++ [z], ?_, rfl, ((K3.trans K4).mut nL).mut nFH, (D4.at ndL.1 ndL.2).at ndF.1 ndF.2, ?_, upd_same, ?_⟩
        · rw [List.length_eraseIdx_of_lt hk]; rfl
        · rw [upd_ne nLF, upd_same]
        · have p1 : ((z0 :: ls).eraseIdx k ++ (fs ++ [z])).Perm ((z0 :: ls) ++ fs) := by
            have p2 : (z :: (z0 :: ls).eraseIdx k).Perm (z0 :: ls) := erase_permV g
            refine (List.Perm.append_left _ (List.perm_append_singleton z fs)).trans ?_
            refine List.perm_middle.trans ?_
            exact List.Perm.append_right fs p2
          exact p1.trans hp
end
end Vf

set_option Elab.async false
set_option linter.all false
set_option maxRecDepth 100000
set_option maxHeartbeats 4000000
namespace Vf
open PySem PySem.Spec PyProof.Rows L2 TL
/-! ### drawn secrets -/
theorem cW_chr {c : Nat} (h : cW c = true) : c < 1114112 ∧ c ≠ 95 := by
  have hm : c ∈ sW.cps.toList := of_decide_eq_true h
  have := List.all_eq_true.mp (show (sW.cps.toList.all fun c => decide (c < 1114112) && !decide (c = 95)) = true by decide +kernel) c hm
  rw [Bool.and_eq_true] at this
  exact ⟨of_decide_eq_true this.1, fun e => by rw [decide_eq_true e] at this; exact absurd this.2 (by decide)⟩
/-- a pattern: some slots -/
structure PtOk (ss : List (List Nat)) : Prop where
  p1 : 1 ≤ ss.length
  p8 : ss.length ≤ 8
  sl : ∀ z ∈ ss, 0 < z.length ∧ z.length ≤ 1000 ∧ ∀ c ∈ z, cW c = true
theorem PtOk.ch {ss : List (List Nat)} (h : PtOk ss) : ∀ z ∈ ss, ∀ c ∈ z, c < 1114112 := fun z hz c hc => (cW_chr ((h.sl z hz).2.2 c hc)).1
abbrev PtR := TupR sgR
theorem PtR.mn : Mn PtR := TupR.mn sgR.mn
def dS (ss : List (List Nat)) : PyData := .tuple (ss.map fun z => .str (mkS z))
theorem dSs_dp {K : PySem.W.Frag} {H : Hp} : ∀ {us : List V} {ss : List (List Nat)}, LV (sgR H) us ss → DpAll K H us (ss.map fun z => .str (mkS z))
  | [], [], _ => .nil
  | [], _ :: _, h => by cases h.1
  | _ :: _, [], h => by cases h.1
  | u :: us, s :: ss, h => by
    obtain ⟨x, ex, hx⟩ := h.2 0 s rfl
    have e := Option.some.inj ex
    subst e
    have hx : u = sV s := hx
    subst hx
    exact .cons (.str _) (dSs_dp ⟨Nat.succ.inj h.1, fun i r e => h.2 (i + 1) r e⟩)
theorem dS_dp {K : PySem.W.Frag} {H : Hp} {v : V} {ss : List (List Nat)} (h : PtR H v ss) : Dp K H v (dS ss) := by
  obtain ⟨a, us, rfl, e, lv⟩ := h
  exact .tup (SqT.of e) (dSs_dp lv)
theorem dSs_lay : ∀ {ss : List (List Nat)}, (∀ z ∈ ss, ∀ c ∈ z, c < 1114112) → PyData.canLayAll0 (ss.map fun z => .str (mkS z)) = true
  | [], _ => rfl
  | z :: ss, h => by
    simp only [List.map_cons, PyData.canLayAll0, Bool.and_eq_true]
    refine ⟨?_, dSs_lay fun y hy => h y (List.mem_cons_of_mem _ hy)⟩
    simp only [PyData.canLay0, PyData.strOk]
    rw [← Array.all_toList]
    exact List.all_eq_true.mpr fun c hc => decide_eq_true (h z List.mem_cons_self c hc)
theorem dSs_depth : ∀ ss : List (List Nat), PyData.depthAll (ss.map fun z => .str (mkS z)) = 0
  | [] => rfl
  | z :: ss => by
    simp only [List.map_cons, PyData.depthAll, PyData.depth]
    rw [dSs_depth ss]; rfl
theorem dS_shaped {ss : List (List Nat)} (h : ∀ z ∈ ss, ∀ c ∈ z, c < 1114112) : SeqAt.shaped (dS ss) = true :=
  Bool.and_eq_true_iff.mpr ⟨by unfold dS; simp only [PyData.canLay0]; exact dSs_lay h, decide_eq_true (by unfold dS; simp only [PyData.depth]; rw [dSs_depth]; decide)⟩
/-- a drawn secret -/
def SeC (H : Hp) (v : V) (sts : List (List (List Nat))) (eds : List (List Nat)) : Prop := ∃ a x y sv w, v = .ref a ∧ H a = some (.tup [x, y, sv, w]) ∧ TupR PtR H sv sts ∧ TupR sgR H w eds
theorem SeC.to {H H' : Hp} {v : V} {sts : List (List (List Nat))} {eds : List (List Nat)} (h : SeC H v sts eds) (k : TK H H') : SeC H' v sts eds := by
  obtain ⟨a, x, y, sv, w, e, h1, h2, h3⟩ := h
  exact ⟨a, x, y, sv, w, e, k _ _ h1, (TupR.mn PtR.mn).to h2 k, (TupR.mn sgR.mn).to h3 k⟩
theorem SeC.se {H : Hp} {v : V} {sts : List (List (List Nat))} {eds : List (List Nat)} (h : SeC H v sts eds) : SeR H v eds := by
  obtain ⟨a, x, y, sv, w, e, h1, _, h3⟩ := h
  exact ⟨a, x, y, sv, w, e, h1, h3⟩
def EdOk (e : List Nat) : Prop := e.length ≤ 8 ∧ ∀ c ∈ e, cW c = true
theorem flat_sV (us : List (List Nat)) : (us.map sV).all flatV = true := List.all_eq_true.mpr fun v hv => by
  obtain ⟨x, _, rfl⟩ := List.mem_map.mp hv
  rfl
theorem LV_sg (H : Hp) (xs : List (List Nat)) : LV (sgR H) (xs.map sV) xs := ⟨List.length_map _, fun i r e => ⟨sV r, by rw [List.getElem?_map, e]; rfl, rfl⟩⟩
def slotS : List V := [.str "a", .str "m", .str "b", .str "am", .str "ab", .str "is", .str "1", .str "19", .str "abm", .str "ns", .str "0z"]
def okSl : V → Bool
  | .str z => decide (0 < z.cps.toList.length) && decide (z.cps.toList.length ≤ 1000) && z.cps.toList.all cW
  | _ => false
theorem okSl_of {v : V} (h : okSl v = true) : ∃ z : List Nat, v = sV z ∧ 0 < z.length ∧ z.length ≤ 1000 ∧ ∀ c ∈ z, cW c = true := by
  cases v with
  | str z =>
    have h : (decide (0 < z.cps.toList.length) && decide (z.cps.toList.length ≤ 1000) && z.cps.toList.all cW) = true := h
    rw [Bool.and_eq_true, Bool.and_eq_true] at h
    exact ⟨z.cps.toList, rfl, of_decide_eq_true h.1.1, of_decide_eq_true h.1.2, fun c hc => List.all_eq_true.mp h.2 c hc⟩
  | _ => cases h
def sPoolS : Str := "b qu zed anna omega kestrel willow orchards f ix tom lena birch copper lantern riverbed g du sam nora"
section
variable {P : Program} {w : World} {K : PySem.W.Frag} {mg : Str → Option Value} {base : Heap}
def spName1 : Sp := fun vs H Q _ => ∃ (d l : Addr), vs = [.ref d, .int 1] ∧ DI d l H ∧ ∀ H' p u, Kp d H H' → DI d l H' → H' p = some (.lst [u]) → Q (.ref p) H'
theorem ok_name1 (T : Txt K mg) : FnOk P w K mg base CX0 3 T.a_law_names T.d_law_names ["_law_d", "_law_many"] spName1 := by
  have G_law_shuffled : FnOk P w K mg base CX0 2 T.a_law_shuffled T.d_law_shuffled ["_law_d", "_law_row"] spShufV := ok_shufV T
  refine T.D_law_names.F.ok sc_law_names (fun vs H Q E h => ?_) (fun cdv A outer s H vs Q E hr h => ?_)
  · obtain ⟨d, l, rfl, _⟩ := h
    rfl
  · obtain ⟨d, l, rfl, hD, q⟩ := h
    refine ⟨_, (pss_cons (ps_set (i := 2) sc_law_names.nd rfl (.inl rfl) pe_str)
      (pss_one (ps_ret (pe_slice sl_list (pe_call G_law_shuffled (hr.mono (by decide)) (by rfl) T.D_law_shuffled.G T.D_law_shuffled.F.kp T.D_law_shuffled.B .nil pass0 (pa_cons (pv 0) (pa_cons (pe_split (pv 2) pe_str) pa_nil))) po_none (po_some (pv 1)))))), ?_⟩
    refine ⟨_, rfl, _, rfl, ⟨_, rfl⟩, sPoolS, (" " : Str), rfl, rfl, by decide +kernel, by decide +kernel, fun p np => ?_⟩
    refine ⟨d, l, p, _, rfl, hD.new np, upd_same, by decide +kernel, fun H2 p2 us K2 D2 n2 e2 hp => ?_⟩
    refine ⟨_, rfl, _, rfl, p2, _, rfl, SqL.of e2, fun p3 n3 => ?_⟩
    have hl : us.length = 20 := by rw [hp.length_eq]; decide +kernel
    obtain ⟨u, r, rfl⟩ : ∃ u r, us = u :: r := by
      cases us with
      | nil => cases hl
      | cons u r => exact ⟨u, r, rfl⟩
    have e1 : cutV (u :: r) none (some 1) = [u] := by
      unfold cutV
      rw [HT.sIx_none, show (some (1 : Int)) = some ((1 : Nat) : Int) from rfl, HT.sIx_nat, List.drop_zero, Nat.sub_zero, Nat.min_eq_left (by rw [List.length_cons]; omega)]
      rfl
    rw [e1]
    exact q _ p3 u ((((Kp.refl d H).new np).trans K2).new n3) (D2.new n3) upd_same
def spSlot : Sp := fun vs H Q _ => ∃ (d l : Addr), vs = [.ref d] ∧ DI d l H ∧ ∀ H' z, Kp d H H' → DI d l H' → 0 < z.length → z.length ≤ 1000 → (∀ c ∈ z, cW c = true) → Q (sV z) H'
theorem ok_slot (T : Txt K mg) : FnOk P w K mg base CX0 3 T.a_law_slot T.d_law_slot ["_law_d"] spSlot := by
  have G_law_pick : FnOk P w K mg base CX0 2 T.a_law_pick T.d_law_pick ["_law_d", "_law_row"] (spPick K) := ok_pick T
  refine T.D_law_slot.F.ok sc_law_slot (fun vs H Q E h => ?_) (fun cdv A outer s H vs Q E hr h => ?_)
  · obtain ⟨d, l, rfl, _⟩ := h
    rfl
  · obtain ⟨d, l, rfl, hD, q⟩ := h
    refine ⟨_, (pss_one (ps_ret (pe_call G_law_pick (hr.mono (by decide)) (by rfl) T.D_law_pick.G T.D_law_pick.F.kp T.D_law_pick.B .nil pass0 (pa_cons (pv 0) (pa_cons (pe_lst (pa_cons pe_str (pa_cons pe_str (pa_cons pe_str (pa_cons pe_str (pa_cons pe_str (pa_cons pe_str (pa_cons pe_str (pa_cons pe_str (pa_cons pe_str (pa_cons pe_str (pa_cons pe_str pa_nil)))))))))))) pa_nil))))), ?_⟩
    refine ⟨_, rfl, by show 11 ≤ sizeLine; decide, fun p np => ?_⟩
    refine ⟨d, l, .ref p, slotS, rfl, hD.new np, .inl ⟨p, rfl, (hD.nd np).1, SqL.of upd_same⟩, by decide, by decide, fun H2 v K2 D2 hv => ?_⟩
    obtain ⟨z, rfl, h1, h2, h3⟩ := okSl_of (List.all_eq_true.mp (show slotS.all okSl = true by decide +kernel) v hv)
    exact q H2 z (((Kp.refl d H).new np).trans K2) D2 h1 h2 h3
def tStock : TE := fun σ H Q => ∃ (d l : Addr) (p : V) (ss : List (List Nat)), σ[0]? = some (some (.ref d)) ∧ σ[1]? = some (some p) ∧ DI d l H ∧ PtR H p ss ∧ PtOk ss ∧ ∀ (H' : Hp) (v : V) (sts : List (List (List Nat))), Kp d H H' → DI d l H' → TupR PtR H' v sts → 1 ≤ sts.length → sts.length ≤ 2 → (∀ x ∈ sts, PtOk x) → Q v H'
def spSecret : Sp := fun vs H Q _ => ∃ (d l : Addr), vs = [.ref d] ∧ DI d l H ∧ ∀ H' v sts eds, Kp d H H' → DI d l H' → SeC H' v sts eds → 1 ≤ sts.length → (∀ x ∈ sts, PtOk x) → 1 ≤ eds.length → eds.length ≤ 3 → (∀ e ∈ eds, EdOk e) → Q v H'
theorem ok_secret (T : Txt K mg) : FnOk P w K mg base CX0 4 T.a_law_secret_of T.d_law_secret_of ["_law_d"] spSecret := by
  have G_law_draw : FnOk P w K mg base CX0 1 T.a_law_draw T.d_law_draw ["_law_d", "_law_many"] spDraw := ok_draw T
  have G_law_pick : FnOk P w K mg base CX0 2 T.a_law_pick T.d_law_pick ["_law_d", "_law_row"] (spPick K) := ok_pick T
  have G_law_slot : FnOk P w K mg base CX0 3 T.a_law_slot T.d_law_slot ["_law_d"] spSlot := ok_slot T
  have G_law_word : FnOk P w K mg base CX0 3 T.a_law_word T.d_law_word ["_law_d", "_law_low", "_law_high"] spWord := ok_word T
  have G_law_names : FnOk P w K mg base CX0 3 T.a_law_names T.d_law_names ["_law_d", "_law_many"] spName1 := ok_name1 T
  refine T.D_law_secret_of.F.ok sc_law_secret_of (fun vs H Q E h => ?_) (fun cdv A outer s H vs Q E hr h => ?_)
  · obtain ⟨d, l, rfl, _⟩ := h
    rfl
  · obtain ⟨d, l, rfl, hD, q⟩ := h
    refine ⟨_, (pss_cons (ps_set (i := 1) sc_law_secret_of.nd rfl (.inl rfl) (pe_callTy call_tuple_of (by rfl) T.n_tuple (by decide +kernel) (pa_cons (pe_lc (own := [("_law_k", 4)]) (g := gName 4) (tt := tYes) rfl sc_law_secret_of.nd (pi_range1 (by rfl) T.n_range (pa_cons (pe_op op_add pe_int (pe_call G_law_draw (hr.mono (by decide)) (by rfl) T.D_law_draw.G T.D_law_draw.F.kp T.D_law_draw.B .nil pass0 (pa_cons (pv 0) (pa_cons pe_int pa_nil)))) pa_nil)) (blkOk_by (own := [("_law_k", 4)]) (N := ["_law_d", "_law_pattern", "_law_stock", "_law_endings", "_law_k", "_law_ending"]) (sc := (defScope s_law_secret_of)) (by decide +kernel)) (fun _ _ _ _ _ => (pg_name (i := 4) sc_law_secret_of.nd rfl (.inl rfl))) (fun _ _ _ _ _ => pts_nil) (fun _ _ _ _ _ => (pe_call G_law_slot (hr.mono (by decide)) (by rfl) T.D_law_slot.G T.D_law_slot.F.kp T.D_law_slot.B .nil pass0 (pa_cons (pv 0) pa_nil)))) pa_nil)))
      (pss_cons (ps_set (i := 2) sc_law_secret_of.nd rfl (.inl rfl) (PE.to (t' := tStock) (pe_ifExp (pt_cmpR op_eq (pe_callB call_len_seq (by rfl) T.n_len PySem.boot_len (pa_cons (pv 1) pa_nil)) pe_int (nomark _)) (pe_tup (pa_cons (pv 1) pa_nil)) (pe_call G_law_pick (hr.mono (by decide)) (by rfl) T.D_law_pick.G T.D_law_pick.F.kp T.D_law_pick.B .nil pass0 (pa_cons (pv 0) (pa_cons (pe_lst (pa_cons (pe_tup (pa_cons (pv 1) pa_nil)) (pa_cons (pe_tup (pa_cons (pv 1) (pa_cons (pe_tup (pa_cons pe_str pa_nil)) pa_nil))) (pa_cons (pe_tup (pa_cons (pe_tup (pa_cons pe_str pa_nil)) (pa_cons (pv 1) pa_nil))) pa_nil)))) pa_nil)))) (fun σ H Q h => by
      obtain ⟨d, l, p, ss, e0, e1, hD, hp, ok, q⟩ := h
      obtain ⟨pa, us, rfl, epa, lv⟩ := id hp
      refine ⟨_, e1, pa, _, rfl, .inr (SqT.of epa), rfl, ?_⟩
      by_cases c : us.length = 1
      · refine ⟨true, bTr (show V.int (us.length : Int) = V.int 1 by rw [c]; rfl), ?_⟩
        refine ⟨_, e1, by show 1 ≤ sizeLine; decide, fun t nt => ?_⟩
        have ⟨tt, st, et⟩ := tup_new (xs := [V.ref pa]) nt
        exact q _ _ [ss] ((Kp.refl d H).new nt) (hD.new nt) ⟨t, _, rfl, et, LV.nil.snoc (PtR.mn.to hp tt)⟩ (by simp) (by simp) (fun x hx => by rw [List.mem_singleton.mp hx]; exact ok)
      · refine ⟨false, bFa (fun z => c (by have := V.int.inj z; omega)), ?_⟩
        refine ⟨_, e0, _, e1, by show 1 ≤ sizeLine; decide, fun t1 n1 => ?_⟩
        have ⟨tt1, st1, et1⟩ := tup_new (xs := [V.ref pa]) n1
        generalize upd H t1 (.tup [V.ref pa]) = H1 at tt1 st1 et1
        refine ⟨_, e1, by show 1 ≤ sizeLine; decide, fun t2 n2 => ⟨by show 2 ≤ sizeLine; decide, fun t3 n3 => ?_⟩⟩
        have ⟨tt2, st2, et2⟩ := tup_new (xs := [V.str ("q" : Str)]) n2
        generalize upd H1 t2 (.tup [V.str ("q" : Str)]) = H2 at tt2 st2 et2 n3
        have ⟨tt3, st3, et3⟩ := tup_new (xs := [V.ref pa, V.ref t2]) n3
        generalize upd H2 t3 (.tup [V.ref pa, V.ref t2]) = H3 at tt3 st3 et3
        refine ⟨by show 1 ≤ sizeLine; decide, fun t4 n4 => ⟨_, e1, by show 2 ≤ sizeLine; decide, fun t5 n5 => ⟨by show 3 ≤ sizeLine; decide, fun M nM => ?_⟩⟩⟩
        have ⟨tt4, st4, et4⟩ := tup_new (xs := [V.str ("ab" : Str)]) n4
        generalize upd H3 t4 (.tup [V.str ("ab" : Str)]) = H4 at tt4 st4 et4 n5 nM
        have ⟨tt5, st5, et5⟩ := tup_new (xs := [V.ref t4, V.ref pa]) n5
        generalize upd H4 t5 (.tup [V.ref t4, V.ref pa]) = H5 at tt5 st5 et5 nM
        have sAll := st1.trans (st2.trans (st3.trans (st4.trans st5)))
        have D5 := hD.keep sAll
        have hp5 : PtR H5 (.ref pa) ss := PtR.mn.to hp (TK.same sAll)
        have hq5 : PtR H5 (.ref t2) [[113]] := ⟨t2, _, rfl, tt5 _ _ (tt4 _ _ (tt3 _ _ et2)), LV.nil.snoc rfl⟩
        have ha5 : PtR H5 (.ref t4) [[97, 98]] := ⟨t4, _, rfl, tt5 _ _ et4, LV.nil.snoc rfl⟩
        have e1' : H5 t1 = some (.tup [V.ref pa]) := tt5 _ _ (tt4 _ _ (tt3 _ _ (tt2 _ _ et1)))
        have e3' : H5 t3 = some (.tup [V.ref pa, V.ref t2]) := tt5 _ _ (tt4 _ _ et3)
        refine ⟨d, l, .ref M, _, rfl, D5.new nM, .inl ⟨M, rfl, (D5.nd nM).1, SqL.of upd_same⟩, Nat.succ_pos _, by show 3 ≤ 1000; decide, fun H6 v k6 D6 hv => ?_⟩
        have k6 := ((Kp.refl d H5).new (o := .lst [V.ref t1, V.ref t3, V.ref t5]) nM).trans k6
        have t6 := kpTup D5 k6
        have kAll : Kp d H H6 := fun b o n e => k6 _ _ n (sAll _ _ e)
        have okq : PtOk [[113]] := by refine ⟨by decide, by decide, fun z hz => ?_⟩; rw [List.mem_singleton.mp hz]; exact ⟨by decide, by decide, fun c hc => by rw [List.mem_singleton.mp hc]; decide +kernel⟩
        have oka : PtOk [[97, 98]] := by refine ⟨by decide, by decide, fun z hz => ?_⟩; rw [List.mem_singleton.mp hz]; exact ⟨by decide, by decide, fun c hc => by simp only [List.mem_cons, List.not_mem_nil, or_false] at hc; rcases hc with rfl | rfl <;> decide +kernel⟩
        simp only [List.mem_cons, List.not_mem_nil, or_false] at hv
        rcases hv with rfl | rfl | rfl
        · exact q _ _ [ss] kAll D6 ⟨t1, _, rfl, t6 _ _ e1', LV.nil.snoc (PtR.mn.to hp5 t6)⟩ (by simp) (by simp) (fun x hx => by rw [List.mem_singleton.mp hx]; exact ok)
        · exact q _ _ [ss, [[113]]] kAll D6 ⟨t3, _, rfl, t6 _ _ e3', (LV.nil.snoc (PtR.mn.to hp5 t6)).snoc (PtR.mn.to hq5 t6)⟩ (by simp) (by simp) (fun x hx => by
            simp only [List.mem_cons, List.not_mem_nil, or_false] at hx
            rcases hx with rfl | rfl
            · exact ok
            · exact okq)
        · exact q _ _ [[[97, 98]], ss] kAll D6 ⟨t5, _, rfl, t6 _ _ et5, (LV.nil.snoc (PtR.mn.to ha5 t6)).snoc (PtR.mn.to hp5 t6)⟩ (by simp) (by simp) (fun x hx => by
            simp only [List.mem_cons, List.not_mem_nil, or_false] at hx
            rcases hx with rfl | rfl
            · exact oka
            · exact ok))))
      (pss_cons (ps_set (i := 3) sc_law_secret_of.nd rfl (.inl rfl) (pe_lst pa_nil))
      (pss_cons (ps_for PassesOwn.never rfl (pi_range1 (by rfl) T.n_range (pa_cons (pe_op op_add pe_int (pe_call G_law_draw (hr.mono (by decide)) (by rfl) T.D_law_draw.G T.D_law_draw.F.kp T.D_law_draw.B .nil pass0 (pa_cons (pv 0) (pa_cons pe_int pa_nil)))) pa_nil)) (pg_name (i := 4) sc_law_secret_of.nd rfl (.inl rfl)) (pss_cons (ps_set (i := 5) sc_law_secret_of.nd rfl (.inl rfl) (pe_call G_law_word (hr.mono (by decide)) (by rfl) T.D_law_word.G T.D_law_word.F.kp T.D_law_word.B .nil pass0 (pa_cons (pv 0) (pa_cons pe_int (pa_cons (pe_call G_law_pick (hr.mono (by decide)) (by rfl) T.D_law_pick.G T.D_law_pick.F.kp T.D_law_pick.B .nil pass0 (pa_cons (pv 0) (pa_cons (pe_lst (pa_cons pe_int (pa_cons pe_int (pa_cons pe_int (pa_cons pe_int pa_nil))))) pa_nil))) pa_nil)))))
      (pss_one (ps_if (pt_cmpR op_notIn_seq (pv 5) (pv 3) (by rfl)) (pss_one (ps_expr (pe_bm PySem.F.plainAttrs_list PySem.F.slot_list_append PySem.F.type_list_append mt_append (pv 3) (pa_cons (pv 5) pa_nil)))) pss_nil))))
      (pss_one (ps_ret (pe_tup (pa_cons (pe_ix ix_list (pe_call G_law_names (hr.mono (by decide)) (by rfl) T.D_law_names.G T.D_law_names.F.kp T.D_law_names.B .nil pass0 (pa_cons (pv 0) (pa_cons pe_int pa_nil))) pe_int (fun _ _ => rfl)) (pa_cons (pe_op op_add pe_int (pe_call G_law_draw (hr.mono (by decide)) (by rfl) T.D_law_draw.G T.D_law_draw.F.kp T.D_law_draw.B .nil pass0 (pa_cons (pv 0) (pa_cons pe_int pa_nil)))) (pa_cons (pv 2) (pa_cons (pe_callTy call_tuple_of (by rfl) T.n_tuple (by decide +kernel) (pa_cons (pv 3) pa_nil)) pa_nil))))))))))), ?_⟩
    refine ⟨_, rfl, d, l, 8, rfl, hD, by decide, fun H1 r k1 D1 a1 a2 => ?_⟩
    obtain ⟨g, rfl, hg⟩ := draw_nt (by decide) a1 a2
    refine ⟨_, _, rfl, rfl, ((1 + g : Nat) : Int), congrArg (fun i : Int => [V.int i]) (show (1 : Int) + (g : Int) = ((1 + g : Nat) : Int) by omega), by omega, by omega, ?_⟩
    rw [toNat_k]
    refine fun D2 nD2 => ?_
    have nD2d := D1.nd nD2
    refine lc_it walk_range (fun i H' => ∃ ss : List (List Nat), H' D2 = some (.lst (ss.map sV)) ∧ ss.length = i ∧ (∀ z ∈ ss, 0 < z.length ∧ z.length ≤ 1000 ∧ ∀ c ∈ z, cW c = true) ∧ Kp d H1 H' ∧ DI d l H') ⟨[], upd_same, rfl, (fun _ h => nomatch h), (Kp.refl d H1).new nD2, D1.new nD2⟩ (fun _ _ _ _ => trivial) ?_ ?_
    · rintro i x H2 H3 hi ⟨ss, eD, lss, hss, k2, D2'⟩ ⟨rfl, hx⟩
      refine ⟨rfl, ?_⟩
      refine ⟨_, rfl, d, l, rfl, D2', fun H4 z k4 D4 h1 h2 h3 => ?_⟩
      refine ⟨_, k4 _ _ nD2d.1 eD, szN (by rw [List.length_map]; omega), ss ++ [z], by rw [upd_same, List.map_append]; rfl, by rw [List.length_append, lss]; rfl, fun y hy => ?_, (k2.trans k4).mut nD2, D4.at nD2d.1 nD2d.2⟩
      rcases List.mem_append.mp hy with h | h
      · exact hss y h
      · rw [List.mem_singleton.mp h]; exact ⟨h1, h2, h3⟩
    · rintro H2 ⟨ss, eD, lss, hss, k2, D2'⟩
      refine ⟨D2, _, rfl, .inl ⟨SqL.of eD, fun p np => ?_⟩⟩
      have okp : PtOk ss := ⟨by omega, by omega, hss⟩
      have hp : PtR (upd H2 p (.tup (ss.map sV))) (.ref p) ss := ⟨p, _, rfl, upd_same, LV_sg _ ss⟩
      have k3 := (k1.trans k2).new (o := .tup (ss.map sV)) np
      have D3 := D2'.new (o := .tup (ss.map sV)) np
      generalize upd H2 p (.tup (ss.map sV)) = H3 at hp k3 D3
      refine ⟨d, l, .ref p, ss, rfl, rfl, D3, hp, okp, fun H4 v sts k4 D4 hst s1 s2 hok => ?_⟩
      refine ⟨by show 0 ≤ sizeLine; decide, fun F nF => ?_⟩
      have nFd := D4.nd nF
      have k5 := (k3.trans k4).new (o := .lst []) nF
      have nFH := none_kp (k3.trans k4) nFd.1 nF
      have D5 := D4.new (o := .lst []) nF
      have eF5 : upd H4 F (.lst []) F = some (.lst (([] : List (List Nat)).map sV)) := upd_same
      have hst5 : TupR PtR (upd H4 F (.lst [])) v sts := (TupR.mn PtR.mn).to hst (TK.new (TK.refl _) nF)
      generalize upd H4 F (.lst []) = H5 at k5 D5 eF5 hst5
      refine ⟨_, rfl, d, l, 3, rfl, D5, by decide, fun H6 r k6 D6 a1 a2 => ?_⟩
      obtain ⟨g2, rfl, hg2⟩ := draw_nt (by decide) a1 a2
      refine ⟨_, _, rfl, rfl, ((1 + g2 : Nat) : Int), congrArg (fun i : Int => [V.int i]) (show (1 : Int) + (g2 : Int) = ((1 + g2 : Nat) : Int) by omega), by omega, by omega, ?_⟩
      rw [toNat_k]
      refine for_it walk_range (fun i σ' H' => ∃ (eds : List (List Nat)) (x4 x5 : Option V), σ' = [some (.ref d), some (.ref p), some v, some (.ref F), x4, x5] ∧ Kp d H H' ∧ DI d l H' ∧ TupR PtR H' v sts ∧ H' F = some (.lst (eds.map sV)) ∧ eds.length ≤ i ∧ (0 < i → 1 ≤ eds.length) ∧ ∀ e ∈ eds, EdOk e)
        ⟨[], _, _, rfl, k5.trans k6, D6, (TupR.mn PtR.mn).to hst5 (kpTup D5 k6), k6 _ _ nFd.1 eF5, Nat.le_refl _, fun h => absurd h (by decide), fun _ h => nomatch h⟩ (fun _ _ _ _ _ => trivial) ?_ ?_
      · rintro i x σ' H7 H8 hi ⟨eds, x4, x5, rfl, k7, D7, hst7, eF, led, led1, hed⟩ ⟨rfl, hx⟩
        refine ⟨_, rfl, _, rfl, by show 4 ≤ sizeLine; decide, fun M nM => ?_⟩
        refine ⟨d, l, .ref M, _, rfl, D7.new nM, .inl ⟨M, rfl, (D7.nd nM).1, SqL.of upd_same⟩, Nat.succ_pos _, by show 4 ≤ 1000; decide, fun H9 v2 k9 D9 hv => ?_⟩
        have k9 := ((Kp.refl d H8).new (o := .lst [V.int 0, V.int 2, V.int 3, V.int 8]) nM).trans k9
        obtain ⟨hi2, rfl, _, h8⟩ := isN_of (lo := 0) (hi := 8) (List.all_eq_true.mp (show List.all _ (isN 0 8) = true from rfl) v2 hv)
        refine ⟨d, l, 0, (hi2 : Int), rfl, D9, by decide, by omega, by omega, fun H10 z k10 D10 z0 z8 hz => ?_⟩
        have k8 := k9.trans k10
        have eF10 := k8 _ _ nFd.1 eF
        have hst10 : TupR PtR H10 v sts := (TupR.mn PtR.mn).to hst7 (kpTup D7 k8)
        have okz : EdOk z := ⟨by omega, hz⟩
        refine ⟨_, rfl, _, rfl, F, _, rfl, .inl (SqL.of eF10), rfl, flat_sV _, ?_⟩
        cases eds with
        | nil =>
          refine ⟨true, rfl, ?_⟩
          refine ⟨.ref F, rfl, .inl ⟨rfl, _, .inl (.inl eF10)⟩, _, rfl, F, _, _, rfl, rfl, eF10, szN (by rw [List.length_map]; show 0 < 100000; decide), ?_⟩
          exact ⟨[z], _, _, rfl, (k7.trans k8).mut nFH, D10.at nFd.1 nFd.2, (TupR.mn PtR.mn).to hst10 (TK.mut (TK.refl _) eF10), upd_same, by show 1 ≤ i + 1; omega, fun _ => Nat.le_refl _, fun e he => by rw [List.mem_singleton.mp he]; exact okz⟩
        | cons e0 er =>
          generalize he : e0 :: er = eds at eF10 hed led
          have l1 : 1 ≤ eds.length := by rw [← he]; exact Nat.succ_pos _
          refine ⟨_, rfl, ?_⟩
          generalize (!inV (sV z) (eds.map sV)) = b
          cases b with
          | true =>
            refine ⟨.ref F, rfl, .inl ⟨rfl, _, .inl (.inl eF10)⟩, _, rfl, F, _, _, rfl, rfl, eF10, szN (by rw [List.length_map]; omega), ?_⟩
            refine ⟨eds ++ [z], _, _, rfl, (k7.trans k8).mut nFH, D10.at nFd.1 nFd.2, (TupR.mn PtR.mn).to hst10 (TK.mut (TK.refl _) eF10), by rw [upd_same, List.map_append]; rfl, by rw [List.length_append]; exact Nat.succ_le_succ led, fun _ => by rw [List.length_append]; omega, fun e he => ?_⟩
            rcases List.mem_append.mp he with h | h
            · exact hed e h
            · rw [List.mem_singleton.mp h]; exact okz
          | false => exact ⟨eds, _, _, rfl, k7.trans k8, D10, hst10, eF10, by omega, fun _ => l1, hed⟩
      · rintro σ' H7 ⟨eds, x4, x5, rfl, k7, D7, hst7, eF, led, led1, hed⟩
        have led1 := led1 (by omega)
        refine ⟨_, rfl, d, l, rfl, D7, fun H8 p8 u8 k8 D8 e8 => ⟨p8, _, _, _, rfl, rfl, SqL.of e8, atI_nat (j := 0) rfl, ?_⟩⟩
        refine ⟨_, rfl, d, l, 5, rfl, D8, by decide, fun H9 r k9 D9 _ _ => ⟨_, _, rfl, rfl, ?_⟩⟩
        have k79 := k8.trans k9
        have eF9 := k79 _ _ nFd.1 eF
        refine ⟨_, rfl, _, rfl, F, _, rfl, .inl ⟨SqL.of eF9, fun pe npe => ⟨by show 4 ≤ sizeLine; decide, fun a na => ?_⟩⟩⟩
        have ⟨t1, s1', f1⟩ := tup_new (xs := eds.map sV) npe
        generalize upd H9 pe (.tup (eds.map sV)) = X1 at t1 s1' f1 na
        have ⟨t2, s2', f2⟩ := tup_new (xs := [u8, V.int (1 + r), v, V.ref pe]) na
        have tt := TK.trans (kpTup D7 k79) (TK.trans t1 t2)
        have kk : Kp d H (upd X1 a (.tup [u8, V.int (1 + r), v, V.ref pe])) := (k7.trans k79).trans fun b o _ e => s2' _ _ (s1' _ _ e)
        exact q _ _ sts eds kk ((D9.keep s1').keep s2') ⟨a, _, _, _, _, rfl, f2, (TupR.mn PtR.mn).to hst7 tt, ⟨pe, _, rfl, t2 _ _ f1, LV_sg _ eds⟩⟩ s1 hok led1 (by omega) hed
end
end Vf

set_option Elab.async false
set_option linter.all false
set_option maxRecDepth 100000
set_option maxHeartbeats 4000000
namespace Vf
open PySem PySem.Spec PyProof.Rows L2 TL
theorem shape_eqv {H : Hp} {v u : V} {S : Sty} {zs : List Nat} (wd : WdOk zs) (hv : ShapeV H v S zs) (hu : ShapeV H u S zs) : Eqv 4 H v u := by
  obtain ⟨a, pa, vs, rfl, e1, e2, pl⟩ := hv
  obtain ⟨b, pb, us, rfl, f1, f2, ql⟩ := hu
  have pn := places_len S zs
  have hl := wd.len
  refine .inr ⟨a, b, _, _, rfl, rfl, e1, f1, rfl, by show 2 ≤ 100000; decide, fun i x y hx hy => ?_⟩
  match i, hx, hy with
  | 0, hx, hy =>
    have hx := Option.some.inj hx
    have hy := Option.some.inj hy
    subst hx hy
    exact .inl (.inr (.inl ⟨_, rfl, rfl⟩))
  | 1, hx, hy =>
    have hx := Option.some.inj hx
    have hy := Option.some.inj hy
    subst hx hy
    refine .inr ⟨pa, pb, vs, us, rfl, rfl, e2, f2, by rw [pl.1, ql.1], by rw [pl.1]; omega, fun i x y hx hy => ?_⟩
    have hi : i < (places S zs).length := by rw [← pl.1]; exact (List.getElem?_eq_some_iff.mp hx).1
    obtain ⟨x', g1, p, rfl, g2⟩ := pl.2 i _ (List.getElem?_eq_getElem hi)
    obtain ⟨y', h1, q, rfl, h2⟩ := ql.2 i _ (List.getElem?_eq_getElem hi)
    rw [hx] at g1
    rw [hy] at h1
    have g1 := Option.some.inj g1
    have h1 := Option.some.inj h1
    subst g1 h1
    refine .inr ⟨p, q, _, _, rfl, rfl, g2, h2, rfl, by show 3 ≤ 100000; decide, fun i x y hx hy => ?_⟩
    match i, hx, hy with
    | 0, hx, hy =>
      have hx := Option.some.inj hx
      have hy := Option.some.inj hy
      subst hx hy
      exact .inl (.inr (.inl ⟨_, rfl, rfl⟩))
    | 1, hx, hy =>
      have hx := Option.some.inj hx
      have hy := Option.some.inj hy
      subst hx hy
      exact .inl (.inr (.inl ⟨_, rfl, rfl⟩))
    | 2, hx, hy =>
      have hx := Option.some.inj hx
      have hy := Option.some.inj hy
      subst hx hy
      exact .inl (.inr (.inl ⟨_, rfl, rfl⟩))
    | n + 3, hx, _ => cases hx
  | n + 2, hx, _ => cases hx
theorem tup_eqv {α : Type} {R : Hp → V → α → Prop} {n : Nat} {H : Hp} {u v : V} {rs : List α} (hu : TupR R H u rs) (hv : TupR R H v rs) (hl : rs.length ≤ 1000) (he : ∀ r ∈ rs, ∀ x y, R H x r → R H y r → Eqv n H x y) : Eqv (n + 1) H u v := by
  obtain ⟨a, us, rfl, ea, lu⟩ := hu
  obtain ⟨b, vs, rfl, eb, lw⟩ := hv
  have l1 := lu.1
  have l2 := lw.1
  refine .inr ⟨a, b, us, vs, rfl, rfl, ea, eb, by omega, by omega, fun i x y hx hy => ?_⟩
  obtain ⟨r, er, hr⟩ := lu.at hx
  obtain ⟨r2, er2, hr2⟩ := lw.at hy
  rw [er] at er2
  have e := Option.some.inj er2
  subst e
  exact he r (List.mem_of_getElem? er) x y hr hr2
theorem jt_eqv {H : Hp} {u v : V} {Ss : List Sty} {ws : List (List Nat)} (hu : JtR H u Ss ws) (hv : JtR H v Ss ws) (l1 : Ss.length ≤ 10) (l2 : ws.length ≤ 10) (hw : ∀ w ∈ ws, WdOk w) : Eqv 6 H u v :=
  tup_eqv hu hv (by omega) fun S _ x y hx hy => tup_eqv hx hy (by omega) fun w hm a b ha hb => shape_eqv (hw w hm) ha hb
/-- a world -/
structure Wor where
  Ss : List Sty
  eds : List (List Nat)
  stem : List Nat
structure WorOk (x : Wor) : Prop where
  st : ∀ S ∈ x.Ss, StyOk S
  wd : ∀ e ∈ x.eds, WdOk (x.stem ++ e)
  s10 : x.Ss.length ≤ 10
  e10 : x.eds.length ≤ 10
def WorR (H : Hp) (v : V) (x : Wor) : Prop := ∃ a stv sev, v = .ref a ∧ H a = some (.tup [stv, sev, sV x.stem]) ∧ TupR StyR H stv x.Ss ∧ SeR H sev x.eds
theorem WorR.mn : Mn WorR := ⟨fun ⟨a, s, t, e, h, h1, h2⟩ k => ⟨a, s, t, e, k _ _ h, (TupR.mn StyR.mn).to h1 k, SeR.mn.to h2 k⟩⟩
def Wor.ws (x : Wor) : List (List Nat) := x.eds.map (x.stem ++ ·)
theorem LV.rev {α : Type} {R : V → α → Prop} {us : List V} {rs : List α} (h : LV R us rs) : LV R us.reverse rs.reverse := by
  have l := h.1
  refine ⟨by rw [List.length_reverse, List.length_reverse, l], fun i r e => ?_⟩
  have hi : i < rs.length := by
    have := (List.getElem?_eq_some_iff.mp e).1
    rwa [List.length_reverse] at this
  rw [List.getElem?_reverse hi] at e
  obtain ⟨x, ex, hx⟩ := h.2 _ r e
  exact ⟨x, by rw [List.getElem?_reverse (by omega), l]; exact ex, hx⟩
section
variable {P : Program} {w : World} {K : PySem.W.Frag} {mg : Str → Option Value} {base : Heap}
def tPat : TE := fun σ H Q => ∃ (a : Addr) (x y sv w : V) (sts : List (List (List Nat))), σ[1]? = some (some (.ref a)) ∧ H a = some (.tup [x, y, sv, w]) ∧ TupR PtR H sv sts ∧ 1 ≤ sts.length ∧ (∀ z ∈ sts, PtOk z) ∧ ∀ (H' : Hp) (v : V) (ss : List (List Nat)), Same H H' → PtR H' v ss → PtOk ss → Q v H'
def tSty : TE := fun σ H Q => ∃ (d l wl : Addr) (ws : List (List Nat)), σ[0]? = some (some (.ref d)) ∧ σ[4]? = some (some (.ref wl)) ∧ DI d l H ∧ wl ≠ d ∧ H wl = some (.lst (ws.map sV)) ∧ (∀ z ∈ ws, WdP z) ∧ 1 ≤ ws.length ∧ ws.length ≤ 5 ∧ ∀ (H' : Hp) (v : V) (S : Sty), Kp d H H' → DI d l H' → StyV H' v S → StyOk S → Q v H'
def spWorld : Sp := fun vs H Q _ => ∃ (d l : Addr), vs = [.ref d] ∧ DI d l H ∧ ∀ H' v x, Kp d H H' → DI d l H' → WorR H' v x → WorOk x → Q v H'
theorem ok_world (T : Txt K mg) : FnOk P w K mg base CX0 5 T.a_law_world T.d_law_world ["_law_d"] spWorld := by
  have G_law_draw : FnOk P w K mg base CX0 1 T.a_law_draw T.d_law_draw ["_law_d", "_law_many"] spDraw := ok_draw T
  have G_law_pick : FnOk P w K mg base CX0 2 T.a_law_pick T.d_law_pick ["_law_d", "_law_row"] (spPick K) := ok_pick T
  have G_law_secret_of : FnOk P w K mg base CX0 4 T.a_law_secret_of T.d_law_secret_of ["_law_d"] spSecret := ok_secret T
  have G_law_style : FnOk P w K mg base CX0 3 T.a_law_style T.d_law_style ["_law_d", "_law_measure", "_law_depth", "_law_columns"] spStyle := ok_style T
  have G_law_fit_style : FnOk P w K mg base CX0 3 T.a_law_fit_style T.d_law_fit_style ["_law_d", "_law_words"] spFit := ok_fit T
  refine T.D_law_world.F.ok sc_law_world (fun vs H Q E h => ?_) (fun cdv A outer s H vs Q E hr h => ?_)
  · obtain ⟨d, l, rfl, _⟩ := h
    rfl
  · obtain ⟨d, l, rfl, hD, q⟩ := h
    refine ⟨_, (pss_cons (ps_set (i := 1) sc_law_world.nd rfl (.inl rfl) (pe_call G_law_secret_of (hr.mono (by decide)) (by rfl) T.D_law_secret_of.G T.D_law_secret_of.F.kp T.D_law_secret_of.B .nil pass0 (pa_cons (pv 0) pa_nil)))
      (pss_cons (ps_set (i := 2) sc_law_world.nd rfl (.inl rfl) (PE.to (t' := tPat) (pe_ifExp (pt_cmpR (op_neD (Room.units hr)) (pe_ix ix_tup (pe_ix ix_tup (pv 1) pe_int (fun _ _ => rfl)) pe_int (fun _ _ => rfl)) (pe_tup (pa_cons pe_str pa_nil)) (nomark _)) (pe_ix ix_tup (pe_ix ix_tup (pv 1) pe_int (fun _ _ => rfl)) pe_int (fun _ _ => rfl)) (pe_ix ix_tup (pe_ix ix_tup (pv 1) pe_int (fun _ _ => rfl)) (pe_op op_sub (pe_callB call_len_seq (by rfl) T.n_len PySem.boot_len (pa_cons (pe_ix ix_tup (pv 1) pe_int (fun _ _ => rfl)) pa_nil)) pe_int) (fun _ _ => rfl))) (fun σ H Q h => by
      obtain ⟨a, x, y, sv, w, sts, e1, ea, hst, s1, ok, q⟩ := h
      obtain ⟨sa, us, rfl, esa, lv⟩ := hst
      have lus := lv.1
      obtain ⟨u0, eu0, hu0⟩ := lv.get0 [] (i := 0) (by omega)
      have ok0 := ok _ (getD_mem (xs := sts) (i := 0) (d := []) (by omega))
      have g2 : atI [x, y, V.ref sa, w] 2 = some (.ref sa) := atI_nat (j := 2) rfl
      generalize sts.getD 0 [] = ss0 at hu0 ok0
      refine ⟨_, e1, a, _, _, _, rfl, rfl, SqT.of ea, g2, sa, _, _, _, rfl, rfl, SqT.of esa, atI_nat (j := 0) eu0, by show 1 ≤ sizeLine; decide, fun t nt => ?_⟩
      have ⟨tt, st, et⟩ := tup_new (xs := [V.str ("ab" : Str)]) nt
      generalize upd H t (.tup [V.str ("ab" : Str)]) = H1 at tt st et
      have h0 := PtR.mn.to hu0 tt
      refine ⟨dS ss0, dS [[97, 98]], dS_dp h0, dS_dp (⟨t, _, rfl, et, LV.nil.snoc rfl⟩ : PtR H1 (.ref t) [[97, 98]]), dS_shaped ok0.ch, dS_shaped (fun z hz c hc => by rw [List.mem_singleton.mp hz] at hc; simp only [List.mem_cons, List.not_mem_nil, or_false] at hc; omega), ?_⟩
      refine ⟨_, rfl, ?_⟩
      generalize (!PyData.eqv (dS ss0) (dS [[97, 98]])) = b
      cases b with
      | true =>
        refine ⟨_, e1, a, _, _, _, rfl, rfl, SqT.of (tt _ _ ea), g2, sa, _, _, _, rfl, rfl, SqT.of (tt _ _ esa), atI_nat (j := 0) eu0, ?_⟩
        exact q H1 _ ss0 st h0 ok0
      | false =>
        obtain ⟨un, eun, hun⟩ := lv.get0 [] (i := sts.length - 1) (by omega)
        have okn := ok _ (getD_mem (xs := sts) (i := sts.length - 1) (d := []) (by omega))
        refine ⟨_, e1, a, _, _, _, rfl, rfl, SqT.of (tt _ _ ea), g2, _, e1, a, _, _, _, rfl, rfl, SqT.of (tt _ _ ea), g2, sa, _, rfl, .inr (SqT.of (tt _ _ esa)), _, _, rfl, rfl, sa, _, _, _, rfl, rfl, SqT.of (tt _ _ esa), by rw [show (us.length : Int) - 1 = ((sts.length - 1 : Nat) : Int) by omega]; exact atI_nat eun, ?_⟩
        exact q H1 _ _ st (PtR.mn.to hun tt) okn)))
      (pss_cons (ps_set (i := 3) sc_law_world.nd rfl (.inr rfl) (pe_join pe_str (pe_lc (own := [("_law_slot_here", 7)]) (g := gName 7) (tt := tYes) rfl sc_law_world.nd (pi_tup (pv 2)) (blkOk_by (own := [("_law_slot_here", 7)]) (N := ["_law_d", "_law_secret", "_law_pattern", "_law_stem", "_law_words", "_law_styles", "_law_k", "_law_slot_here", "_law_ending"]) (sc := (defScope s_law_world)) (by decide +kernel)) (fun _ _ _ _ _ => (pg_name (i := 7) sc_law_world.nd rfl (.inl rfl))) (fun _ _ _ _ _ => pts_nil) (fun _ _ _ _ _ => (pe_call G_law_pick (hr.mono (by decide)) (by rfl) T.D_law_pick.G T.D_law_pick.F.kp T.D_law_pick.B .nil pass0 (pa_cons (pv 0) (pa_cons (pv 7) pa_nil)))))))
      (pss_cons (ps_setLc (i := 4) (own := [("_law_ending", 8)]) (g := gName 8) (tt := tYes) rfl sc_law_world.nd rfl rfl (sw_true rfl rfl rfl (by decide +kernel)) (pi_tup (pe_ix ix_tup (pv 1) pe_int (fun _ _ => rfl))) (blkOk_by (own := [("_law_ending", 8)]) (N := ["_law_d", "_law_secret", "_law_pattern", "_law_stem", "_law_words", "_law_styles", "_law_k", "_law_slot_here", "_law_ending"]) (sc := (defScope s_law_world)) (by decide +kernel)) (fun _ _ _ _ _ => (pg_name (i := 8) sc_law_world.nd rfl (.inl rfl))) (fun _ _ _ _ _ => pts_nil) (fun _ _ _ _ _ => (pe_op op_add_str (pv 3) (pv 8))))
      (pss_cons (ps_set (i := 5) sc_law_world.nd rfl (.inl rfl) (pe_lst pa_nil))
      (pss_cons (ps_for PassesOwn.never rfl (pi_range1 (by rfl) T.n_range (pa_cons (pe_op op_add pe_int (pe_call G_law_draw (hr.mono (by decide)) (by rfl) T.D_law_draw.G T.D_law_draw.F.kp T.D_law_draw.B .nil pass0 (pa_cons (pv 0) (pa_cons pe_int pa_nil)))) pa_nil)) (pg_name (i := 6) sc_law_world.nd rfl (.inl rfl)) (pss_one (ps_expr (pe_bm PySem.F.plainAttrs_list PySem.F.slot_list_append PySem.F.type_list_append mt_append (pv 5) (pa_cons (PE.to (t' := tSty) (pe_ifExp (pt_cmpR op_eq (pe_call G_law_draw (hr.mono (by decide)) (by rfl) T.D_law_draw.G T.D_law_draw.F.kp T.D_law_draw.B .nil pass0 (pa_cons (pv 0) (pa_cons pe_int pa_nil))) pe_int (nomark _)) (pe_call G_law_style (hr.mono (by decide)) (by rfl) T.D_law_style.G T.D_law_style.F.kp T.D_law_style.B .nil pass0 (pa_cons (pv 0) (pa_cons pe_int (pa_cons pe_int (pa_cons pe_int pa_nil))))) (pe_call G_law_fit_style (hr.mono (by decide)) (by rfl) T.D_law_fit_style.G T.D_law_fit_style.F.kp T.D_law_fit_style.B .nil pass0 (pa_cons (pv 0) (pa_cons (pv 4) pa_nil)))) (fun σ H Q h => by
      obtain ⟨d, l, wl, ws, e0, e4, hD, nwl, ewl, hws, w1, w5, q⟩ := h
      refine ⟨_, e0, d, l, 4, rfl, hD, by decide, fun H1 r k1 D1 a1 a2 => ⟨rfl, _, rfl, ?_⟩⟩
      generalize decide (V.int r = V.int 1) = b
      cases b with
      | true => exact ⟨_, e0, d, l, 12, 5, 1, rfl, D1, fun H2 v S k2 D2 hv ok => q H2 v S (k1.trans k2) D2 hv ok⟩
      | false => exact ⟨_, e0, _, e4, d, l, wl, ws, rfl, D1, nwl, k1 _ _ nwl ewl, hws, w1, w5, fun H2 v S k2 D2 hv ok => q H2 v S (k1.trans k2) D2 hv ok⟩)) pa_nil)))))
      (pss_one (ps_ret (pe_tup (pa_cons (pe_callTy call_tuple_of (by rfl) T.n_tuple (by decide +kernel) (pa_cons (pv 5) pa_nil)) (pa_cons (pv 1) (pa_cons (pv 3) pa_nil)))))))))))), ?_⟩
    refine ⟨_, rfl, d, l, rfl, hD, fun H1 sev sts eds k1 D1 hse s1 hst e1 e3 hed => ?_⟩
    obtain ⟨sa, x0, y0, sv, ev, rfl, esa, hsv, da, dus, rfl, eda, lE⟩ := id hse
    refine ⟨sa, x0, y0, sv, .ref da, sts, rfl, esa, hsv, s1, hst, fun H2 pv ss k2 hp ok => ?_⟩
    have D2 := D1.keep k2
    obtain ⟨pa, pus, rfl, epa, lp⟩ := id hp
    have lpl := lp.1
    have p8 := ok.p8
    have p1 := ok.p1
    refine ⟨⟨_, rfl⟩, _, rfl, pa, rfl, ⟨_, SqT.of epa⟩, fun D3 nD3 => ?_⟩
    have nDd := D2.nd nD3
    refine lc_it (walk_tup (K := K) (a := pa) (xs := pus)) (fun i H' => ∃ zs : List Nat, H' D3 = some (.lst (zs.map fun c => sV [c])) ∧ zs.length = i ∧ (∀ c ∈ zs, cW c = true) ∧ Kp d H2 H' ∧ DI d l H') ⟨[], upd_same, rfl, (fun _ h => nomatch h), (Kp.refl d H2).new nD3, D2.new nD3⟩ ?_ ?_ ?_
    · rintro i H' _ ⟨_, _, _, _, k, _⟩
      exact SqT.of (kpTup D2 k _ _ epa)
    · rintro i x H3 H4 hi ⟨zs, eD, lz, hz, k3, D3'⟩ ⟨rfl, hx⟩
      obtain ⟨sl, esl, rfl⟩ := lp.at hx
      obtain ⟨sl0, sl1, slc⟩ := ok.sl sl (List.mem_of_getElem? esl)
      refine ⟨rfl, ?_⟩
      refine ⟨_, rfl, _, rfl, d, l, sV sl, _, rfl, D3', .inr ⟨sl, rfl, rfl⟩, by rw [List.length_map]; exact sl0, by rw [List.length_map]; exact sl1, fun H5 v k5 D5 hv => ?_⟩
      obtain ⟨c, hc, rfl⟩ := List.mem_map.mp hv
      refine ⟨_, k5 _ _ nDd.1 eD, szN (by rw [List.length_map]; omega), zs ++ [c], by rw [upd_same, List.map_append]; rfl, by rw [List.length_append, lz]; rfl, fun y hy => ?_, (k3.trans k5).mut nD3, D5.at nDd.1 nDd.2⟩
      rcases List.mem_append.mp hy with h | h
      · exact hz y h
      · rw [List.mem_singleton.mp h]; exact slc c hc
    · rintro H3 ⟨zs, eD, lz, hz, k3, D3'⟩
      have efl : (zs.map fun c => [c]).flatten = zs := by
        clear eD lz hz
        induction zs with
        | nil => rfl
        | cons c r ih => rw [List.map_cons, List.flatten_cons, ih]; rfl
      refine ⟨_, D3, (zs.map fun c => [c]).map mkS, rfl, rfl, .inl (SqL.of (by rw [eD, List.map_map, List.map_map]; rfl)), ?_, ?_⟩
      · rw [sum_len, efl, show (("" : Str)).length = 0 from by rw [empty_mk, mkS_len]; rfl]; exact big_ok (by omega)
      rw [join_mk, efl]
      have k03 : Kp d H1 H3 := fun b o n e => k3 _ _ n (k2 _ _ e)
      have t03 := kpTup D1 k03
      have esa3 := t03 _ _ esa
      have eda3 := t03 _ _ eda
      have hse3 := hse.to t03
      have lel := lE.1
      have hlen : ∀ e ∈ eds, (zs ++ e).length ≤ 16 := fun e he => by
        have := (hed e he).1
        rw [List.length_append]; omega
      have hwd : ∀ e ∈ eds, WdOk (zs ++ e) := fun e he => ⟨hlen e he, fun c hc => by
        rcases List.mem_append.mp hc with h | h
        · exact (cW_chr (hz c h)).1
        · exact (cW_chr ((hed e he).2 c h)).1, fun c hc => by
        rcases List.mem_append.mp hc with h | h
        · exact (cW_chr (hz c h)).2
        · exact (cW_chr ((hed e he).2 c h)).2⟩
      refine ⟨_, rfl, sa, _, _, _, rfl, rfl, SqT.of esa3, atI_nat (j := 3) rfl, da, rfl, ⟨_, SqT.of eda3⟩, fun D4 nD4 => ?_⟩
      have nD4d := D3'.nd nD4
      refine lc_it (walk_tup (K := K) (a := da) (xs := dus)) (fun i H' => H' D4 = some (.lst (((eds.take i).map (zs ++ ·)).map sV)) ∧ Same H3 H') ⟨upd_same, same_upd (Same.refl H3) nD4⟩ ?_ ?_ ?_
      · rintro i H' _ ⟨_, k⟩
        exact SqT.of (k _ _ eda3)
      · rintro i x H4 H5 hi ⟨eD4, k4⟩ ⟨rfl, hx⟩
        obtain ⟨e, ee, rfl⟩ := lE.at hx
        have hl := hlen e (List.mem_of_getElem? ee)
        rw [List.length_append] at hl
        refine ⟨rfl, ?_⟩
        refine ⟨_, rfl, _, rfl, _, _, rfl, rfl, by rw [mkS_len, mkS_len]; exact big_ok (by omega), ?_⟩
        refine ⟨_, eD4, szN (by rw [List.length_map, List.length_map, List.length_take]; omega), ?_, same_mut k4 nD4⟩
        rw [upd_same, take_one ee, List.map_append, List.map_append, mkS_app]; rfl
      · rintro H4 ⟨eD4, k4⟩
        rw [List.take_of_length_le (by omega)] at eD4
        have D4' := D3'.keep k4
        refine ⟨by show 0 ≤ sizeLine; decide, fun A nA => ?_⟩
        have nAd := D4'.nd nA
        have k04 : Kp d H H4 := (k1.trans k03).trans fun b o _ e => k4 _ _ e
        have nAH := none_kp k04 nAd.1 nA
        have k5 := k04.new (o := .lst []) nA
        have D5 := D4'.new (o := .lst []) nA
        have eA5 : upd H4 A (.lst []) A = some (.lst []) := upd_same
        have eD5 : upd H4 A (.lst []) D4 = some (.lst ((eds.map (zs ++ ·)).map sV)) := by rw [upd_ne (ne_of_none eD4 nA)]; exact eD4
        have nDA : D4 ≠ A := ne_of_none eD4 nA
        have hse5 := hse3.to (TK.new (o := .lst []) (TK.same k4) nA)
        generalize upd H4 A (.lst []) = H5 at k5 D5 eA5 eD5 hse5
        refine ⟨_, rfl, d, l, 4, rfl, D5, by decide, fun H6 r k6 D6 a1 a2 => ?_⟩
        obtain ⟨g, rfl, hg⟩ := draw_nt (by decide) a1 a2
        refine ⟨_, _, rfl, rfl, ((1 + g : Nat) : Int), congrArg (fun i : Int => [V.int i]) (show (1 : Int) + (g : Int) = ((1 + g : Nat) : Int) by omega), by omega, by omega, ?_⟩
        rw [toNat_k]
        have hg : g < 4 := by omega
        refine for_it walk_range (fun i σ' H' => ∃ (Ss : List Sty) (us : List V) (x6 : Option V), σ' = [some (.ref d), some (.ref sa), some (.ref pa), some (sV zs), some (.ref D4), some (.ref A), x6, none, none] ∧ Kp d H H' ∧ DI d l H' ∧ TK H5 H' ∧ H' D4 = some (.lst ((eds.map (zs ++ ·)).map sV)) ∧ H' A = some (.lst us) ∧ LV (StyR H') us Ss ∧ Ss.length ≤ i ∧ ∀ S ∈ Ss, StyOk S)
          ⟨[], [], none, rfl, k5.trans k6, D6, kpTup D5 k6, k6 _ _ nD4d.1 eD5, k6 _ _ nAd.1 eA5, LV.nil, Nat.le_refl _, fun _ h => nomatch h⟩ (fun _ _ _ _ _ => trivial) ?_ ?_
        · rintro i x σ' H7 H8 hi ⟨Ss, us, x6, rfl, k7, D7, t7, eD7, eA7, lv, lS, hS⟩ ⟨rfl, hx⟩
          have lvl := lv.1
          refine ⟨.ref A, rfl, .inl ⟨rfl, _, .inl (.inl eA7)⟩, ?_⟩
          refine ⟨d, l, D4, eds.map (zs ++ ·), rfl, rfl, D7, nD4d.1, eD7, fun z hz2 => ?_, by rw [List.length_map]; exact e1, by rw [List.length_map]; omega, fun H9 v S k9 D9 hv okS => ?_⟩
          · obtain ⟨e, he, rfl⟩ := List.mem_map.mp hz2
            exact ⟨hwd e he, by rw [List.length_append]; omega⟩
          have eA9 := k9 _ _ nAd.1 eA7
          have t9 := kpTup D7 k9
          have tm : TK H9 (upd H9 A (.lst (us ++ [v]))) := TK.mut (TK.refl _) eA9
          refine ⟨A, us, _, rfl, rfl, eA9, szN (by omega), ?_⟩
          refine ⟨Ss ++ [S], us ++ [v], _, rfl, (k7.trans k9).mut nAH, D9.at nAd.1 nAd.2, TK.trans t7 (TK.trans t9 tm), by rw [upd_ne nDA]; exact k9 _ _ nD4d.1 eD7, upd_same, ((lv.mono fun _ _ z => StyR.mn.to z t9).snoc (show StyR H9 v S from hv)).mono fun _ _ z => StyR.mn.to z tm, by rw [List.length_append]; exact Nat.succ_le_succ lS, fun S' hS' => ?_⟩
          rcases List.mem_append.mp hS' with h | h
          · exact hS S' h
          · rw [List.mem_singleton.mp h]; exact okS
        · rintro σ' H7 ⟨Ss, us, x6, rfl, k7, D7, t7, eD7, eA7, lv, lS, hS⟩
          refine ⟨_, rfl, A, _, rfl, .inl ⟨SqL.of eA7, fun p np => ⟨_, rfl, _, rfl, by show 3 ≤ sizeLine; decide, fun a na => ?_⟩⟩⟩
          have ⟨u1, s1', f1⟩ := tup_new (xs := us) np
          generalize upd H7 p (.tup us) = X1 at u1 s1' f1 na
          have ⟨u2, s2', f2⟩ := tup_new (xs := [V.ref p, V.ref sa, sV zs]) na
          have tt := u1.trans u2
          refine q _ _ ⟨Ss, eds, zs⟩ (k7.trans fun b o _ e => s2' _ _ (s1' _ _ e)) ((D7.keep s1').keep s2') ⟨a, _, _, rfl, f2, ⟨p, us, rfl, u2 _ _ f1, lv.mono fun _ _ z => StyR.mn.to z tt⟩, (hse5.to (TK.trans t7 tt)).se⟩ ⟨hS, hwd, by show Ss.length ≤ 10; omega, by show eds.length ≤ 10; omega⟩
def spLaw (K : PySem.W.Frag) : Sp := fun vs H Q _ => ∃ (a : Addr) (ns : List Int), vs = [.ref a] ∧ SqL K H a (ns.map V.int) ∧ ns.length ≤ 63 ∧ ∀ H', Q (.bl true) H'
theorem ok_law (T : Txt K mg) : FnOk P w K mg base CX0 8 T.a_law T.d_law ["_law_script"] (spLaw K) := by
  have G_law_begin : FnOk P w K mg base CX0 1 T.a_law_begin T.d_law_begin ["_law_script"] (spBegin K) := ok_begin T
  have G_law_world : FnOk P w K mg base CX0 5 T.a_law_world T.d_law_world ["_law_d"] spWorld := ok_world T
  have G_law_joint : FnOk P w K mg base CX0 3 T.a_law_joint T.d_law_joint ["_law_styles", "_law_secret", "_law_stem"] spJoint := ok_law_joint T
  have G_joint_shape : FnOk P w K mg base CX0 6 T.a_joint_shape T.d_joint_shape ["styles", "secret", "stem"] spJoint := ok_joint_shape T
  have G_law_exact : FnOk P w K mg base CX0 7 T.a_law_exact T.d_law_exact ["_law_told", "_law_due"] (spExact 6) := ok_exact T 6
  refine T.D_law.F.ok sc_law (fun vs H Q E h => ?_) (fun cdv A outer s H vs Q E hr h => ?_)
  · obtain ⟨a, ns, rfl, _⟩ := h
    rfl
  · obtain ⟨a, ns, rfl, hS, hl, q⟩ := h
    refine ⟨_, (pss_cons (ps_set (i := 1) sc_law.nd rfl (.inr rfl) (pe_call G_law_begin (hr.mono (by decide)) (by rfl) T.D_law_begin.G T.D_law_begin.F.kp T.D_law_begin.B .nil pass0 (pa_cons (pv 0) pa_nil)))
      (pss_cons (ps_setLc (i := 2) (own := [("_law_k", 5)]) (g := gName 5) (tt := tYes) rfl sc_law.nd rfl rfl (sw_true rfl rfl rfl (by decide +kernel)) (pi_range1 (by rfl) T.n_range (pa_cons pe_int pa_nil)) (blkOk_by (own := [("_law_k", 5)]) (N := ["_law_script", "_law_d", "_law_worlds", "_law_dues", "_law_turn", "_law_k", "_law_styles", "_law_secret", "_law_stem"]) (sc := (defScope s_law)) (by decide +kernel)) (fun _ _ _ _ _ => (pg_name (i := 5) sc_law.nd rfl (.inl rfl))) (fun _ _ _ _ _ => pts_nil) (fun _ _ _ _ _ => (pe_call G_law_world (hr.mono (by decide)) (by rfl) T.D_law_world.G T.D_law_world.F.kp T.D_law_world.B .nil pass0 (pa_cons (pv 1) pa_nil))))
      (pss_cons (ps_setLc (i := 3) (own := [("_law_styles", 6), ("_law_secret", 7), ("_law_stem", 8)]) (g := (gTup K 3 (gCons (gName 6) (gCons (gName 7) (gCons (gName 8) gNil))))) (tt := tYes) rfl sc_law.nd rfl rfl (sw_true rfl rfl rfl (by decide +kernel)) (pi_list (pv 2)) (blkOk_by (own := [("_law_styles", 6), ("_law_secret", 7), ("_law_stem", 8)]) (N := ["_law_script", "_law_d", "_law_worlds", "_law_dues", "_law_turn", "_law_k", "_law_styles", "_law_secret", "_law_stem"]) (sc := (defScope s_law)) (by decide +kernel)) (fun _ _ _ _ _ => (pg_tup (by rfl) (pgs_cons (pg_name (i := 6) sc_law.nd rfl (.inl rfl)) (pgs_cons (pg_name (i := 7) sc_law.nd rfl (.inl rfl)) (pgs_cons (pg_name (i := 8) sc_law.nd rfl (.inl rfl)) pgs_nil))))) (fun _ _ _ _ _ => pts_nil) (fun _ _ _ _ _ => (pe_call G_law_joint (hr.mono (by decide)) (by rfl) T.D_law_joint.G T.D_law_joint.F.kp T.D_law_joint.B .nil pass0 (pa_cons (pv 6) (pa_cons (pv 7) (pa_cons (pv 8) pa_nil))))))
      (pss_cons (ps_for PassesOwn.never rfl (pi_range1 (by rfl) T.n_range (pa_cons pe_int pa_nil)) (pg_name (i := 4) sc_law.nd rfl (.inl rfl)) (pss_one (ps_for PassesOwn.never rfl (pi_range1 (by rfl) T.n_range (pa_cons pe_int pa_nil)) (pg_name (i := 5) sc_law.nd rfl (.inl rfl)) (pss_cons (ps_asg (pe_ix ix_list (pv 2) (pv 5) (fun _ _ => rfl)) (pg_tup (by rfl) (pgs_cons (pg_name (i := 6) sc_law.nd rfl (.inl rfl)) (pgs_cons (pg_name (i := 7) sc_law.nd rfl (.inl rfl)) (pgs_cons (pg_name (i := 8) sc_law.nd rfl (.inl rfl)) pgs_nil)))))
      (pss_cons (ps_if (pt_not (pt_val (pe_call G_law_exact (hr.mono (by decide)) (by rfl) T.D_law_exact.G T.D_law_exact.F.kp T.D_law_exact.B .nil pass0 (pa_cons (pe_call G_joint_shape (hr.mono (by decide)) (by rfl) T.D_joint_shape.G T.D_joint_shape.F.kp T.D_joint_shape.B .nil pass0 (pa_cons (pv 6) (pa_cons (pv 7) (pa_cons (pv 8) pa_nil)))) (pa_cons (pe_ix ix_list (pv 3) (pv 5) (fun _ _ => rfl)) pa_nil))))) (pss_one (ps_ret pe_bl)) pss_nil)
      (pss_one (ps_if (pt_not (pt_val (pe_call G_law_exact (hr.mono (by decide)) (by rfl) T.D_law_exact.G T.D_law_exact.F.kp T.D_law_exact.B .nil pass0 (pa_cons (pe_call G_joint_shape (hr.mono (by decide)) (by rfl) T.D_joint_shape.G T.D_joint_shape.F.kp T.D_joint_shape.B .nil pass0 (pa_cons (pe_revT (pv 6)) (pa_cons (pv 7) (pa_cons (pv 8) pa_nil)))) (pa_cons (pe_revT (pe_ix ix_list (pv 3) (pv 5) (fun _ _ => rfl))) pa_nil))))) (pss_one (ps_ret pe_bl)) pss_nil)))))))
      (pss_one (ps_ret pe_bl)))))), ?_⟩
    refine ⟨_, rfl, a, ns, rfl, hS, hl, fun H1 d l s1 D1 => ?_⟩
    refine ⟨2, rfl, by omega, by omega, fun A nA => ?_⟩
    have nAd := D1.nd nA
    refine lc_it walk_range (fun i H' => ∃ (us : List V) (xs : List Wor), H' A = some (.lst us) ∧ LV (WorR H') us xs ∧ xs.length = i ∧ (∀ x ∈ xs, WorOk x) ∧ Kp d H1 H' ∧ DI d l H') ⟨[], [], upd_same, LV.nil, rfl, (fun _ h => nomatch h), (Kp.refl d H1).new nA, D1.new nA⟩ (fun _ _ _ _ => trivial) ?_ ?_
    · rintro i x H2 H3 hi ⟨us, xs, eA, lv, lx, hx2, k2, D2⟩ ⟨rfl, hx⟩
      refine ⟨rfl, ?_⟩
      refine ⟨_, rfl, d, l, rfl, D2, fun H4 v x k4 D4 hv ok => ?_⟩
      have eA4 := k4 _ _ nAd.1 eA
      have t4 := kpTup D2 k4
      have tm : TK H4 (upd H4 A (.lst (us ++ [v]))) := TK.mut (TK.refl _) eA4
      have lvl := lv.1
      have hi : i < 2 := hi
      refine ⟨us, eA4, szN (by omega), us ++ [v], xs ++ [x], upd_same, ((lv.mono fun _ _ z => WorR.mn.to z t4).snoc hv).mono fun _ _ z => WorR.mn.to z tm, by rw [List.length_append, lx]; rfl, fun y hy => ?_, (k2.trans k4).mut nA, D4.at nAd.1 nAd.2⟩
      rcases List.mem_append.mp hy with h | h
      · exact hx2 y h
      · rw [List.mem_singleton.mp h]; exact ok
    · rintro H2 ⟨us, xs, eA, lv, lx, hok, k2, D2⟩
      have lx : xs.length = 2 := lx
      have lus := lv.1
      refine ⟨_, rfl, A, rfl, ⟨_, SqL.of eA⟩, fun B nB => ?_⟩
      refine lc_it (walk_list (K := K) (a := A) (xs := us)) (fun i H' => ∃ zs : List V, H' B = some (.lst zs) ∧ LV (fun v x => JtR H' v x.Ss x.ws) zs (xs.take i) ∧ Same H2 H') ⟨[], upd_same, LV.nil, same_upd (Same.refl H2) nB⟩ ?_ ?_ ?_
      · rintro i H' _ ⟨_, _, _, k⟩
        exact SqL.of (k _ _ eA)
      · rintro i v H3 H4 hi ⟨zs, eB, lz, k3⟩ ⟨rfl, hv⟩
        obtain ⟨x, ex, b, stv, sev, rfl, eb, hst, hse⟩ := lv.at hv
        have okx := hok x (List.mem_of_getElem? ex)
        have t3 := TK.same k3
        have lzl := lz.1
        rw [List.length_take] at lzl
        refine ⟨b, _, rfl, SqT.of (t3 _ _ eb), rfl, _, _, rfl, _, _, rfl, _, _, rfl, rfl, rfl, ?_⟩
        refine ⟨_, rfl, _, rfl, _, rfl, stv, sev, x.Ss, x.eds, x.stem, rfl, (TupR.mn StyR.mn).to hst t3, okx.st, SeR.mn.to hse t3, okx.wd, okx.s10, okx.e10, fun H5 u k5 hu => ?_⟩
        have eB5 := k5 _ _ eB
        have tm : TK H5 (upd H5 B (.lst (zs ++ [u]))) := TK.mut (TK.refl _) eB5
        refine ⟨zs, eB5, szN (by omega), zs ++ [u], upd_same, ?_, same_mut (k3.trans k5) nB⟩
        rw [take_one ex]
        exact ((lz.mono fun _ _ z => JtR.to z (TK.same k5)).snoc (show JtR H5 u x.Ss x.ws from hu)).mono fun _ _ z => JtR.to z tm
      · rintro H3 ⟨zs, eB, lz, k3⟩
        rw [List.take_of_length_le (by omega)] at lz
        have eA3 := k3 _ _ eA
        have lv3 : LV (WorR H3) us xs := lv.mono fun _ _ z => WorR.mn.to z (TK.same k3)
        refine ⟨2, rfl, by omega, by omega, ?_⟩
        refine for_it walk_range (fun i σ' H' => ∃ (x4 x5 x6 x7 x8 : Option V), σ' = [some (.ref a), some (.ref d), some (.ref A), some (.ref B), x4, x5, x6, x7, x8] ∧ Same H3 H') ⟨none, none, none, none, none, rfl, Same.refl _⟩ (fun _ _ _ _ _ => trivial) ?_ ?_
        · rintro i x σ' H4 H5 hi ⟨x4, x5, x6, x7, x8, rfl, k4⟩ ⟨rfl, hx⟩
          refine ⟨2, rfl, by omega, by omega, ?_⟩
          refine for_it walk_range (fun i σ' H' => ∃ (x5 x6 x7 x8 : Option V), σ' = [some (.ref a), some (.ref d), some (.ref A), some (.ref B), some x, x5, x6, x7, x8] ∧ Same H3 H') ⟨_, _, _, _, rfl, k4⟩ (fun _ _ _ _ _ => trivial) ?_ ?_
          · rintro j y σ' H6 H7 hj ⟨x5, x6, x7, x8, rfl, k6⟩ ⟨rfl, hy⟩
            have hy : y = nV j := by rw [hy]; exact int0 j
            subst hy
            have hj : j < 2 := hj
            have t6 := TK.same k6
            obtain ⟨wv, ew, hw⟩ := lv3.get (i := j) (by omega)
            obtain ⟨jv, ej, hjv⟩ := lz.get (i := j) (by omega)
            have okx := hok xs[j] (List.getElem_mem _)
            generalize xs[j] = x at hw hjv okx
            obtain ⟨b, stv, sev, rfl, eb, hst, hse⟩ := hw
            have hst := (TupR.mn StyR.mn).to hst t6
            have hse := SeR.mn.to hse t6
            have hjv := JtR.to hjv t6
            have l2 : x.ws.length ≤ 10 := by unfold Wor.ws; rw [List.length_map]; exact okx.e10
            have hws : ∀ w ∈ x.ws, WdOk w := fun w hw => by
              obtain ⟨e, he, rfl⟩ := List.mem_map.mp hw
              exact okx.wd e he
            refine ⟨_, rfl, _, rfl, A, _, _, _, rfl, rfl, SqL.of (k6 _ _ eA3), atI_nat ew, b, _, rfl, SqT.of (t6 _ _ eb), rfl, _, _, rfl, _, _, rfl, _, _, rfl, rfl, ?_⟩
            refine ⟨_, rfl, _, rfl, _, rfl, stv, sev, x.Ss, x.eds, x.stem, rfl, hst, okx.st, hse, okx.wd, okx.s10, okx.e10, fun H8 u k8 hu => ?_⟩
            have hu : JtR H8 u x.Ss x.ws := hu
            refine ⟨_, rfl, _, rfl, B, _, _, _, rfl, rfl, SqL.of (k8 _ _ (k6 _ _ eB)), atI_nat ej, ?_⟩
            have hjv8 := JtR.to hjv (TK.same k8)
            refine ⟨_, _, rfl, jt_eqv hu hjv8 okx.s10 l2 hws, true, rfl, ?_⟩
            have k68 := k6.trans k8
            have t8 := TK.same k8
            obtain ⟨sa, sus, rfl, esa, lS⟩ := hst
            obtain ⟨ja, jus, rfl, eja, lJ⟩ := hjv8
            refine ⟨_, rfl, sa, _, rfl, SqT.of (t8 _ _ esa), fun p np => ?_⟩
            have ⟨t9, s9, f9⟩ := tup_new (xs := sus.reverse) np
            have lS9 : LV (StyR (upd H8 p (.tup sus.reverse))) sus.reverse x.Ss.reverse := (lS.mono fun _ _ z => StyR.mn.to z (TK.trans t8 t9)).rev
            generalize upd H8 p (.tup sus.reverse) = H9 at t9 s9 f9 lS9
            have hok9 : ∀ S ∈ x.Ss.reverse, StyOk S := fun S h => okx.st S (List.mem_reverse.mp h)
            have l9 : x.Ss.reverse.length ≤ 10 := by rw [List.length_reverse]; exact okx.s10
            refine ⟨_, rfl, _, rfl, .ref p, sev, x.Ss.reverse, x.eds, x.stem, rfl, ⟨p, _, rfl, f9, lS9⟩, hok9, SeR.mn.to hse (TK.trans t8 t9), okx.wd, l9, okx.e10, fun H10 u2 k10 hu2 => ?_⟩
            have k910 := s9.trans k10
            have hu2 : JtR H10 u2 x.Ss.reverse x.ws := hu2
            have k610 := k68.trans k910
            refine ⟨_, rfl, _, rfl, B, _, _, _, rfl, rfl, SqL.of (k610 _ _ eB), atI_nat ej, ja, _, rfl, SqT.of (k910 _ _ eja), fun p2 np2 => ?_⟩
            have ⟨t11, s11, f11⟩ := tup_new (xs := jus.reverse) np2
            have hj11 : JtR (upd H10 p2 (.tup jus.reverse)) (.ref p2) x.Ss.reverse x.ws := ⟨p2, _, rfl, f11, (lJ.mono fun _ _ z => JrR.mn.to z (TK.trans (TK.same k910) t11)).rev⟩
            have hu11 := JtR.to hu2 t11
            generalize upd H10 p2 (.tup jus.reverse) = H11 at s11 hj11 hu11
            exact ⟨_, _, rfl, jt_eqv hu11 hj11 l9 l2 hws, true, rfl, _, _, _, _, rfl, k610.trans s11⟩
          · rintro σ' H6 ⟨x5, x6, x7, x8, rfl, k6⟩
            exact ⟨_, _, _, _, _, rfl, k6⟩
        · rintro σ' H4 ⟨x4, x5, x6, x7, x8, rfl, k4⟩
          exact q _
end
theorem all_mk {l : PySem.W.OpenLaw} {w : World} {K : PySem.W.Frag} {h : Heap} {mg : Str → Option Value} {fa : Addr} (X : K.In h) (G : h.Ns mainGlobals mg) (hfa : mg "law" = some (.ref fa))
    {f_width_of : Addr} {od_width_of an_width_of : Option Addr} {sl_width_of : Array (Option Value)} {oc_width_of kV_width_of dc_width_of pm_width_of cd_width_of ct_width_of : Value}
    (a_width_of : PySem.W.nsIn K mainGlobals "width_of" = some (some (.ref f_width_of))) (l_width_of : K.lookup f_width_of = some ⟨oc_width_of, od_width_of, .func (PySem.W.fnOf "width_of" "width_of" (defArgs s_width_of) (defBody s_width_of) (defScope s_width_of) .none kV_width_of dc_width_of pm_width_of an_width_of cd_width_of ct_width_of), sl_width_of⟩) (c_width_of : PySem.W.codeIn K cd_width_of "width_of" = true) (k_width_of : PySem.W.keepIn K (.ref f_width_of) = true)
    {f_cut_of : Addr} {od_cut_of an_cut_of : Option Addr} {sl_cut_of : Array (Option Value)} {oc_cut_of kV_cut_of dc_cut_of pm_cut_of cd_cut_of ct_cut_of : Value}
    (a_cut_of : PySem.W.nsIn K mainGlobals "cut_of" = some (some (.ref f_cut_of))) (l_cut_of : K.lookup f_cut_of = some ⟨oc_cut_of, od_cut_of, .func (PySem.W.fnOf "cut_of" "cut_of" (defArgs s_cut_of) (defBody s_cut_of) (defScope s_cut_of) .none kV_cut_of dc_cut_of pm_cut_of an_cut_of cd_cut_of ct_cut_of), sl_cut_of⟩) (c_cut_of : PySem.W.codeIn K cd_cut_of "cut_of" = true) (k_cut_of : PySem.W.keepIn K (.ref f_cut_of) = true)
    {f_break_price : Addr} {od_break_price an_break_price : Option Addr} {sl_break_price : Array (Option Value)} {oc_break_price kV_break_price dc_break_price pm_break_price cd_break_price ct_break_price : Value}
    (a_break_price : PySem.W.nsIn K mainGlobals "break_price" = some (some (.ref f_break_price))) (l_break_price : K.lookup f_break_price = some ⟨oc_break_price, od_break_price, .func (PySem.W.fnOf "break_price" "break_price" (defArgs s_break_price) (defBody s_break_price) (defScope s_break_price) .none kV_break_price dc_break_price pm_break_price an_break_price cd_break_price ct_break_price), sl_break_price⟩) (c_break_price : PySem.W.codeIn K cd_break_price "break_price" = true) (k_break_price : PySem.W.keepIn K (.ref f_break_price) = true)
    {f_told : Addr} {od_told an_told : Option Addr} {sl_told : Array (Option Value)} {oc_told kV_told dc_told pm_told cd_told ct_told : Value}
    (a_told : PySem.W.nsIn K mainGlobals "_told" = some (some (.ref f_told))) (l_told : K.lookup f_told = some ⟨oc_told, od_told, .func (PySem.W.fnOf "_told" "_told" (defArgs s_told) (defBody s_told) (defScope s_told) .none kV_told dc_told pm_told an_told cd_told ct_told), sl_told⟩) (c_told : PySem.W.codeIn K cd_told "_told" = true) (k_told : PySem.W.keepIn K (.ref f_told) = true)
    {f_shape_of : Addr} {od_shape_of an_shape_of : Option Addr} {sl_shape_of : Array (Option Value)} {oc_shape_of kV_shape_of dc_shape_of pm_shape_of cd_shape_of ct_shape_of : Value}
    (a_shape_of : PySem.W.nsIn K mainGlobals "shape_of" = some (some (.ref f_shape_of))) (l_shape_of : K.lookup f_shape_of = some ⟨oc_shape_of, od_shape_of, .func (PySem.W.fnOf "shape_of" "shape_of" (defArgs s_shape_of) (defBody s_shape_of) (defScope s_shape_of) .none kV_shape_of dc_shape_of pm_shape_of an_shape_of cd_shape_of ct_shape_of), sl_shape_of⟩) (c_shape_of : PySem.W.codeIn K cd_shape_of "shape_of" = true) (k_shape_of : PySem.W.keepIn K (.ref f_shape_of) = true)
    {f_parting_places : Addr} {od_parting_places an_parting_places : Option Addr} {sl_parting_places : Array (Option Value)} {oc_parting_places kV_parting_places dc_parting_places pm_parting_places cd_parting_places ct_parting_places : Value}
    (a_parting_places : PySem.W.nsIn K mainGlobals "parting_places" = some (some (.ref f_parting_places))) (l_parting_places : K.lookup f_parting_places = some ⟨oc_parting_places, od_parting_places, .func (PySem.W.fnOf "parting_places" "parting_places" (defArgs s_parting_places) (defBody s_parting_places) (defScope s_parting_places) .none kV_parting_places dc_parting_places pm_parting_places an_parting_places cd_parting_places ct_parting_places), sl_parting_places⟩) (c_parting_places : PySem.W.codeIn K cd_parting_places "parting_places" = true) (k_parting_places : PySem.W.keepIn K (.ref f_parting_places) = true)
    {f_piece_width : Addr} {od_piece_width an_piece_width : Option Addr} {sl_piece_width : Array (Option Value)} {oc_piece_width kV_piece_width dc_piece_width pm_piece_width cd_piece_width ct_piece_width : Value}
    (a_piece_width : PySem.W.nsIn K mainGlobals "_piece_width" = some (some (.ref f_piece_width))) (l_piece_width : K.lookup f_piece_width = some ⟨oc_piece_width, od_piece_width, .func (PySem.W.fnOf "_piece_width" "_piece_width" (defArgs s_piece_width) (defBody s_piece_width) (defScope s_piece_width) .none kV_piece_width dc_piece_width pm_piece_width an_piece_width cd_piece_width ct_piece_width), sl_piece_width⟩) (c_piece_width : PySem.W.codeIn K cd_piece_width "_piece_width" = true) (k_piece_width : PySem.W.keepIn K (.ref f_piece_width) = true)
    {f_width_at : Addr} {od_width_at an_width_at : Option Addr} {sl_width_at : Array (Option Value)} {oc_width_at kV_width_at dc_width_at pm_width_at cd_width_at ct_width_at : Value}
    (a_width_at : PySem.W.nsIn K mainGlobals "_width_at" = some (some (.ref f_width_at))) (l_width_at : K.lookup f_width_at = some ⟨oc_width_at, od_width_at, .func (PySem.W.fnOf "_width_at" "_width_at" (defArgs s_width_at) (defBody s_width_at) (defScope s_width_at) .none kV_width_at dc_width_at pm_width_at an_width_at cd_width_at ct_width_at), sl_width_at⟩) (c_width_at : PySem.W.codeIn K cd_width_at "_width_at" = true) (k_width_at : PySem.W.keepIn K (.ref f_width_at) = true)
    {f_joint_shape : Addr} {od_joint_shape an_joint_shape : Option Addr} {sl_joint_shape : Array (Option Value)} {oc_joint_shape kV_joint_shape dc_joint_shape pm_joint_shape cd_joint_shape ct_joint_shape : Value}
    (a_joint_shape : PySem.W.nsIn K mainGlobals "joint_shape" = some (some (.ref f_joint_shape))) (l_joint_shape : K.lookup f_joint_shape = some ⟨oc_joint_shape, od_joint_shape, .func (PySem.W.fnOf "joint_shape" "joint_shape" (defArgs s_joint_shape) (defBody s_joint_shape) (defScope s_joint_shape) .none kV_joint_shape dc_joint_shape pm_joint_shape an_joint_shape cd_joint_shape ct_joint_shape), sl_joint_shape⟩) (c_joint_shape : PySem.W.codeIn K cd_joint_shape "joint_shape" = true) (k_joint_shape : PySem.W.keepIn K (.ref f_joint_shape) = true)
    {f_law_begin : Addr} {od_law_begin an_law_begin : Option Addr} {sl_law_begin : Array (Option Value)} {oc_law_begin kV_law_begin dc_law_begin pm_law_begin cd_law_begin ct_law_begin : Value}
    (a_law_begin : PySem.W.nsIn K mainGlobals "_law_begin" = some (some (.ref f_law_begin))) (l_law_begin : K.lookup f_law_begin = some ⟨oc_law_begin, od_law_begin, .func (PySem.W.fnOf "_law_begin" "_law_begin" (defArgs s_law_begin) (defBody s_law_begin) (defScope s_law_begin) .none kV_law_begin dc_law_begin pm_law_begin an_law_begin cd_law_begin ct_law_begin), sl_law_begin⟩) (c_law_begin : PySem.W.codeIn K cd_law_begin "_law_begin" = true) (k_law_begin : PySem.W.keepIn K (.ref f_law_begin) = true)
    {f_law_draw : Addr} {od_law_draw an_law_draw : Option Addr} {sl_law_draw : Array (Option Value)} {oc_law_draw kV_law_draw dc_law_draw pm_law_draw cd_law_draw ct_law_draw : Value}
    (a_law_draw : PySem.W.nsIn K mainGlobals "_law_draw" = some (some (.ref f_law_draw))) (l_law_draw : K.lookup f_law_draw = some ⟨oc_law_draw, od_law_draw, .func (PySem.W.fnOf "_law_draw" "_law_draw" (defArgs s_law_draw) (defBody s_law_draw) (defScope s_law_draw) .none kV_law_draw dc_law_draw pm_law_draw an_law_draw cd_law_draw ct_law_draw), sl_law_draw⟩) (c_law_draw : PySem.W.codeIn K cd_law_draw "_law_draw" = true) (k_law_draw : PySem.W.keepIn K (.ref f_law_draw) = true)
    {f_law_pick : Addr} {od_law_pick an_law_pick : Option Addr} {sl_law_pick : Array (Option Value)} {oc_law_pick kV_law_pick dc_law_pick pm_law_pick cd_law_pick ct_law_pick : Value}
    (a_law_pick : PySem.W.nsIn K mainGlobals "_law_pick" = some (some (.ref f_law_pick))) (l_law_pick : K.lookup f_law_pick = some ⟨oc_law_pick, od_law_pick, .func (PySem.W.fnOf "_law_pick" "_law_pick" (defArgs s_law_pick) (defBody s_law_pick) (defScope s_law_pick) .none kV_law_pick dc_law_pick pm_law_pick an_law_pick cd_law_pick ct_law_pick), sl_law_pick⟩) (c_law_pick : PySem.W.codeIn K cd_law_pick "_law_pick" = true) (k_law_pick : PySem.W.keepIn K (.ref f_law_pick) = true)
    {f_law_shuffled : Addr} {od_law_shuffled an_law_shuffled : Option Addr} {sl_law_shuffled : Array (Option Value)} {oc_law_shuffled kV_law_shuffled dc_law_shuffled pm_law_shuffled cd_law_shuffled ct_law_shuffled : Value}
    (a_law_shuffled : PySem.W.nsIn K mainGlobals "_law_shuffled" = some (some (.ref f_law_shuffled))) (l_law_shuffled : K.lookup f_law_shuffled = some ⟨oc_law_shuffled, od_law_shuffled, .func (PySem.W.fnOf "_law_shuffled" "_law_shuffled" (defArgs s_law_shuffled) (defBody s_law_shuffled) (defScope s_law_shuffled) .none kV_law_shuffled dc_law_shuffled pm_law_shuffled an_law_shuffled cd_law_shuffled ct_law_shuffled), sl_law_shuffled⟩) (c_law_shuffled : PySem.W.codeIn K cd_law_shuffled "_law_shuffled" = true) (k_law_shuffled : PySem.W.keepIn K (.ref f_law_shuffled) = true)
    {f_law_names : Addr} {od_law_names an_law_names : Option Addr} {sl_law_names : Array (Option Value)} {oc_law_names kV_law_names dc_law_names pm_law_names cd_law_names ct_law_names : Value}
    (a_law_names : PySem.W.nsIn K mainGlobals "_law_names" = some (some (.ref f_law_names))) (l_law_names : K.lookup f_law_names = some ⟨oc_law_names, od_law_names, .func (PySem.W.fnOf "_law_names" "_law_names" (defArgs s_law_names) (defBody s_law_names) (defScope s_law_names) .none kV_law_names dc_law_names pm_law_names an_law_names cd_law_names ct_law_names), sl_law_names⟩) (c_law_names : PySem.W.codeIn K cd_law_names "_law_names" = true) (k_law_names : PySem.W.keepIn K (.ref f_law_names) = true)
    {f_law_word : Addr} {od_law_word an_law_word : Option Addr} {sl_law_word : Array (Option Value)} {oc_law_word kV_law_word dc_law_word pm_law_word cd_law_word ct_law_word : Value}
    (a_law_word : PySem.W.nsIn K mainGlobals "_law_word" = some (some (.ref f_law_word))) (l_law_word : K.lookup f_law_word = some ⟨oc_law_word, od_law_word, .func (PySem.W.fnOf "_law_word" "_law_word" (defArgs s_law_word) (defBody s_law_word) (defScope s_law_word) .none kV_law_word dc_law_word pm_law_word an_law_word cd_law_word ct_law_word), sl_law_word⟩) (c_law_word : PySem.W.codeIn K cd_law_word "_law_word" = true) (k_law_word : PySem.W.keepIn K (.ref f_law_word) = true)
    {f_law_style : Addr} {od_law_style an_law_style : Option Addr} {sl_law_style : Array (Option Value)} {oc_law_style kV_law_style dc_law_style pm_law_style cd_law_style ct_law_style : Value}
    (a_law_style : PySem.W.nsIn K mainGlobals "_law_style" = some (some (.ref f_law_style))) (l_law_style : K.lookup f_law_style = some ⟨oc_law_style, od_law_style, .func (PySem.W.fnOf "_law_style" "_law_style" (defArgs s_law_style) (defBody s_law_style) (defScope s_law_style) .none kV_law_style dc_law_style pm_law_style an_law_style cd_law_style ct_law_style), sl_law_style⟩) (c_law_style : PySem.W.codeIn K cd_law_style "_law_style" = true) (k_law_style : PySem.W.keepIn K (.ref f_law_style) = true)
    {f_law_piece : Addr} {od_law_piece an_law_piece : Option Addr} {sl_law_piece : Array (Option Value)} {oc_law_piece kV_law_piece dc_law_piece pm_law_piece cd_law_piece ct_law_piece : Value}
    (a_law_piece : PySem.W.nsIn K mainGlobals "_law_piece" = some (some (.ref f_law_piece))) (l_law_piece : K.lookup f_law_piece = some ⟨oc_law_piece, od_law_piece, .func (PySem.W.fnOf "_law_piece" "_law_piece" (defArgs s_law_piece) (defBody s_law_piece) (defScope s_law_piece) .none kV_law_piece dc_law_piece pm_law_piece an_law_piece cd_law_piece ct_law_piece), sl_law_piece⟩) (c_law_piece : PySem.W.codeIn K cd_law_piece "_law_piece" = true) (k_law_piece : PySem.W.keepIn K (.ref f_law_piece) = true)
    {f_law_places : Addr} {od_law_places an_law_places : Option Addr} {sl_law_places : Array (Option Value)} {oc_law_places kV_law_places dc_law_places pm_law_places cd_law_places ct_law_places : Value}
    (a_law_places : PySem.W.nsIn K mainGlobals "_law_places" = some (some (.ref f_law_places))) (l_law_places : K.lookup f_law_places = some ⟨oc_law_places, od_law_places, .func (PySem.W.fnOf "_law_places" "_law_places" (defArgs s_law_places) (defBody s_law_places) (defScope s_law_places) .none kV_law_places dc_law_places pm_law_places an_law_places cd_law_places ct_law_places), sl_law_places⟩) (c_law_places : PySem.W.codeIn K cd_law_places "_law_places" = true) (k_law_places : PySem.W.keepIn K (.ref f_law_places) = true)
    {f_law_shape : Addr} {od_law_shape an_law_shape : Option Addr} {sl_law_shape : Array (Option Value)} {oc_law_shape kV_law_shape dc_law_shape pm_law_shape cd_law_shape ct_law_shape : Value}
    (a_law_shape : PySem.W.nsIn K mainGlobals "_law_shape" = some (some (.ref f_law_shape))) (l_law_shape : K.lookup f_law_shape = some ⟨oc_law_shape, od_law_shape, .func (PySem.W.fnOf "_law_shape" "_law_shape" (defArgs s_law_shape) (defBody s_law_shape) (defScope s_law_shape) .none kV_law_shape dc_law_shape pm_law_shape an_law_shape cd_law_shape ct_law_shape), sl_law_shape⟩) (c_law_shape : PySem.W.codeIn K cd_law_shape "_law_shape" = true) (k_law_shape : PySem.W.keepIn K (.ref f_law_shape) = true)
    {f_law_slot : Addr} {od_law_slot an_law_slot : Option Addr} {sl_law_slot : Array (Option Value)} {oc_law_slot kV_law_slot dc_law_slot pm_law_slot cd_law_slot ct_law_slot : Value}
    (a_law_slot : PySem.W.nsIn K mainGlobals "_law_slot" = some (some (.ref f_law_slot))) (l_law_slot : K.lookup f_law_slot = some ⟨oc_law_slot, od_law_slot, .func (PySem.W.fnOf "_law_slot" "_law_slot" (defArgs s_law_slot) (defBody s_law_slot) (defScope s_law_slot) .none kV_law_slot dc_law_slot pm_law_slot an_law_slot cd_law_slot ct_law_slot), sl_law_slot⟩) (c_law_slot : PySem.W.codeIn K cd_law_slot "_law_slot" = true) (k_law_slot : PySem.W.keepIn K (.ref f_law_slot) = true)
    {f_law_joint : Addr} {od_law_joint an_law_joint : Option Addr} {sl_law_joint : Array (Option Value)} {oc_law_joint kV_law_joint dc_law_joint pm_law_joint cd_law_joint ct_law_joint : Value}
    (a_law_joint : PySem.W.nsIn K mainGlobals "_law_joint" = some (some (.ref f_law_joint))) (l_law_joint : K.lookup f_law_joint = some ⟨oc_law_joint, od_law_joint, .func (PySem.W.fnOf "_law_joint" "_law_joint" (defArgs s_law_joint) (defBody s_law_joint) (defScope s_law_joint) .none kV_law_joint dc_law_joint pm_law_joint an_law_joint cd_law_joint ct_law_joint), sl_law_joint⟩) (c_law_joint : PySem.W.codeIn K cd_law_joint "_law_joint" = true) (k_law_joint : PySem.W.keepIn K (.ref f_law_joint) = true)
    {f_law_exact : Addr} {od_law_exact an_law_exact : Option Addr} {sl_law_exact : Array (Option Value)} {oc_law_exact kV_law_exact dc_law_exact pm_law_exact cd_law_exact ct_law_exact : Value}
    (a_law_exact : PySem.W.nsIn K mainGlobals "_law_exact" = some (some (.ref f_law_exact))) (l_law_exact : K.lookup f_law_exact = some ⟨oc_law_exact, od_law_exact, .func (PySem.W.fnOf "_law_exact" "_law_exact" (defArgs s_law_exact) (defBody s_law_exact) (defScope s_law_exact) .none kV_law_exact dc_law_exact pm_law_exact an_law_exact cd_law_exact ct_law_exact), sl_law_exact⟩) (c_law_exact : PySem.W.codeIn K cd_law_exact "_law_exact" = true) (k_law_exact : PySem.W.keepIn K (.ref f_law_exact) = true)
    {f_law_secret_of : Addr} {od_law_secret_of an_law_secret_of : Option Addr} {sl_law_secret_of : Array (Option Value)} {oc_law_secret_of kV_law_secret_of dc_law_secret_of pm_law_secret_of cd_law_secret_of ct_law_secret_of : Value}
    (a_law_secret_of : PySem.W.nsIn K mainGlobals "_law_secret_of" = some (some (.ref f_law_secret_of))) (l_law_secret_of : K.lookup f_law_secret_of = some ⟨oc_law_secret_of, od_law_secret_of, .func (PySem.W.fnOf "_law_secret_of" "_law_secret_of" (defArgs s_law_secret_of) (defBody s_law_secret_of) (defScope s_law_secret_of) .none kV_law_secret_of dc_law_secret_of pm_law_secret_of an_law_secret_of cd_law_secret_of ct_law_secret_of), sl_law_secret_of⟩) (c_law_secret_of : PySem.W.codeIn K cd_law_secret_of "_law_secret_of" = true) (k_law_secret_of : PySem.W.keepIn K (.ref f_law_secret_of) = true)
    {f_law_pairs : Addr} {od_law_pairs an_law_pairs : Option Addr} {sl_law_pairs : Array (Option Value)} {oc_law_pairs kV_law_pairs dc_law_pairs pm_law_pairs cd_law_pairs ct_law_pairs : Value}
    (a_law_pairs : PySem.W.nsIn K mainGlobals "_law_pairs" = some (some (.ref f_law_pairs))) (l_law_pairs : K.lookup f_law_pairs = some ⟨oc_law_pairs, od_law_pairs, .func (PySem.W.fnOf "_law_pairs" "_law_pairs" (defArgs s_law_pairs) (defBody s_law_pairs) (defScope s_law_pairs) .none kV_law_pairs dc_law_pairs pm_law_pairs an_law_pairs cd_law_pairs ct_law_pairs), sl_law_pairs⟩) (c_law_pairs : PySem.W.codeIn K cd_law_pairs "_law_pairs" = true) (k_law_pairs : PySem.W.keepIn K (.ref f_law_pairs) = true)
    {f_law_fit_style : Addr} {od_law_fit_style an_law_fit_style : Option Addr} {sl_law_fit_style : Array (Option Value)} {oc_law_fit_style kV_law_fit_style dc_law_fit_style pm_law_fit_style cd_law_fit_style ct_law_fit_style : Value}
    (a_law_fit_style : PySem.W.nsIn K mainGlobals "_law_fit_style" = some (some (.ref f_law_fit_style))) (l_law_fit_style : K.lookup f_law_fit_style = some ⟨oc_law_fit_style, od_law_fit_style, .func (PySem.W.fnOf "_law_fit_style" "_law_fit_style" (defArgs s_law_fit_style) (defBody s_law_fit_style) (defScope s_law_fit_style) .none kV_law_fit_style dc_law_fit_style pm_law_fit_style an_law_fit_style cd_law_fit_style ct_law_fit_style), sl_law_fit_style⟩) (c_law_fit_style : PySem.W.codeIn K cd_law_fit_style "_law_fit_style" = true) (k_law_fit_style : PySem.W.keepIn K (.ref f_law_fit_style) = true)
    {f_law_world : Addr} {od_law_world an_law_world : Option Addr} {sl_law_world : Array (Option Value)} {oc_law_world kV_law_world dc_law_world pm_law_world cd_law_world ct_law_world : Value}
    (a_law_world : PySem.W.nsIn K mainGlobals "_law_world" = some (some (.ref f_law_world))) (l_law_world : K.lookup f_law_world = some ⟨oc_law_world, od_law_world, .func (PySem.W.fnOf "_law_world" "_law_world" (defArgs s_law_world) (defBody s_law_world) (defScope s_law_world) .none kV_law_world dc_law_world pm_law_world an_law_world cd_law_world ct_law_world), sl_law_world⟩) (c_law_world : PySem.W.codeIn K cd_law_world "_law_world" = true) (k_law_world : PySem.W.keepIn K (.ref f_law_world) = true)
    {f_law : Addr} {od_law an_law : Option Addr} {sl_law : Array (Option Value)} {oc_law kV_law dc_law pm_law cd_law ct_law : Value}
    (a_law : PySem.W.nsIn K mainGlobals "law" = some (some (.ref f_law))) (l_law : K.lookup f_law = some ⟨oc_law, od_law, .func (PySem.W.fnOf "law" "law" (defArgs s_law) (defBody s_law) (defScope s_law) .none kV_law dc_law pm_law an_law cd_law ct_law), sl_law⟩) (c_law : PySem.W.codeIn K cd_law "law" = true) (k_law : PySem.W.keepIn K (.ref f_law) = true)
    (n_bool : PySem.W.nsIn K mainGlobals "bool" = some none)
    (n_int : PySem.W.nsIn K mainGlobals "int" = some none)
    (n_isinstance : PySem.W.nsIn K mainGlobals "isinstance" = some none)
    (n_len : PySem.W.nsIn K mainGlobals "len" = some none)
    (n_list : PySem.W.nsIn K mainGlobals "list" = some none)
    (n_range : PySem.W.nsIn K mainGlobals "range" = some none)
    (n_sorted : PySem.W.nsIn K mainGlobals "sorted" = some none)
    (n_str : PySem.W.nsIn K mainGlobals "str" = some none)
    (n_sum : PySem.W.nsIn K mainGlobals "sum" = some none)
    (n_tuple : PySem.W.nsIn K mainGlobals "tuple" = some none)
    : ∃ fd : FuncData, (∀ (s : Shared) (v : Value), BindsTo s fd ⟨[v], []⟩ [("_law_script", v)]) ∧ ∀ base : Heap, K.In base → base.Ns mainGlobals mg → FnOk l.prog w K mg base CX0 8 fa fd ["_law_script"] (spLaw K) := by
  have e := hfa.symm.trans (PySem.W.mg_of X G a_law)
  cases e
  have F_width_of := fun_mk (st := s_width_of) l_width_of c_width_of k_width_of
  have b_width_of := F_width_of.binds (ps := ["style", "sign"]) fun _ _ _ _ _ _ us hl => match us, hl with | [_, _], _ => rfl
  have F_cut_of := fun_mk (st := s_cut_of) l_cut_of c_cut_of k_cut_of
  have b_cut_of := F_cut_of.binds (ps := ["style", "sign", "next_sign"]) fun _ _ _ _ _ _ us hl => match us, hl with | [_, _, _], _ => rfl
  have F_break_price := fun_mk (st := s_break_price) l_break_price c_break_price k_break_price
  have b_break_price := F_break_price.binds (ps := ["style", "sign", "next_sign"]) fun _ _ _ _ _ _ us hl => match us, hl with | [_, _, _], _ => rfl
  have F_told := fun_mk (st := s_told) l_told c_told k_told
  have b_told := F_told.binds (ps := ["rows", "key", "otherwise"]) fun _ _ _ _ _ _ us hl => match us, hl with | [_, _, _], _ => rfl
  have F_shape_of := fun_mk (st := s_shape_of) l_shape_of c_shape_of k_shape_of
  have b_shape_of := F_shape_of.binds (ps := ["style", "word"]) fun _ _ _ _ _ _ us hl => match us, hl with | [_, _], _ => rfl
  have F_parting_places := fun_mk (st := s_parting_places) l_parting_places c_parting_places k_parting_places
  have b_parting_places := F_parting_places.binds (ps := ["style", "word"]) fun _ _ _ _ _ _ us hl => match us, hl with | [_, _], _ => rfl
  have F_piece_width := fun_mk (st := s_piece_width) l_piece_width c_piece_width k_piece_width
  have b_piece_width := F_piece_width.binds (ps := ["style", "word", "first", "behind"]) fun _ _ _ _ _ _ us hl => match us, hl with | [_, _, _, _], _ => rfl
  have F_width_at := fun_mk (st := s_width_at) l_width_at c_width_at k_width_at
  have b_width_at := F_width_at.binds (ps := ["style", "word", "at", "behind"]) fun _ _ _ _ _ _ us hl => match us, hl with | [_, _, _, _], _ => rfl
  have F_joint_shape := fun_mk (st := s_joint_shape) l_joint_shape c_joint_shape k_joint_shape
  have b_joint_shape := F_joint_shape.binds (ps := ["styles", "secret", "stem"]) fun _ _ _ _ _ _ us hl => match us, hl with | [_, _, _], _ => rfl
  have F_law_begin := fun_mk (st := s_law_begin) l_law_begin c_law_begin k_law_begin
  have b_law_begin := F_law_begin.binds (ps := ["_law_script"]) fun _ _ _ _ _ _ us hl => match us, hl with | [_], _ => rfl
  have F_law_draw := fun_mk (st := s_law_draw) l_law_draw c_law_draw k_law_draw
  have b_law_draw := F_law_draw.binds (ps := ["_law_d", "_law_many"]) fun _ _ _ _ _ _ us hl => match us, hl with | [_, _], _ => rfl
  have F_law_pick := fun_mk (st := s_law_pick) l_law_pick c_law_pick k_law_pick
  have b_law_pick := F_law_pick.binds (ps := ["_law_d", "_law_row"]) fun _ _ _ _ _ _ us hl => match us, hl with | [_, _], _ => rfl
  have F_law_shuffled := fun_mk (st := s_law_shuffled) l_law_shuffled c_law_shuffled k_law_shuffled
  have b_law_shuffled := F_law_shuffled.binds (ps := ["_law_d", "_law_row"]) fun _ _ _ _ _ _ us hl => match us, hl with | [_, _], _ => rfl
  have F_law_names := fun_mk (st := s_law_names) l_law_names c_law_names k_law_names
  have b_law_names := F_law_names.binds (ps := ["_law_d", "_law_many"]) fun _ _ _ _ _ _ us hl => match us, hl with | [_, _], _ => rfl
  have F_law_word := fun_mk (st := s_law_word) l_law_word c_law_word k_law_word
  have b_law_word := F_law_word.binds (ps := ["_law_d", "_law_low", "_law_high"]) fun _ _ _ _ _ _ us hl => match us, hl with | [_, _, _], _ => rfl
  have F_law_style := fun_mk (st := s_law_style) l_law_style c_law_style k_law_style
  have b_law_style := F_law_style.binds (ps := ["_law_d", "_law_measure", "_law_depth", "_law_columns"]) fun _ _ _ _ _ _ us hl => match us, hl with | [_, _, _, _], _ => rfl
  have F_law_piece := fun_mk (st := s_law_piece) l_law_piece c_law_piece k_law_piece
  have b_law_piece := F_law_piece.binds (ps := ["_law_style_here", "_law_word_here", "_law_first", "_law_behind"]) fun _ _ _ _ _ _ us hl => match us, hl with | [_, _, _, _], _ => rfl
  have F_law_places := fun_mk (st := s_law_places) l_law_places c_law_places k_law_places
  have b_law_places := F_law_places.binds (ps := ["_law_style_here", "_law_word_here"]) fun _ _ _ _ _ _ us hl => match us, hl with | [_, _], _ => rfl
  have F_law_shape := fun_mk (st := s_law_shape) l_law_shape c_law_shape k_law_shape
  have b_law_shape := F_law_shape.binds (ps := ["_law_style_here", "_law_word_here"]) fun _ _ _ _ _ _ us hl => match us, hl with | [_, _], _ => rfl
  have F_law_slot := fun_mk (st := s_law_slot) l_law_slot c_law_slot k_law_slot
  have b_law_slot := F_law_slot.binds (ps := ["_law_d"]) fun _ _ _ _ _ _ us hl => match us, hl with | [_], _ => rfl
  have F_law_joint := fun_mk (st := s_law_joint) l_law_joint c_law_joint k_law_joint
  have b_law_joint := F_law_joint.binds (ps := ["_law_styles", "_law_secret", "_law_stem"]) fun _ _ _ _ _ _ us hl => match us, hl with | [_, _, _], _ => rfl
  have F_law_exact := fun_mk (st := s_law_exact) l_law_exact c_law_exact k_law_exact
  have b_law_exact := F_law_exact.binds (ps := ["_law_told", "_law_due"]) fun _ _ _ _ _ _ us hl => match us, hl with | [_, _], _ => rfl
  have F_law_secret_of := fun_mk (st := s_law_secret_of) l_law_secret_of c_law_secret_of k_law_secret_of
  have b_law_secret_of := F_law_secret_of.binds (ps := ["_law_d"]) fun _ _ _ _ _ _ us hl => match us, hl with | [_], _ => rfl
  have F_law_pairs := fun_mk (st := s_law_pairs) l_law_pairs c_law_pairs k_law_pairs
  have b_law_pairs := F_law_pairs.binds (ps := ["_law_words"]) fun _ _ _ _ _ _ us hl => match us, hl with | [_], _ => rfl
  have F_law_fit_style := fun_mk (st := s_law_fit_style) l_law_fit_style c_law_fit_style k_law_fit_style
  have b_law_fit_style := F_law_fit_style.binds (ps := ["_law_d", "_law_words"]) fun _ _ _ _ _ _ us hl => match us, hl with | [_, _], _ => rfl
  have F_law_world := fun_mk (st := s_law_world) l_law_world c_law_world k_law_world
  have b_law_world := F_law_world.binds (ps := ["_law_d"]) fun _ _ _ _ _ _ us hl => match us, hl with | [_], _ => rfl
  have F_law := fun_mk (st := s_law) l_law c_law k_law
  have b_law := F_law.binds (ps := ["_law_script"]) fun _ _ _ _ _ _ us hl => match us, hl with | [_], _ => rfl
  exact ⟨PySem.W.fnOf "law" "law" (defArgs s_law) (defBody s_law) (defScope s_law) .none kV_law dc_law pm_law an_law cd_law ct_law, fun s v => .of_eq rfl, fun base _ _ => ok_law (T := {
    a_width_of := _,
    d_width_of := _,
    D_width_of := ⟨F_width_of, PySem.W.mg_of X G a_width_of, b_width_of, ⟨_, _, _, _, _, _, rfl⟩⟩,
    a_cut_of := _,
    d_cut_of := _,
    D_cut_of := ⟨F_cut_of, PySem.W.mg_of X G a_cut_of, b_cut_of, ⟨_, _, _, _, _, _, rfl⟩⟩,
    a_break_price := _,
    d_break_price := _,
    D_break_price := ⟨F_break_price, PySem.W.mg_of X G a_break_price, b_break_price, ⟨_, _, _, _, _, _, rfl⟩⟩,
    a_told := _,
    d_told := _,
    D_told := ⟨F_told, PySem.W.mg_of X G a_told, b_told, ⟨_, _, _, _, _, _, rfl⟩⟩,
    a_shape_of := _,
    d_shape_of := _,
    D_shape_of := ⟨F_shape_of, PySem.W.mg_of X G a_shape_of, b_shape_of, ⟨_, _, _, _, _, _, rfl⟩⟩,
    a_parting_places := _,
    d_parting_places := _,
    D_parting_places := ⟨F_parting_places, PySem.W.mg_of X G a_parting_places, b_parting_places, ⟨_, _, _, _, _, _, rfl⟩⟩,
    a_piece_width := _,
    d_piece_width := _,
    D_piece_width := ⟨F_piece_width, PySem.W.mg_of X G a_piece_width, b_piece_width, ⟨_, _, _, _, _, _, rfl⟩⟩,
    a_width_at := _,
    d_width_at := _,
    D_width_at := ⟨F_width_at, PySem.W.mg_of X G a_width_at, b_width_at, ⟨_, _, _, _, _, _, rfl⟩⟩,
    a_joint_shape := _,
    d_joint_shape := _,
    D_joint_shape := ⟨F_joint_shape, PySem.W.mg_of X G a_joint_shape, b_joint_shape, ⟨_, _, _, _, _, _, rfl⟩⟩,
    a_law_begin := _,
    d_law_begin := _,
    D_law_begin := ⟨F_law_begin, PySem.W.mg_of X G a_law_begin, b_law_begin, ⟨_, _, _, _, _, _, rfl⟩⟩,
    a_law_draw := _,
    d_law_draw := _,
    D_law_draw := ⟨F_law_draw, PySem.W.mg_of X G a_law_draw, b_law_draw, ⟨_, _, _, _, _, _, rfl⟩⟩,
    a_law_pick := _,
    d_law_pick := _,
    D_law_pick := ⟨F_law_pick, PySem.W.mg_of X G a_law_pick, b_law_pick, ⟨_, _, _, _, _, _, rfl⟩⟩,
    a_law_shuffled := _,
    d_law_shuffled := _,
    D_law_shuffled := ⟨F_law_shuffled, PySem.W.mg_of X G a_law_shuffled, b_law_shuffled, ⟨_, _, _, _, _, _, rfl⟩⟩,
    a_law_names := _,
    d_law_names := _,
    D_law_names := ⟨F_law_names, PySem.W.mg_of X G a_law_names, b_law_names, ⟨_, _, _, _, _, _, rfl⟩⟩,
    a_law_word := _,
    d_law_word := _,
    D_law_word := ⟨F_law_word, PySem.W.mg_of X G a_law_word, b_law_word, ⟨_, _, _, _, _, _, rfl⟩⟩,
    a_law_style := _,
    d_law_style := _,
    D_law_style := ⟨F_law_style, PySem.W.mg_of X G a_law_style, b_law_style, ⟨_, _, _, _, _, _, rfl⟩⟩,
    a_law_piece := _,
    d_law_piece := _,
    D_law_piece := ⟨F_law_piece, PySem.W.mg_of X G a_law_piece, b_law_piece, ⟨_, _, _, _, _, _, rfl⟩⟩,
    a_law_places := _,
    d_law_places := _,
    D_law_places := ⟨F_law_places, PySem.W.mg_of X G a_law_places, b_law_places, ⟨_, _, _, _, _, _, rfl⟩⟩,
    a_law_shape := _,
    d_law_shape := _,
    D_law_shape := ⟨F_law_shape, PySem.W.mg_of X G a_law_shape, b_law_shape, ⟨_, _, _, _, _, _, rfl⟩⟩,
    a_law_slot := _,
    d_law_slot := _,
    D_law_slot := ⟨F_law_slot, PySem.W.mg_of X G a_law_slot, b_law_slot, ⟨_, _, _, _, _, _, rfl⟩⟩,
    a_law_joint := _,
    d_law_joint := _,
    D_law_joint := ⟨F_law_joint, PySem.W.mg_of X G a_law_joint, b_law_joint, ⟨_, _, _, _, _, _, rfl⟩⟩,
    a_law_exact := _,
    d_law_exact := _,
    D_law_exact := ⟨F_law_exact, PySem.W.mg_of X G a_law_exact, b_law_exact, ⟨_, _, _, _, _, _, rfl⟩⟩,
    a_law_secret_of := _,
    d_law_secret_of := _,
    D_law_secret_of := ⟨F_law_secret_of, PySem.W.mg_of X G a_law_secret_of, b_law_secret_of, ⟨_, _, _, _, _, _, rfl⟩⟩,
    a_law_pairs := _,
    d_law_pairs := _,
    D_law_pairs := ⟨F_law_pairs, PySem.W.mg_of X G a_law_pairs, b_law_pairs, ⟨_, _, _, _, _, _, rfl⟩⟩,
    a_law_fit_style := _,
    d_law_fit_style := _,
    D_law_fit_style := ⟨F_law_fit_style, PySem.W.mg_of X G a_law_fit_style, b_law_fit_style, ⟨_, _, _, _, _, _, rfl⟩⟩,
    a_law_world := _,
    d_law_world := _,
    D_law_world := ⟨F_law_world, PySem.W.mg_of X G a_law_world, b_law_world, ⟨_, _, _, _, _, _, rfl⟩⟩,
    a_law := _,
    d_law := _,
    D_law := ⟨F_law, PySem.W.mg_of X G a_law, b_law, ⟨_, _, _, _, _, _, rfl⟩⟩,
    n_bool := PySem.W.mg_none_of X G n_bool,
    n_int := PySem.W.mg_none_of X G n_int,
    n_isinstance := PySem.W.mg_none_of X G n_isinstance,
    n_len := PySem.W.mg_none_of X G n_len,
    n_list := PySem.W.mg_none_of X G n_list,
    n_range := PySem.W.mg_none_of X G n_range,
    n_sorted := PySem.W.mg_none_of X G n_sorted,
    n_str := PySem.W.mg_none_of X G n_str,
    n_sum := PySem.W.mg_none_of X G n_sum,
    n_tuple := PySem.W.mg_none_of X G n_tuple })⟩
end Vf
open PySem PySem.W PyProof.Rows
set_option maxHeartbeats 0 in
theorem PySem.Challenge.cw_hushedpages_k29_joint_shapes_holds : PySem.Challenge.rw_hushedpages_k29_joint_shapes.Holds := by
  w_on; o_law; k_head; (case hw => w_witness2)
  k_fill
  refine L2.walk_of (l := PySem.Challenge.rw_hushedpages_k29_joint_shapes) (n := 63) (k := 8) (x := "_law_script") (CX := fun _ => L2.CX0) (sp := fun w => Vf.spLaw _) rfl (by decide) rfl ⟨rfl, by decide, by decide⟩ (fun w h Y => PySem.W.kIn_of Y) ?F (fun _ _ a ns hl _ hS => ⟨a, ns, rfl, hS, hl, fun _ => rfl⟩) (fun _ _ _ _ _ h => h)
  case F =>
    intro w mg fa h KX G hmg
    refine' Vf.all_mk KX G hmg ?a_width_of ?l_width_of ?c_width_of ?k_width_of ?a_cut_of ?l_cut_of ?c_cut_of ?k_cut_of ?a_break_price ?l_break_price ?c_break_price ?k_break_price ?a_told ?l_told ?c_told ?k_told ?a_shape_of ?l_shape_of ?c_shape_of ?k_shape_of ?a_parting_places ?l_parting_places ?c_parting_places ?k_parting_places ?a_piece_width ?l_piece_width ?c_piece_width ?k_piece_width ?a_width_at ?l_width_at ?c_width_at ?k_width_at ?a_joint_shape ?l_joint_shape ?c_joint_shape ?k_joint_shape ?a_law_begin ?l_law_begin ?c_law_begin ?k_law_begin ?a_law_draw ?l_law_draw ?c_law_draw ?k_law_draw ?a_law_pick ?l_law_pick ?c_law_pick ?k_law_pick ?a_law_shuffled ?l_law_shuffled ?c_law_shuffled ?k_law_shuffled ?a_law_names ?l_law_names ?c_law_names ?k_law_names ?a_law_word ?l_law_word ?c_law_word ?k_law_word ?a_law_style ?l_law_style ?c_law_style ?k_law_style ?a_law_piece ?l_law_piece ?c_law_piece ?k_law_piece ?a_law_places ?l_law_places ?c_law_places ?k_law_places ?a_law_shape ?l_law_shape ?c_law_shape ?k_law_shape ?a_law_slot ?l_law_slot ?c_law_slot ?k_law_slot ?a_law_joint ?l_law_joint ?c_law_joint ?k_law_joint ?a_law_exact ?l_law_exact ?c_law_exact ?k_law_exact ?a_law_secret_of ?l_law_secret_of ?c_law_secret_of ?k_law_secret_of ?a_law_pairs ?l_law_pairs ?c_law_pairs ?k_law_pairs ?a_law_fit_style ?l_law_fit_style ?c_law_fit_style ?k_law_fit_style ?a_law_world ?l_law_world ?c_law_world ?k_law_world ?a_law ?l_law ?c_law ?k_law ?n_bool ?n_int ?n_isinstance ?n_len ?n_list ?n_range ?n_sorted ?n_str ?n_sum ?n_tuple
    (case a_width_of => k_is)
    (case l_width_of => k_is)
    (case c_width_of => k_is)
    (case k_width_of => k_is)
    (case a_cut_of => k_is)
    (case l_cut_of => k_is)
    (case c_cut_of => k_is)
    (case k_cut_of => k_is)
    (case a_break_price => k_is)
    (case l_break_price => k_is)
    (case c_break_price => k_is)
    (case k_break_price => k_is)
    (case a_told => k_is)
    (case l_told => k_is)
    (case c_told => k_is)
    (case k_told => k_is)
    (case a_shape_of => k_is)
    (case l_shape_of => k_is)
    (case c_shape_of => k_is)
    (case k_shape_of => k_is)
    (case a_parting_places => k_is)
    (case l_parting_places => k_is)
    (case c_parting_places => k_is)
    (case k_parting_places => k_is)
    (case a_piece_width => k_is)
    (case l_piece_width => k_is)
    (case c_piece_width => k_is)
    (case k_piece_width => k_is)
    (case a_width_at => k_is)
    (case l_width_at => k_is)
    (case c_width_at => k_is)
    (case k_width_at => k_is)
    (case a_joint_shape => k_is)
    (case l_joint_shape => k_is)
    (case c_joint_shape => k_is)
    (case k_joint_shape => k_is)
    (case a_law_begin => k_is)
    (case l_law_begin => k_is)
    (case c_law_begin => k_is)
    (case k_law_begin => k_is)
    (case a_law_draw => k_is)
    (case l_law_draw => k_is)
    (case c_law_draw => k_is)
    (case k_law_draw => k_is)
    (case a_law_pick => k_is)
    (case l_law_pick => k_is)
    (case c_law_pick => k_is)
    (case k_law_pick => k_is)
    (case a_law_shuffled => k_is)
    (case l_law_shuffled => k_is)
    (case c_law_shuffled => k_is)
    (case k_law_shuffled => k_is)
    (case a_law_names => k_is)
    (case l_law_names => k_is)
    (case c_law_names => k_is)
    (case k_law_names => k_is)
    (case a_law_word => k_is)
    (case l_law_word => k_is)
    (case c_law_word => k_is)
    (case k_law_word => k_is)
    (case a_law_style => k_is)
    (case l_law_style => k_is)
    (case c_law_style => k_is)
    (case k_law_style => k_is)
    (case a_law_piece => k_is)
    (case l_law_piece => k_is)
    (case c_law_piece => k_is)
    (case k_law_piece => k_is)
    (case a_law_places => k_is)
    (case l_law_places => k_is)
    (case c_law_places => k_is)
    (case k_law_places => k_is)
    (case a_law_shape => k_is)
    (case l_law_shape => k_is)
    (case c_law_shape => k_is)
    (case k_law_shape => k_is)
    (case a_law_slot => k_is)
    (case l_law_slot => k_is)
    (case c_law_slot => k_is)
    (case k_law_slot => k_is)
    (case a_law_joint => k_is)
    (case l_law_joint => k_is)
    (case c_law_joint => k_is)
    (case k_law_joint => k_is)
    (case a_law_exact => k_is)
    (case l_law_exact => k_is)
    (case c_law_exact => k_is)
    (case k_law_exact => k_is)
    (case a_law_secret_of => k_is)
    (case l_law_secret_of => k_is)
    (case c_law_secret_of => k_is)
    (case k_law_secret_of => k_is)
    (case a_law_pairs => k_is)
    (case l_law_pairs => k_is)
    (case c_law_pairs => k_is)
    (case k_law_pairs => k_is)
    (case a_law_fit_style => k_is)
    (case l_law_fit_style => k_is)
    (case c_law_fit_style => k_is)
    (case k_law_fit_style => k_is)
    (case a_law_world => k_is)
    (case l_law_world => k_is)
    (case c_law_world => k_is)
    (case k_law_world => k_is)
    (case a_law => k_is)
    (case l_law => k_is)
    (case c_law => k_is)
    (case k_law => k_is)
    (case n_bool => k_is)
    (case n_int => k_is)
    (case n_isinstance => k_is)
    (case n_len => k_is)
    (case n_list => k_is)
    (case n_range => k_is)
    (case n_sorted => k_is)
    (case n_str => k_is)
    (case n_sum => k_is)
    (case n_tuple => k_is)
