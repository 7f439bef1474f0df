import PyProof.Rows.All
import Wide.All
import OpenK.AllK
import Wide.FinOn
import HandS.ForMost
import HandS.Walk
import KE.GoesMore
import HandS.IsInst
import HandS.Conv
import HandS.Evl
import PyProof.StrBlock2
import HandS.ExcInit
import HandS.ExcIs
import HandS.ExcField
import HandS.Wide
import HandS.Style
import HandS.Replace
import HandS.Rev
import PySem.Challenge.RW_hushedpages_k28_stems_numbered
set_option Elab.async false
set_option linter.all false
set_option maxRecDepth 100000
set_option maxHeartbeats 4000000
namespace Vf
open PySem PySem.Spec PyProof.Rows L2
/-! ### zip of two walks, each over a list, a tuple or a text -/
inductive Zs where
  | L (a : Addr)
  | T (a : Addr)
  | S (x : Str)
def Zs.v : Zs → V
  | .L a => .ref a
  | .T a => .ref a
  | .S x => .str x
def Zs.has (K : PySem.W.Frag) (H : Hp) (xs : List V) : Zs → Prop
  | .L a => SqL K H a xs
  | .T a => SqT K H a xs
  | .S x => xs = x.cps.toList.map fun c => V.str ⟨#[c]⟩
def Zs.it (h : Heap) (i : Addr) (k : Nat) : Zs → Prop
  | .L a => h.IsListIter i a k
  | .T a => h.IsTupleIter i a k
  | .S x => ∃ t, h.IsStrIter i (strIterType x) x t k
def Zs.off (c : Addr) : Zs → Prop
  | .L a => a ≠ c
  | .T a => a ≠ c
  | .S _ => True
def Zs.fp (i : Addr) : Zs → List Addr
  | .L a => [i, a]
  | .T a => [i, a]
  | .S _ => [i]
theorem Zs.mem_fp {p : Zs} {i c : Addr} (h1 : c ≠ i) (h2 : p.off c) : c ∉ p.fp i := by
  cases p with
  | L a => simp only [Zs.fp, List.mem_cons, List.not_mem_nil, or_false, not_or]; exact ⟨h1, fun e => h2 e.symm⟩
  | T a => simp only [Zs.fp, List.mem_cons, List.not_mem_nil, or_false, not_or]; exact ⟨h1, fun e => h2 e.symm⟩
  | S x => simp only [Zs.fp, List.mem_cons, List.not_mem_nil, or_false]; exact h1
theorem Zs.at {p : Zs} {h h' : Heap} {i : Addr} {k : Nat} (st : p.it h i k) (e : ∀ o, h.get? i = some o → h'.get? i = some o) : p.it h' i k := by
  cases p with
  | L a => exact Heap.IsListIter.at st e
  | T a => exact Heap.IsTupleIter.at st e
  | S x => obtain ⟨t, o, ho, r⟩ := st; exact ⟨t, o, e _ ho, r⟩
theorem Zs.obj {p : Zs} {h : Heap} {i : Addr} {k : Nat} (st : p.it h i k) : ∃ o, h.get? i = some o ∧ ∀ v, o.data ≠ .cell v := by
  cases p with
  | L a => obtain ⟨o, e, _, d⟩ := st; exact ⟨o, e, fun v q => by rw [d] at q; cases q⟩
  | T a => obtain ⟨o, e, _, d⟩ := st; exact ⟨o, e, fun v q => by rw [d] at q; cases q⟩
  | S x => obtain ⟨t, o, e, _, d⟩ := st; exact ⟨o, e, fun v q => by rw [d] at q; cases q⟩
theorem Zs.one {K : PySem.W.Frag} {X : Cx} {pins : List (Addr × Obj)} {σ : L2.St} {H : Hp} {s : Shared} {p : Zs} {xs ys : List V} (hK : X.K = K) (I : Inv X pins σ H s) (h1 : p.has K H xs) (h2 : p.has K H ys) : xs = ys := by
  subst hK
  cases p with
  | L a => exact I.list_inj h1 h2
  | T a => exact I.tuple_inj h1 h2
  | S x => exact h1.trans h2.symm
/-- what such an iterator draws where the heap stands -/
theorem Zs.draws {X : Cx} {pins : List (Addr × Obj)} {σ : L2.St} {H : Hp} {s : Shared} {p : Zs} {xs : List V} {i : Addr} {k : Nat} (hc : X.calm = true) (I : Inv X pins σ H s) (h : p.has X.K H xs) (st : p.it s.heap i k) (ho : p.off i) :
    ∃ (n : Nat) (P : Nat → Value → Prop) (St : Nat → Heap → Prop), Draws X.prog X.w X.A.in1 i (p.fp i) n P St ∧ St k s.heap ∧ n = xs.length ∧ (∀ u v, P k u → xs[k]? = some v → RelV v u) ∧ ∀ j h', St j h' → p.it h' i j := by
  have hh : X.A.in1.handled = none := I.ok.hd hc
  cases p with
  | L a =>
    obtain ⟨its, rv, q, _⟩ := I.list h
    refine ⟨_, _, _, Draws.list hh i a ho its.toArray, ⟨st, q.isList⟩, by have := rv.length; simp; omega, fun u v hu hv => ?_, fun j h' q => q.1⟩
    obtain ⟨u', hu', r⟩ := rv.get hv
    have e : its[k]? = some u := by simpa using hu
    rw [hu'] at e
    cases e
    exact r
  | T a =>
    obtain ⟨its, rv, q, _⟩ := I.tuple h
    refine ⟨_, _, _, Draws.tuple hh i a ho its.toArray, ⟨st, q⟩, by have := rv.length; simp; omega, fun u v hu hv => ?_, fun j h' q => q.1⟩
    obtain ⟨u', hu', r⟩ := rv.get hv
    have e : its[k]? = some u := by simpa using hu
    rw [hu'] at e
    cases e
    exact r
  | S x =>
    obtain ⟨t, st⟩ := st
    have h : xs = x.cps.toList.map fun c => V.str ⟨#[c]⟩ := h
    subst h
    refine ⟨_, _, _, Draws.text hh i x t, st, by simp, fun u v hu hv => ?_, fun j h' q => ⟨t, q⟩⟩
    obtain ⟨c, tk, hc, rfl⟩ := hu
    rw [List.getElem?_map] at hv
    have hc2 : x.cps.toList[k]? = some c := by simpa using hc
    rw [hc2] at hv
    cases hv
    exact ⟨_, rfl⟩
/-- the cells lie apart -/
structure Zap (z TI TO i1 i2 : Addr) (p q : Zs) : Prop where
  TIz : TI ≠ z
  TOz : TO ≠ z
  TITO : TI ≠ TO
  TIi1 : TI ≠ i1
  TIi2 : TI ≠ i2
  zi1 : z ≠ i1
  zi2 : z ≠ i2
  Ti1 : TO ≠ i1
  Ti2 : TO ≠ i2
  i12 : i1 ≠ i2
  p1 : p.off i1
  p2 : p.off i2
  pz : p.off z
  pT : p.off TO
  q1 : q.off i1
  q2 : q.off i2
  qz : q.off z
  qT : q.off TO
theorem Zap.sep {z TI TO i1 i2 : Addr} {p q : Zs} (D : Zap z TI TO i1 i2 p q) : ZipSep2 z TI TO i1 i2 (p.fp i1) (q.fp i2) where
  TIz := D.TIz
  TOz := D.TOz
  TITO := D.TITO
  TIi1 := D.TIi1
  mem1 := by cases p <;> exact List.mem_cons_self
  zf1 := Zs.mem_fp D.zi1 D.pz
  Tf1 := Zs.mem_fp D.Ti1 D.pT
  TIi2 := D.TIi2
  mem2 := by cases q <;> exact List.mem_cons_self
  zf2 := Zs.mem_fp D.zi2 D.qz
  Tf2 := Zs.mem_fp D.Ti2 D.qT
  sep1_2 := Zs.mem_fp D.i12 D.q1
  sep2_1 := Zs.mem_fp D.i12.symm D.p2
/-- the items of both as they stand at each turn, in new pairs -/
def ItzM (K : PySem.W.Frag) (p q : Zs) : It :=
  ⟨fun i H => ∃ (xs ys : List V), p.has K H xs ∧ q.has K H ys ∧ i < xs.length ∧ i < ys.length,
    fun i H v H' => ∃ T x y, v = .ref T ∧ H T = none ∧ H' = upd H T (.tup [x, y]) ∧ (∀ xs, p.has K H xs → xs[i]? = some x) ∧ ∀ ys, q.has K H ys → ys[i]? = some y,
    fun i H => ∃ xs ys : List V, p.has K H xs ∧ q.has K H ys ∧ i ≤ xs.length ∧ i ≤ ys.length ∧ (i = xs.length ∨ i = ys.length)⟩
theorem turn_zipM {P : Program} {w : World} {K : PySem.W.Frag} {elts : List Expr} {kk : Nat} {tpos : Pos} {z TI TO i1 i2 : Addr} {p' q' : Zs} (D : Zap z TI TO i1 i2 p' q') :
    Turn P w K (.Tuple elts kk tpos) (ItzM K p' q') [z, TI, TO, i1, i2] z (fun i h => IsZip h z TI TO .none ∧ IsTupOf2 h TI (.ref i1) (.ref i2) ∧ (∃ x y, IsTupOf2 h TO x y) ∧ p'.it h i1 i ∧ q'.it h i2 i) where
  mem := by simp
  obj := fun i h st c hc => by
    obtain ⟨hz, hTI, ⟨x, y, hTO⟩, h1, h2⟩ := st
    have e' : c = z ∨ c = TI ∨ c = TO ∨ c = i1 ∨ c = i2 := by simpa using hc
    rcases e' with q | q | q | q | q
    · rw [q]; exact ⟨_, hz, fun v q => nomatch q⟩
    · rw [q]; exact ⟨_, hTI, fun v q => nomatch q⟩
    · rw [q]; exact ⟨_, hTO, fun v q => nomatch q⟩
    · rw [q]; exact Zs.obj (p := p') h1
    · rw [q]; exact Zs.obj (p := q') h2
  keep := fun i h h' st k => by
    obtain ⟨hz, hTI, ⟨x, y, hTO⟩, h1, h2⟩ := st
    exact ⟨k z (by simp) _ hz, k TI (by simp) _ hTI, ⟨x, y, k TO (by simp) _ hTO⟩, Zs.at (p := p') h1 fun o q => k i1 (by simp) o q, Zs.at (p := q') h2 fun o q => k i2 (by simp) o q⟩
  item := by
    intro X hP hw hK hc i pins s σ H E I hf st hg
    subst hP hw hK
    obtain ⟨hz, hTI, ⟨x0, y0, hTO⟩, h1, h2⟩ := st
    obtain ⟨xs, ys, hqx, hqy, hi1, hi2⟩ := hg
    obtain ⟨n1, P1, St1, D1, s1, e1, r1, w1⟩ := Zs.draws hc I hqx h1 D.p1
    obtain ⟨n2, P2, St2, D2, s2, e2, r2, w2⟩ := Zs.draws hc I hqy h2 D.q2
    have hx : xs[i]? = some xs[i] := List.getElem?_eq_getElem hi1
    have hy : ys[i]? = some ys[i] := List.getElem?_eq_getElem hi2
    have hzl : z < s.heap.objs.size := Heap.lt_size hz
    have l1 : i1 < s.heap.objs.size := by obtain ⟨_, e⟩ := D1.live _ _ s1; exact Heap.lt_size e
    have l2 : i2 < s.heap.objs.size := by obtain ⟨_, e⟩ := D2.live _ _ s2; exact Heap.lt_size e
    refine wpAny_pyNext_zipD2_item D.sep D1 D2 hz hTI hTO s1 s2 (by omega) (by omega) fun u u2 h' tk y1 y2 z' TO' h1' h2' hT hsz hk => ?_
    refine ⟨_, rfl, wpAny_letOwnedTupleGo_zip (s := { s with heap := h', toks := tk }) z' fun h'' z'' sb => ?_⟩
    have hT2 : h''.get? s.heap.objs.size = some { cls := .type "tuple", data := .seq #[u, u2] } := (sb.2 _ (Nat.ne_of_gt hzl)).trans hT
    have ru := r1 _ _ y1 hx
    have ru2 := r2 _ _ y2 hy
    have new : ObjOk X.prog X.w (upd H s.heap.objs.size (.tup [xs[i], ys[i]])) h'' s.heap.objs.size (.tup [xs[i], ys[i]]) :=
      ⟨by show 2 ≤ sizeLine; decide, [u, u2], .cons ru (.cons ru2 .nil), ⟨_, hT2, rfl, _, rfl⟩⟩
    have I1 : Inv X pins σ (upd H s.heap.objs.size (.tup [xs[i], ys[i]])) { s with heap := h'', toks := tk } :=
      I.turnedNew (t' := tk) (ch := [z, TI, TO, i1, i2]) (fun c o hb q => (sb.2 c (fun z => hb (by simp [z]))).trans (hk c o (fun z => hb (by simp [z])) (fun z => hb (by simp [z])) (fun z => hb (by simp [z])) (fun z => hb (by simp [z])) q)) hf (Nat.le_refl _) new
    refine ⟨.ref s.heap.objs.size, _, I1, rfl, ⟨_, xs[i], ys[i], rfl, I.hok.fresh (Nat.le_refl _), rfl, fun l hl => by rw [Zs.one rfl I hl hqx]; exact hx, fun l hl => by rw [Zs.one rfl I hl hqy]; exact hy⟩, ⟨z'', ?_, ⟨u, u2, ?_⟩, ?_, ?_⟩, fun c hcm => ?_⟩
    · exact (sb.2 _ D.TIz).trans (hk _ _ D.TIz D.TITO D.TIi1 D.TIi2 hTI)
    · exact (sb.2 _ D.TOz).trans TO'
    · exact Zs.at (w1 _ _ h1') fun o q => (sb.2 _ D.zi1.symm).trans q
    · exact Zs.at (w2 _ _ h2') fun o q => (sb.2 _ D.zi2.symm).trans q
    · have hlt : c < s.heap.objs.size := by
        have e' : c = z ∨ c = TI ∨ c = TO ∨ c = i1 ∨ c = i2 := by simpa using hcm
        rcases e' with q | q | q | q | q
        · rw [q]; exact hzl
        · rw [q]; exact Heap.lt_size hTI
        · rw [q]; exact Heap.lt_size hTO
        · rw [q]; exact l1
        · rw [q]; exact l2
      rw [upd_ne (Nat.ne_of_lt hlt)]
      exact (hf c hcm).1
  done := by
    intro X hP hw hK hc i pins s σ H E I hf st hg
    subst hP hw hK
    obtain ⟨hz, hTI, ⟨x0, y0, hTO⟩, h1, h2⟩ := st
    obtain ⟨xs, ys, hqx, hqy, hi1, hi2, hend⟩ := hg
    obtain ⟨n1, P1, St1, D1, s1, e1, r1, w1⟩ := Zs.draws hc I hqx h1 D.p1
    obtain ⟨n2, P2, St2, D2, s2, e2, r2, w2⟩ := Zs.draws hc I hqy h2 D.q2
    exact wpAny_pyNext_zipD2_end D.sep D1 D2 hz hTI hTO s1 s2 (by omega) (by omega) (by omega) fun h' tk hk => ⟨rfl, I.turnedL (t' := tk) (ch := [z, TI, TO, i1, i2]) (fun c o hb q =>
      hk c o (fun z => hb (by simp [z])) (fun z => hb (by simp [z])) (fun z => hb (by simp [z])) (fun z => hb (by simp [z])) q) hf⟩
  self := fun A i s Q E st h => wpAny_pyIter_zip st.1 h
/-- how such a walk begins -/
theorem Zs.begins {X : Cx} {pins : List (Addr × Obj)} {σ : L2.St} {H : Hp} {s : Shared} {p : Zs} {xs : List V} {u : Value} (I : Inv X pins σ H s) (h : p.has X.K H xs) (r : RelV p.v u) :
    ∃ (o : Obj) (B : Heap → Prop), Begins u o B ∧ B s.heap ∧ (∀ (h' : Heap) i, h'.get? i = some o → p.it h' i 0) ∧ ∀ c, s.heap.objs.size ≤ c → p.off c := by
  cases p with
  | L a =>
    cases r
    obtain ⟨its, rv, q, _⟩ := I.list h
    exact ⟨_, _, begins_list a its.toArray, q.isList, fun h' i e => ⟨_, e, rfl, rfl⟩, fun c hc e => by
      have l := q.lt
      have e : a = c := e
      rw [e] at l
      exact Nat.lt_irrefl _ (Nat.lt_of_lt_of_le l hc)⟩
  | T a =>
    cases r
    obtain ⟨its, rv, q, _⟩ := I.tuple h
    have l : a < s.heap.objs.size := by obtain ⟨_, e, _⟩ := id q; exact Heap.lt_size e
    exact ⟨_, _, begins_tuple a its.toArray, q, fun h' i e => ⟨_, e, rfl, rfl⟩, fun c hc e => by
      have e : a = c := e
      rw [e] at l
      exact Nat.lt_irrefl _ (Nat.lt_of_lt_of_le l hc)⟩
  | S x =>
    obtain ⟨t, rfl⟩ := r
    exact ⟨_, _, begins_text x t, trivial, fun h' i e => ⟨t, _, e, rfl, rfl⟩, fun c hc => trivial⟩
def iZipM (K : PySem.W.Frag) (ta : TA) : TI := fun σ H R => ta σ H fun vs H1 => ∃ (p q : Zs) (xs ys : List V), vs = [p.v, q.v] ∧ p.has K H1 xs ∧ q.has K H1 ys ∧ R (ItzM K p q) H1
theorem pi_zipM {X : Cx} {e e2 : Expr} {ta : TA} {p pos tpos : Pos} {elts : List Expr} {kk : Nat} (hg : Gl X "zip") (hm : X.mg "zip" = none) (ha : PA X [e, e2] ta)
    (hs : starEach [e, e2] X.env = (false, eval e X.env) :: starEach [e2] X.env := by rfl) (hpl : (backTo pos (starEach [e2] X.env)).any (·.1) = false := by rfl) :
    PI X (.Tuple elts kk tpos) (.Call (.Name "zip" p) [e, e2] [] pos) (iZipM X.K ta) := by
  refine ⟨fun pins s σ H R I h => ?_⟩
  refine Call_ (ld_blt I hg hm PyProof.Rows.boot_zip (PyProof.Rows.callWith_type1 (thn (ha.run pos pins s σ H _ I h) fun us s1 ⟨vs, H1, I1, r1, q1⟩ => ?_) hs hpl))
  obtain ⟨a, b, xs, ys, ex, hqx, hqy, q⟩ := q1
  subst ex
  cases r1 with
  | cons r rr =>
    cases rr with
    | cons r' rr =>
      cases rr
      obtain ⟨o1, B1, b1, g1, i1, f1⟩ := Zs.begins I1 hqx r
      obtain ⟨o2, B2, b2, g2, i2, f2⟩ := Zs.begins I1 hqy r'
      refine zip_begins2 b1 b2 g1 g2 fun h' hz hTI hTO h1 h2 hsz hk => wpAny_pyIter_zip hz ?_
      have I2 : Inv X pins σ H1 { s1 with heap := h' } := I1.kept (t' := s1.toks) hk
      refine ⟨s1.heap.objs.size + 4, [s1.heap.objs.size + 4, s1.heap.objs.size + 2, s1.heap.objs.size + 3, s1.heap.objs.size, s1.heap.objs.size + 1], _, _, H1, rfl, I2,
        turn_zipM (p' := a) (q' := b) ⟨(by intro e; have e2 : (_ : Nat) = _ := e; omega), (by intro e; have e2 : (_ : Nat) = _ := e; omega), (by intro e; have e2 : (_ : Nat) = _ := e; omega), (by intro e; have e2 : (_ : Nat) = _ := e; omega), (by intro e; have e2 : (_ : Nat) = _ := e; omega), (by intro e; have e2 : (_ : Nat) = _ := e; omega), (by intro e; have e2 : (_ : Nat) = _ := e; omega), (by intro e; have e2 : (_ : Nat) = _ := e; omega), (by intro e; have e2 : (_ : Nat) = _ := e; omega), (by intro e; have e2 : (_ : Nat) = _ := e; omega), f1 _ (by omega), f1 _ (by omega), f1 _ (by omega), f1 _ (by omega), f2 _ (by omega), f2 _ (by omega), f2 _ (by omega), f2 _ (by omega)⟩,
        ⟨hz, hTI, ⟨_, _, hTO⟩, i1 _ _ h1, i2 _ _ h2⟩, fun c hcm => ?_, q⟩
      have e' : c = s1.heap.objs.size + 4 ∨ c = s1.heap.objs.size + 2 ∨ c = s1.heap.objs.size + 3 ∨ c = s1.heap.objs.size ∨ c = s1.heap.objs.size + 1 := by simpa using hcm
      have hle : s1.heap.objs.size ≤ c := by
        rcases e' with z | z | z | z | z
        · rw [z]; exact Nat.le_add_right _ _
        · rw [z]; exact Nat.le_add_right _ _
        · rw [z]; exact Nat.le_add_right _ _
        · rw [z]; exact Nat.le_refl _
        · rw [z]; exact Nat.le_add_right _ _
      exact I1.fpOk hle (I1.hok.fresh hle)
theorem walk_zipM {K : PySem.W.Frag} {p q : Zs} {xs ys : List V} {n : Nat} (hn : n = min xs.length ys.length) : Walk (ItzM K p q) n (fun H => p.has K H xs ∧ q.has K H ys) (YPair (fun i => xs[i]?) (fun i => ys[i]?)) := by
  subst hn
  refine ⟨fun i _ hi h => ⟨xs, ys, h.1, h.2, by omega, by omega⟩, fun _ h => ⟨xs, ys, h.1, h.2, by omega, by omega, by omega⟩, fun i H v H' _ h y => ?_⟩
  obtain ⟨T, x, z, h1, h2, h3, h4, h5⟩ := y
  exact ⟨T, x, z, h1, h2, h3, h4 xs h.1, h5 ys h.2⟩
end Vf

set_option Elab.async false
set_option linter.all false
set_option maxRecDepth 100000
set_option maxHeartbeats 4000000
namespace Vf
open PySem PySem.Spec PyProof.Rows L2
def topS (i : Nat) : Stmt := PySem.Challenge.pw_hushedpages_k28_stems_numbered.main.body.getD i (.Pass ⟨0, 0, 0, 0⟩)
abbrev s_stems_many : Stmt := topS 1
theorem sc_stems_many : FnScope ["stock", "pattern"] ["stock"] (defScope s_stems_many) := ⟨rfl, rfl, rfl, by decide +kernel, rfl, by decide +kernel, by decide +kernel⟩
abbrev s_stem_at : Stmt := topS 2
theorem sc_stem_at : FnScope ["stock", "k", "at", "many"] ["stock", "k"] (defScope s_stem_at) := ⟨rfl, rfl, rfl, by decide +kernel, rfl, by decide +kernel, by decide +kernel⟩
abbrev s_place_in : Stmt := topS 3
theorem sc_place_in : FnScope ["stock", "stem", "ahead", "pattern"] ["stock", "stem"] (defScope s_place_in) := ⟨rfl, rfl, rfl, by decide +kernel, rfl, by decide +kernel, by decide +kernel⟩
abbrev s_pattern_many : Stmt := topS 4
theorem sc_pattern_many : FnScope ["pattern", "many", "slot"] ["pattern"] (defScope s_pattern_many) := ⟨rfl, rfl, rfl, by decide +kernel, rfl, by decide +kernel, by decide +kernel⟩
abbrev s_stem_in : Stmt := topS 5
theorem sc_stem_in : FnScope ["pattern", "k", "signs", "slot", "at"] ["pattern", "k"] (defScope s_stem_in) := ⟨rfl, rfl, rfl, by decide +kernel, rfl, by decide +kernel, by decide +kernel⟩
abbrev s_belongs : Stmt := topS 6
theorem sc_belongs : FnScope ["stem", "pattern", "sign", "slot"] ["stem", "pattern"] (defScope s_belongs) := ⟨rfl, rfl, rfl, by decide +kernel, rfl, by decide +kernel, by decide +kernel⟩
abbrev s_place_within : Stmt := topS 7
theorem sc_place_within : FnScope ["pattern", "stem", "place", "sign", "slot"] ["pattern", "stem"] (defScope s_place_within) := ⟨rfl, rfl, rfl, by decide +kernel, rfl, by decide +kernel, by decide +kernel⟩
abbrev s_law_begin : Stmt := topS 9
theorem sc_law_begin : FnScope ["_law_script"] ["_law_script"] (defScope s_law_begin) := ⟨rfl, rfl, rfl, by decide +kernel, rfl, by decide +kernel, by decide +kernel⟩
abbrev s_law_draw : Stmt := topS 10
theorem sc_law_draw : FnScope ["_law_d", "_law_many", "_law_cell", "_law_found"] ["_law_d", "_law_many"] (defScope s_law_draw) := ⟨rfl, rfl, rfl, by decide +kernel, rfl, by decide +kernel, by decide +kernel⟩
abbrev s_law_pick : Stmt := topS 11
theorem sc_law_pick : FnScope ["_law_d", "_law_row"] ["_law_d", "_law_row"] (defScope s_law_pick) := ⟨rfl, rfl, rfl, by decide +kernel, rfl, by decide +kernel, by decide +kernel⟩
abbrev s_law_stems : Stmt := topS 12
theorem sc_law_stems : FnScope ["_law_stock", "_law_found", "_law_pattern", "_law_rows", "_law_slot", "_law_longer", "_law_row", "_law_sign"] ["_law_stock"] (defScope s_law_stems) := ⟨rfl, rfl, rfl, by decide +kernel, rfl, by decide +kernel, by decide +kernel⟩
abbrev s_law_exact : Stmt := topS 13
theorem sc_law_exact : FnScope ["_law_told", "_law_due", "_law_k"] ["_law_told", "_law_due"] (defScope s_law_exact) := ⟨rfl, rfl, rfl, by decide +kernel, rfl, by decide +kernel, by decide +kernel⟩
abbrev s_law_great : Stmt := topS 14
theorem sc_law_great : FnScope ["_law_d", "_law_many"] ["_law_d", "_law_many"] (defScope s_law_great) := ⟨rfl, rfl, rfl, by decide +kernel, rfl, by decide +kernel, by decide +kernel⟩
abbrev s_law_slot_of : Stmt := topS 15
theorem sc_law_slot_of : FnScope ["_law_d", "_law_signs", "_law_most", "_law_row"] ["_law_d", "_law_signs", "_law_most"] (defScope s_law_slot_of) := ⟨rfl, rfl, rfl, by decide +kernel, rfl, by decide +kernel, by decide +kernel⟩
abbrev s_law_stock_of : Stmt := topS 16
theorem sc_law_stock_of : FnScope ["_law_d", "_law_longest", "_law_most", "_law_signs", "_law_longs", "_law_apart", "_law_found", "_law_k", "_law_pattern", "_law_place"] ["_law_d", "_law_longest", "_law_most"] (defScope s_law_stock_of) := ⟨rfl, rfl, rfl, by decide +kernel, rfl, by decide +kernel, by decide +kernel⟩
abbrev s_law_many_of : Stmt := topS 17
theorem sc_law_many_of : FnScope ["_law_pattern", "_law_total", "_law_slot"] ["_law_pattern"] (defScope s_law_many_of) := ⟨rfl, rfl, rfl, by decide +kernel, rfl, by decide +kernel, by decide +kernel⟩
abbrev s_law_stem_of : Stmt := topS 18
theorem sc_law_stem_of : FnScope ["_law_stock", "_law_k", "_law_pattern", "_law_later", "_law_stem", "_law_slot"] ["_law_stock", "_law_k"] (defScope s_law_stem_of) := ⟨rfl, rfl, rfl, by decide +kernel, rfl, by decide +kernel, by decide +kernel⟩
abbrev s_law_place_of : Stmt := topS 19
theorem sc_law_place_of : FnScope ["_law_stock", "_law_text", "_law_ahead", "_law_pattern", "_law_k", "_law_n"] ["_law_stock", "_law_text"] (defScope s_law_place_of) := ⟨rfl, rfl, rfl, by decide +kernel, rfl, by decide +kernel, by decide +kernel⟩
abbrev s_law_near : Stmt := topS 20
theorem sc_law_near : FnScope ["_law_d", "_law_stem", "_law_at", "_law_put"] ["_law_d", "_law_stem"] (defScope s_law_near) := ⟨rfl, rfl, rfl, by decide +kernel, rfl, by decide +kernel, by decide +kernel⟩
abbrev s_law_numbered : Stmt := topS 21
theorem sc_law_numbered : FnScope ["_law_d", "_law_stock", "_law_total", "_law_numbers", "_law_ahead", "_law_pattern", "_law_listed", "_law_k", "_law_due", "_law_text"] ["_law_d", "_law_stock"] (defScope s_law_numbered) := ⟨rfl, rfl, rfl, by decide +kernel, rfl, by decide +kernel, by decide +kernel⟩
abbrev s_law : Stmt := topS 22
theorem sc_law : FnScope ["_law_script", "_law_d", "_law_small", "_law_large", "_law_turn"] ["_law_script"] (defScope s_law) := ⟨rfl, rfl, rfl, by decide +kernel, rfl, by decide +kernel, by decide +kernel⟩
structure DefAt (K : PySem.W.Frag) (mg : Str → Option Value) (x : Str) (st : Stmt) (ps : List Str) (f : Addr) (fd : FuncData) : Prop where
  F : Fun K x x st f fd
  G : mg x = some (.ref f)
  B : Binds K fd ps []
  E : ∃ kV doc pm an cdv ct, fd = PySem.W.fnOf x x (defArgs st) (defBody st) (defScope st) .none kV doc pm an cdv ct
structure Txt (K : PySem.W.Frag) (mg : Str → Option Value) where
  a_stems_many : Addr
  d_stems_many : FuncData
  D_stems_many : DefAt K mg "stems_many" s_stems_many ["stock"] a_stems_many d_stems_many
  a_stem_at : Addr
  d_stem_at : FuncData
  D_stem_at : DefAt K mg "stem_at" s_stem_at ["stock", "k"] a_stem_at d_stem_at
  a_place_in : Addr
  d_place_in : FuncData
  D_place_in : DefAt K mg "place_in" s_place_in ["stock", "stem"] a_place_in d_place_in
  a_pattern_many : Addr
  d_pattern_many : FuncData
  D_pattern_many : DefAt K mg "_pattern_many" s_pattern_many ["pattern"] a_pattern_many d_pattern_many
  a_stem_in : Addr
  d_stem_in : FuncData
  D_stem_in : DefAt K mg "_stem_in" s_stem_in ["pattern", "k"] a_stem_in d_stem_in
  a_belongs : Addr
  d_belongs : FuncData
  D_belongs : DefAt K mg "_belongs" s_belongs ["stem", "pattern"] a_belongs d_belongs
  a_place_within : Addr
  d_place_within : FuncData
  D_place_within : DefAt K mg "_place_within" s_place_within ["pattern", "stem"] a_place_within d_place_within
  a_law_begin : Addr
  d_law_begin : FuncData
  D_law_begin : DefAt K mg "_law_begin" s_law_begin ["_law_script"] a_law_begin d_law_begin
  a_law_draw : Addr
  d_law_draw : FuncData
  D_law_draw : DefAt K mg "_law_draw" s_law_draw ["_law_d", "_law_many"] a_law_draw d_law_draw
  a_law_pick : Addr
  d_law_pick : FuncData
  D_law_pick : DefAt K mg "_law_pick" s_law_pick ["_law_d", "_law_row"] a_law_pick d_law_pick
  a_law_stems : Addr
  d_law_stems : FuncData
  D_law_stems : DefAt K mg "_law_stems" s_law_stems ["_law_stock"] a_law_stems d_law_stems
  a_law_exact : Addr
  d_law_exact : FuncData
  D_law_exact : DefAt K mg "_law_exact" s_law_exact ["_law_told", "_law_due"] a_law_exact d_law_exact
  a_law_great : Addr
  d_law_great : FuncData
  D_law_great : DefAt K mg "_law_great" s_law_great ["_law_d", "_law_many"] a_law_great d_law_great
  a_law_slot_of : Addr
  d_law_slot_of : FuncData
  D_law_slot_of : DefAt K mg "_law_slot_of" s_law_slot_of ["_law_d", "_law_signs", "_law_most"] a_law_slot_of d_law_slot_of
  a_law_stock_of : Addr
  d_law_stock_of : FuncData
  D_law_stock_of : DefAt K mg "_law_stock_of" s_law_stock_of ["_law_d", "_law_longest", "_law_most"] a_law_stock_of d_law_stock_of
  a_law_many_of : Addr
  d_law_many_of : FuncData
  D_law_many_of : DefAt K mg "_law_many_of" s_law_many_of ["_law_pattern"] a_law_many_of d_law_many_of
  a_law_stem_of : Addr
  d_law_stem_of : FuncData
  D_law_stem_of : DefAt K mg "_law_stem_of" s_law_stem_of ["_law_stock", "_law_k"] a_law_stem_of d_law_stem_of
  a_law_place_of : Addr
  d_law_place_of : FuncData
  D_law_place_of : DefAt K mg "_law_place_of" s_law_place_of ["_law_stock", "_law_text"] a_law_place_of d_law_place_of
  a_law_near : Addr
  d_law_near : FuncData
  D_law_near : DefAt K mg "_law_near" s_law_near ["_law_d", "_law_stem"] a_law_near d_law_near
  a_law_numbered : Addr
  d_law_numbered : FuncData
  D_law_numbered : DefAt K mg "_law_numbered" s_law_numbered ["_law_d", "_law_stock"] a_law_numbered d_law_numbered
  a_law : Addr
  d_law : FuncData
  D_law : DefAt K mg "law" s_law ["_law_script"] a_law d_law
  n_all : mg "all" = none
  n_bool : mg "bool" = none
  n_divmod : mg "divmod" = none
  n_int : mg "int" = none
  n_isinstance : mg "isinstance" = none
  n_len : mg "len" = none
  n_list : mg "list" = none
  n_min : mg "min" = none
  n_range : mg "range" = none
  n_reversed : mg "reversed" = none
  n_str : mg "str" = none
  n_sum : mg "sum" = none
  n_tuple : mg "tuple" = none
  n_zip : mg "zip" = none
/-! ### the dice -/
/-- at d the dice, at l the script's copy -/
structure DI (d l : Addr) (H : Hp) : Prop where
  ne : l ≠ d
  sc : ∃ ns : List Int, H l = some (.lst (ns.map V.int))
  st : ∃ i b s c : Int, 0 ≤ i ∧ H d = some (.lst [.ref l, .int i, .int b, .int s, .int c])
/-- all but the dice stands -/
def Kp (d : Addr) (H H' : Hp) : Prop := ∀ b o, b ≠ d → H b = some o → H' b = some o
theorem Kp.refl (d : Addr) (H : Hp) : Kp d H H := fun _ _ _ h => h
theorem Kp.trans {d : Addr} {H H1 H2 : Hp} (a : Kp d H H1) (b : Kp d H1 H2) : Kp d H H2 := fun x o n h => b x o n (a x o n h)
theorem Kp.upd {d : Addr} {H H' : Hp} {o : HO} (a : Kp d H H') : Kp d H (upd H' d o) := fun x u n h => by
  rw [upd_ne n]; exact a x u n h
theorem Kp.new {d p : Addr} {H H' : Hp} {o : HO} (a : Kp d H H') (hp : H' p = none) : Kp d H (L2.upd H' p o) := fun x u n h => by
  have h2 := a x u n h
  rw [upd_ne (ne_of_none h2 hp)]; exact h2
theorem Kp.mut {d p : Addr} {H H' : Hp} {o : HO} (a : Kp d H H') (hp : H p = none) : Kp d H (L2.upd H' p o) := fun x u n h => by
  rw [upd_ne (ne_of_none h hp)]; exact a x u n h
theorem Kp.sq {K : PySem.W.Frag} {d a : Addr} {H H' : Hp} {xs : List V} (k : Kp d H H') (n : a ≠ d) (h : SqL K H a xs) : SqL K H' a xs := by
  rcases h with (h | ⟨o, h⟩) | h
  · exact .inl (.inl (k _ _ n h))
  · exact .inl (.inr ⟨o, k _ _ n h⟩)
  · exact .inr h
theorem DI.keep {d l : Addr} {H H' : Hp} (h : DI d l H) (e : ∀ b o, H b = some o → H' b = some o) : DI d l H' := by
  obtain ⟨n, ⟨ns, h1⟩, i, b, s, c, h0, h2⟩ := h
  exact ⟨n, ⟨ns, e _ _ h1⟩, i, b, s, c, h0, e _ _ h2⟩
theorem DI.at {d l p : Addr} {H : Hp} {o : HO} (h : DI d l H) (n1 : p ≠ d) (n2 : p ≠ l) : DI d l (upd H p o) := by
  obtain ⟨n, ⟨ns, h1⟩, i, b, s, c, h0, h2⟩ := h
  exact ⟨n, ⟨ns, by rw [upd_ne n2.symm]; exact h1⟩, i, b, s, c, h0, by rw [upd_ne n1.symm]; exact h2⟩
theorem DI.new {d l p : Addr} {H : Hp} {o : HO} (h : DI d l H) (hp : H p = none) : DI d l (upd H p o) :=
  h.keep fun b u e => by rw [upd_ne (ne_of_none e hp)]; exact e
theorem DI.nd {d l p : Addr} {H : Hp} (h : DI d l H) (hp : H p = none) : p ≠ d ∧ p ≠ l := by
  obtain ⟨n, ⟨ns, h1⟩, i, b, s, c, h0, h2⟩ := h
  exact ⟨fun e => (by rw [e, h2] at hp; cases hp), fun e => (by rw [e, h1] at hp; cases hp)⟩
theorem DI.set {d l : Addr} {H : Hp} {i b s c : Int} (h : DI d l H) (h0 : 0 ≤ i) : DI d l (upd H d (.lst [.ref l, .int i, .int b, .int s, .int c])) := by
  obtain ⟨n, ⟨ns, h1⟩, _⟩ := h
  exact ⟨n, ⟨ns, by rw [upd_ne n]; exact h1⟩, i, b, s, c, h0, upd_same⟩
section
variable {P : Program} {w : World} {K : PySem.W.Frag} {mg : Str → Option Value} {base : Heap}
/-! ### begin -/
def spBegin (K : PySem.W.Frag) : Sp := fun vs H Q _ => ∃ (a : Addr) (ns : List Int), vs = [.ref a] ∧ SqL K H a (ns.map V.int) ∧ ns.length ≤ 63 ∧
  ∀ H' d l, Same H H' → DI d l H' → Q (.ref d) H'
theorem ok_begin (T : Txt K mg) : FnOk P w K mg base CX0 1 T.a_law_begin T.d_law_begin ["_law_script"] (spBegin K) := by
  refine T.D_law_begin.F.ok sc_law_begin (fun vs H Q E h => ?_) (fun cdv A outer s H vs Q E hr h => ?_)
  · obtain ⟨a, ns, rfl, _⟩ := h
    rfl
  · obtain ⟨a, ns, rfl, hS, hl, q⟩ := h
    refine ⟨_, (pss_one (ps_ret (pe_lst (pa_cons (pe_callTy call_list_of (by rfl) T.n_list (by decide +kernel) (pa_cons (pv 0) pa_nil)) (pa_cons pe_int (pa_cons pe_int (pa_cons pe_int (pa_cons pe_int pa_nil)))))))), ?_⟩
    refine ⟨_, rfl, a, _, rfl, .inl hS, fun l nl => ?_⟩
    refine ⟨by show 5 ≤ sizeLine; decide, fun d nd => ?_⟩
    refine q _ d l (fun b o e => ?_) ?_
    · have n1 : b ≠ l := ne_of_none e nl
      have e1 : upd H l (.lst (ns.map V.int)) b = some o := by rw [upd_ne n1]; exact e
      rw [upd_ne (ne_of_none e1 nd)]
      exact e1
    · have e1 : upd H l (.lst (ns.map V.int)) l = some (.lst (ns.map V.int)) := upd_same
      have n1 : l ≠ d := ne_of_none e1 nd
      exact ⟨n1, ⟨ns, by rw [upd_ne n1]; exact e1⟩, 0, 0, 7, 0, by decide, upd_same⟩
/-! ### draw -/
def spDraw : Sp := fun vs H Q _ => ∃ (d l : Addr) (m : Int), vs = [.ref d, .int m] ∧ DI d l H ∧ m ≤ 1073741824 ∧
  ∀ H' r, Kp d H H' → DI d l H' → (m < 2 → r = 0) → (2 ≤ m → 0 ≤ r ∧ r < m) → Q (.int r) H'
theorem ok_draw (T : Txt K mg) : FnOk P w K mg base CX0 1 T.a_law_draw T.d_law_draw ["_law_d", "_law_many"] spDraw := by
  refine T.D_law_draw.F.ok sc_law_draw (fun vs H Q E h => ?_) (fun cdv A outer s H vs Q E hr h => ?_)
  · obtain ⟨d, l, m, rfl, _⟩ := h
    rfl
  · obtain ⟨d, l, m, rfl, hD, hm, q⟩ := h
    refine ⟨_, (pss_cons (ps_if (pt_cmpR op_lt (pv 1) pe_int (nomark _)) (pss_one (ps_ret pe_int)) pss_nil)
      (pss_cons (ps_set (i := 2) sc_law_draw.nd rfl (.inl rfl) (pe_op op_add (pe_op op_mul (pe_ix ix_list (pv 0) pe_int (fun _ _ => rfl)) pe_int) pe_int))
      (Evl.pss_cut (ps_if (PW.pt (pw_and (pt_cmpR op_eq (pe_ix ix_list (pv 0) pe_int (fun _ _ => rfl)) pe_int (nomark _)) (pw_and1 (pt_cmpR op_lt (pe_ix ix_list (pv 0) pe_int (fun _ _ => rfl)) (pe_callB call_len_seq (by rfl) T.n_len PySem.boot_len (pa_cons (pe_ix ix_list (pv 0) pe_int (fun _ _ => rfl)) pa_nil)) (nomark _))))) (pss_cons (ps_set (i := 2) sc_law_draw.nd rfl (.inl rfl) (pe_ix ix_list (pe_ix ix_list (pv 0) pe_int (fun _ _ => rfl)) (pe_ix ix_list (pv 0) pe_int (fun _ _ => rfl)) (fun _ _ => rfl)))
      (pss_cons (ps_asg (pe_op op_add (pe_ix ix_list (pv 0) pe_int (fun _ _ => rfl)) pe_int) (pg_sub (pv 0) pe_int set_list))
      (Evl.pss_cut (ps_if (pt_cmpR op_lt (pv 2) pe_int (nomark _)) (pss_one (ps_set (i := 2) sc_law_draw.nd rfl (.inl rfl) (pe_op op_sub pe_int (pe_op op_mul pe_int (pv 2))))) pss_nil)
      (pss_one (ps_if (pt_cmpR op_ge (pv 2) pe_int (nomark _)) (pss_cons (ps_set (i := 2) sc_law_draw.nd rfl (.inl rfl) (pe_op op_and (pv 2) (pe_op op_sub (pe_op op_shl pe_int pe_int) pe_int)))
      (pss_one (ps_asg (pv 2) (pg_sub (pv 0) pe_int set_list)))) pss_nil))))) pss_nil)
      (pss_cons (ps_if (pt_cmpR op_gt (pe_ix ix_list (pv 0) pe_int (fun _ _ => rfl)) pe_int (nomark _)) (pss_cons (ps_set (i := 3) sc_law_draw.nd rfl (.inl rfl) (pe_op op_modN (pe_callTy call_int1 (by rfl) T.n_int (by decide +kernel) (pa_cons (pe_ix ix_list (pv 0) pe_int (fun _ _ => rfl)) pa_nil)) (pv 1)))
      (pss_cons (ps_asg (pe_op op_fdivW (pe_ix ix_list (pv 0) pe_int (fun _ _ => rfl)) (pv 1)) (pg_sub (pv 0) pe_int set_list))
      (pss_one (ps_ret (pv 3))))) pss_nil)
      (pss_cons (ps_asg (pe_op op_add (pe_ix ix_list (pv 0) pe_int (fun _ _ => rfl)) pe_int) (pg_sub (pv 0) pe_int set_list))
      (pss_cons (ps_asg (pe_op op_modN (pe_callTy call_int1 (by rfl) T.n_int (by decide +kernel) (pa_cons (pe_op op_add (pe_op op_add (pe_op op_mul (pe_ix ix_list (pv 0) pe_int (fun _ _ => rfl)) pe_int) (pe_op op_mul (pv 2) pe_int)) (pe_op op_mul (pe_ix ix_list (pv 0) pe_int (fun _ _ => rfl)) pe_int)) pa_nil)) pe_int) (pg_sub (pv 0) pe_int set_list))
      (pss_one (ps_ret (pe_op op_modN (pe_callTy call_int1 (by rfl) T.n_int (by decide +kernel) (pa_cons (pe_op op_modN (pe_callTy call_int1 (by rfl) T.n_int (by decide +kernel) (pa_cons (pe_op op_add (pe_op op_add (pe_op op_mul (pe_ix ix_list (pv 0) pe_int (fun _ _ => rfl)) pe_int) (pe_op op_mul (pe_ix ix_list (pv 0) pe_int (fun _ _ => rfl)) pe_int)) pe_int) pa_nil)) pe_int) pa_nil)) (pv 1)))))))))), ?_⟩
    refine ⟨_, rfl, _, _, rfl, rfl, _, rfl, ite2 (fun e => ?_) (fun e => ?_)⟩
    · have e := of_decide_eq_true e
      exact q H 0 (Kp.refl d H) hD (fun _ => rfl) (fun z => by omega)
    have hm2 : 2 ≤ m := by
      have e2 : ¬ m < 2 := fun z => e (decide_eq_true z)
      omega
    have hmN : m ≠ 0 := by omega
    have hmA : m.natAbs < 2 ^ 31 := by omega
    have fm : ∀ z : Int, 0 ≤ z.fmod m ∧ z.fmod m < m := fun z => ⟨Int.fmod_nonneg_of_pos z (by omega), Int.fmod_lt_of_pos z (by omega)⟩
    obtain ⟨n, ⟨ns, h1⟩, i, b, s5, c, h0, h2⟩ := id hD
    -- cell = d[4] * 977 + 3
    refine ⟨_, rfl, _, _, _, _, rfl, rfl, SqL.of h2, rfl, _, _, rfl, rfl, .inr ⟨by decide, by decide⟩, _, _, rfl, rfl, ?_⟩
    refine ⟨fun σ' H' => ∃ (cell : Int) (x3 : Option V), σ' = [some (.ref d), some (.int m), some (.int cell), x3] ∧ Kp d H H' ∧ DI d l H', ?_, ?_⟩
    · -- the cell
      refine ⟨_, rfl, _, _, _, _, rfl, rfl, SqL.of h2, rfl, rfl, _, rfl, ite2 (fun e1 => ?_) (fun e1 => ?_)⟩
      · refine ⟨_, rfl, _, _, _, _, rfl, rfl, SqL.of h2, rfl, _, rfl, _, _, _, _, rfl, rfl, SqL.of h2, rfl, _, _, rfl, .inl (SqL.of h1), _, _, rfl, rfl, _, rfl, ite2 (fun e2 => ?_) (fun e2 => ?_)⟩
        · have e2 := of_decide_eq_true e2
          rw [List.length_map] at e2
          obtain ⟨j, rfl⟩ : ∃ j : Nat, i = (j : Int) := ⟨i.toNat, by omega⟩
          have hj : j < ns.length := by omega
          have gj : (ns.map V.int)[j]? = some (.int ns[j]) := by
            rw [List.getElem?_map, List.getElem?_eq_getElem hj]; rfl
          refine ⟨_, rfl, _, _, _, _, rfl, rfl, SqL.of h2, rfl, _, rfl, _, _, _, _, rfl, rfl, SqL.of h2, rfl, _, _, _, _, rfl, rfl, SqL.of h1, atI_nat gj, ?_⟩
          -- d[1] = d[1] + 1
          refine ⟨_, rfl, _, _, _, _, rfl, rfl, SqL.of h2, rfl, _, _, rfl, rfl, _, rfl, _, _, _, _, rfl, rfl, h2, rfl, ?_⟩
          have D1 := hD.set (i := (j : Int) + 1) (b := b) (s := s5) (c := c) (by omega)
          have K1 : Kp d H (upd H d (.lst [.ref l, .int ((j : Int) + 1), .int b, .int s5, .int c])) := (Kp.refl d H).upd
          refine ⟨fun σ' H' => ∃ (cell : Int) (x3 : Option V), σ' = [some (.ref d), some (.int m), some (.int cell), x3] ∧ H' = upd H d (.lst [.ref l, .int ((j : Int) + 1), .int b, .int s5, .int c]), ?_, ?_⟩
          · refine ⟨_, rfl, _, _, rfl, rfl, _, rfl, ite2 (fun _ => ?_) (fun _ => ?_)⟩
            · exact ⟨_, rfl, _, _, rfl, rfl, .inl ⟨by decide, by decide⟩, _, _, rfl, rfl, _, _, rfl, rfl⟩
            · exact ⟨_, _, rfl, rfl⟩
          · rintro σ' H' ⟨cell, x3, rfl, rfl⟩
            refine ⟨_, rfl, _, _, rfl, rfl, _, rfl, ite2 (fun _ => ?_) (fun _ => ?_)⟩
            · refine ⟨_, rfl, _, _, rfl, rfl, ⟨by decide, by decide, by decide⟩, _, _, rfl, rfl, _, _, rfl, rfl, ?_⟩
              refine ⟨_, rfl, _, rfl, _, _, _, _, rfl, rfl, upd_same, rfl, ?_⟩
              exact ⟨_, _, rfl, K1.upd, D1.set (by omega)⟩
            · exact ⟨_, _, rfl, K1, D1⟩
        · exact ⟨_, _, rfl, Kp.refl d H, hD⟩
      · exact ⟨_, _, rfl, Kp.refl d H, hD⟩
    · rintro σ' H1 ⟨cell, x3, rfl, K1, D1⟩
      obtain ⟨n, ⟨ns, h1⟩, i, b, s5, c, h0, h2⟩ := id D1
      refine ⟨_, rfl, _, _, _, _, rfl, rfl, SqL.of h2, rfl, _, _, rfl, rfl, _, rfl, ite2 (fun e1 => ?_) (fun e1 => ?_)⟩
      · refine ⟨_, rfl, _, _, _, _, rfl, rfl, SqL.of h2, rfl, .inl ⟨_, rfl, _, rfl, _, _, rfl, rfl, hmN, ?_⟩⟩
        refine ⟨_, rfl, _, _, _, _, rfl, rfl, SqL.of h2, rfl, _, rfl, _, _, rfl, rfl, wide_div (b := 31) (by omega) (by omega) (by decide) (by decide), _, rfl, _, _, _, _, rfl, rfl, h2, rfl, ?_⟩
        exact ⟨_, rfl, q _ _ K1.upd (D1.set h0) (fun z => by omega) (fun _ => fm _)⟩
      · refine ⟨_, rfl, _, _, _, _, rfl, rfl, SqL.of h2, rfl, _, _, rfl, rfl, _, rfl, _, _, _, _, rfl, rfl, h2, rfl, ?_⟩
        refine ⟨_, rfl, _, _, _, _, rfl, rfl, SqL.of upd_same, rfl, _, _, rfl, rfl, .inr ⟨by decide, by decide⟩, _, rfl, _, _, rfl, rfl, .inr ⟨by decide, by decide⟩, _, _, rfl, rfl, _, rfl, _, _, _, _, rfl, rfl, SqL.of upd_same, rfl, _, _, rfl, rfl, .inr ⟨by decide, by decide⟩, _, _, rfl, rfl, .inl ⟨_, rfl, _, _, rfl, rfl, (by show (2147483647 : Int) ≠ 0; decide), _, rfl, _, _, _, _, rfl, rfl, upd_same, rfl, ?_⟩⟩
        refine ⟨_, rfl, _, _, _, _, rfl, rfl, SqL.of upd_same, rfl, _, _, rfl, rfl, .inr ⟨by decide, by decide⟩, _, rfl, _, _, _, _, rfl, rfl, SqL.of upd_same, rfl, _, _, rfl, rfl, .inr ⟨by decide, by decide⟩, _, _, rfl, rfl, _, _, rfl, rfl, .inl ⟨_, rfl, _, _, rfl, rfl, (by show (2147483399 : Int) ≠ 0; decide), .inl ⟨_, rfl, _, rfl, _, _, rfl, rfl, hmN, ?_⟩⟩⟩
        exact q _ _ K1.upd.upd ((D1.set h0).set h0) (fun z => by omega) (fun _ => fm _)
end
end Vf

set_option Elab.async false
set_option linter.all false
set_option maxRecDepth 100000
set_option maxHeartbeats 4000000
namespace Vf
open PySem PySem.Spec PyProof.Rows L2 TL
/-! ### the mathematics of tokens -/
def sW : Str := "abcdefghijklmnopqrstuvwxyz0123456789.,:;!?'()+=<>*/"
def sL : Str := "abcdefghijklmnopqrstuvwxyz"
def sB : Str := " \n"
def sOdd : Str := "\"#$&-ABCDEFGHIJKLMNOPQRSTUVWXYZ[\\]^_`|~"
def cW (c : Nat) : Bool := decide (c ∈ sW.cps.toList)
def cL (c : Nat) : Bool := decide (c ∈ sL.cps.toList)
def cB (c : Nat) : Bool := decide (c ∈ sB.cps.toList)
/-- the text of these signs -/
def mkS (zs : List Nat) : Str := ⟨zs.toArray⟩
def sV (zs : List Nat) : V := .str (mkS zs)
theorem mkS_cps (zs : List Nat) : (mkS zs).cps.toList = zs := rfl
theorem mkS_of (z : Str) : mkS z.cps.toList = z := rfl
theorem mkS_len (zs : List Nat) : (mkS zs).length = zs.length := by simp [mkS, Str.length]
theorem len_cps (z : Str) : z.length = z.cps.toList.length := by simp [Str.length]
theorem mkS_app (a b : List Nat) : mkS a ++ mkS b = mkS (a ++ b) := by
  have h : (mkS a ++ mkS b).cps.toList = a ++ b := by rw [Str.cps_append, Array.toList_append]; rfl
  rw [← h]
  rfl
theorem mkS_inj {a b : List Nat} (h : mkS a = mkS b) : a = b := by
  have h2 := congrArg (fun z : Str => z.cps.toList) h
  exact h2
theorem sW_list : sW.cps.toList = [97,98,99,100,101,102,103,104,105,106,107,108,109,110,111,112,113,114,115,116,117,118,119,120,121,122,48,49,50,51,52,53,54,55,56,57,46,44,58,59,33,63,39,40,41,43,61,60,62,42,47] := by decide +kernel
theorem sL_list : sL.cps.toList = [97,98,99,100,101,102,103,104,105,106,107,108,109,110,111,112,113,114,115,116,117,118,119,120,121,122] := by decide +kernel
theorem sB_list : sB.cps.toList = [32, 10] := by decide +kernel
theorem cL_W {c : Nat} (h : cL c = true) : cW c = true := by
  have h1 := of_decide_eq_true h
  refine decide_eq_true ?_
  rw [sL_list] at h1
  rw [sW_list]
  rw [show ([97,98,99,100,101,102,103,104,105,106,107,108,109,110,111,112,113,114,115,116,117,118,119,120,121,122,48,49,50,51,52,53,54,55,56,57,46,44,58,59,33,63,39,40,41,43,61,60,62,42,47] : List Nat) = [97,98,99,100,101,102,103,104,105,106,107,108,109,110,111,112,113,114,115,116,117,118,119,120,121,122] ++ [48,49,50,51,52,53,54,55,56,57,46,44,58,59,33,63,39,40,41,43,61,60,62,42,47] from rfl]
  exact List.mem_append_left _ h1
theorem cW_B {c : Nat} (h : cW c = true) : cB c = false := by
  refine decide_eq_false fun h2 => ?_
  rw [sB_list] at h2
  have h1 := of_decide_eq_true h
  rw [sW_list] at h1
  simp only [List.mem_cons, List.not_mem_nil, or_false] at h2
  rcases h2 with rfl | rfl
  · exact absurd h1 (by decide)
  · exact absurd h1 (by decide)
theorem cW_at : cW 64 = false := by
  unfold cW
  rw [sW_list]
  decide
theorem cB_at : cB 64 = false := by
  unfold cB
  rw [sB_list]
  decide
theorem cW_ne {c : Nat} (h : cW c = true) : c ≠ 64 := fun e => by
  rw [e, cW_at] at h
  cases h
theorem drop_le {α : Type} (p : α → Bool) : ∀ l : List α, (l.dropWhile p).length ≤ l.length
  | [] => Nat.le_refl _
  | c :: r => by
    rw [List.dropWhile_cons]
    split
    · exact Nat.le_trans (drop_le p r) (Nat.le_succ _)
    · exact Nat.le_refl _
/-- the tokens of a text -/
def tokF : Nat → List Nat → List (List Nat)
  | 0, _ => []
  | _ + 1, [] => []
  | n + 1, c :: r =>
    if cB c then tokF n r else if c = 64 then (c :: r.takeWhile cL) :: tokF n (r.dropWhile cL)
    else if cW c then (c :: r.takeWhile cW) :: tokF n (r.dropWhile cW) else [c] :: tokF n r
theorem tokF_more : ∀ (n m : Nat) (zs : List Nat), zs.length ≤ n → zs.length ≤ m → tokF n zs = tokF m zs
  | 0, 0, _, _, _ => rfl
  | 0, m + 1, zs, h, _ => by
    have e : zs = [] := List.length_eq_zero_iff.mp (Nat.le_zero.mp h)
    subst e
    rfl
  | n + 1, 0, zs, _, h => by
    have e : zs = [] := List.length_eq_zero_iff.mp (Nat.le_zero.mp h)
    subst e
    rfl
  | n + 1, m + 1, [], _, _ => rfl
  | n + 1, m + 1, c :: r, h1, h2 => by
    have a1 : r.length ≤ n := Nat.le_of_succ_le_succ h1
    have a2 : r.length ≤ m := Nat.le_of_succ_le_succ h2
    have d1 := drop_le cL r
    have d2 := drop_le cW r
    show (if cB c then tokF n r else if c = 64 then (c :: r.takeWhile cL) :: tokF n (r.dropWhile cL) else if cW c then (c :: r.takeWhile cW) :: tokF n (r.dropWhile cW) else [c] :: tokF n r) =
      (if cB c then tokF m r else if c = 64 then (c :: r.takeWhile cL) :: tokF m (r.dropWhile cL) else if cW c then (c :: r.takeWhile cW) :: tokF m (r.dropWhile cW) else [c] :: tokF m r)
    rw [tokF_more n m r a1 a2, tokF_more n m _ (Nat.le_trans d1 a1) (Nat.le_trans d1 a2), tokF_more n m _ (Nat.le_trans d2 a1) (Nat.le_trans d2 a2)]
def tok (zs : List Nat) : List (List Nat) := tokF zs.length zs
theorem tok_nil : tok [] = [] := rfl
theorem tok_cons (c : Nat) (r : List Nat) : tok (c :: r) = if cB c then tok r else if c = 64 then (c :: r.takeWhile cL) :: tok (r.dropWhile cL)
    else if cW c then (c :: r.takeWhile cW) :: tok (r.dropWhile cW) else [c] :: tok r := by
  show (if cB c then tokF r.length r else if c = 64 then (c :: r.takeWhile cL) :: tokF r.length (r.dropWhile cL) else if cW c then (c :: r.takeWhile cW) :: tokF r.length (r.dropWhile cW) else [c] :: tokF r.length r) = _
  rw [tokF_more r.length (r.dropWhile cL).length (r.dropWhile cL) (drop_le _ _) (Nat.le_refl _), tokF_more r.length (r.dropWhile cW).length (r.dropWhile cW) (drop_le _ _) (Nat.le_refl _)]
  rfl
/-! #### what the law's own walk has found, and how it goes on -/
def cont : Nat → List (List Nat) → List Nat → List (List Nat)
  | 1, f, r => f.dropLast ++ ((f.getLast?.getD []) ++ r.takeWhile cW) :: tok (r.dropWhile cW)
  | 2, f, r => f.dropLast ++ ((f.getLast?.getD []) ++ r.takeWhile cL) :: tok (r.dropWhile cL)
  | _, f, r => f ++ tok r
theorem cont0 (f : List (List Nat)) (r : List Nat) : cont 0 f r = f ++ tok r := rfl
theorem cont1 (g : List (List Nat)) (t r : List Nat) : cont 1 (g ++ [t]) r = g ++ (t ++ r.takeWhile cW) :: tok (r.dropWhile cW) := by
  show (g ++ [t]).dropLast ++ (((g ++ [t]).getLast?.getD []) ++ r.takeWhile cW) :: tok (r.dropWhile cW) = _
  rw [List.dropLast_concat, List.getLast?_concat]; rfl
theorem cont2 (g : List (List Nat)) (t r : List Nat) : cont 2 (g ++ [t]) r = g ++ (t ++ r.takeWhile cL) :: tok (r.dropWhile cL) := by
  show (g ++ [t]).dropLast ++ (((g ++ [t]).getLast?.getD []) ++ r.takeWhile cL) :: tok (r.dropWhile cL) = _
  rw [List.dropLast_concat, List.getLast?_concat]; rfl
/-- a sign that goes on -/
theorem cont1_on {c : Nat} (h : cW c = true) (g : List (List Nat)) (t r : List Nat) : cont 1 (g ++ [t]) (c :: r) = cont 1 (g ++ [t ++ [c]]) r := by
  rw [cont1, cont1, List.takeWhile_cons_of_pos h, List.dropWhile_cons_of_pos h, List.append_assoc]; rfl
theorem cont2_on {c : Nat} (h : cL c = true) (g : List (List Nat)) (t r : List Nat) : cont 2 (g ++ [t]) (c :: r) = cont 2 (g ++ [t ++ [c]]) r := by
  rw [cont2, cont2, List.takeWhile_cons_of_pos h, List.dropWhile_cons_of_pos h, List.append_assoc]; rfl
/-- a sign that doesn't -/
theorem cont1_off {c : Nat} (h : cW c = false) (g : List (List Nat)) (t r : List Nat) : cont 1 (g ++ [t]) (c :: r) = cont 0 (g ++ [t]) (c :: r) := by
  rw [cont1, cont0, List.takeWhile_cons_of_neg (by rw [h]; decide), List.dropWhile_cons_of_neg (by rw [h]; decide), List.append_nil, List.append_assoc]; rfl
theorem cont2_off {c : Nat} (h : cL c = false) (g : List (List Nat)) (t r : List Nat) : cont 2 (g ++ [t]) (c :: r) = cont 0 (g ++ [t]) (c :: r) := by
  rw [cont2, cont0, List.takeWhile_cons_of_neg (by rw [h]; decide), List.dropWhile_cons_of_neg (by rw [h]; decide), List.append_nil, List.append_assoc]; rfl
theorem cont_blank {c : Nat} (h : cB c = true) (f : List (List Nat)) (r : List Nat) : cont 0 f (c :: r) = cont 0 f r := by
  rw [cont0, cont0, tok_cons, if_pos h]
theorem cont_at (f : List (List Nat)) (r : List Nat) : cont 0 f (64 :: r) = cont 2 (f ++ [[64]]) r := by
  rw [cont0, cont2, tok_cons, if_neg (by rw [cB_at]; decide), if_pos rfl]; rfl
theorem cont_word {c : Nat} (h : cW c = true) (f : List (List Nat)) (r : List Nat) : cont 0 f (c :: r) = cont 1 (f ++ [[c]]) r := by
  rw [cont0, cont1, tok_cons, if_neg (by rw [cW_B h]; decide), if_neg (cW_ne h), if_pos h]; rfl
theorem cont_odd {c : Nat} (hb : cB c = false) (h : cW c = false) (ha : c ≠ 64) (f : List (List Nat)) (r : List Nat) : cont 0 f (c :: r) = cont 0 (f ++ [[c]]) r := by
  rw [cont0, cont0, tok_cons, if_neg (by rw [hb]; decide), if_neg ha, if_neg (by rw [h]; decide), List.append_assoc]; rfl
theorem cont_end1 (g : List (List Nat)) (t : List Nat) : cont 1 (g ++ [t]) [] = g ++ [t] := by
  rw [cont1]; show g ++ [t ++ []] = _; rw [List.append_nil]
theorem cont_end2 (g : List (List Nat)) (t : List Nat) : cont 2 (g ++ [t]) [] = g ++ [t] := by
  rw [cont2]; show g ++ [t ++ []] = _; rw [List.append_nil]
theorem cont_end0 (f : List (List Nat)) : cont 0 f [] = f := by
  rw [cont0, tok_nil, List.append_nil]
/-! #### tokens put together -/
/-- blanks and line feeds alone -/
def Bl (g : List Nat) : Prop := ∀ c ∈ g, cB c = true
/-- a token -/
def Tk (t : List Nat) : Prop := (∃ c, t = [c] ∧ cB c = false ∧ cW c = false ∧ c ≠ 64) ∨ (∃ r, t = 64 :: r ∧ ∀ c ∈ r, cL c = true) ∨ (t ≠ [] ∧ ∀ c ∈ t, cW c = true)
/-- the one runs on into the other -/
def runs (t u : List Nat) : Bool := if t.headD 0 = 64 then cL (u.headD 0) else cW (t.headD 0) && cW (u.headD 0)
theorem tok_gap : ∀ (g r : List Nat), Bl g → tok (g ++ r) = tok r
  | [], _, _ => rfl
  | c :: g, r, h => by
    rw [List.cons_append, tok_cons, if_pos (h c List.mem_cons_self)]
    exact tok_gap g r fun z hz => h z (List.mem_cons_of_mem _ hz)
theorem take_all {p : Nat → Bool} : ∀ (t r : List Nat), (∀ c ∈ t, p c = true) → (∀ c r', r = c :: r' → p c = false) → (t ++ r).takeWhile p = t ∧ (t ++ r).dropWhile p = r
  | [], [], _, _ => ⟨rfl, rfl⟩
  | [], c :: r, _, h => by
    have e := h c r rfl
    rw [List.nil_append, List.takeWhile_cons_of_neg (by rw [e]; decide), List.dropWhile_cons_of_neg (by rw [e]; decide)]
    exact ⟨rfl, rfl⟩
  | c :: t, r, ht, h => by
    have ⟨a, b⟩ := take_all t r (fun z hz => ht z (List.mem_cons_of_mem _ hz)) h
    rw [List.cons_append, List.takeWhile_cons_of_pos (ht c List.mem_cons_self), List.dropWhile_cons_of_pos (ht c List.mem_cons_self), a, b]
    exact ⟨rfl, rfl⟩
theorem tok_tok {t r : List Nat} (h : Tk t) (hr : r = [] ∨ runs t r = false) : tok (t ++ r) = t :: tok r := by
  rcases h with ⟨c, rfl, hb, hw, ha⟩ | ⟨u, rfl, hu⟩ | ⟨hn, hw⟩
  · show tok (c :: r) = _
    rw [tok_cons, if_neg (by rw [hb]; decide), if_neg ha, if_neg (by rw [hw]; decide)]
  · have hs : ∀ c r', r = c :: r' → cL c = false := by
      intro c r' e
      rcases hr with z | z
      · rw [z] at e; cases e
      · subst e; exact z
    have ⟨a, b⟩ := take_all u r hu hs
    rw [List.cons_append, tok_cons, if_neg (by rw [cB_at]; decide), if_pos rfl, a, b]
  · cases t with
    | nil => exact absurd rfl hn
    | cons c u =>
      have hc := hw c List.mem_cons_self
      have hs : ∀ x r', r = x :: r' → cW x = false := by
        intro x r' e
        rcases hr with z | z
        · rw [z] at e; cases e
        · subst e
          unfold runs at z
          rw [show (c :: u).headD 0 = c from rfl, if_neg (cW_ne hc), hc] at z
          exact z
      have ⟨a, b⟩ := take_all u r (fun z hz => hw z (List.mem_cons_of_mem _ hz)) hs
      rw [List.cons_append, tok_cons, if_neg (by rw [cW_B hc]; decide), if_neg (cW_ne hc), if_pos hc, a, b]
/-- tokens and the gaps behind them, put into one row -/
def mixed : List (List Nat) → List (List Nat) → List Nat
  | t :: ts, g :: gs => t ++ (g ++ mixed ts gs)
  | _, _ => []
/-- what is asked of a gap behind token k -/
def need (ts : List (List Nat)) (k : Nat) : Bool := match ts[k]?, ts[k + 1]? with
  | some t, some u => runs t u
  | _, _ => false
theorem runs_bl {t g r : List Nat} (hn : g ≠ []) (hg : Bl g) : runs t (g ++ r) = false := by
  cases g with
  | nil => exact absurd rfl hn
  | cons c g =>
    have hb := hg c List.mem_cons_self
    have hw : cW c = false := by
      cases e : cW c with
      | false => rfl
      | true => rw [cW_B e] at hb; cases hb
    have hl : cL c = false := by
      cases e : cL c with
      | false => rfl
      | true => rw [cL_W e] at hw; cases hw
    unfold runs
    rw [List.cons_append]
    show (if t.headD 0 = 64 then cL c else cW (t.headD 0) && cW c) = false
    rw [hl, hw, Bool.and_false]
    split <;> rfl
theorem runs_head {t u r : List Nat} (hu : u ≠ []) : runs t (u ++ r) = runs t u := by
  cases u with
  | nil => exact absurd rfl hu
  | cons c u => rfl
theorem Tk.ne {t : List Nat} (h : Tk t) : t ≠ [] := by
  rcases h with ⟨c, rfl, _⟩ | ⟨r, rfl, _⟩ | ⟨h, _⟩
  · exact fun e => by cases e
  · exact fun e => by cases e
  · exact h
theorem tok_mixed : ∀ (ts gs : List (List Nat)), (∀ t ∈ ts, Tk t) → gs.length = ts.length → (∀ k g, gs[k]? = some g → Bl g ∧ (need ts k = true → g ≠ [])) → tok (mixed ts gs) = ts
  | [], [], _, _, _ => rfl
  | [], _ :: _, _, h, _ => by cases h
  | _ :: _, [], _, h, _ => by cases h
  | t :: ts, g :: gs, ht, hl, hg => by
    have ih := tok_mixed ts gs (fun u hu => ht u (List.mem_cons_of_mem _ hu)) (Nat.succ.inj hl) (fun k g' e => by
      have := hg (k + 1) g' e
      exact this)
    obtain ⟨hb, hne⟩ := hg 0 g rfl
    show tok (t ++ (g ++ mixed ts gs)) = t :: ts
    rw [tok_tok (ht t List.mem_cons_self), tok_gap g _ hb, ih]
    by_cases e : g = []
    · subst e
      rw [List.nil_append]
      cases ts with
      | nil => exact .inl (by cases gs <;> rfl)
      | cons u us =>
        cases gs with
        | nil => cases hl
        | cons g2 gs2 =>
          refine .inr ?_
          show runs t (u ++ (g2 ++ mixed us gs2)) = false
          rw [runs_head (ht u (List.mem_cons_of_mem _ List.mem_cons_self)).ne]
          cases q : runs t u with
          | false => rfl
          | true => exact absurd rfl (hne q)
    · exact .inr (runs_bl e hb)
/-! #### small things -/
theorem take_succ' {α : Type} {l : List α} {i : Nat} {x : α} (h : l[i]? = some x) : l.take (i + 1) = l.take i ++ [x] := by
  rw [List.take_add_one, h]; rfl
theorem big_ok {n : Nat} (h : n ≤ 100000) : n ≤ sizeLine := Nat.le_trans h (by decide)
theorem get_sV {ts : List (List Nat)} {i : Nat} {t : List Nat} (h : ts[i]? = some t) : (ts.map sV)[i]? = some (sV t) := by
  rw [List.getElem?_map, h]; rfl
theorem drop_at {zs : List Nat} {i c : Nat} (h : zs[i]? = some c) : zs.drop i = c :: zs.drop (i + 1) := by
  have ⟨h1, h2⟩ := List.getElem?_eq_some_iff.mp h
  rw [List.drop_eq_getElem_cons h1, h2]
theorem same_mut {H H' : Hp} {p : Addr} {o : HO} (a : Same H H') (hp : H p = none) : Same H (upd H' p o) := fun x u h => by
  rw [upd_ne (ne_of_none h hp)]; exact a x u h
theorem same_upd {H H' : Hp} {p : Addr} {o : HO} (a : Same H H') (hp : H' p = none) : Same H (upd H' p o) := fun x u h => by
  have h2 := a x u h
  rw [upd_ne (ne_of_none h2 hp)]; exact h2
theorem dec_sign (c : Nat) (z : Str) (e : Nat) (hz : z = mkS [e]) : decide (V.str ⟨#[c]⟩ = V.str z) = decide (c = e) := by
  rw [hz]
  by_cases h : c = e
  · subst h; rw [decide_eq_true rfl]; exact decide_eq_true rfl
  · rw [decide_eq_false h]
    refine decide_eq_false fun q => h ?_
    have e2 : mkS [c] = mkS [e] := V.str.inj q
    have e3 := mkS_inj e2
    injection e3
theorem tf (b : Bool) : b = true ∨ b = false := by cases b <;> simp
theorem bl_of {p : Prop} [Decidable p] {b : Bool} (h : decide p = b) : V.bl (decide p) = V.bl b := congrArg V.bl h
theorem at_mk : (("@" : Str)) = mkS [64] := by decide +kernel
/-! ### texts put together -/
theorem empty_mk : (("" : Str)) = mkS [] := by decide +kernel
theorem map_sV (zss : List (List Nat)) : zss.map sV = (zss.map mkS).map V.str := by
  rw [List.map_map]; rfl
theorem sum_len : ∀ zss : List (List Nat), ((zss.map mkS).map (·.length)).sum = zss.flatten.length
  | [] => rfl
  | z :: r => by
    rw [List.map_cons, List.map_cons, List.sum_cons, sum_len r, List.flatten_cons, List.length_append, mkS_len]
theorem joinL_nil : ∀ zss : List (List Nat), joinL [] zss = zss.flatten
  | [] => rfl
  | [z] => by show z = z ++ []; rw [List.append_nil]
  | z :: y :: r => by
    show z ++ ([] ++ joinL [] (y :: r)) = z ++ (y :: r).flatten
    rw [List.nil_append, joinL_nil (y :: r)]
theorem join_mk (zss : List (List Nat)) : Txt.join ("" : Str) (zss.map mkS) = mkS zss.flatten := by
  have h : tl (Txt.join ("" : Str) (zss.map mkS)) = zss.flatten := by
    rw [join_eq, tl_join, show (zss.map mkS).map tl = zss from (by rw [List.map_map]; exact List.map_id'' (fun _ => rfl) zss), empty_mk]
    exact joinL_nil zss
  rw [← h]; rfl
theorem flat_len {B : Nat} : ∀ {zss : List (List Nat)}, (∀ z ∈ zss, z.length ≤ B) → zss.flatten.length ≤ zss.length * B
  | [], _ => Nat.zero_le _
  | z :: r, h => by
    have ih := flat_len (zss := r) fun y hy => h y (List.mem_cons_of_mem _ hy)
    have hz := h z List.mem_cons_self
    rw [List.flatten_cons, List.length_append, List.length_cons, Nat.succ_mul]
    omega
theorem flat_one : ∀ {zss : List (List Nat)}, (∀ z ∈ zss, z.length = 1) → zss.flatten.length = zss.length
  | [], _ => rfl
  | z :: r, h => by
    rw [List.flatten_cons, List.length_append, List.length_cons, flat_one fun y hy => h y (List.mem_cons_of_mem _ hy), h z List.mem_cons_self]
    omega
theorem blank_mk : ((" " : Str)) = mkS [32] := by decide +kernel
theorem feed_mk : (("\n" : Str)) = mkS [10] := by decide +kernel
end Vf

set_option Elab.async false
set_option linter.all false
set_option maxRecDepth 100000
set_option maxHeartbeats 4000000
namespace Vf
open PySem PySem.Spec PyProof.Rows L2 TL
open PySem.Builtin.Str (occurrences subAt strSliceIndices)
/-! ### the first place of a sign -/
theorem occ_done (s sub : Str) (hi limit : Nat) : ∀ (l : List Nat) (st : Array Nat × Nat), limit ≤ st.fst.size → (forIn (m := Id) l st (StrLaws.occBody s sub hi limit)).run.fst = st.fst
  | [], st, h => rfl
  | a :: l, st, h => by
    rw [List.forIn_cons]
    unfold StrLaws.occBody
    rw [if_neg (fun c => Nat.lt_irrefl _ (Nat.lt_of_lt_of_le c.1.1.1 h))]
    exact occ_done s sub hi limit l st h
theorem before_idx {l : List Nat} {c a : Nat} (h : a < l.idxOf c) : l[a]? ≠ some c := by
  induction l generalizing a with
  | nil => simp
  | cons x r ih =>
    rw [List.idxOf_cons] at h
    cases hx : x == c with
    | true => rw [hx] at h; exact absurd h (Nat.not_lt_zero _)
    | false =>
      rw [hx] at h
      cases a with
      | zero => intro e; have e2 : x = c := Option.some.inj e; rw [e2, beq_self_eq_true] at hx; cases hx
      | succ a => exact ih (Nat.lt_of_succ_lt_succ h)
theorem at_idx {l : List Nat} {c : Nat} (h : c ∈ l) : l[l.idxOf c]? = some c := by
  induction l with
  | nil => cases h
  | cons x r ih =>
    rw [List.idxOf_cons]
    cases hx : x == c with
    | true =>
      have e2 : x = c := eq_of_beq hx
      rw [e2]; rfl
    | false =>
      have ne : x ≠ c := fun e => by rw [e, beq_self_eq_true] at hx; cases hx
      rcases List.mem_cons.mp h with e | e
      · exact absurd e.symm ne
      · exact ih e
theorem occ_run {x : Str} {c : Nat} (hc : c ∈ x.cps.toList) : ∀ (n a : Nat), a ≤ x.cps.toList.idxOf c → x.cps.toList.idxOf c < a + n →
    (forIn (m := Id) (List.range' a n) ((#[] : Array Nat), 0) (StrLaws.occBody x ⟨#[c]⟩ x.length 1)).run.fst = #[x.cps.toList.idxOf c]
  | 0, a, h1, h2 => absurd h2 (by omega)
  | n + 1, a, h1, h2 => by
    rw [List.range'_succ, List.forIn_cons]
    unfold StrLaws.occBody
    by_cases e : a = x.cps.toList.idxOf c
    · have g := (StrLaws.subAt_one x c a).mpr (by rw [e]; exact at_idx hc)
      rw [if_pos ⟨⟨⟨Nat.one_pos, Nat.zero_le _⟩, g.1⟩, g.2⟩]
      have := occ_done x ⟨#[c]⟩ x.length 1 (List.range' (a + 1) n) ((#[] : Array Nat).push a, a + (⟨#[c]⟩ : Str).length) (Nat.le_refl _)
      refine Eq.trans this ?_
      rw [← e]; rfl
    · have lt : a < x.cps.toList.idxOf c := by omega
      rw [if_neg (fun z => before_idx lt ((StrLaws.subAt_one x c a).mp ⟨z.1.2, z.2⟩))]
      exact occ_run hc n (a + 1) lt (by omega)
theorem occ_first {x : Str} {c : Nat} (hc : c ∈ x.cps.toList) : occurrences x ⟨#[c]⟩ 0 x.length 1 = [x.cps.toList.idxOf c] := by
  rw [StrLaws.occ_eq, occ_run hc _ 0 (Nat.zero_le _) ?_]
  have h := (List.getElem?_eq_some_iff.mp (at_idx hc)).1
  have e : x.length = x.cps.toList.length := len_cps x
  omega
theorem find_first {x : Str} {c : Nat} (hc : c ∈ x.cps.toList) : Txt.find x ⟨#[c]⟩ = ((x.cps.toList.idxOf c : Nat) : Int) := by
  unfold Txt.find
  rw [occ_first hc]
/-! ### z[lo::n] -/
def idxS (z : Str) (lo : Option Int) (n : Int) : List Nat := strSliceIndices lo none n z.length
def pickS (z : Str) (lo : Option Int) (n : Int) : Str :=
  if (n == 1 && (idxS z lo n).length == z.length) = true then z else ⟨((idxS z lo n).filterMap (z.cps[·]?)).toArray⟩
theorem fm_some {α β : Type} {f : α → Option β} {g : α → β} : ∀ (l : List α), (∀ k ∈ l, f k = some (g k)) → l.filterMap f = l.map g
  | [], _ => rfl
  | a :: l, h => by
    rw [List.filterMap_cons_some (h a List.mem_cons_self), fm_some l fun k hk => h k (List.mem_cons_of_mem _ hk)]; rfl
/-- the places lo, lo + n, .. below z's length -/
def upS (len lo n : Nat) : List Nat := (List.range ((len - lo + n - 1) / n)).map fun k => lo + n * k
theorem idx_up {z : Str} {lo n : Nat} (hn : 0 < n) (hl : lo ≤ z.length) : idxS z (some (lo : Int)) (n : Int) = upS z.length lo n := by
  unfold idxS strSliceIndices PySem.sliceRange upS
  have h1 : ¬ ((lo : Int) < 0) := by omega
  have h2 : (n : Int) > 0 := by omega
  have e1 : max (0 : Int) (min (lo : Int) (z.length : Int)) = (lo : Int) := by omega
  simp only [if_neg h1, if_pos h2, e1]
  by_cases c : (lo : Int) < (z.length : Int)
  · rw [if_pos c]
    have e2 : (((z.length : Int) - (lo : Int) + (n : Int) - 1) / (n : Int)).toNat = (z.length - lo + n - 1) / n := by
      rw [show ((z.length : Int) - (lo : Int) + (n : Int) - 1) = ((z.length - lo + n - 1 : Nat) : Int) by omega, ← Int.natCast_ediv, Int.toNat_natCast]
    rw [e2]
    refine List.map_congr_left fun k _ => ?_
    rw [show ((lo : Int) + (n : Int) * (k : Int)) = ((lo + n * k : Nat) : Int) by rw [Int.natCast_add, Int.natCast_mul], Int.toNat_natCast]
  · rw [if_neg c]
    have e3 : (z.length - lo + n - 1) / n = 0 := Nat.div_eq_of_lt (by omega)
    rw [e3]; rfl
theorem idx_none {z : Str} {n : Nat} (hn : 0 < n) : idxS z none (n : Int) = upS z.length 0 n := by
  rw [← idx_up (lo := 0) hn (Nat.zero_le _)]
  unfold idxS strSliceIndices
  have h2 : (n : Int) > 0 := by omega
  have h1 : ¬ (((0 : Nat) : Int) < 0) := by omega
  have e1 : max (0 : Int) (min ((0 : Nat) : Int) (z.length : Int)) = 0 := by omega
  simp only [if_pos h2, if_neg h1, e1]
theorem up_lt {len lo n k : Nat} (hn : 0 < n) (hk : k < (len - lo + n - 1) / n) : lo + n * k < len := by
  have h1 : k + 1 ≤ (len - lo + n - 1) / n := hk
  have h2 : (k + 1) * n ≤ len - lo + n - 1 := (Nat.le_div_iff_mul_le hn).mp h1
  rw [Nat.add_mul, Nat.one_mul, Nat.mul_comm k n] at h2
  omega
/-- the signs at lo, lo + n, .. -/
theorem pick_at {z : Str} {o : Option Int} {lo n : Nat} (hn : 0 < n) (e : idxS z o (n : Int) = upS z.length lo n) (k c : Nat) (h : (pickS z o (n : Int)).cps.toList[k]? = some c) : z.cps.toList[lo + n * k]? = some c := by
  unfold pickS at h
  by_cases cc : ((n : Int) == 1 && (idxS z o (n : Int)).length == z.length) = true
  · rw [if_pos cc] at h
    rw [Bool.and_eq_true] at cc
    have n1 : (n : Int) = 1 := eq_of_beq cc.1
    have n1 : n = 1 := by omega
    subst n1
    have l1 : (idxS z o ((1 : Nat) : Int)).length = z.length := eq_of_beq cc.2
    rw [e] at l1
    unfold upS at l1
    rw [List.length_map, List.length_range, Nat.div_one] at l1
    have hk := (List.getElem?_eq_some_iff.mp h).1
    have hz := len_cps z
    have : lo = 0 := by omega
    subst this
    rw [Nat.zero_add, Nat.one_mul]; exact h
  · rw [if_neg cc, e] at h
    have e2 : (upS z.length lo n).filterMap (z.cps[·]?) = (List.range ((z.length - lo + n - 1) / n)).map fun k => z.cps.toList.getD (lo + n * k) 0 := by
      unfold upS
      rw [List.filterMap_map]
      refine fm_some _ fun k hk => ?_
      have hlt := up_lt hn (List.mem_range.mp hk)
      rw [len_cps] at hlt
      show z.cps[lo + n * k]? = some (z.cps.toList.getD (lo + n * k) 0)
      rw [List.getD_eq_getElem?_getD, List.getElem?_eq_getElem hlt, ← Array.getElem?_toList, List.getElem?_eq_getElem hlt]; rfl
    rw [e2] at h
    have h : ((List.range ((z.length - lo + n - 1) / n)).map fun k => z.cps.toList.getD (lo + n * k) 0)[k]? = some c := h
    rw [List.getElem?_map] at h
    by_cases hk : k < (z.length - lo + n - 1) / n
    · have hlt := up_lt hn hk
      rw [len_cps] at hlt
      rw [List.getElem?_eq_getElem (by rw [List.length_range]; exact hk), List.getElem_range] at h
      have h : some (z.cps.toList.getD (lo + n * k) 0) = some c := h
      rw [← h, List.getD_eq_getElem?_getD, List.getElem?_eq_getElem hlt]; rfl
    · rw [List.getElem?_eq_none (by rw [List.length_range]; omega)] at h
      cases h
theorem pick_len {z : Str} {o : Option Int} {lo n : Nat} (hn : 0 < n) (e : idxS z o (n : Int) = upS z.length lo n) : (pickS z o (n : Int)).cps.toList.length ≤ z.length ∧ (lo < z.length → 0 < (pickS z o (n : Int)).cps.toList.length) := by
  have hz := len_cps z
  unfold pickS
  by_cases cc : ((n : Int) == 1 && (idxS z o (n : Int)).length == z.length) = true
  · rw [if_pos cc]; omega
  · rw [if_neg cc, e]
    show ((upS z.length lo n).filterMap (z.cps[·]?)).length ≤ _ ∧ (_ → 0 < ((upS z.length lo n).filterMap (z.cps[·]?)).length)
    have e2 : (upS z.length lo n).filterMap (z.cps[·]?) = (List.range ((z.length - lo + n - 1) / n)).map fun k => z.cps.toList.getD (lo + n * k) 0 := by
      unfold upS
      rw [List.filterMap_map]
      refine fm_some _ fun k hk => ?_
      have hlt := up_lt hn (List.mem_range.mp hk)
      rw [len_cps] at hlt
      show z.cps[lo + n * k]? = some (z.cps.toList.getD (lo + n * k) 0)
      rw [List.getD_eq_getElem?_getD, List.getElem?_eq_getElem hlt, ← Array.getElem?_toList, List.getElem?_eq_getElem hlt]; rfl
    rw [e2, List.length_map, List.length_range]
    refine ⟨?_, fun h => Nat.div_pos (by omega) hn⟩
    by_cases q : lo < z.length
    · rw [Nat.div_le_iff_le_mul hn]
      have : z.length * n ≥ z.length - lo := Nat.le_trans (Nat.sub_le _ _) (Nat.le_mul_of_pos_right _ hn)
      omega
    · rw [Nat.div_eq_of_lt (by omega)]; exact Nat.zero_le _
def tStep (te : TE) (tl ts : TO) : TE := fun σ H Q => te σ H fun x H1 => tl σ H1 fun l H2 => ts σ H2 fun k H3 => ∃ (z : Str) (n : Int), x = .str z ∧ k = some n ∧ 0 < n ∧ z.length ≤ 100000 ∧ (pickS z l n).length ≤ 100000 ∧ Q (.str (pickS z l n)) H3
theorem pe_step {X : Cx} {e st : Expr} {lo : Option Expr} {te : TE} {tl ts : TO} {p2 pos : Pos} (he : PE X e te) (hl : PO X lo tl) (hs : PO X (some st) ts) : PE X (.Subscript e (.Slice lo none (some st) p2) pos) (tStep te tl ts) := by
  refine ⟨fun pins s σ H Q I h => ?_⟩
  refine Subscript_ (thn (he.run pins s σ H _ I h) fun v s1 ⟨x, H1, I1, r1, q1⟩ => ?_)
  refine wpAny_Slice (thn (hl.run pins s1 σ H1 _ I1 q1) fun vl s2 ⟨l, H2, I2, pl, q2⟩ => thn (po_none.run pins s2 σ H2 (fun o H3 => o = none ∧ H3 = H2) I2 ⟨rfl, rfl⟩) fun vu s3 ⟨u, H3, I3, pu, eu, e3⟩ => ?_)
  subst eu e3
  refine thn (hs.run pins s3 σ H3 _ I3 q2) fun vs s4 ⟨k, H4, I4, ps, q3⟩ => ?_
  obtain ⟨z, n, rfl, rfl, hn, hz, hp, q⟩ := q3
  have I5 : Inv X pins σ H4 { s4 with heap := s4.heap.push { cls := .type "slice", data := .fields #[vl, vu, vs] } } := I4.kept (t' := s4.toks) fun b ob q => Heap.get?_push_of_some _ q
  obtain ⟨t, rfl⟩ := r1
  obtain ⟨l', rfl, rfl⟩ := IsPart.raw pl
  obtain ⟨u', rfl, hu'⟩ := IsPart.raw pu
  obtain ⟨n', rfl, hn'⟩ := IsPart.raw ps
  cases u' with
  | some u => cases hu'
  | none =>
  cases n' with
  | none => cases hn'
  | some n' =>
    have en : n'.1 = n := Option.some.inj hn'
    subst en
    refine tail_any (ops := [.ref s4.heap.objs.size, .str z t]) (typeIs_str _ _ _) F.slot_str_getitem.lookup ?_ (by with_unfolding_all rfl)
    refine wpAny_getItem_str_slice (l := l') (u := none) (st := some n') ⟨_, Heap.get?_push_size _ rfl, rfl, rfl⟩ ?_ ?_
    · show (n'.1 == 0) = false
      exact beq_eq_false_iff_ne.mpr (by omega)
    · show Made.post (if (n'.1 == 1 && (idxS z (l'.map (·.1)) n'.1).length == z.length) = true then Made.val (.str z t) else Made.str ⟨((idxS z (l'.map (·.1)) n'.1).filterMap (z.cps[·]?)).toArray⟩) (EP X pins σ Q) _
      unfold pickS at q hp
      by_cases c : (n'.1 == 1 && (idxS z (l'.map (·.1)) n'.1).length == z.length) = true
      · rw [if_pos c] at q ⊢
        exact ⟨.str z, H4, I5, ⟨t, rfl⟩, q⟩
      · rw [if_neg c] at q hp ⊢
        exact ⟨big_ok hp, .str _, H4, I5.tok _, ⟨_, rfl⟩, q⟩
end Vf

set_option Elab.async false
set_option linter.all false
set_option maxRecDepth 100000
set_option maxHeartbeats 4000000
namespace Vf
open PySem PySem.Spec PyProof.Rows L2 TL
def manyN : List (List Nat) → Nat
  | [] => 1
  | s :: r => s.length * manyN r
def PosP (p : List (List Nat)) : Prop := ∀ s ∈ p, 0 < s.length
theorem manyN_pos : ∀ {p : List (List Nat)}, PosP p → 0 < manyN p
  | [], _ => Nat.one_pos
  | s :: r, h => Nat.mul_pos (h s List.mem_cons_self) (manyN_pos fun x hx => h x (List.mem_cons_of_mem _ hx))
theorem manyN_foldl : ∀ (p : List (List Nat)) (a : Nat), p.foldl (fun m s => m * s.length) a = a * manyN p
  | [], a => (Nat.mul_one a).symm
  | s :: r, a => by
    rw [List.foldl_cons, manyN_foldl r, Nat.mul_assoc]; rfl
theorem manyN_append : ∀ (q r : List (List Nat)), manyN (q ++ r) = manyN q * manyN r
  | [], r => (Nat.one_mul _).symm
  | s :: q, r => by
    show s.length * manyN (q ++ r) = s.length * manyN q * manyN r
    rw [manyN_append q r, Nat.mul_assoc]
theorem manyN_one (s : List Nat) : manyN [s] = s.length := Nat.mul_one _
def stemF : List (List Nat) → Nat → List Nat
  | [], _ => []
  | s :: r, k => s.getD (k / manyN r) 0 :: stemF r (k % manyN r)
theorem stemF_length : ∀ (p : List (List Nat)) (k : Nat), (stemF p k).length = p.length
  | [], _ => rfl
  | s :: r, k => by show (stemF r _).length + 1 = r.length + 1; rw [stemF_length]
theorem stemF_snoc : ∀ (q : List (List Nat)) (s : List Nat) (k : Nat), PosP (q ++ [s]) → k < manyN (q ++ [s]) → stemF (q ++ [s]) k = stemF q (k / s.length) ++ [s.getD (k % s.length) 0]
  | [], s, k, h, hk => by
    have hk : k < s.length := by rw [List.nil_append, manyN_one] at hk; exact hk
    show [s.getD (k / 1) 0] = [s.getD (k % s.length) 0]
    rw [Nat.div_one, Nat.mod_eq_of_lt hk]
  | t :: q, s, k, h, hk => by
    have hp : PosP (q ++ [s]) := fun x hx => h x (List.mem_cons_of_mem _ hx)
    have m0 := manyN_pos hp
    have ih := stemF_snoc q s (k % manyN (q ++ [s])) hp (Nat.mod_lt _ m0)
    show t.getD (k / manyN (q ++ [s])) 0 :: stemF (q ++ [s]) (k % manyN (q ++ [s])) = (t.getD (k / s.length / manyN q) 0 :: stemF q (k / s.length % manyN q)) ++ [s.getD (k % s.length) 0]
    rw [ih, manyN_append, manyN_one, Nat.mul_comm (manyN q) s.length, ← Nat.div_div_eq_div_mul, Nat.mod_mul_right_div_self, Nat.mod_mul_right_mod]
    rfl
theorem snoc_lt {q : List (List Nat)} {s : List Nat} {k : Nat} (h : 0 < s.length) (hk : k < manyN (q ++ [s])) : k / s.length < manyN q := by
  rw [manyN_append, manyN_one] at hk
  exact (Nat.div_lt_iff_lt_mul h).mpr hk
theorem idx_nodup : ∀ {s : List Nat} {i : Nat}, s.Nodup → i < s.length → s.idxOf (s.getD i 0) = i
  | x :: r, 0, _, _ => by
    show (x :: r).idxOf x = 0
    rw [List.idxOf_cons]; simp
  | x :: r, i + 1, h, hi => by
    have h1 := List.nodup_cons.mp h
    have hi' : i < r.length := Nat.lt_of_succ_lt_succ hi
    have e : (x :: r).getD (i + 1) 0 = r.getD i 0 := rfl
    rw [e, List.idxOf_cons]
    have m : r.getD i 0 ∈ r := by
      rw [List.getD_eq_getElem?_getD, List.getElem?_eq_getElem hi']
      exact List.getElem_mem hi'
    have ne : (x == r.getD i 0) = false := beq_eq_false_iff_ne.mpr fun z => h1.1 (z ▸ m)
    rw [ne]
    show r.idxOf (r.getD i 0) + 1 = i + 1
    rw [idx_nodup h1.2 hi']
def placeF : Nat → List Nat → List (List Nat) → Nat
  | a, c :: t, s :: p => placeF (a * s.length + s.idxOf c) t p
  | a, _, _ => a
def allIn : List Nat → List (List Nat) → Bool
  | c :: t, s :: p => decide (c ∈ s) && allIn t p
  | _, _ => true
def Bel (t : List Nat) (p : List (List Nat)) : Prop := t.length = p.length ∧ allIn t p = true
instance (t : List Nat) (p : List (List Nat)) : Decidable (Bel t p) := inferInstanceAs (Decidable (_ ∧ _))
def placeAt : List (List (List Nat)) → List Nat → Nat → Option Nat
  | [], _, _ => none
  | p :: r, t, a => if Bel t p then some (a + placeF 0 t p) else placeAt r t (a + manyN p)
def stemAt : List (List (List Nat)) → Nat → List Nat
  | [], _ => []
  | p :: r, k => if manyN p ≤ k then stemAt r (k - manyN p) else stemF p k
def totalN : List (List (List Nat)) → Nat
  | [] => 0
  | p :: r => manyN p + totalN r
theorem div_lt_slot {s : List Nat} {m k : Nat} (hm : 0 < m) (hk : k < s.length * m) : k / m < s.length := (Nat.div_lt_iff_lt_mul hm).mpr hk
theorem allIn_stem : ∀ {p : List (List Nat)} {k : Nat}, PosP p → k < manyN p → allIn (stemF p k) p = true
  | [], _, _, _ => rfl
  | s :: r, k, h, hk => by
    have hp : PosP r := fun x hx => h x (List.mem_cons_of_mem _ hx)
    have m0 := manyN_pos hp
    have hi := div_lt_slot m0 hk
    have m : s.getD (k / manyN r) 0 ∈ s := by
      rw [List.getD_eq_getElem?_getD, List.getElem?_eq_getElem hi]
      exact List.getElem_mem hi
    show (decide (s.getD (k / manyN r) 0 ∈ s) && allIn (stemF r (k % manyN r)) r) = true
    rw [decide_eq_true m, allIn_stem hp (Nat.mod_lt _ m0)]; rfl
theorem bel_stem {p : List (List Nat)} {k : Nat} (h : PosP p) (hk : k < manyN p) : Bel (stemF p k) p := ⟨stemF_length p k, allIn_stem h hk⟩
theorem place_stem : ∀ {p : List (List Nat)} {k : Nat} (a : Nat), PosP p → (∀ s ∈ p, s.Nodup) → k < manyN p → placeF a (stemF p k) p = a * manyN p + k
  | [], k, a, _, _, hk => by
    have : k = 0 := Nat.lt_one_iff.mp hk
    subst this
    show a = a * 1 + 0
    omega
  | s :: r, k, a, h, hn, hk => by
    have hp : PosP r := fun x hx => h x (List.mem_cons_of_mem _ hx)
    have m0 := manyN_pos hp
    have hi := div_lt_slot m0 hk
    show placeF (a * s.length + s.idxOf (s.getD (k / manyN r) 0)) (stemF r (k % manyN r)) r = a * (s.length * manyN r) + k
    rw [idx_nodup (hn s List.mem_cons_self) hi, place_stem _ hp (fun x hx => hn x (List.mem_cons_of_mem _ hx)) (Nat.mod_lt _ m0), Nat.add_mul, Nat.mul_assoc, Nat.add_assoc, Nat.div_add_mod']
theorem stemAt_bel : ∀ {st : List (List (List Nat))} {k : Nat}, (∀ p ∈ st, PosP p) → k < totalN st → ∃ p ∈ st, Bel (stemAt st k) p
  | p :: r, k, h, hk => by
    by_cases c : manyN p ≤ k
    · have hk2 : k - manyN p < totalN r := by
        have e : totalN (p :: r) = manyN p + totalN r := rfl
        omega
      obtain ⟨q, hq, b⟩ := stemAt_bel (fun x hx => h x (List.mem_cons_of_mem _ hx)) hk2
      refine ⟨q, List.mem_cons_of_mem _ hq, ?_⟩
      show Bel (if manyN p ≤ k then _ else _) q
      rw [if_pos c]; exact b
    · refine ⟨p, List.mem_cons_self, ?_⟩
      show Bel (if manyN p ≤ k then _ else _) p
      rw [if_neg c]; exact bel_stem (h p List.mem_cons_self) (by omega)
def Apart : List (List (List Nat)) → Prop
  | [] => True
  | p :: r => (∀ q ∈ r, ∀ t, Bel t p → Bel t q → False) ∧ Apart r
theorem place_back : ∀ {st : List (List (List Nat))} {k : Nat} (a : Nat), (∀ p ∈ st, PosP p) → (∀ p ∈ st, ∀ s ∈ p, s.Nodup) → Apart st → k < totalN st → placeAt st (stemAt st k) a = some (a + k)
  | p :: r, k, a, h, hn, ap, hk => by
    by_cases c : manyN p ≤ k
    · have hk2 : k - manyN p < totalN r := by
        have e : totalN (p :: r) = manyN p + totalN r := rfl
        omega
      have e : stemAt (p :: r) k = stemAt r (k - manyN p) := if_pos c
      obtain ⟨q, hq, b⟩ := stemAt_bel (fun x hx => h x (List.mem_cons_of_mem _ hx)) hk2
      rw [e]
      show (if Bel (stemAt r (k - manyN p)) p then _ else _) = _
      rw [if_neg (fun z => ap.1 q hq _ z b), place_back _ (fun x hx => h x (List.mem_cons_of_mem _ hx)) (fun x hx => hn x (List.mem_cons_of_mem _ hx)) ap.2 hk2]
      congr 1
      omega
    · have e : stemAt (p :: r) k = stemF p k := if_neg c
      rw [e]
      show (if Bel (stemF p k) p then _ else _) = _
      rw [if_pos (bel_stem (h p List.mem_cons_self) (by omega)), place_stem 0 (h p List.mem_cons_self) (hn p List.mem_cons_self) (by omega), Nat.zero_mul, Nat.zero_add]
theorem bel_at : ∀ {t : List Nat} {p : List (List Nat)} {j : Nat} {s : List Nat}, Bel t p → p[j]? = some s → ∃ c, t[j]? = some c ∧ c ∈ s
  | [], [], j, s, _, h => by simp at h
  | [], _ :: _, _, _, b, _ => by have := b.1; simp at this
  | _ :: _, [], _, _, b, _ => by have := b.1; simp at this
  | c :: t, s0 :: p, 0, s, b, h => by
    have h : s0 = s := by simpa using h
    subst h
    have b2 : (decide (c ∈ s0) && allIn t p) = true := b.2
    rw [Bool.and_eq_true] at b2
    exact ⟨c, rfl, of_decide_eq_true b2.1⟩
  | c :: t, s0 :: p, j + 1, s, b, h => by
    have b2 : (decide (c ∈ s0) && allIn t p) = true := b.2
    rw [Bool.and_eq_true] at b2
    have b1 : t.length + 1 = p.length + 1 := b.1
    exact bel_at (t := t) (p := p) (j := j) ⟨by omega, b2.2⟩ h
/-! ### the stems, one by one -/
def rowsF : List (List Nat) → List (List Nat) → List (List Nat)
  | rows, [] => rows
  | rows, s :: p => rowsF (rows.flatMap fun r => s.map fun c => r ++ [c]) p
theorem flatM_at {α β : Type} {f : α → List β} {L : Nat} : ∀ (l : List α) (a b : Nat) (x : α), (∀ y ∈ l, (f y).length = L) → l[a]? = some x → b < L → (l.flatMap f)[a * L + b]? = (f x)[b]?
  | [], a, b, x, _, h, _ => by simp at h
  | y :: l, 0, b, x, hl, h, hb => by
    have h : y = x := by simpa using h
    subst h
    rw [List.flatMap_cons, Nat.zero_mul, Nat.zero_add, List.getElem?_append_left (by rw [hl y List.mem_cons_self]; exact hb)]
  | y :: l, a + 1, b, x, hl, h, hb => by
    have e := hl y List.mem_cons_self
    rw [List.flatMap_cons, List.getElem?_append_right (by rw [e, Nat.add_mul]; omega), e]
    have e2 : (a + 1) * L + b - L = a * L + b := by rw [Nat.add_mul]; omega
    rw [e2]
    exact flatM_at l a b x (fun z hz => hl z (List.mem_cons_of_mem _ hz)) h hb
theorem flatM_len {α β : Type} {f : α → List β} {L : Nat} : ∀ (l : List α), (∀ y ∈ l, (f y).length = L) → (l.flatMap f).length = l.length * L
  | [], _ => by simp
  | y :: l, h => by
    rw [List.flatMap_cons, List.length_append, h y List.mem_cons_self, flatM_len l fun z hz => h z (List.mem_cons_of_mem _ hz), List.length_cons, Nat.add_mul]
    omega
theorem rowsF_len : ∀ (p rows : List (List Nat)), (rowsF rows p).length = rows.length * manyN p
  | [], rows => (Nat.mul_one _).symm
  | s :: p, rows => by
    show (rowsF (rows.flatMap fun r => s.map fun c => r ++ [c]) p).length = _
    rw [rowsF_len p, flatM_len (L := s.length) rows fun y _ => by simp, Nat.mul_assoc]; rfl
theorem rowsF_at : ∀ (p rows : List (List Nat)) (a k : Nat) (x : List Nat), PosP p → rows[a]? = some x → k < manyN p → (rowsF rows p)[a * manyN p + k]? = some (x ++ stemF p k)
  | [], rows, a, k, x, _, h, hk => by
    have : k = 0 := Nat.lt_one_iff.mp hk
    subst this
    show rows[a * 1 + 0]? = some (x ++ [])
    rw [Nat.mul_one, Nat.add_zero, List.append_nil]; exact h
  | s :: p, rows, a, k, x, h, hx, hk => by
    have hp : PosP p := fun x hx => h x (List.mem_cons_of_mem _ hx)
    have m0 := manyN_pos hp
    have hi := div_lt_slot m0 hk
    have e1 : (rows.flatMap fun r => s.map fun c => r ++ [c])[a * s.length + k / manyN p]? = some (x ++ [s.getD (k / manyN p) 0]) := by
      rw [flatM_at (L := s.length) rows a (k / manyN p) x (fun y _ => by simp) hx hi, List.getElem?_map, List.getElem?_eq_getElem hi, List.getD_eq_getElem?_getD, List.getElem?_eq_getElem hi]; rfl
    have e2 := rowsF_at p _ _ (k % manyN p) _ hp e1 (Nat.mod_lt _ m0)
    show (rowsF (rows.flatMap fun r => s.map fun c => r ++ [c]) p)[a * (s.length * manyN p) + k]? = some (x ++ (s.getD (k / manyN p) 0 :: stemF p (k % manyN p)))
    have e3 : (a * s.length + k / manyN p) * manyN p + k % manyN p = a * (s.length * manyN p) + k := by
      rw [Nat.add_mul, Nat.mul_assoc, Nat.add_assoc, Nat.div_add_mod']
    rw [e3] at e2
    rw [e2, List.append_assoc]; rfl
def stemsL (st : List (List (List Nat))) : List (List Nat) := st.flatMap fun p => rowsF [[]] p
theorem stemsL_len : ∀ (st : List (List (List Nat))), (stemsL st).length = totalN st
  | [] => rfl
  | p :: r => by
    show (rowsF [[]] p ++ stemsL r).length = _
    rw [List.length_append, rowsF_len, stemsL_len r]
    show 1 * manyN p + _ = _
    rw [Nat.one_mul]; rfl
theorem stemsL_at : ∀ {st : List (List (List Nat))} {k : Nat}, (∀ p ∈ st, PosP p) → k < totalN st → (stemsL st)[k]? = some (stemAt st k)
  | p :: r, k, h, hk => by
    have el : (rowsF [[]] p).length = manyN p := by rw [rowsF_len]; show 1 * _ = _; rw [Nat.one_mul]
    show (rowsF [[]] p ++ stemsL r)[k]? = some (if manyN p ≤ k then stemAt r (k - manyN p) else stemF p k)
    by_cases c : manyN p ≤ k
    · have hk2 : k - manyN p < totalN r := by
        have e : totalN (p :: r) = manyN p + totalN r := rfl
        omega
      rw [if_pos c, List.getElem?_append_right (by rw [el]; exact c), el, stemsL_at (fun x hx => h x (List.mem_cons_of_mem _ hx)) hk2]
    · rw [if_neg c, List.getElem?_append_left (by rw [el]; omega)]
      have := rowsF_at p [[]] 0 k [] (h p List.mem_cons_self) rfl (by omega)
      rw [Nat.zero_mul, Nat.zero_add] at this
      exact this
end Vf

set_option Elab.async false
set_option linter.all false
set_option maxRecDepth 100000
set_option maxHeartbeats 4000000
namespace Vf
open PySem PySem.Spec PyProof.Rows L2 TL
/-- what the list of a comprehension holds: texts -/
def PvS (R : List Nat → Prop) (d l : Addr) (H : Hp) (D : Addr) (i : Nat) (H' : Hp) : Prop :=
  ∃ zss : List (List Nat), zss.length = i ∧ (∀ zs ∈ zss, R zs) ∧ Kp d H H' ∧ DI d l H' ∧ H' D = some (.lst (zss.map sV))
theorem PvS.start {R : List Nat → Prop} {d l D : Addr} {H : Hp} (hD : DI d l H) (nD : H D = none) : PvS R d l H D 0 (upd H D (.lst [])) :=
  ⟨[], rfl, (fun _ h => nomatch h), (Kp.refl d H).new nD, hD.new nD, upd_same⟩
theorem PvS.dice {R : List Nat → Prop} {d l D : Addr} {H H1 : Hp} {i : Nat} (p : PvS R d l H D i H1) : DI d l H1 := by
  obtain ⟨_, _, _, _, h, _⟩ := p
  exact h
theorem PvS.step {R : List Nat → Prop} {d l D : Addr} {H H1 H2 : Hp} {i : Nat} {zs : List Nat} (hD : DI d l H) (nD : H D = none) (p : PvS R d l H D i H1) (hi : i < 100000) (K2 : Kp d H1 H2) (D2 : DI d l H2) (r : R zs) :
    ∃ acc, H2 D = some (.lst acc) ∧ acc.length < sizeLine ∧ PvS R d l H D (i + 1) (upd H2 D (.lst (acc ++ [sV zs]))) := by
  obtain ⟨zss, hl, hR, K1, D1, e1⟩ := p
  have n1 := hD.nd nD
  have e2 : H2 D = some (.lst (zss.map sV)) := K2 _ _ n1.1 e1
  refine ⟨_, e2, ?_, zss ++ [zs], ?_, ?_, (K1.trans K2).mut nD, D2.at n1.1 n1.2, ?_⟩
  · rw [List.length_map, hl]
    exact Nat.lt_of_lt_of_le hi (by decide)
  · rw [List.length_append, hl]; rfl
  · intro z hz
    rcases List.mem_append.mp hz with h | h
    · exact hR z h
    · rw [List.mem_singleton.mp h]; exact r
  · rw [upd_same, List.map_append]; rfl
section
variable {P : Program} {w : World} {K : PySem.W.Frag} {mg : Str → Option Value} {base : Heap}
/-! ### pick, rare -/
/-- what is picked from -/
def Row (K : PySem.W.Frag) (H : Hp) (d : Addr) (row : V) (xs : List V) : Prop :=
  (∃ a, row = .ref a ∧ a ≠ d ∧ SqL K H a xs) ∨ ∃ zs, row = sV zs ∧ xs = zs.map fun c => sV [c]
def spPick (K : PySem.W.Frag) : Sp := fun vs H Q _ => ∃ (d l : Addr) (row : V) (xs : List V), vs = [.ref d, row] ∧ DI d l H ∧ Row K H d row xs ∧ 0 < xs.length ∧ xs.length ≤ 1000 ∧
  ∀ H' v, Kp d H H' → DI d l H' → v ∈ xs → Q v H'
theorem at_draw {xs : List V} {r : Int} (h : 0 < xs.length) (h1 : (xs.length : Int) < 2 → r = 0) (h2 : 2 ≤ (xs.length : Int) → 0 ≤ r ∧ r < (xs.length : Int)) :
    ∃ (j : Nat) (hj : j < xs.length), r = (j : Int) := by
  by_cases h3 : 2 ≤ (xs.length : Int)
  · have ⟨a, b⟩ := h2 h3
    exact ⟨r.toNat, by omega, by omega⟩
  · exact ⟨0, h, by rw [h1 (by omega)]; rfl⟩
theorem ok_pick (T : Txt K mg) : FnOk P w K mg base CX0 2 T.a_law_pick T.d_law_pick ["_law_d", "_law_row"] (spPick K) := by
  have G_law_draw : FnOk P w K mg base CX0 1 T.a_law_draw T.d_law_draw ["_law_d", "_law_many"] spDraw := ok_draw T
  refine T.D_law_pick.F.ok sc_law_pick (fun vs H Q E h => ?_) (fun cdv A outer s H vs Q E hr h => ?_)
  · obtain ⟨d, l, row, xs, rfl, _⟩ := h
    rfl
  · obtain ⟨d, l, row, xs, rfl, hD, hR, h0, hx, q⟩ := h
    refine ⟨_, (pss_one (ps_ret (pe_ix ix_seq (pv 1) (pe_call G_law_draw (hr.mono (by decide)) (by rfl) T.D_law_draw.G T.D_law_draw.F.kp T.D_law_draw.B .nil pass0 (pa_cons (pv 0) (pa_cons (pe_callB call_len (by rfl) T.n_len PySem.boot_len (pa_cons (pv 1) pa_nil)) pa_nil))) (fun _ _ => rfl)))), ?_⟩
    have hlen : LenV K row H xs.length := by
      rcases hR with ⟨a, rfl, _, hS⟩ | ⟨zs, rfl, rfl⟩
      · exact .inl ⟨_, hS, rfl⟩
      · rw [List.length_map] at hx ⊢
        refine ⟨?_, (mkS_len zs).symm⟩
        rw [mkS_len]
        exact Nat.le_trans hx (by decide)
    refine ⟨_, rfl, _, rfl, _, rfl, _, _, rfl, hlen, d, l, _, rfl, hD, by omega, fun H' r k D' e1 e2 => ?_⟩
    obtain ⟨j, hj, rfl⟩ := at_draw h0 e1 e2
    rcases hR with ⟨a, rfl, nd, hS⟩ | ⟨zs, rfl, rfl⟩
    · exact .inl ⟨a, xs, _, xs[j], rfl, rfl, k.sq nd hS, atI_nat (List.getElem?_eq_getElem hj), q H' _ k D' (List.getElem_mem hj)⟩
    · have hj2 : j < zs.length := by rw [List.length_map] at hj; exact hj
      refine .inr (.inr ⟨mkS zs, _, zs[j], rfl, rfl, ?_, ?_, q H' _ k D' (List.mem_map.mpr ⟨zs[j], List.getElem_mem hj2, rfl⟩)⟩)
      · rw [mkS_len]; rw [List.length_map] at hx; exact Nat.le_trans hx (by decide)
      · rw [mkS_cps]; exact atI_nat (List.getElem?_eq_getElem hj2)
def spRare : Sp := fun vs H Q _ => ∃ (d l : Addr) (m : Int), vs = [.ref d, .int m] ∧ DI d l H ∧ m ≤ 1000000 ∧ ∀ H' b, Kp d H H' → DI d l H' → Q (.bl b) H'
/-! ### run, word -/
def spRun : Sp := fun vs H Q _ => ∃ (d l : Addr) (cs : List Nat) (n : Int), vs = [.ref d, sV cs, .int n] ∧ DI d l H ∧ 0 < cs.length ∧ cs.length ≤ 1000 ∧ 0 ≤ n ∧ n ≤ 1000 ∧
  ∀ H' zs, Kp d H H' → DI d l H' → (zs.length : Int) = n → (∀ c ∈ zs, c ∈ cs) → Q (sV zs) H'
/-- texts of one sign each -/
def One (cs zs : List Nat) : Prop := ∃ c, zs = [c] ∧ c ∈ cs
theorem one_flat {cs : List Nat} : ∀ {zss : List (List Nat)}, (∀ z ∈ zss, One cs z) → zss.flatten.length = zss.length ∧ ∀ c ∈ zss.flatten, c ∈ cs
  | [], _ => ⟨rfl, fun _ h => nomatch h⟩
  | z :: r, h => by
    obtain ⟨c, rfl, hc⟩ := h z List.mem_cons_self
    have ⟨a, b⟩ := one_flat (zss := r) fun y hy => h y (List.mem_cons_of_mem _ hy)
    rw [List.flatten_cons]
    refine ⟨by rw [List.length_append, a]; show 1 + r.length = r.length + 1; omega, fun x hx => ?_⟩
    rcases List.mem_append.mp hx with e | e
    · rw [List.mem_singleton.mp e]; exact hc
    · exact b x e
theorem pick_one {d l : Addr} {cs : List Nat} {H : Hp} {Q : VK} (hD : DI d l H) (h0 : 0 < cs.length) (hx : cs.length ≤ 1000) (q : ∀ H' zs, Kp d H H' → DI d l H' → One cs zs → Q (sV zs) H') : spPick K [.ref d, sV cs] H Q E0 := by
  refine ⟨d, l, _, _, rfl, hD, .inr ⟨cs, rfl, rfl⟩, by rw [List.length_map]; exact h0, by rw [List.length_map]; exact hx, fun H' v k D' hv => ?_⟩
  obtain ⟨c, hc, rfl⟩ := List.mem_map.mp hv
  exact q H' _ k D' ⟨c, rfl, hc⟩
def spWord : Sp := fun vs H Q _ => ∃ (d l : Addr) (lo hi : Int), vs = [.ref d, .int lo, .int hi] ∧ DI d l H ∧ 0 ≤ lo ∧ lo ≤ hi ∧ hi ≤ 900 ∧
  ∀ H' zs, Kp d H H' → DI d l H' → lo ≤ (zs.length : Int) → (zs.length : Int) ≤ hi → (∀ c ∈ zs, cW c = true) → Q (sV zs) H'
end
end Vf

set_option Elab.async false
set_option linter.all false
set_option maxRecDepth 100000
set_option maxHeartbeats 4000000
namespace Vf
open PySem PySem.Spec PyProof.Rows L2 TL
/-- two values are the same data, at most n - 1 tuples deep -/
def Eqv : Nat → Hp → V → V → Prop
  | 0, _, _, _ => False
  | n + 1, H, v, u => ((∃ z, v = .str z ∧ u = .str z) ∨ (∃ i, v = .int i ∧ u = .int i) ∨ (v = .non ∧ u = .non)) ∨
      ∃ (a b : Addr) (xs ys : List V), v = .ref a ∧ u = .ref b ∧ H a = some (.tup xs) ∧ H b = some (.tup ys) ∧ xs.length = ys.length ∧ xs.length ≤ 100000 ∧ ∀ (i : Nat) x y, xs[i]? = some x → ys[i]? = some y → Eqv n H x y
def spExact (n : Nat) : Sp := fun vs H Q _ => ∃ (v u : V), vs = [v, u] ∧ Eqv n H v u ∧ Q (.bl true) H
theorem eq_self {H : Hp} {Q : VK} {x : V} (q : Q (.bl true) H) : Q (.bl (decide (x = x))) H := by
  rw [decide_eq_true rfl]; exact q
section
variable {P : Program} {w : World} {K : PySem.W.Frag} {mg : Str → Option Value} {base : Heap}
theorem ok_exact (T : Txt K mg) : ∀ n : Nat, FnOk P w K mg base CX0 (n + 1) T.a_law_exact T.d_law_exact ["_law_told", "_law_due"] (spExact n)
  | 0 => by
    refine T.D_law_exact.F.ok sc_law_exact (fun vs H Q E h => ?_) (fun cdv A outer s H vs Q E hr h => ?_)
    · obtain ⟨v, u, rfl, _⟩ := h
      rfl
    · obtain ⟨v, u, rfl, hE, q⟩ := h
      exact hE.elim
  | n + 1 => by
    have G_law_exact : FnOk P w K mg base CX0 (n + 1) T.a_law_exact T.d_law_exact ["_law_told", "_law_due"] (spExact n) := ok_exact T n
    refine T.D_law_exact.F.ok sc_law_exact (fun vs H Q E h => ?_) (fun cdv A outer s H vs Q E hr h => ?_)
    · obtain ⟨v, u, rfl, _⟩ := h
      rfl
    · obtain ⟨v, u, rfl, hE, q⟩ := h
      refine ⟨_, (pss_cons (ps_if (pt_val (pe_callB call_isi (by rfl) T.n_isinstance (by decide +kernel) (pa_cons (pv 1) (pa_cons (pe_bltn (v := .ty "tuple") (by rfl) T.n_tuple (by decide +kernel) rfl) pa_nil)))) (pss_cons (ps_if (PW.pt (pw_or (pt_not (pt_val (pe_callB call_isi (by rfl) T.n_isinstance (by decide +kernel) (pa_cons (pv 0) (pa_cons (pe_bltn (v := .ty "tuple") (by rfl) T.n_tuple (by decide +kernel) rfl) pa_nil))))) (pw_or1 (pt_cmpR op_ne (pe_callB call_len (by rfl) T.n_len PySem.boot_len (pa_cons (pv 0) pa_nil)) (pe_callB call_len (by rfl) T.n_len PySem.boot_len (pa_cons (pv 1) pa_nil)) (nomark _))))) (pss_one (ps_ret pe_bl)) pss_nil)
      (pss_cons (ps_for PassesOwn.never rfl (pi_range1 (by rfl) T.n_range (pa_cons (pe_callB call_len (by rfl) T.n_len PySem.boot_len (pa_cons (pv 1) pa_nil)) pa_nil)) (pg_name (i := 2) sc_law_exact.nd rfl (.inl rfl)) (pss_one (ps_if (pt_not (pt_val (pe_call G_law_exact hr (by rfl) T.D_law_exact.G T.D_law_exact.F.kp T.D_law_exact.B .nil pass0 (pa_cons (pe_ix ix_seq (pv 0) (pv 2) (fun _ _ => rfl)) (pa_cons (pe_ix ix_seq (pv 1) (pv 2) (fun _ _ => rfl)) pa_nil))))) (pss_one (ps_ret pe_bl)) pss_nil)))
      (pss_one (ps_ret pe_bl)))) pss_nil)
      (pss_cons (ps_if (pt_cmpR op_isN (pv 1) pe_non (nomark _)) (pss_one (ps_ret (pe_cmpR op_isN (pv 0) pe_non (nomark _)))) pss_nil)
      (pss_cons (ps_if (pt_val (pe_callB call_isi (by rfl) T.n_isinstance (by decide +kernel) (pa_cons (pv 1) (pa_cons (pe_bltn (v := .ty "bool") (by rfl) T.n_bool (by decide +kernel) rfl) pa_nil)))) (pss_one (ps_ret (pe_and (pe_callB call_isi (by rfl) T.n_isinstance (by decide +kernel) (pa_cons (pv 0) (pa_cons (pe_bltn (v := .ty "bool") (by rfl) T.n_bool (by decide +kernel) rfl) pa_nil))) (pe_one (pe_cmpR op_eq (pv 0) (pv 1) (nomark _)))))) pss_nil)
      (pss_cons (ps_if (pt_val (pe_callB call_isi (by rfl) T.n_isinstance (by decide +kernel) (pa_cons (pv 1) (pa_cons (pe_bltn (v := .ty "int") (by rfl) T.n_int (by decide +kernel) rfl) pa_nil)))) (pss_one (ps_ret (pe_and (pe_callB call_isi (by rfl) T.n_isinstance (by decide +kernel) (pa_cons (pv 0) (pa_cons (pe_bltn (v := .ty "int") (by rfl) T.n_int (by decide +kernel) rfl) pa_nil))) (pe_and (pe_not (pe_callB call_isi (by rfl) T.n_isinstance (by decide +kernel) (pa_cons (pv 0) (pa_cons (pe_bltn (v := .ty "bool") (by rfl) T.n_bool (by decide +kernel) rfl) pa_nil)))) (pe_one (pe_cmpR op_eq (pv 0) (pv 1) (nomark _))))))) pss_nil)
      (pss_one (ps_ret (pe_and (pe_callB call_isi (by rfl) T.n_isinstance (by decide +kernel) (pa_cons (pv 0) (pa_cons (pe_bltn (v := .ty "str") (by rfl) T.n_str (by decide +kernel) rfl) pa_nil))) (pe_one (pe_cmpR op_eq (pv 0) (pv 1) (nomark _)))))))))), ?_⟩
      rcases hE with (⟨z, rfl, rfl⟩ | ⟨i, rfl, rfl⟩ | ⟨rfl, rfl⟩) | ⟨a, b, xs, ys, rfl, rfl, ha, hb, el, en, hE⟩
      · refine ⟨_, rfl, _, _, .type "str", .type "tuple", false, rfl, .ty _, .base (.str _), kit_ty (by decide +kernel), _, rfl, ?_⟩
        refine ⟨_, rfl, rfl, false, bl_of (decide_eq_false (fun e => by cases e)), ?_⟩
        refine ⟨_, rfl, _, _, .type "str", .type "bool", false, rfl, .ty _, .base (.str _), kit_ty (by decide +kernel), _, rfl, ?_⟩
        refine ⟨_, rfl, _, _, .type "str", .type "int", false, rfl, .ty _, .base (.str _), kit_ty (by decide +kernel), _, rfl, ?_⟩
        exact ⟨_, rfl, _, _, .type "str", .type "str", true, rfl, .ty _, .base (.str _), kit_ty (by decide +kernel), true, rfl, _, rfl, _, rfl, rfl, eq_self q⟩
      · refine ⟨_, rfl, _, _, .type "int", .type "tuple", false, rfl, .ty _, .base (.int _), kit_ty (by decide +kernel), _, rfl, ?_⟩
        refine ⟨_, rfl, rfl, false, bl_of (decide_eq_false (fun e => by cases e)), ?_⟩
        refine ⟨_, rfl, _, _, .type "int", .type "bool", false, rfl, .ty _, .base (.int _), kit_ty (by decide +kernel), _, rfl, ?_⟩
        refine ⟨_, rfl, _, _, .type "int", .type "int", true, rfl, .ty _, .base (.int _), kit_ty (by decide +kernel), _, rfl, ?_⟩
        exact ⟨_, rfl, _, _, .type "int", .type "int", true, rfl, .ty _, .base (.int _), kit_ty (by decide +kernel), true, rfl, _, rfl, _, _, .type "int", .type "bool", false, rfl, .ty _, .base (.int _), kit_ty (by decide +kernel), false, rfl, true, rfl, _, rfl, _, rfl, rfl, eq_self q⟩
      · refine ⟨_, rfl, _, _, .type "NoneType", .type "tuple", false, rfl, .ty _, .base .non, kit_ty (by decide +kernel), _, rfl, ?_⟩
        exact ⟨_, rfl, rfl, true, bl_of (decide_eq_true rfl), _, rfl, rfl, eq_self q⟩
      · refine ⟨_, rfl, _, _, .type "tuple", .type "tuple", true, rfl, .ty _, .base (.tup hb), kit_ty (by decide +kernel), _, rfl, ?_⟩
        refine ⟨_, rfl, _, _, .type "tuple", .type "tuple", true, rfl, .ty _, .base (.tup ha), kit_ty (by decide +kernel), _, rfl, ?_⟩
        refine ⟨_, rfl, _, _, rfl, .inr ⟨_, SqT.of ha, rfl⟩, _, rfl, _, _, rfl, .inr ⟨_, SqT.of hb, rfl⟩, rfl, false, ?_, ?_⟩
        · rw [el, decide_eq_true rfl]; rfl
        refine ⟨_, rfl, _, _, rfl, .inr ⟨_, SqT.of hb, rfl⟩, _, rfl, by omega, by omega, ?_⟩
        refine for_range (lo := 0) (n := ((ys.length : Nat) : Int).toNat) (fun i σ' H' => H' = H ∧ ∃ x2 : Option V, σ' = [some (.ref a), some (.ref b), x2]) ⟨rfl, none, rfl⟩ ?_ ?_
        · rintro i σ' H' hi ⟨rfl, x2, rfl⟩
          have hi2 : i < ys.length := by omega
          have hi1 : i < xs.length := by omega
          have gx : xs[i]? = some xs[i] := List.getElem?_eq_getElem hi1
          have gy : ys[i]? = some ys[i] := List.getElem?_eq_getElem hi2
          have e0 : ((0 : Int) + (i : Int)) = (i : Int) := Int.zero_add _
          refine ⟨_, rfl, _, rfl, .inr (.inl ⟨a, xs, _, _, rfl, rfl, SqT.of ha, at_of e0 gx, ?_⟩)⟩
          refine ⟨_, rfl, _, rfl, .inr (.inl ⟨b, ys, _, _, rfl, rfl, SqT.of hb, at_of e0 gy, ?_⟩)⟩
          exact ⟨_, _, rfl, hE i _ _ gx gy, true, rfl, rfl, _, rfl⟩
        · rintro σ' H' ⟨rfl, x2, rfl⟩
          exact q
end
end Vf

set_option Elab.async false
set_option linter.all false
set_option maxRecDepth 100000
set_option maxHeartbeats 4000000
namespace Vf
open PySem PySem.Spec PyProof.Rows L2 TL
theorem map_at {α β : Type} {f : α → β} {l : List α} {i : Nat} {y : β} (h : (l.map f)[i]? = some y) : ∃ x, l[i]? = some x ∧ f x = y := by
  rw [List.getElem?_map] at h
  cases e : l[i]? with
  | none => rw [e] at h; cases h
  | some x => rw [e] at h; exact ⟨x, rfl, Option.some.inj h⟩
theorem drop_g {α : Type} {l : List α} {i : Nat} {x : α} (h : l[i]? = some x) : l.drop i = x :: l.drop (i + 1) := by
  have ⟨h1, h2⟩ := List.getElem?_eq_some_iff.mp h
  rw [List.drop_eq_getElem_cons h1, h2]
theorem lt_sz {n : Nat} (h : n < 100000) : n < sizeLine := Nat.lt_of_lt_of_le h (by decide)
abbrev Pat := List (List Nat)
/-- a pattern as it stands -/
def PatV (H : Hp) (v : V) (p : Pat) : Prop := ∃ a, v = .ref a ∧ H a = some (.tup (p.map sV))
def StkL (H : Hp) (vs : List V) (st : List Pat) : Prop := vs.length = st.length ∧ ∀ (i : Nat) (p : Pat), st[i]? = some p → ∃ v : V, vs[i]? = some v ∧ PatV H v p
def StkV (H : Hp) (v : V) (st : List Pat) : Prop := ∃ a vs, v = .ref a ∧ H a = some (.tup vs) ∧ StkL H vs st
structure PatOk (p : Pat) : Prop where
  pos : PosP p
  len : p.length ≤ 8
  sl : ∀ s ∈ p, s.length ≤ 36
structure Good (st : List Pat) : Prop where
  len : st.length ≤ 8
  ne : 0 < st.length
  pl : ∀ p ∈ st, 0 < p.length
  ok : ∀ p ∈ st, PatOk p
  nd : ∀ p ∈ st, ∀ s ∈ p, s.Nodup
  ap : Apart st
theorem PatV.same {H H' : Hp} {v : V} {p : Pat} (h : PatV H v p) (k : Same H H') : PatV H' v p := by
  obtain ⟨a, e, q⟩ := h
  exact ⟨a, e, k _ _ q⟩
theorem StkL.same {H H' : Hp} {vs : List V} {st : List Pat} (h : StkL H vs st) (k : Same H H') : StkL H' vs st := ⟨h.1, fun i p e => by
  obtain ⟨v, e1, q⟩ := h.2 i p e
  exact ⟨v, e1, q.same k⟩⟩
theorem StkV.same {H H' : Hp} {v : V} {st : List Pat} (h : StkV H v st) (k : Same H H') : StkV H' v st := by
  obtain ⟨a, vs, e, q, r⟩ := h
  exact ⟨a, vs, e, k _ _ q, r.same k⟩
theorem StkL.at {H : Hp} {vs : List V} {st : List Pat} {i : Nat} {x : V} (h : StkL H vs st) (hx : vs[i]? = some x) : ∃ p, st[i]? = some p ∧ PatV H x p := by
  have hi := (List.getElem?_eq_some_iff.mp hx).1
  have hi2 : i < st.length := by rw [← h.1]; exact hi
  obtain ⟨v, e, q⟩ := h.2 i st[i] (List.getElem?_eq_getElem hi2)
  rw [hx] at e
  cases e
  exact ⟨_, List.getElem?_eq_getElem hi2, q⟩
theorem mem_of_at {α : Type} {l : List α} {i : Nat} {x : α} (h : l[i]? = some x) : x ∈ l := List.mem_of_getElem? h
theorem PatOk.many : ∀ {p : Pat} {n : Nat}, (∀ s ∈ p, s.length ≤ 36) → p.length ≤ n → manyN p ≤ 36 ^ n
  | [], n, _, _ => Nat.pow_pos (by decide)
  | s :: r, 0, _, h => absurd h (by simp)
  | s :: r, n + 1, hs, h => by
    rw [Nat.pow_succ, Nat.mul_comm]
    exact Nat.mul_le_mul (hs s List.mem_cons_self) (PatOk.many (fun x hx => hs x (List.mem_cons_of_mem _ hx)) (Nat.le_of_succ_le_succ h))
theorem PatOk.le {p : Pat} (h : PatOk p) : manyN p ≤ 2821109907456 := Nat.le_trans (PatOk.many (n := 8) h.sl h.len) (by decide)
theorem PatOk.part {p q r : Pat} (h : PatOk p) (e : p = q ++ r) : PosP q ∧ PosP r := by
  subst e
  exact ⟨fun s hs => h.pos s (List.mem_append_left _ hs), fun s hs => h.pos s (List.mem_append_right _ hs)⟩
section
variable {P : Program} {w : World} {K : PySem.W.Frag} {mg : Str → Option Value} {base : Heap}
def spMany : Sp := fun vs H Q _ => ∃ (v : V) (p : Pat), vs = [v] ∧ PatV H v p ∧ PatOk p ∧ Q (.int (manyN p : Nat)) H
theorem ok_pattern_many (T : Txt K mg) : FnOk P w K mg base CX0 1 T.a_pattern_many T.d_pattern_many ["pattern"] spMany := by
  refine T.D_pattern_many.F.ok sc_pattern_many (fun vs H Q E h => ?_) (fun cdv A outer s H vs Q E hr h => ?_)
  · obtain ⟨v, p, rfl, _⟩ := h
    rfl
  · obtain ⟨v, p, rfl, ⟨a, rfl, e⟩, hp, q⟩ := h
    refine ⟨_, (pss_cons (ps_set (i := 1) sc_pattern_many.nd rfl (.inl rfl) pe_int)
      (pss_cons (ps_for PassesOwn.never rfl (pi_tup (pv 0)) (pg_name (i := 2) sc_pattern_many.nd rfl (.inl rfl)) (pss_one (ps_aug (i := 1) sc_pattern_many.nd rfl (.inl rfl) (pe_callB call_len_str (by rfl) T.n_len PySem.boot_len (pa_cons (pv 2) pa_nil)) iop_mul)))
      (pss_one (ps_ret (pv 1))))), ?_⟩
    refine ⟨_, rfl, a, rfl, ⟨_, SqT.of e⟩, ?_⟩
    refine for_tup (K := K) (a := a) (xs := p.map sV) (fun i σ' H' => H' = H ∧ ∃ (z : Int) (x : Option V), σ' = [some (.ref a), some (.int z), x] ∧ z * ((manyN (p.drop i) : Nat) : Int) = ((manyN p : Nat) : Int)) ⟨rfl, 1, none, rfl, Int.one_mul _⟩ ?_ ?_ ?_
    · rintro i σ' H' _ ⟨rfl, _⟩
      exact SqT.of e
    · rintro i x σ' H' hx ⟨rfl, z, x2, rfl, hz⟩
      obtain ⟨s, hs, rfl⟩ := map_at hx
      have l36 := hp.sl s (mem_of_at hs)
      rw [drop_g hs] at hz
      refine ⟨_, rfl, _, rfl, mkS s, rfl, by rw [mkS_len]; exact big_ok (by omega), _, _, rfl, rfl, .inr ⟨by rw [mkS_len]; omega, by rw [mkS_len]; omega⟩, ?_⟩
      refine ⟨rfl, _, _, rfl, ?_⟩
      rw [mkS_len, Int.mul_assoc, ← Int.natCast_mul]
      exact hz
    · rintro σ' H' ⟨rfl, z, x, rfl, hz⟩
      rw [List.length_map, List.drop_length] at hz
      have hz : z * (1 : Int) = _ := hz
      rw [Int.mul_one] at hz
      subst hz
      exact ⟨_, rfl, q⟩
def spTotal : Sp := fun vs H Q _ => ∃ (v : V) (st : List Pat), vs = [v] ∧ StkV H v st ∧ Good st ∧ ∀ H', Same H H' → Q (.int (totalN st : Nat)) H'
theorem totalN_snoc : ∀ (st : List Pat) (i : Nat) (p : Pat), st[i]? = some p → totalN (st.take (i + 1)) = totalN (st.take i) + manyN p
  | q :: r, 0, p, h => by
    have h : q = p := Option.some.inj h
    subst h
    show manyN q + 0 = 0 + manyN q
    omega
  | q :: r, i + 1, p, h => by
    show manyN q + totalN (r.take (i + 1)) = manyN q + totalN (r.take i) + manyN p
    rw [totalN_snoc r i p h]; omega
/-- what the list of a comprehension holds: numbers -/
def PvI (H : Hp) (D : Addr) (f : Nat → Int) (i : Nat) (H' : Hp) : Prop := Same H H' ∧ ∃ ns : List Int, ns.length = i ∧ ns.sum = f i ∧ H' D = some (.lst (ns.map V.int))
theorem sum_snoc (ns : List Int) (z : Int) : (ns ++ [z]).sum = ns.sum + z := by
  rw [List.sum_append]; simp
theorem ok_stems_many (T : Txt K mg) : FnOk P w K mg base CX0 2 T.a_stems_many T.d_stems_many ["stock"] spTotal := by
  have G_pattern_many : FnOk P w K mg base CX0 1 T.a_pattern_many T.d_pattern_many ["pattern"] spMany := ok_pattern_many T
  refine T.D_stems_many.F.ok sc_stems_many (fun vs H Q E h => ?_) (fun cdv A outer s H vs Q E hr h => ?_)
  · obtain ⟨v, st, rfl, _⟩ := h
    rfl
  · obtain ⟨v, st, rfl, ⟨a, us, rfl, e, hS⟩, hg, q⟩ := h
    refine ⟨_, (pss_one (ps_ret (pe_callB (cr_sum (by rfl)) (by rfl) T.n_sum (by decide +kernel) (pa_cons (pe_lc (own := [("pattern", 1)]) (g := gName 1) (tt := tYes) rfl sc_stems_many.nd (pi_tup (pv 0)) (blkOk_by (own := [("pattern", 1)]) (N := ["stock", "pattern"]) (sc := defScope s_stems_many) (by decide +kernel)) (fun _ _ _ _ _ => (pg_name (i := 1) sc_stems_many.nd rfl (.inl rfl))) (fun _ _ _ _ _ => pts_nil) (fun _ _ _ _ _ => (pe_call G_pattern_many (hr.mono (by decide)) (by rfl) T.D_pattern_many.G T.D_pattern_many.F.kp T.D_pattern_many.B .nil pass0 (pa_cons (pv 1) pa_nil)))) pa_nil)))), ?_⟩
    refine ⟨_, rfl, a, rfl, ⟨_, SqT.of e⟩, fun D nD => ?_⟩
    refine lc_tup (K := K) (a := a) (xs := us) (PvI H D fun i => ((totalN (st.take i) : Nat) : Int)) ⟨same_upd (Same.refl H) nD, [], rfl, rfl, upd_same⟩ ?_ ?_ ?_
    · rintro i H' _ ⟨k, _⟩
      exact SqT.of (k _ _ e)
    · rintro i x H' hx ⟨k, ns, l1, l2, l3⟩
      obtain ⟨p, hp, hv⟩ := hS.at hx
      have hi := (List.getElem?_eq_some_iff.mp hx).1
      refine ⟨rfl, ?_⟩
      refine ⟨_, rfl, x, p, rfl, hv.same k, hg.ok p (mem_of_at hp), _, l3, ?_, same_mut k nD, ns ++ [((manyN p : Nat) : Int)], ?_, ?_, ?_⟩
      · rw [List.length_map, l1]; have h1 := hS.1; have h2 := hg.len; exact lt_sz (by omega)
      · rw [List.length_append, l1]; rfl
      · show (ns ++ [((manyN p : Nat) : Int)]).sum = ((totalN (st.take (i + 1)) : Nat) : Int)
        rw [sum_snoc, l2, totalN_snoc st i p hp, Int.natCast_add]
      · rw [upd_same, List.map_append]; rfl
    · rintro H' ⟨k, ns, l1, l2, l3⟩
      refine ⟨D, ns, rfl, SqL.of l3, ?_⟩
      have l2 : ns.sum = ((totalN (st.take us.length) : Nat) : Int) := l2
      rw [l2, hS.1, List.take_length]
      exact q _ k
end
end Vf

set_option Elab.async false
set_option linter.all false
set_option maxRecDepth 100000
set_option maxHeartbeats 4000000
namespace Vf
open PySem PySem.Spec PyProof.Rows L2 TL RT
theorem walk_revT {K : PySem.W.Frag} {a : Addr} {xs : List V} : Walk (RT.ItvT K a xs.length) xs.length (fun H => SqT K H a xs) (fun i H x H' => H' = H ∧ xs[xs.length - 1 - i]? = some x) :=
  ⟨fun i _ hi q => ⟨hi, xs, xs[xs.length - 1 - i]'(by omega), q, by simp [show xs.length - 1 - i < xs.length by omega]⟩, fun _ _ => Nat.le_refl _, fun _ _ _ _ _ q y => ⟨y.1, y.2 xs q⟩⟩
def sgn (c : Nat) : V := sV [c]
theorem flatO : ∀ l : List Nat, (l.map fun c => [c]).flatten = l
  | [] => rfl
  | c :: r => by rw [List.map_cons, List.flatten_cons, flatO r]; rfl
section
variable {P : Program} {w : World} {K : PySem.W.Frag} {mg : Str → Option Value} {base : Heap}
def spStem : Sp := fun vs H Q _ => ∃ (v : V) (p : Pat) (k : Nat), vs = [v, .int (k : Int)] ∧ PatV H v p ∧ PatOk p ∧ k < manyN p ∧ ∀ H', Same H H' → Q (sV (stemF p k)) H'
theorem ok_stem_in (T : Txt K mg) : FnOk P w K mg base CX0 1 T.a_stem_in T.d_stem_in ["pattern", "k"] spStem := by
  refine T.D_stem_in.F.ok sc_stem_in (fun vs H Q E h => ?_) (fun cdv A outer s H vs Q E hr h => ?_)
  · obtain ⟨v, p, k, rfl, _⟩ := h
    rfl
  · obtain ⟨v, p, k, rfl, ⟨a, rfl, e⟩, hp, hk, q⟩ := h
    refine ⟨_, (pss_cons (ps_set (i := 2) sc_stem_in.nd rfl (.inl rfl) (pe_lst pa_nil))
      (pss_cons (ps_for PassesOwn.never rfl (pi_revA (by rfl) T.n_reversed (pv 0)) (pg_name (i := 3) sc_stem_in.nd rfl (.inl rfl)) (pss_cons (ps_asg (pe_callB call_divmod (by rfl) T.n_divmod (by decide +kernel) (pa_cons (pv 1) (pa_cons (pe_callB call_len_str (by rfl) T.n_len PySem.boot_len (pa_cons (pv 3) pa_nil)) pa_nil))) (pg_tup (by rfl) (pgs_cons (pg_name (i := 1) sc_stem_in.nd rfl (.inl rfl)) (pgs_cons (pg_name (i := 4) sc_stem_in.nd rfl (.inl rfl)) pgs_nil))))
      (pss_one (ps_expr (pe_bm PySem.F.plainAttrs_list PySem.F.slot_list_append PySem.F.type_list_append mt_append (pv 2) (pa_cons (pe_ix ix_str (pv 3) (pv 4) (fun _ _ => rfl)) pa_nil))))))
      (pss_one (ps_ret (pe_join pe_str (pe_revL (pv 2))))))), ?_⟩
    refine ⟨by show 0 ≤ sizeLine; decide, fun S nS => ?_⟩
    have S0 : Same H (upd H S (.lst [])) := same_upd (Same.refl H) nS
    refine ⟨_, rfl, a, p.map sV, rfl, .inr ⟨SqT.of (S0 _ _ e), ?_⟩⟩
    refine for_it walk_revT (fun j σ' H' => ∃ (kk : Nat) (dn : List Nat) (x3 x4 : Option V), σ' = [some (.ref a), some (.int (kk : Int)), some (.ref S), x3, x4] ∧ Same H H' ∧ H' S = some (.lst (dn.reverse.map sgn)) ∧
      kk < manyN (p.take (p.length - j)) ∧ stemF (p.take (p.length - j)) kk ++ dn = stemF p k ∧ dn.length = j) ⟨k, [], none, none, rfl, S0, upd_same, by rw [Nat.sub_zero, List.take_length]; exact hk, by rw [Nat.sub_zero, List.take_length, List.append_nil], rfl⟩ ?_ ?_ ?_
    · rintro i σ' H' _ ⟨_, _, _, _, _, k1, _⟩
      exact SqT.of (k1 _ _ e)
    · rintro j x σ' H' H'' hj ⟨kk, dn, x3, x4, rfl, k1, eS, lk, es, ld⟩ ⟨rfl, hx⟩
      rw [List.length_map] at hj hx
      obtain ⟨z, hz, rfl⟩ := map_at hx
      have l36 := hp.sl z (mem_of_at hz)
      have l0 := hp.pos z (mem_of_at hz)
      have e1 : p.length - j = (p.length - 1 - j) + 1 := by omega
      have et : p.take (p.length - j) = p.take (p.length - 1 - j) ++ [z] := by rw [e1, take_succ' hz]
      have e2 : p.length - (j + 1) = p.length - 1 - j := by omega
      rw [et] at lk es
      have hpp : PosP (p.take (p.length - 1 - j) ++ [z]) := by rw [← et]; exact fun s hs => hp.pos s (List.mem_of_mem_take hs)
      rw [stemF_snoc _ _ _ hpp lk] at es
      have lk2 := snoc_lt l0 lk
      refine ⟨_, rfl, _, rfl, mkS z, rfl, by rw [mkS_len]; exact big_ok (by omega), _, _, rfl, ⟨by rw [mkS_len]; omega, by rw [mkS_len]; omega⟩, fun T2 nT => ?_⟩
      rw [mkS_len, ← Int.natCast_ediv, ← Int.natCast_emod]
      have kT := same_upd (o := .tup [V.int ((kk / z.length : Nat) : Int), V.int ((kk % z.length : Nat) : Int)]) (Same.refl _) nT
      refine ⟨T2, _, rfl, SqT.of upd_same, rfl, _, _, rfl, _, _, rfl, rfl, ?_⟩
      have gi : kk % z.length < z.length := Nat.mod_lt _ l0
      have gc : (mkS z).cps.toList[kk % z.length]? = some (z.getD (kk % z.length) 0) := by
        rw [mkS_cps, List.getD_eq_getElem?_getD, List.getElem?_eq_getElem gi]; rfl
      refine ⟨.ref S, rfl, .inl ⟨rfl, _, .inl (.inl (kT _ _ eS))⟩, _, rfl, _, rfl, mkS z, _, _, rfl, rfl, by rw [mkS_len]; exact big_ok (by omega), atI_nat gc, S, _, _, rfl, rfl, kT _ _ eS, ?_, ?_⟩
      · rw [List.length_map, List.length_reverse, ld]; have := hp.len; exact lt_sz (by omega)
      · refine ⟨kk / z.length, z.getD (kk % z.length) 0 :: dn, _, _, rfl, same_mut (k1.trans kT) nS, ?_, ?_, ?_, ?_⟩
        · rw [upd_same, List.reverse_cons, List.map_append]; rfl
        · rw [e2]; exact lk2
        · rw [e2, ← es, List.append_assoc]; rfl
        · rw [List.length_cons, ld]
    · rintro σ' H' ⟨kk, dn, x3, x4, rfl, k1, eS, lk, es, ld⟩
      rw [List.length_map, Nat.sub_self, List.take_zero] at es
      have es : dn = stemF p k := es
      have ld2 : dn.length ≤ 8 := by rw [ld, List.length_map]; exact hp.len
      refine ⟨⟨_, rfl⟩, _, rfl, S, _, rfl, SqL.of eS, fun p2 np => ?_⟩
      rw [← List.map_reverse, List.reverse_reverse]
      have em : dn.map sgn = (dn.map fun c => [c]).map sV := by rw [List.map_map]; rfl
      refine ⟨_, p2, (dn.map fun c => [c]).map mkS, rfl, rfl, .inl (SqL.of (by rw [upd_same, em, map_sV])), ?_, ?_⟩
      · rw [sum_len, flatO, show (("" : Str)).length = 0 from by rw [empty_mk, mkS_len]; rfl]; omega
      · rw [join_mk, flatO, es]
        exact q _ (same_upd k1 np)
def spStemAt : Sp := fun vs H Q _ => ∃ (v : V) (st : List Pat) (k : Nat), vs = [v, .int (k : Int)] ∧ StkV H v st ∧ Good st ∧ k < totalN st ∧ ∀ H', Same H H' → Q (sV (stemAt st k)) H'
theorem ok_stem_at (T : Txt K mg) : FnOk P w K mg base CX0 2 T.a_stem_at T.d_stem_at ["stock", "k"] spStemAt := by
  have G_pattern_many : FnOk P w K mg base CX0 1 T.a_pattern_many T.d_pattern_many ["pattern"] spMany := ok_pattern_many T
  have G_stem_in : FnOk P w K mg base CX0 1 T.a_stem_in T.d_stem_in ["pattern", "k"] spStem := ok_stem_in T
  refine T.D_stem_at.F.ok sc_stem_at (fun vs H Q E h => ?_) (fun cdv A outer s H vs Q E hr h => ?_)
  · obtain ⟨v, st, k, rfl, _⟩ := h
    rfl
  · obtain ⟨v, st, k, rfl, ⟨a, us, rfl, e, hS⟩, hg, hk, q⟩ := h
    refine ⟨_, (pss_cons (ps_set (i := 2) sc_stem_at.nd rfl (.inl rfl) pe_int)
      (pss_cons (ps_set (i := 3) sc_stem_at.nd rfl (.inl rfl) (pe_call G_pattern_many (hr.mono (by decide)) (by rfl) T.D_pattern_many.G T.D_pattern_many.F.kp T.D_pattern_many.B .nil pass0 (pa_cons (pe_ix ix_tup (pv 0) (pv 2) (fun _ _ => rfl)) pa_nil)))
      (pss_cons (ps_while PassesOwn.never (pt_cmpR op_ge (pv 1) (pv 3) (nomark _)) (pss_cons (ps_aug (i := 1) sc_stem_at.nd rfl (.inl rfl) (pv 3) ip_sub)
      (pss_cons (ps_aug (i := 2) sc_stem_at.nd rfl (.inl rfl) pe_int ip_add)
      (pss_one (ps_set (i := 3) sc_stem_at.nd rfl (.inl rfl) (pe_call G_pattern_many (hr.mono (by decide)) (by rfl) T.D_pattern_many.G T.D_pattern_many.F.kp T.D_pattern_many.B .nil pass0 (pa_cons (pe_ix ix_tup (pv 0) (pv 2) (fun _ _ => rfl)) pa_nil)))))))
      (pss_one (ps_ret (pe_call G_stem_in (hr.mono (by decide)) (by rfl) T.D_stem_in.G T.D_stem_in.F.kp T.D_stem_in.B .nil pass0 (pa_cons (pe_ix ix_tup (pv 0) (pv 2) (fun _ _ => rfl)) (pa_cons (pv 1) pa_nil)))))))), ?_⟩
    have h0 := hg.ne
    obtain ⟨v0, g0, hv0⟩ := hS.2 0 st[0] (List.getElem?_eq_getElem h0)
    refine ⟨_, rfl, _, rfl, a, us, _, v0, rfl, rfl, SqT.of e, atI_nat (j := 0) g0, v0, _, rfl, hv0, hg.ok _ (List.getElem_mem h0), ?_⟩
    refine ⟨fun m σ' H' => H' = H ∧ ∃ (i kk : Nat) (p : Pat), m = kk ∧ σ' = [some (.ref a), some (.int (kk : Int)), some (.int (i : Int)), some (.int ((manyN p : Nat) : Int))] ∧ st[i]? = some p ∧ kk < totalN (st.drop i) ∧ stemAt (st.drop i) kk = stemAt st k,
      ⟨k, rfl, 0, k, st[0], rfl, rfl, List.getElem?_eq_getElem h0, hk, rfl⟩, fun m σ' H' hW => ?_⟩
    obtain ⟨rfl, i, kk, p, em, rfl, hp, lk, es⟩ := hW
    have hok := hg.ok p (mem_of_at hp)
    have m0 := manyN_pos hok.pos
    rw [drop_g hp] at lk es
    have et : totalN (p :: st.drop (i + 1)) = manyN p + totalN (st.drop (i + 1)) := rfl
    refine ⟨_, rfl, _, rfl, _, _, rfl, rfl, _, rfl, ite2 (fun c => ?_) (fun c => ?_)⟩
    · have c := of_decide_eq_true c
      have c2 : manyN p ≤ kk := by omega
      have es2 : stemAt (st.drop (i + 1)) (kk - manyN p) = stemAt st k := by rw [← es]; exact (if_pos c2).symm
      have lk2 : kk - manyN p < totalN (st.drop (i + 1)) := by omega
      have hi : i + 1 < st.length := by
        by_cases z : i + 1 < st.length
        · exact z
        · rw [List.drop_eq_nil_of_le (by omega)] at lk2; exact absurd lk2 (Nat.not_lt_zero _)
      obtain ⟨v1, g1, hv1⟩ := hS.2 (i + 1) st[i + 1] (List.getElem?_eq_getElem hi)
      refine ⟨fun σ'' H'' => H'' = H' ∧ σ'' = [some (.ref a), some (.int ((kk - manyN p : Nat) : Int)), some (.int ((i + 1 : Nat) : Int)), some (.int ((manyN st[i + 1] : Nat) : Int))], fun σ'' H'' hN => ?_, ?_⟩
      · obtain ⟨rfl, rfl⟩ := hN
        exact ⟨kk - manyN p, by omega, rfl, i + 1, _, _, rfl, rfl, List.getElem?_eq_getElem hi, lk2, es2⟩
      · refine ⟨_, rfl, _, rfl, _, _, rfl, rfl, _, rfl, _, _, rfl, rfl, ?_⟩
        refine ⟨_, rfl, _, rfl, a, us, _, v1, rfl, rfl, SqT.of e, atI_nat (j := i + 1) g1, v1, _, rfl, hv1, hg.ok _ (List.getElem_mem hi), rfl, ?_⟩
        rw [show ((kk - manyN p : Nat) : Int) = (kk : Int) - (manyN p : Int) by omega]
        rfl
    · have c2 : kk < manyN p := by
        have c3 : ¬ ((kk : Int) ≥ ((manyN p : Nat) : Int)) := fun z => c (decide_eq_true z)
        omega
      have es2 : stemF p kk = stemAt st k := by rw [← es]; exact (if_neg (by omega)).symm
      obtain ⟨v1, g1, hv1⟩ := hS.2 i p hp
      refine ⟨_, rfl, _, rfl, a, us, _, v1, rfl, rfl, SqT.of e, atI_nat g1, _, rfl, v1, p, kk, rfl, hv1, hok, c2, fun H2 s2 => ?_⟩
      rw [es2]
      exact q H2 s2
end
end Vf

set_option Elab.async false
set_option linter.all false
set_option maxRecDepth 100000
set_option maxHeartbeats 4000000
namespace Vf
open PySem PySem.Spec PyProof.Rows L2 TL RT
def optV : Option Nat → V
  | none => .non
  | some n => .int (n : Int)
theorem sgn_map (t : List Nat) : (mkS t).cps.toList.map (fun c => V.str ⟨#[c]⟩) = t.map sgn := rfl
section
variable {P : Program} {w : World} {K : PySem.W.Frag} {mg : Str → Option Value} {base : Heap}
theorem zs_str (H : Hp) (t : List Nat) : (Zs.S (mkS t)).has K H (t.map sgn) := rfl
theorem zs_tup {H : Hp} {a : Addr} {xs : List V} (e : H a = some (.tup xs)) : (Zs.T a).has K H xs := SqT.of e
def spBel : Sp := fun vs H Q _ => ∃ (t : List Nat) (v : V) (p : Pat), vs = [sV t, v] ∧ PatV H v p ∧ PatOk p ∧ t.length ≤ 100 ∧ ∀ H', Same H H' → Q (.bl (decide (Bel t p))) H'
theorem dec_len' {a b : Nat} : decide (V.int (a : Int) = V.int (b : Int)) = decide (a = b) := by
  by_cases h : a = b
  · subst h; rw [decide_eq_true (rfl : a = a)]; exact decide_eq_true rfl
  · rw [decide_eq_false h]
    exact decide_eq_false fun e => h (by have := V.int.inj e; omega)
theorem ok_belongs (T : Txt K mg) : FnOk P w K mg base CX0 1 T.a_belongs T.d_belongs ["stem", "pattern"] spBel := by
  refine T.D_belongs.F.ok sc_belongs (fun vs H Q E h => ?_) (fun cdv A outer s H vs Q E hr h => ?_)
  · obtain ⟨t, v, p, rfl, _⟩ := h
    rfl
  · obtain ⟨t, v, p, rfl, ⟨a, rfl, e⟩, hp, ht, q⟩ := h
    refine ⟨_, (pss_one (ps_ret (pe_and (pe_cmpR op_eq (pe_callB call_len_str (by rfl) T.n_len PySem.boot_len (pa_cons (pv 0) pa_nil)) (pe_callB call_len_seq (by rfl) T.n_len PySem.boot_len (pa_cons (pv 1) pa_nil)) (nomark _)) (pe_one (pe_callB (cr_all (by rfl)) (by rfl) T.n_all (by decide +kernel) (pa_cons (pe_lc (own := [("sign", 2), ("slot", 3)]) (g := (gTup K 2 (gCons (gName 2) (gCons (gName 3) gNil)))) (tt := tYes) rfl sc_belongs.nd (pi_zipM (by rfl) T.n_zip (pa_cons (pv 0) (pa_cons (pv 1) pa_nil))) (blkOk_by (own := [("sign", 2), ("slot", 3)]) (N := ["stem", "pattern", "sign", "slot"]) (sc := defScope s_belongs) (by decide +kernel)) (fun _ _ _ _ _ => (pg_tup (by rfl) (pgs_cons (pg_name (i := 2) sc_belongs.nd rfl (.inl rfl)) (pgs_cons (pg_name (i := 3) sc_belongs.nd rfl (.inl rfl)) pgs_nil)))) (fun _ _ _ _ _ => pts_nil) (fun _ _ _ _ _ => (pe_cmpR op_in_sign (pv 2) (pv 3) (by rfl)))) pa_nil)))))), ?_⟩
    have hpl := hp.len
    refine ⟨_, rfl, mkS t, rfl, by rw [mkS_len]; exact big_ok (by omega), _, rfl, _, _, rfl, .inr (SqT.of e), rfl, decide (t.length = p.length), ?_, ?_⟩
    · rw [mkS_len, List.length_map, dec_len']
    by_cases hl : t.length = p.length
    · rw [decide_eq_true hl]
      refine ⟨_, rfl, _, rfl, .S (mkS t), .T a, t.map sgn, p.map sV, rfl, zs_str H t, zs_tup e, fun D nD => ?_⟩
      refine lc_it (n := t.length) (walk_zipM (xs := t.map sgn) (ys := p.map sV) (by rw [List.length_map, List.length_map]; omega)) (fun i H' => Same H H' ∧ ∃ bs : List Bool, bs.length = i ∧ H' D = some (.lst (bs.map V.bl)) ∧ (bs.all id && allIn (t.drop i) (p.drop i)) = allIn t p)
        ⟨same_upd (Same.refl H) nD, [], rfl, upd_same, rfl⟩ ?_ ?_ ?_
      · rintro i H' _ ⟨k, _⟩
        exact ⟨zs_str H' t, zs_tup (k _ _ e)⟩
      · rintro i x H' H'' hi ⟨k, bs, l1, l2, l3⟩ ⟨Tt, x1, x2, rfl, nT, rfl, h1, h2⟩
        obtain ⟨c, hc, rfl⟩ := map_at h1
        obtain ⟨z, hz, rfl⟩ := map_at h2
        have kT := same_upd (o := .tup [sgn c, sV z]) (Same.refl H') nT
        rw [drop_g hc, drop_g hz] at l3
        refine ⟨Tt, _, rfl, SqT.of upd_same, rfl, _, _, rfl, _, _, rfl, rfl, rfl, ?_⟩
        refine ⟨_, rfl, _, rfl, c, mkS z, rfl, rfl, _, kT _ _ l2, by rw [List.length_map, l1]; exact lt_sz (by omega), same_mut (k.trans kT) nD, bs ++ [decide (c ∈ z)], ?_, ?_, ?_⟩
        · rw [List.length_append, l1]; rfl
        · rw [upd_same, List.map_append]; rfl
        · rw [List.all_append, ← l3]
          show ((bs.all id && (decide (c ∈ z) && true)) && _) = (bs.all id && (decide (c ∈ z) && _))
          rw [Bool.and_true, Bool.and_assoc]
      · rintro H' ⟨k, bs, l1, l2, l3⟩
        rw [List.drop_length, hl, List.drop_length] at l3
        have l3 : (bs.all id && true) = allIn t p := l3
        rw [Bool.and_true] at l3
        refine ⟨D, bs, rfl, SqL.of l2, ?_⟩
        have e2 : bs.all id = decide (Bel t p) := by
          rw [l3]
          cases h : allIn t p with
          | true => exact (decide_eq_true ⟨hl, h⟩).symm
          | false => exact (decide_eq_false fun b => by rw [b.2] at h; cases h).symm
        rw [e2]
        exact q _ k
    · rw [decide_eq_false hl]
      have e2 : decide (Bel t p) = false := decide_eq_false fun b => hl b.1
      rw [e2] at q
      exact q H (Same.refl H)
def spWithin : Sp := fun vs H Q _ => ∃ (t : List Nat) (v : V) (p : Pat), vs = [v, sV t] ∧ PatV H v p ∧ PatOk p ∧ t.length ≤ 100 ∧ Bel t p ∧ ∀ H', Same H H' → Q (.int ((placeF 0 t p : Nat) : Int)) H'
theorem allIn_at : ∀ {t : List Nat} {p : Pat} {i c : Nat} {z : List Nat}, allIn t p = true → t[i]? = some c → p[i]? = some z → c ∈ z
  | c :: t, z :: p, 0, _, _, h, h1, h2 => by
    cases h1
    cases h2
    have h : (decide (c ∈ z) && allIn t p) = true := h
    rw [Bool.and_eq_true] at h
    exact of_decide_eq_true h.1
  | c :: t, z :: p, i + 1, _, _, h, h1, h2 => by
    have h : (decide (c ∈ z) && allIn t p) = true := h
    rw [Bool.and_eq_true] at h
    exact allIn_at (t := t) (p := p) (i := i) h.2 h1 h2
theorem ok_place_within (T : Txt K mg) : FnOk P w K mg base CX0 1 T.a_place_within T.d_place_within ["pattern", "stem"] spWithin := by
  refine T.D_place_within.F.ok sc_place_within (fun vs H Q E h => ?_) (fun cdv A outer s H vs Q E hr h => ?_)
  · obtain ⟨t, v, p, rfl, _⟩ := h
    rfl
  · obtain ⟨t, v, p, rfl, ⟨a, rfl, e⟩, hp, ht, hb, q⟩ := h
    refine ⟨_, (pss_cons (ps_set (i := 2) sc_place_within.nd rfl (.inl rfl) pe_int)
      (pss_cons (ps_for PassesOwn.never rfl (pi_zipM (by rfl) T.n_zip (pa_cons (pv 1) (pa_cons (pv 0) pa_nil))) (pg_tup (by rfl) (pgs_cons (pg_name (i := 3) sc_place_within.nd rfl (.inl rfl)) (pgs_cons (pg_name (i := 4) sc_place_within.nd rfl (.inl rfl)) pgs_nil))) (pss_one (ps_set (i := 2) sc_place_within.nd rfl (.inl rfl) (pe_op op_add (pe_op op_mul (pv 2) (pe_callB call_len_str (by rfl) T.n_len PySem.boot_len (pa_cons (pv 4) pa_nil))) (pe_bm PySem.F.plainAttrs_str PySem.F.slot_str_find PySem.F.type_str_find mt_find (pv 4) (pa_cons (pv 3) pa_nil))))))
      (pss_one (ps_ret (pv 2))))), ?_⟩
    have hpl := hp.len
    have hl := hb.1
    refine ⟨_, rfl, _, rfl, .S (mkS t), .T a, t.map sgn, p.map sV, rfl, zs_str H t, zs_tup e, ?_⟩
    refine for_it (n := t.length) (walk_zipM (xs := t.map sgn) (ys := p.map sV) (by rw [List.length_map, List.length_map]; omega)) (fun i σ' H' => Same H H' ∧ ∃ (z : Nat) (x3 x4 : Option V), σ' = [some (.ref a), some (sV t), some (.int (z : Int)), x3, x4] ∧ placeF z (t.drop i) (p.drop i) = placeF 0 t p)
      ⟨Same.refl H, 0, none, none, rfl, rfl⟩ ?_ ?_ ?_
    · rintro i σ' H' _ ⟨k, _⟩
      exact ⟨zs_str H' t, zs_tup (k _ _ e)⟩
    · rintro i x σ' H' H'' hi ⟨k, m, x3, x4, rfl, l3⟩ ⟨Tt, x1, x2, rfl, nT, rfl, h1, h2⟩
      obtain ⟨c, hc, rfl⟩ := map_at h1
      obtain ⟨z, hz, rfl⟩ := map_at h2
      have kT := same_upd (o := .tup [sgn c, sV z]) (Same.refl H') nT
      have hcz := allIn_at hb.2 hc hz
      have l36 := hp.sl z (mem_of_at hz)
      rw [drop_g hc, drop_g hz] at l3
      refine ⟨Tt, _, rfl, SqT.of upd_same, rfl, _, _, rfl, _, _, rfl, rfl, ?_⟩
      refine ⟨_, rfl, _, rfl, mkS z, rfl, by rw [mkS_len]; exact big_ok (by omega), _, _, rfl, rfl, .inr ⟨by rw [mkS_len]; omega, by rw [mkS_len]; omega⟩, _, rfl, rfl, _, rfl, mkS z, ⟨#[c]⟩, rfl, rfl, _, _, rfl, rfl, ?_⟩
      rw [find_first (x := mkS z) hcz, mkS_len, mkS_cps]
      exact ⟨k.trans kT, m * z.length + z.idxOf c, _, _, rfl, l3⟩
    · rintro σ' H' ⟨k, m, x3, x4, rfl, l3⟩
      rw [List.drop_length, hl, List.drop_length] at l3
      have l3 : m = placeF 0 t p := l3
      rw [← l3] at q
      exact ⟨_, rfl, q _ k⟩
def spPlace : Sp := fun vs H Q _ => ∃ (v : V) (st : List Pat) (t : List Nat), vs = [v, sV t] ∧ StkV H v st ∧ Good st ∧ t.length ≤ 100 ∧ ∀ H', Same H H' → Q (optV (placeAt st t 0)) H'
theorem ok_place_in (T : Txt K mg) : FnOk P w K mg base CX0 2 T.a_place_in T.d_place_in ["stock", "stem"] spPlace := by
  have G_pattern_many : FnOk P w K mg base CX0 1 T.a_pattern_many T.d_pattern_many ["pattern"] spMany := ok_pattern_many T
  have G_belongs : FnOk P w K mg base CX0 1 T.a_belongs T.d_belongs ["stem", "pattern"] spBel := ok_belongs T
  have G_place_within : FnOk P w K mg base CX0 1 T.a_place_within T.d_place_within ["pattern", "stem"] spWithin := ok_place_within T
  refine T.D_place_in.F.ok sc_place_in (fun vs H Q E h => ?_) (fun cdv A outer s H vs Q E hr h => ?_)
  · obtain ⟨v, st, t, rfl, _⟩ := h
    rfl
  · obtain ⟨v, st, t, rfl, ⟨a, us, rfl, e, hS⟩, hg, ht, q⟩ := h
    refine ⟨_, (pss_cons (ps_set (i := 2) sc_place_in.nd rfl (.inl rfl) pe_int)
      (pss_cons (ps_for PassesOwn.never rfl (pi_tup (pv 0)) (pg_name (i := 3) sc_place_in.nd rfl (.inl rfl)) (pss_cons (ps_if (pt_val (pe_call G_belongs (hr.mono (by decide)) (by rfl) T.D_belongs.G T.D_belongs.F.kp T.D_belongs.B .nil pass0 (pa_cons (pv 1) (pa_cons (pv 3) pa_nil)))) (pss_one (ps_ret (pe_op op_add (pv 2) (pe_call G_place_within (hr.mono (by decide)) (by rfl) T.D_place_within.G T.D_place_within.F.kp T.D_place_within.B .nil pass0 (pa_cons (pv 3) (pa_cons (pv 1) pa_nil)))))) pss_nil)
      (pss_one (ps_aug (i := 2) sc_place_in.nd rfl (.inl rfl) (pe_call G_pattern_many (hr.mono (by decide)) (by rfl) T.D_pattern_many.G T.D_pattern_many.F.kp T.D_pattern_many.B .nil pass0 (pa_cons (pv 3) pa_nil)) ip_add))))
      (pss_one (ps_ret pe_non)))), ?_⟩
    refine ⟨_, rfl, a, rfl, ⟨_, SqT.of e⟩, ?_⟩
    refine for_tup (K := K) (a := a) (xs := us) (fun i σ' H' => Same H H' ∧ ∃ (m : Nat) (x : Option V), σ' = [some (.ref a), some (sV t), some (.int (m : Int)), x] ∧ placeAt (st.drop i) t m = placeAt st t 0) ⟨Same.refl H, 0, none, rfl, rfl⟩ ?_ ?_ ?_
    · rintro i σ' H' _ ⟨k, _⟩
      exact SqT.of (k _ _ e)
    · rintro i x σ' H' hx ⟨k, m, x3, rfl, l3⟩
      obtain ⟨p, hp, hv⟩ := hS.at hx
      have hok := hg.ok p (mem_of_at hp)
      rw [drop_g hp] at l3
      refine ⟨_, rfl, _, rfl, t, x, p, rfl, hv.same k, hok, ht, fun H2 s2 => ?_⟩
      refine ⟨_, rfl, ite2 (fun c => ?_) (fun c => ?_)⟩
      · have c := of_decide_eq_true c
        have l4 : some (m + placeF 0 t p) = placeAt st t 0 := by rw [← l3]; exact (if_pos c).symm
        refine ⟨_, rfl, _, rfl, _, rfl, t, x, p, rfl, hv.same (k.trans s2), hok, ht, c, fun H3 s3 => ?_⟩
        refine ⟨_, _, rfl, rfl, ?_⟩
        have := q H3 ((k.trans s2).trans s3)
        rw [← l4] at this
        have this : Q (.int ((m + placeF 0 t p : Nat) : Int)) H3 := this
        rw [Int.natCast_add] at this
        exact this
      · have c : ¬ Bel t p := fun z => c (decide_eq_true z)
        have l4 : placeAt (st.drop (i + 1)) t (m + manyN p) = placeAt st t 0 := by rw [← l3]; exact (if_neg c).symm
        refine ⟨_, rfl, _, rfl, x, p, rfl, hv.same (k.trans s2), hok, _, _, rfl, rfl, ?_⟩
        exact ⟨k.trans s2, m + manyN p, _, rfl, l4⟩
    · rintro σ' H' ⟨k, m, x3, rfl, l3⟩
      rw [hS.1, List.drop_length] at l3
      have := q H' k
      rw [← l3] at this
      exact this
end
end Vf

set_option Elab.async false
set_option linter.all false
set_option maxRecDepth 100000
set_option maxHeartbeats 4000000
namespace Vf
open PySem PySem.Spec PyProof.Rows L2 TL RT
theorem notN_none : (!decide (optV none = V.non)) = false := by rw [decide_eq_true (show optV none = V.non from rfl)]; rfl
theorem notN_some (m : Nat) : (!decide (optV (some m) = V.non)) = true := by rw [decide_eq_false (show ¬ optV (some m) = V.non from fun e => by cases e)]; rfl
section
variable {P : Program} {w : World} {K : PySem.W.Frag} {mg : Str → Option Value} {base : Heap}
/-! ### the law's own reckoning -/
theorem ok_law_many_of (T : Txt K mg) : FnOk P w K mg base CX0 1 T.a_law_many_of T.d_law_many_of ["_law_pattern"] spMany := by
  refine T.D_law_many_of.F.ok sc_law_many_of (fun vs H Q E h => ?_) (fun cdv A outer s H vs Q E hr h => ?_)
  · obtain ⟨v, p, rfl, _⟩ := h
    rfl
  · obtain ⟨v, p, rfl, ⟨a, rfl, e⟩, hp, q⟩ := h
    refine ⟨_, (pss_cons (ps_set (i := 1) sc_law_many_of.nd rfl (.inl rfl) pe_int)
      (pss_cons (ps_for PassesOwn.never rfl (pi_tup (pv 0)) (pg_name (i := 2) sc_law_many_of.nd rfl (.inl rfl)) (pss_one (ps_set (i := 1) sc_law_many_of.nd rfl (.inl rfl) (pe_op op_mul (pv 1) (pe_callB call_len_str (by rfl) T.n_len PySem.boot_len (pa_cons (pv 2) pa_nil))))))
      (pss_one (ps_ret (pv 1))))), ?_⟩
    refine ⟨_, rfl, a, rfl, ⟨_, SqT.of e⟩, ?_⟩
    refine for_tup (K := K) (a := a) (xs := p.map sV) (fun i σ' H' => H' = H ∧ ∃ (z : Int) (x : Option V), σ' = [some (.ref a), some (.int z), x] ∧ z * ((manyN (p.drop i) : Nat) : Int) = ((manyN p : Nat) : Int)) ⟨rfl, 1, none, rfl, Int.one_mul _⟩ ?_ ?_ ?_
    · rintro i σ' H' _ ⟨rfl, _⟩
      exact SqT.of e
    · rintro i x σ' H' hx ⟨rfl, z, x2, rfl, hz⟩
      obtain ⟨s, hs, rfl⟩ := map_at hx
      have l36 := hp.sl s (mem_of_at hs)
      rw [drop_g hs] at hz
      refine ⟨_, rfl, _, rfl, mkS s, rfl, by rw [mkS_len]; exact big_ok (by omega), _, _, rfl, rfl, .inr ⟨by rw [mkS_len]; omega, by rw [mkS_len]; omega⟩, ?_⟩
      refine ⟨rfl, _, _, rfl, ?_⟩
      rw [mkS_len, Int.mul_assoc, ← Int.natCast_mul]
      exact hz
    · rintro σ' H' ⟨rfl, z, x, rfl, hz⟩
      rw [List.length_map, List.drop_length] at hz
      have hz : z * (1 : Int) = _ := hz
      rw [Int.mul_one] at hz
      subst hz
      exact ⟨_, rfl, q⟩
/-- what is left of a place -/
def finP : Option Nat → List Nat → Pat → Option Nat
  | none, _, _ => none
  | some m, t, p => if allIn t p = true then some (placeF m t p) else none
def spPlaceL : Sp := fun vs H Q _ => ∃ (v : V) (st : List Pat) (t : List Nat), vs = [v, sV t] ∧ StkV H v st ∧ Good st ∧ t.length ≤ 100 ∧ Q (optV (placeAt st t 0)) H
theorem ok_law_place_of (T : Txt K mg) : FnOk P w K mg base CX0 2 T.a_law_place_of T.d_law_place_of ["_law_stock", "_law_text"] spPlaceL := by
  have G_law_many_of : FnOk P w K mg base CX0 1 T.a_law_many_of T.d_law_many_of ["_law_pattern"] spMany := ok_law_many_of T
  refine T.D_law_place_of.F.ok sc_law_place_of (fun vs H Q E h => ?_) (fun cdv A outer s H vs Q E hr h => ?_)
  · obtain ⟨v, st, t, rfl, _⟩ := h
    rfl
  · obtain ⟨v, st, t, rfl, ⟨a, us, rfl, e, hS⟩, hg, ht, q⟩ := h
    refine ⟨_, (pss_cons (ps_set (i := 2) sc_law_place_of.nd rfl (.inl rfl) pe_int)
      (pss_cons (ps_for PassesOwn.never rfl (pi_tup (pv 0)) (pg_name (i := 3) sc_law_place_of.nd rfl (.inl rfl)) (pss_cons (ps_set (i := 4) sc_law_place_of.nd rfl (.inl rfl) (pe_ifExp (pt_cmpR op_eq (pe_callB call_len_str (by rfl) T.n_len PySem.boot_len (pa_cons (pv 1) pa_nil)) (pe_callB call_len_seq (by rfl) T.n_len PySem.boot_len (pa_cons (pv 3) pa_nil)) (nomark _)) pe_int pe_non))
      (pss_cons (ps_for PassesOwn.never rfl (pi_range1 (by rfl) T.n_range (pa_cons (pe_callB call_len_seq (by rfl) T.n_len PySem.boot_len (pa_cons (pv 3) pa_nil)) pa_nil)) (pg_name (i := 5) sc_law_place_of.nd rfl (.inl rfl)) (pss_one (ps_if (PW.pt (pw_and (pt_cmpR op_notN (pv 4) pe_non (nomark _)) (pw_and1 (pt_cmpR op_in_sign (pe_ix ix_str (pv 1) (pv 5) (fun _ _ => rfl)) (pe_ix ix_tup (pv 3) (pv 5) (fun _ _ => rfl)) (by rfl))))) (pss_one (ps_set (i := 4) sc_law_place_of.nd rfl (.inl rfl) (pe_op op_add (pe_op op_mul (pv 4) (pe_callB call_len_str (by rfl) T.n_len PySem.boot_len (pa_cons (pe_ix ix_tup (pv 3) (pv 5) (fun _ _ => rfl)) pa_nil))) (pe_bm PySem.F.plainAttrs_str PySem.F.slot_str_index PySem.F.type_str_index mt_sindex (pe_ix ix_tup (pv 3) (pv 5) (fun _ _ => rfl)) (pa_cons (pe_ix ix_str (pv 1) (pv 5) (fun _ _ => rfl)) pa_nil))))) (pss_one (ps_set (i := 4) sc_law_place_of.nd rfl (.inl rfl) pe_non)))))
      (pss_cons (ps_if (pt_cmpR op_notN (pv 4) pe_non (nomark _)) (pss_one (ps_ret (pe_op op_add (pv 2) (pv 4)))) pss_nil)
      (pss_one (ps_set (i := 2) sc_law_place_of.nd rfl (.inl rfl) (pe_op op_add (pv 2) (pe_call G_law_many_of (hr.mono (by decide)) (by rfl) T.D_law_many_of.G T.D_law_many_of.F.kp T.D_law_many_of.B .nil pass0 (pa_cons (pv 3) pa_nil)))))))))
      (pss_one (ps_ret pe_non)))), ?_⟩
    refine ⟨_, rfl, a, rfl, ⟨_, SqT.of e⟩, ?_⟩
    refine for_tup (K := K) (a := a) (xs := us) (fun i σ' H' => H' = H ∧ ∃ (m : Nat) (x y z : Option V), σ' = [some (.ref a), some (sV t), some (.int (m : Int)), x, y, z] ∧ placeAt (st.drop i) t m = placeAt st t 0) ⟨rfl, 0, none, none, none, rfl, rfl⟩ ?_ ?_ ?_
    · rintro i σ' H' _ ⟨rfl, _⟩
      exact SqT.of e
    · rintro i x σ' H' hx ⟨rfl, m, x3, x4, x5, rfl, l3⟩
      obtain ⟨p, hp, pa, rfl, ep⟩ := hS.at hx
      have hok := hg.ok p (mem_of_at hp)
      have hpl := hok.len
      rw [drop_g hp] at l3
      refine ⟨_, rfl, mkS t, rfl, by rw [mkS_len]; exact big_ok (by omega), _, rfl, _, _, rfl, .inr (SqT.of ep), rfl, decide (t.length = p.length), ?_, ?_⟩
      · rw [mkS_len, List.length_map, dec_len']
      obtain ⟨o, ho⟩ : ∃ o : Option Nat, o = (if t.length = p.length then some 0 else none) := ⟨_, rfl⟩
      have hF : finP o t p = if Bel t p then some (placeF 0 t p) else none := by
        subst ho
        by_cases hl : t.length = p.length
        · rw [if_pos hl]
          show (if allIn t p = true then some (placeF 0 t p) else none) = _
          by_cases ha : allIn t p = true
          · rw [if_pos ha, if_pos ⟨hl, ha⟩]
          · rw [if_neg ha, if_neg fun z => ha z.2]
        · rw [if_neg hl, if_neg fun z => hl z.1]; rfl
      have hL : o ≠ none → t.length = p.length := by
        subst ho
        by_cases hl : t.length = p.length
        · exact fun _ => hl
        · rw [if_neg hl]; exact fun z => absurd rfl z
      have l4 : (match (if Bel t p then some (placeF 0 t p) else none : Option Nat) with | some k => some (m + k) | none => placeAt (st.drop (i + 1)) t (m + manyN p)) = placeAt st t 0 := by
        rw [← l3]
        by_cases hb : Bel t p
        · show _ = if Bel t p then _ else _
          rw [if_pos hb, if_pos hb]
        · show _ = if Bel t p then _ else _
          rw [if_neg hb, if_neg hb]
      rw [← hF] at l4
      have hod : (o = some 0 ∧ decide (t.length = p.length) = true) ∨ (o = none ∧ decide (t.length = p.length) = false) := by
        by_cases hl : t.length = p.length
        · rw [if_pos hl] at ho; exact .inl ⟨ho, decide_eq_true hl⟩
        · rw [if_neg hl] at ho; exact .inr ⟨ho, decide_eq_false hl⟩
      clear ho
      rcases hod with ⟨ho, hd⟩ | ⟨ho, hd⟩
      all_goals rw [hd]
      all_goals
        refine ⟨_, rfl, _, _, rfl, .inr (SqT.of ep), _, rfl, by rw [List.length_map]; omega, by rw [List.length_map]; omega, ?_⟩
        refine for_range (lo := 0) (n := (((p.map sV).length : Nat) : Int).toNat) (fun n σ' H2 => H2 = H' ∧ ∃ (o2 : Option Nat) (z : Option V), σ' = [some (.ref a), some (sV t), some (.int (m : Int)), some (.ref pa), some (optV o2), z] ∧ (o2 ≠ none → t.length = p.length) ∧ finP o2 (t.drop n) (p.drop n) = finP o t p)
          ⟨rfl, o, _, by subst ho; rfl, hL, rfl⟩ ?_ ?_
        · rintro n σ' H2 hn ⟨rfl, o2, z, rfl, hL2, hF2⟩
          have hn2 : n < p.length := by rw [List.length_map] at hn; omega
          have gz : p[n]? = some p[n] := List.getElem?_eq_getElem hn2
          have gz2 : (p.map sV)[n]? = some (sV p[n]) := by rw [List.getElem?_map, gz]; rfl
          have l36 := hok.sl p[n] (List.getElem_mem hn2)
          have e0 : ((0 : Int) + (n : Int)) = (n : Int) := Int.zero_add _
          cases o2 with
          | none =>
            refine ⟨_, rfl, rfl, false, congrArg V.bl notN_none, ?_⟩
            exact ⟨rfl, none, _, rfl, fun z => absurd rfl z, by rw [← hF2]; rfl⟩
          | some m2 =>
            have hl2 := hL2 (fun z => by cases z)
            have hn3 : n < t.length := by omega
            have gc : t[n]? = some t[n] := List.getElem?_eq_getElem hn3
            rw [drop_g gc, drop_g gz] at hF2
            refine ⟨_, rfl, rfl, true, congrArg V.bl (notN_some m2), ?_⟩
            refine ⟨_, rfl, _, rfl, mkS t, _, _, rfl, rfl, by rw [mkS_len]; exact big_ok (by omega), (by rw [e0]; exact atI_nat gc), _, rfl, _, rfl, pa, _, _, _, rfl, rfl, SqT.of ep, at_of e0 gz2, _, mkS p[n], rfl, rfl, ?_⟩
            rcases tf (decide (t[n] ∈ p[n])) with h2 | h2
            · have hm := of_decide_eq_true h2
              refine ⟨true, bl_of h2, ?_⟩
              refine ⟨_, rfl, _, rfl, _, rfl, pa, _, _, _, rfl, rfl, SqT.of ep, at_of e0 gz2, mkS p[n], rfl, by rw [mkS_len]; exact big_ok (by omega), _, _, rfl, rfl, .inr ⟨by rw [mkS_len]; omega, by rw [mkS_len]; omega⟩, ?_⟩
              refine ⟨_, rfl, _, rfl, pa, _, _, _, rfl, rfl, SqT.of ep, at_of e0 gz2, rfl, _, rfl, _, rfl, mkS t, _, _, rfl, rfl, by rw [mkS_len]; exact big_ok (by omega), (by rw [e0]; exact atI_nat gc), mkS p[n], ⟨#[t[n]]⟩, _, _, rfl, rfl, occ_first (x := mkS p[n]) hm, _, _, rfl, rfl, ?_⟩
              rw [mkS_len, mkS_cps]
              refine ⟨rfl, some (m2 * p[n].length + p[n].idxOf t[n]), _, rfl, fun _ => hl2, ?_⟩
              rw [← hF2]
              show (if allIn _ _ = true then _ else _) = (if (decide (t[n] ∈ p[n]) && allIn _ _) = true then _ else _)
              rw [h2, Bool.true_and]
              rfl
            · refine ⟨false, bl_of h2, ?_⟩
              refine ⟨rfl, none, _, rfl, fun z => absurd rfl z, ?_⟩
              rw [← hF2]
              show none = (if (decide (t[n] ∈ p[n]) && allIn _ _) = true then _ else _)
              rw [h2, Bool.false_and, if_neg Bool.false_ne_true]
        · rintro σ' H2 ⟨rfl, o2, z, rfl, hL2, hF2⟩
          have e1 : t.drop ((((p.map sV).length : Nat) : Int).toNat) = t.drop p.length := by rw [List.length_map, Int.toNat_natCast]
          have e2 : p.drop ((((p.map sV).length : Nat) : Int).toNat) = [] := by rw [List.length_map, Int.toNat_natCast, List.drop_length]
          rw [e1, e2] at hF2
          rw [← hF2] at l4
          cases o2 with
          | none =>
            refine ⟨_, rfl, rfl, false, congrArg V.bl notN_none, ?_⟩
            refine ⟨_, rfl, _, rfl, .ref pa, p, rfl, ⟨pa, rfl, ep⟩, hok, _, _, rfl, rfl, ?_⟩
            exact ⟨rfl, m + manyN p, _, _, _, rfl, l4⟩
          | some m2 =>
            have hl2 := hL2 (fun z => by cases z)
            rw [hl2.symm, List.drop_length] at l4
            have l4 : some (m + m2) = placeAt st t 0 := l4
            refine ⟨_, rfl, rfl, true, congrArg V.bl (notN_some m2), ?_⟩
            rw [← l4] at q
            exact ⟨_, rfl, _, rfl, _, _, rfl, rfl, q⟩
    · rintro σ' H' ⟨rfl, m, x3, x4, x5, rfl, l3⟩
      rw [hS.1, List.drop_length] at l3
      rw [← l3] at q
      exact q
end
end Vf

set_option Elab.async false
set_option linter.all false
set_option maxRecDepth 100000
set_option maxHeartbeats 4000000
namespace Vf
open PySem PySem.Spec PyProof.Rows L2 TL RT
theorem manyN_cons (s : List Nat) (r : Pat) : manyN (s :: r) = s.length * manyN r := rfl
theorem manyN_take_le {p : Pat} (h : PosP p) (j : Nat) : manyN (p.take j) ≤ manyN p := by
  have e : manyN p = manyN (p.take j) * manyN (p.drop j) := by rw [← manyN_append, List.take_append_drop]
  have h2 : 0 < manyN (p.drop j) := manyN_pos fun s hs => h s (List.mem_of_mem_drop hs)
  rw [e]
  exact Nat.le_mul_of_pos_right _ h2
theorem manyN_drop_le {p : Pat} (h : PosP p) (j : Nat) : manyN (p.drop j) ≤ manyN p := by
  have e : manyN p = manyN (p.take j) * manyN (p.drop j) := by rw [← manyN_append, List.take_append_drop]
  have h2 : 0 < manyN (p.take j) := manyN_pos fun s hs => h s (List.mem_of_mem_take hs)
  rw [e]
  exact Nat.le_mul_of_pos_left _ h2
theorem manyN_le_total : ∀ {st : List Pat} {p : Pat}, p ∈ st → manyN p ≤ totalN st
  | q :: r, p, h => by
    show manyN p ≤ manyN q + totalN r
    rcases List.mem_cons.mp h with rfl | h
    · exact Nat.le_add_right _ _
    · exact Nat.le_trans (manyN_le_total h) (Nat.le_add_left _ _)
theorem rowsF_snoc : ∀ (q rows : Pat) (s : List Nat), rowsF rows (q ++ [s]) = (rowsF rows q).flatMap fun r => s.map fun c => r ++ [c]
  | [], _, _ => rfl
  | t :: q, rows, s => rowsF_snoc q _ s
theorem rowsF_mem : ∀ (q rows : Pat) (n : Nat), (∀ r ∈ rows, r.length ≤ n) → ∀ r ∈ rowsF rows q, r.length ≤ n + q.length
  | [], _, _, h => h
  | t :: q, rows, n, h => by
    intro r hr
    have := rowsF_mem q _ (n + 1) (fun x hx => by
      obtain ⟨y, hy, hx⟩ := List.mem_flatMap.mp hx
      obtain ⟨c, _, rfl⟩ := List.mem_map.mp hx
      have := h y hy
      simp only [List.length_append, List.length_singleton]; omega) r hr
    rw [List.length_cons]; omega
section
variable {P : Program} {w : World} {K : PySem.W.Frag} {mg : Str → Option Value} {base : Heap}
def spStemOf : Sp := fun vs H Q _ => ∃ (v : V) (st : List Pat) (k : Nat), vs = [v, .int (k : Int)] ∧ StkV H v st ∧ Good st ∧ k < totalN st ∧ Q (sV (stemAt st k)) H
theorem ok_law_stem_of (T : Txt K mg) : FnOk P w K mg base CX0 2 T.a_law_stem_of T.d_law_stem_of ["_law_stock", "_law_k"] spStemOf := by
  have G_law_many_of : FnOk P w K mg base CX0 1 T.a_law_many_of T.d_law_many_of ["_law_pattern"] spMany := ok_law_many_of T
  refine T.D_law_stem_of.F.ok sc_law_stem_of (fun vs H Q E h => ?_) (fun cdv A outer s H vs Q E hr h => ?_)
  · obtain ⟨v, st, k, rfl, _⟩ := h
    rfl
  · obtain ⟨v, st, k, rfl, ⟨a, us, rfl, e, hS⟩, hg, hk, q⟩ := h
    refine ⟨_, (pss_cons (ps_for PassesOwn.never rfl (pi_tup (pv 0)) (pg_name (i := 2) sc_law_stem_of.nd rfl (.inl rfl)) (pss_cons (ps_set (i := 3) sc_law_stem_of.nd rfl (.inl rfl) (pe_call G_law_many_of (hr.mono (by decide)) (by rfl) T.D_law_many_of.G T.D_law_many_of.F.kp T.D_law_many_of.B .nil pass0 (pa_cons (pv 2) pa_nil)))
      (pss_cons (ps_if (pt_cmpR op_ge (pv 1) (pv 3) (nomark _)) (pss_cons (ps_set (i := 1) sc_law_stem_of.nd rfl (.inl rfl) (pe_op op_sub (pv 1) (pv 3)))
      (pss_one ps_continue)) pss_nil)
      (pss_cons (ps_set (i := 4) sc_law_stem_of.nd rfl (.inl rfl) pe_str)
      (pss_cons (ps_for PassesOwn.never rfl (pi_tup (pv 2)) (pg_name (i := 5) sc_law_stem_of.nd rfl (.inl rfl)) (pss_cons (ps_set (i := 3) sc_law_stem_of.nd rfl (.inl rfl) (pe_op op_fdivW (pv 3) (pe_callB call_len_str (by rfl) T.n_len PySem.boot_len (pa_cons (pv 5) pa_nil))))
      (pss_cons (ps_set (i := 4) sc_law_stem_of.nd rfl (.inl rfl) (pe_op op_add_str (pv 4) (pe_ix ix_str (pv 5) (pe_op op_fdivW (pv 1) (pv 3)) (fun _ _ => rfl))))
      (pss_one (ps_set (i := 1) sc_law_stem_of.nd rfl (.inl rfl) (pe_op op_sub (pv 1) (pe_op op_mul (pe_op op_fdivW (pv 1) (pv 3)) (pv 3))))))))
      (pss_one (ps_ret (pv 4))))))))
      (pss_one (ps_ret pe_non))), ?_⟩
    refine ⟨_, rfl, a, rfl, ⟨_, SqT.of e⟩, ?_⟩
    refine for_tup (K := K) (a := a) (xs := us) (fun i σ' H' => H' = H ∧ ∃ (kz : Int) (kk : Nat) (x2 x3 x4 x5 : Option V), σ' = [some (.ref a), some (.int kz), x2, x3, x4, x5] ∧ kz = (kk : Int) ∧ kk < totalN (st.drop i) ∧ stemAt (st.drop i) kk = stemAt st k)
      ⟨rfl, _, k, none, none, none, none, rfl, rfl, hk, rfl⟩ ?_ ?_ ?_
    · rintro i σ' H' _ ⟨rfl, _⟩
      exact SqT.of e
    · rintro i x σ' H' hx ⟨rfl, kz, kk, x2, x3, x4, x5, rfl, ek, lk, es⟩
      obtain ⟨p, hp, pa, rfl, ep⟩ := hS.at hx
      have hok := hg.ok p (mem_of_at hp)
      have mle := hok.le
      rw [drop_g hp] at lk es
      have et : totalN (p :: st.drop (i + 1)) = manyN p + totalN (st.drop (i + 1)) := rfl
      refine ⟨_, rfl, .ref pa, p, rfl, ⟨pa, rfl, ep⟩, hok, ?_⟩
      refine ⟨_, rfl, _, rfl, _, _, rfl, rfl, _, rfl, ite2 (fun c => ?_) (fun c => ?_)⟩
      · have c := of_decide_eq_true c
        have c2 : manyN p ≤ kk := by omega
        have es2 : stemAt (st.drop (i + 1)) (kk - manyN p) = stemAt st k := by rw [← es]; exact (if_pos c2).symm
        exact ⟨_, rfl, _, rfl, _, _, rfl, rfl, rfl, _, kk - manyN p, _, _, _, _, rfl, by omega, by omega, es2⟩
      · have c2 : kk < manyN p := by
          have c3 : ¬ (kz ≥ ((manyN p : Nat) : Int)) := fun z => c (decide_eq_true z)
          omega
        have es2 : stemF p kk = stemAt st k := by rw [← es]; exact (if_neg (by omega)).symm
        refine ⟨_, rfl, pa, rfl, ⟨_, SqT.of ep⟩, ?_⟩
        refine for_tup (K := K) (a := pa) (xs := p.map sV) (fun j σ' H2 => H2 = H' ∧ ∃ (kz lz : Int) (w5 : Str) (k2 : Nat) (pre : List Nat) (x5 : Option V), σ' = [some (.ref a), some (.int kz), some (.ref pa), some (.int lz), some (.str w5), x5] ∧ kz = (k2 : Int) ∧ lz = ((manyN (p.drop j) : Nat) : Int) ∧ w5 = mkS pre ∧
          k2 < manyN (p.drop j) ∧ pre ++ stemF (p.drop j) k2 = stemF p kk ∧ pre.length = j) ⟨rfl, _, _, _, kk, [], _, rfl, ek, rfl, empty_mk, c2, rfl, rfl⟩ ?_ ?_ ?_
        · rintro j σ' H2 _ ⟨rfl, _⟩
          exact SqT.of ep
        · rintro j y σ' H2 hy ⟨rfl, kz, lz, w5, k2, pre, x5, rfl, ek, el, ew, lk2, ef, lp⟩
          obtain ⟨z, hz, rfl⟩ := map_at hy
          have l36 := hok.sl z (mem_of_at hz)
          have l0 := hok.pos z (mem_of_at hz)
          have hj := (List.getElem?_eq_some_iff.mp hz).1
          have hpl := hok.len
          have mr := manyN_drop_le hok.pos (j + 1)
          have m0 : 0 < manyN (p.drop (j + 1)) := manyN_pos fun s hs => hok.pos s (List.mem_of_mem_drop hs)
          rw [drop_g hz] at el lk2 ef
          rw [manyN_cons] at el lk2
          have hi := div_lt_slot m0 lk2
          have e5 : lz / (((mkS z).length : Nat) : Int) = ((manyN (p.drop (j + 1)) : Nat) : Int) := by
            rw [el, mkS_len, ← Int.natCast_ediv, Nat.mul_div_cancel_left _ l0]
          have e6 : kz / (lz / (((mkS z).length : Nat) : Int)) = ((k2 / manyN (p.drop (j + 1)) : Nat) : Int) := by
            rw [e5, ek, ← Int.natCast_ediv]
          have e7 : kz - kz / (lz / (((mkS z).length : Nat) : Int)) * (lz / (((mkS z).length : Nat) : Int)) = ((k2 % manyN (p.drop (j + 1)) : Nat) : Int) := by
            rw [e6, e5, ek, ← Int.natCast_mul]
            have := Nat.div_add_mod' k2 (manyN (p.drop (j + 1)))
            omega
          have gc : z[k2 / manyN (p.drop (j + 1))]? = some (z.getD (k2 / manyN (p.drop (j + 1))) 0) := by
            rw [List.getD_eq_getElem?_getD, List.getElem?_eq_getElem hi]; rfl
          have hw : w5.length ≤ 8 := by rw [ew, mkS_len, lp]; omega
          refine ⟨_, rfl, _, rfl, mkS z, rfl, by rw [mkS_len]; exact big_ok (by omega), _, _, rfl, rfl, wide_div (b := 31) (by rw [mkS_len]; omega) (by rw [mkS_len]; omega) (by decide) (by decide), ?_⟩
          refine ⟨_, rfl, _, rfl, _, rfl, _, rfl, _, _, rfl, rfl, wide_div (b := 63) (by rw [e5]; omega) (by rw [e5]; omega) (by decide) (by decide), mkS z, _, z.getD (k2 / manyN (p.drop (j + 1))) 0, rfl, rfl, by rw [mkS_len]; exact big_ok (by omega), ?_, _, _, rfl, rfl, ?_, ?_⟩
          · rw [e6]; exact atI_nat gc
          · refine Nat.le_of_lt (lt_sz ?_)
            show w5.length + 1 < 100000
            omega
          refine ⟨_, rfl, _, rfl, _, rfl, _, _, rfl, rfl, wide_div (b := 63) (by rw [e5]; omega) (by rw [e5]; omega) (by decide) (by decide), _, rfl, _, _, rfl, rfl, .inr ⟨by rw [e5]; omega, by rw [e5]; omega⟩, _, _, rfl, rfl, ?_⟩
          refine ⟨rfl, _, _, _, k2 % manyN (p.drop (j + 1)), pre ++ [z.getD (k2 / manyN (p.drop (j + 1))) 0], _, rfl, e7, e5, ?_, Nat.mod_lt _ m0, ?_, ?_⟩
          · rw [ew]; exact mkS_app _ _
          · rw [← ef, List.append_assoc]; rfl
          · rw [List.length_append, lp]; rfl
        · rintro σ' H2 ⟨rfl, kz, lz, w5, k2, pre, x5, rfl, ek, el, ew, lk2, ef, lp⟩
          rw [List.length_map, List.drop_length] at ef
          have ef : pre ++ [] = stemF p kk := ef
          rw [List.append_nil] at ef
          rw [← es2, ← ef] at q
          subst ew
          exact ⟨_, rfl, q⟩
    · rintro σ' H' ⟨rfl, kz, kk, x2, x3, x4, x5, rfl, ek, lk, es⟩
      rw [hS.1, List.drop_length] at lk
      exact absurd lk (Nat.not_lt_zero _)
end
end Vf

set_option Elab.async false
set_option linter.all false
set_option maxRecDepth 100000
set_option maxHeartbeats 4000000
namespace Vf
open PySem PySem.Spec PyProof.Rows L2 TL RT
section
variable {P : Program} {w : World} {K : PySem.W.Frag} {mg : Str → Option Value} {base : Heap}
def spStems : Sp := fun vs H Q _ => ∃ (v : V) (st : List Pat), vs = [v] ∧ StkV H v st ∧ Good st ∧ totalN st ≤ 300 ∧ ∀ H' p, Same H H' → H' p = some (.lst ((stemsL st).map sV)) → Q (.ref p) H'
theorem stemsL_snoc (st : List Pat) (i : Nat) (p : Pat) (h : st[i]? = some p) : stemsL (st.take (i + 1)) = stemsL (st.take i) ++ rowsF [[]] p := by
  unfold stemsL
  rw [take_succ' h, List.flatMap_append]
  simp
theorem total_take_le : ∀ (st : List Pat) (i : Nat), totalN (st.take i) ≤ totalN st
  | [], i => by rw [List.take_nil]; exact Nat.le_refl _
  | p :: r, 0 => Nat.zero_le _
  | p :: r, i + 1 => Nat.add_le_add_left (total_take_le r i) _
theorem ok_law_stems (T : Txt K mg) : FnOk P w K mg base CX0 1 T.a_law_stems T.d_law_stems ["_law_stock"] spStems := by
  refine T.D_law_stems.F.ok sc_law_stems (fun vs H Q E h => ?_) (fun cdv A outer s H vs Q E hr h => ?_)
  · obtain ⟨v, st, rfl, _⟩ := h
    rfl
  · obtain ⟨v, st, rfl, ⟨a, us, rfl, e, hS⟩, hg, h300, q⟩ := h
    refine ⟨_, (pss_cons (ps_set (i := 1) sc_law_stems.nd rfl (.inl rfl) (pe_lst pa_nil))
      (pss_cons (ps_for PassesOwn.never rfl (pi_tup (pv 0)) (pg_name (i := 2) sc_law_stems.nd rfl (.inl rfl)) (pss_cons (ps_set (i := 3) sc_law_stems.nd rfl (.inl rfl) (pe_lst (pa_cons pe_str pa_nil)))
      (pss_cons (ps_for PassesOwn.never rfl (pi_tup (pv 2)) (pg_name (i := 4) sc_law_stems.nd rfl (.inl rfl)) (pss_cons (ps_set (i := 5) sc_law_stems.nd rfl (.inl rfl) (pe_lst pa_nil))
      (pss_cons (ps_for PassesOwn.never rfl (pi_list (pv 3)) (pg_name (i := 6) sc_law_stems.nd rfl (.inr rfl)) (pss_one (ps_set (i := 5) sc_law_stems.nd rfl (.inl rfl) (pe_op op_cat (pv 5) (pe_lc (own := [("_law_sign", 7)]) (g := gName 7) (tt := tYes) rfl sc_law_stems.nd (pi_str (pv 4)) (blkOk_by (own := [("_law_sign", 7)]) (N := ["_law_stock", "_law_found", "_law_pattern", "_law_rows", "_law_slot", "_law_longer", "_law_row", "_law_sign"]) (sc := defScope s_law_stems) (by decide +kernel)) (fun _ _ _ _ _ => (pg_name (i := 7) sc_law_stems.nd rfl (.inl rfl))) (fun _ _ _ _ _ => pts_nil) (fun _ _ _ _ _ => (pe_op op_add_str (pv 6) (pv 7))))))))
      (pss_one (ps_set (i := 3) sc_law_stems.nd rfl (.inl rfl) (pv 5))))))
      (pss_one (ps_set (i := 1) sc_law_stems.nd rfl (.inl rfl) (pe_op op_cat (pv 1) (pv 3)))))))
      (pss_one (ps_ret (pv 1))))), ?_⟩
    refine ⟨by show 0 ≤ sizeLine; decide, fun F0 nF => ?_⟩
    have S0 : Same H (upd H F0 (.lst [])) := same_upd (Same.refl H) nF
    refine ⟨_, rfl, a, rfl, ⟨_, SqT.of (S0 _ _ e)⟩, ?_⟩
    refine for_tup (K := K) (a := a) (xs := us) (fun i σ' H' => Same H H' ∧ ∃ (F : Addr) (x2 x3 x4 x5 x6 x7 : Option V), σ' = [some (.ref a), some (.ref F), x2, x3, x4, x5, x6, x7] ∧ H' F = some (.lst ((stemsL (st.take i)).map sV)))
      ⟨S0, F0, none, none, none, none, none, none, rfl, upd_same⟩ ?_ ?_ ?_
    · rintro i σ' H' _ ⟨k, _⟩
      exact SqT.of (k _ _ e)
    · rintro i x σ' H' hx ⟨k, F, x2, x3, x4, x5, x6, x7, rfl, eF⟩
      obtain ⟨p, hp, pa, rfl, ep⟩ := hS.at hx
      have hok := hg.ok p (mem_of_at hp)
      have m300 : manyN p ≤ 300 := Nat.le_trans (manyN_le_total (mem_of_at hp)) h300
      have ep1 := k _ _ ep
      refine ⟨by show 1 ≤ sizeLine; decide, fun R0 nR => ?_⟩
      have SR := same_upd (o := .lst [V.str ""]) (Same.refl H') nR
      refine ⟨_, rfl, pa, rfl, ⟨_, SqT.of (SR _ _ ep1)⟩, ?_⟩
      refine for_tup (K := K) (a := pa) (xs := p.map sV) (fun j σ' H2 => Same H' H2 ∧ ∃ (R : Addr) (x4 x5 x6 x7 : Option V), σ' = [some (.ref a), some (.ref F), some (.ref pa), some (.ref R), x4, x5, x6, x7] ∧ H2 R = some (.lst ((rowsF [[]] (p.take j)).map sV)))
        ⟨SR, R0, _, _, _, _, rfl, by rw [upd_same, empty_mk]; rfl⟩ ?_ ?_ ?_
      · rintro j σ' H2 _ ⟨k2, _⟩
        exact SqT.of (k2 _ _ ep1)
      · rintro j y σ' H2 hy ⟨k2, R, x4, x5, x6, x7, rfl, eR⟩
        obtain ⟨z, hz, rfl⟩ := map_at hy
        have l36 := hok.sl z (mem_of_at hz)
        have hj := (List.getElem?_eq_some_iff.mp hz).1
        have hpl := hok.len
        have er : rowsF [[]] (p.take (j + 1)) = (rowsF [[]] (p.take j)).flatMap fun r => z.map fun c => r ++ [c] := by rw [take_succ' hz, rowsF_snoc]
        have lr : (rowsF [[]] (p.take (j + 1))).length ≤ 300 := by
          rw [rowsF_len]
          have := manyN_take_le hok.pos (j + 1)
          show 1 * _ ≤ _
          omega
        have lr0 : (rowsF [[]] (p.take j)).length ≤ 300 := by
          rw [rowsF_len]
          have := manyN_take_le hok.pos j
          show 1 * _ ≤ _
          omega
        have lm : ∀ r ∈ rowsF [[]] (p.take j), r.length ≤ 8 := fun r hr => by
          have := rowsF_mem (p.take j) [[]] 0 (fun r hr => by rw [List.mem_singleton.mp hr]; exact Nat.le_refl _) r hr
          rw [List.length_take] at this
          omega
        refine ⟨by show 0 ≤ sizeLine; decide, fun L0 nL => ?_⟩
        have SL := same_upd (o := .lst []) (Same.refl H2) nL
        refine ⟨_, rfl, R, rfl, ⟨_, SqL.of (SL _ _ eR)⟩, ?_⟩
        generalize hrows : rowsF [[]] (p.take j) = rows at *
        refine for_list (K := K) (a := R) (xs := rows.map sV) (fun n σ' H3 => Same H2 H3 ∧ ∃ (L : Addr) (x6 x7 : Option V), σ' = [some (.ref a), some (.ref F), some (.ref pa), some (.ref R), some (sV z), some (.ref L), x6, x7] ∧ H3 L = some (.lst (((rows.take n).flatMap fun r => z.map fun c => r ++ [c]).map sV)))
          ⟨SL, L0, _, _, rfl, upd_same⟩ ?_ ?_ ?_
        · rintro n σ' H3 _ ⟨k3, _⟩
          exact SqL.of (k3 _ _ eR)
        · rintro n yv σ' H3 hyv ⟨k3, L, x6, x7, rfl, eL⟩
          obtain ⟨r, hrn, rfl⟩ := map_at hyv
          have lr8 := lm r (mem_of_at hrn)
          refine ⟨_, rfl, _, rfl, mkS z, rfl, fun D nD => ?_⟩
          refine lc_it (walk_str (z := mkS z)) (fun m H4 => Same H3 H4 ∧ H4 D = some (.lst (((z.take m).map fun c => r ++ [c]).map sV))) ⟨same_upd (Same.refl H3) nD, upd_same⟩ (fun _ _ _ _ => trivial) ?_ ?_
          · rintro m v H4 H5 hm ⟨k4, eD⟩ ⟨rfl, c, hc, rfl⟩
            have hc : z[m]? = some c := by rw [← hc, ← Array.getElem?_toList]; rfl
            have hm2 : m < z.length := (List.getElem?_eq_some_iff.mp hc).1
            refine ⟨rfl, ?_⟩
            refine ⟨_, rfl, _, rfl, mkS r, ⟨#[c]⟩, rfl, rfl, ?_, _, eD, ?_, same_mut k4 nD, ?_⟩
            · rw [mkS_len]; refine Nat.le_of_lt (lt_sz ?_); show r.length + 1 < 100000; omega
            · rw [List.length_map, List.length_map, List.length_take]; exact lt_sz (by omega)
            · rw [upd_same, take_succ' hc, List.map_append, List.map_append]
              show some (HO.lst (_ ++ [V.str (mkS r ++ mkS [c])])) = _
              rw [mkS_app]; rfl
          · rintro H4 ⟨k4, eD⟩
            have ez : z.take (mkS z).cps.size = z := List.take_of_length_le (by show z.length ≤ z.toArray.size; simp)
            rw [ez] at eD
            have en : (rows.take (n + 1)).flatMap (fun r => z.map fun c => r ++ [c]) = (rows.take n).flatMap (fun r => z.map fun c => r ++ [c]) ++ z.map fun c => r ++ [c] := by
              rw [take_succ' hrn, List.flatMap_append]; simp
            have lsz : ((rows.take (n + 1)).flatMap (fun r => z.map fun c => r ++ [c])).length ≤ 300 := by
              rw [flatM_len (L := z.length) _ fun y _ => by simp]
              rw [er, flatM_len (L := z.length) _ fun y _ => by simp] at lr
              refine Nat.le_trans (Nat.mul_le_mul_right _ ?_) lr
              rw [List.length_take]; exact Nat.min_le_right _ _
            rw [en, List.length_append] at lsz
            refine ⟨L, D, _, _, rfl, rfl, k4 _ _ eL, eD, ?_, fun L2 n2 => ?_⟩
            · rw [List.length_map, List.length_map]; exact Nat.le_of_lt (lt_sz (by omega))
            · refine ⟨(k3.trans k4).trans (same_upd (Same.refl _) n2), L2, _, _, rfl, ?_⟩
              rw [upd_same, en, List.map_append]
        · rintro σ' H3 ⟨k3, L, x6, x7, rfl, eL⟩
          rw [List.length_map, List.take_length, ← er] at eL
          exact ⟨_, rfl, k2.trans k3, L, _, _, _, _, rfl, eL⟩
      · rintro σ' H2 ⟨k2, R, x4, x5, x6, x7, rfl, eR⟩
        rw [List.length_map, List.take_length] at eR
        have eF2 := k2 _ _ eF
        have l1 : (stemsL (st.take i)).length ≤ 300 := by rw [stemsL_len]; have := total_take_le st i; omega
        have l2 : (rowsF [[]] p).length ≤ 300 := by rw [rowsF_len]; show 1 * _ ≤ _; omega
        refine ⟨_, rfl, _, rfl, F, R, _, _, rfl, rfl, eF2, eR, ?_, fun F2 n2 => ?_⟩
        · rw [List.length_map, List.length_map]; exact Nat.le_of_lt (lt_sz (by omega))
        · refine ⟨(k.trans k2).trans (same_upd (Same.refl _) n2), F2, _, _, _, _, _, _, rfl, ?_⟩
          rw [upd_same, stemsL_snoc st i p hp, List.map_append]
    · rintro σ' H' ⟨k, F, x2, x3, x4, x5, x6, x7, rfl, eF⟩
      rw [hS.1, List.take_length] at eF
      exact ⟨_, rfl, q _ F k eF⟩
end
end Vf

set_option Elab.async false
set_option linter.all false
set_option maxRecDepth 100000
set_option maxHeartbeats 4000000
namespace Vf
open PySem PySem.Spec PyProof.Rows L2 TL RT
theorem cutD {zs : List Nat} {j : Nat} (h : j ≤ zs.length) : cutS (mkS zs) (some (j : Int)) none = mkS (zs.drop j) := by
  unfold cutS
  rw [HT.sIx_nat, HT.sIx_none, mkS_len, Nat.min_eq_left h]
  show mkS ((zs.drop j).take (zs.length - j)) = _
  rw [List.take_of_length_le (by rw [List.length_drop]; exact Nat.le_refl _)]
theorem cutT {zs : List Nat} {j : Nat} : cutS (mkS zs) none (some (j : Int)) = mkS (zs.take j) := by
  unfold cutS
  rw [HT.sIx_nat, HT.sIx_none, mkS_len]
  show mkS ((zs.drop 0).take (min j zs.length - 0)) = _
  rw [List.drop_zero, Nat.sub_zero]
  by_cases c : j ≤ zs.length
  · rw [Nat.min_eq_left c]
  · rw [Nat.min_eq_right (by omega), List.take_of_length_le (Nat.le_refl _), List.take_of_length_le (by omega)]
theorem nd_at {l : List Nat} {a b c : Nat} (h : l.Nodup) (h1 : l[a]? = some c) (h2 : l[b]? = some c) : a = b := by
  obtain ⟨p1, e1⟩ := List.getElem?_eq_some_iff.mp h1
  obtain ⟨p2, e2⟩ := List.getElem?_eq_some_iff.mp h2
  have q := List.pairwise_iff_getElem.mp h
  rcases Nat.lt_trichotomy a b with z | z | z
  · exact absurd (e1.trans e2.symm) (q a b p1 p2 z)
  · exact z
  · exact absurd (e2.trans e1.symm) (q b a p2 p1 z)
theorem nd_of {l m : List Nat} {f : Nat → Nat} (hf : ∀ a b, f a = f b → a = b) (h : ∀ (k c : Nat), l[k]? = some c → m[f k]? = some c) (hm : m.Nodup) : l.Nodup := by
  refine List.pairwise_iff_getElem.mpr fun i j hi hj hij e => ?_
  have h1 := h i _ (List.getElem?_eq_getElem hi)
  have h2 := h j _ (List.getElem?_eq_getElem hj)
  rw [← e] at h2
  have := hf _ _ (nd_at hm h1 h2)
  omega
def sgS : Str := "0123456789abcdefghijklmnopqrstuvwxyz"
def sg : List Nat := sgS.cps.toList
theorem sg_nd : sg.Nodup := by decide +kernel
theorem sg_len : sg.length = 36 := by decide +kernel
/-- what lies at its own places -/
def ClsK (k : Nat) (s : List Nat) : Prop := ∀ c ∈ s, ∃ i : Nat, sg[k + 8 * i]? = some c
theorem apart_of {ap : Nat} : ∀ (st : List Pat) (o : Nat), o + st.length ≤ 8 → (∀ (i : Nat) (p : Pat), st[i]? = some p → ∃ s, p[ap]? = some s ∧ ClsK (o + i) s) → Apart st
  | [], _, _, _ => trivial
  | p :: r, o, ho, h => by
    refine ⟨fun q hq t b1 b2 => ?_, apart_of (ap := ap) r (o + 1) (by rw [List.length_cons] at ho; omega) fun i p hi => by
      obtain ⟨s, e, c⟩ := h (i + 1) p hi
      exact ⟨s, e, by rw [show o + 1 + i = o + (i + 1) by omega]; exact c⟩⟩
    obtain ⟨j, hj⟩ := List.mem_iff_getElem?.mp hq
    obtain ⟨s1, e1, c1⟩ := h 0 p rfl
    obtain ⟨s2, e2, c2⟩ := h (j + 1) q hj
    obtain ⟨x, x1, x2⟩ := bel_at b1 e1
    obtain ⟨y, y1, y2⟩ := bel_at b2 e2
    rw [x1] at y1
    have y1 : x = y := Option.some.inj y1
    subst y1
    obtain ⟨i1, g1⟩ := c1 x x2
    obtain ⟨i2, g2⟩ := c2 x y2
    have := nd_at sg_nd g1 g2
    have hl := (List.getElem?_eq_some_iff.mp hj).1
    rw [List.length_cons] at ho
    omega
section
variable {P : Program} {w : World} {K : PySem.W.Frag} {mg : Str → Option Value} {base : Heap}
def spGreat : Sp := fun vs H Q _ => ∃ (d l : Addr) (m : Int), vs = [.ref d, .int m] ∧ DI d l H ∧ 0 < m ∧ ∀ H' r, Kp d H H' → DI d l H' → 0 ≤ r → r < m → Q (.int r) H'
theorem ok_great (T : Txt K mg) : FnOk P w K mg base CX0 2 T.a_law_great T.d_law_great ["_law_d", "_law_many"] spGreat := by
  have G_law_draw : FnOk P w K mg base CX0 1 T.a_law_draw T.d_law_draw ["_law_d", "_law_many"] spDraw := ok_draw T
  refine T.D_law_great.F.ok sc_law_great (fun vs H Q E h => ?_) (fun cdv A outer s H vs Q E hr h => ?_)
  · obtain ⟨d, l, m, rfl, _⟩ := h
    rfl
  · obtain ⟨d, l, m, rfl, hD, hm, q⟩ := h
    refine ⟨_, (pss_one (ps_ret (pe_op op_modN (pe_callTy call_int1 (by rfl) T.n_int (by decide +kernel) (pa_cons (pe_op op_add (pe_op op_mul (pe_call G_law_draw (hr.mono (by decide)) (by rfl) T.D_law_draw.G T.D_law_draw.F.kp T.D_law_draw.B .nil pass0 (pa_cons (pv 0) (pa_cons (pe_op op_shl pe_int pe_int) pa_nil))) (pe_op op_shl pe_int pe_int)) (pe_call G_law_draw (hr.mono (by decide)) (by rfl) T.D_law_draw.G T.D_law_draw.F.kp T.D_law_draw.B .nil pass0 (pa_cons (pv 0) (pa_cons (pe_op op_shl pe_int pe_int) pa_nil)))) pa_nil)) (pv 1)))), ?_⟩
    refine ⟨_, rfl, _, _, rfl, rfl, ⟨by decide, by decide, by decide⟩, d, l, _, rfl, hD, by decide, fun H1 r1 K1 D1 _ _ => ?_⟩
    refine ⟨_, _, rfl, rfl, ⟨by decide, by decide, by decide⟩, _, _, rfl, rfl, .inr ⟨by decide, by decide⟩, ?_⟩
    refine ⟨_, rfl, _, _, rfl, rfl, ⟨by decide, by decide, by decide⟩, d, l, _, rfl, D1, by decide, fun H2 r2 K2 D2 _ _ => ?_⟩
    refine ⟨_, _, rfl, rfl, .inl ⟨_, rfl, _, rfl, _, _, rfl, rfl, by omega, ?_⟩⟩
    exact q H2 _ (K1.trans K2) D2 (Int.fmod_nonneg_of_pos _ hm) (Int.fmod_lt_of_pos _ hm)
def spSlot : Sp := fun vs H Q _ => ∃ (d l : Addr) (zs : List Nat) (m : Nat), vs = [.ref d, sV zs, .int (m : Int)] ∧ DI d l H ∧ 0 < zs.length ∧ zs.length ≤ 36 ∧ zs.Nodup ∧ 0 < m ∧ m ≤ 36 ∧
  ∀ H' s, Kp d H H' → DI d l H' → 0 < s.length → s.length ≤ 36 → s.Nodup → (∀ c ∈ s, c ∈ zs) → Q (sV s) H'
theorem nat_of {r : Int} {n : Nat} (h0 : 0 < n) (h1 : (n : Int) < 2 → r = 0) (h2 : 2 ≤ (n : Int) → 0 ≤ r ∧ r < (n : Int)) : ∃ j : Nat, r = (j : Int) ∧ j < n := by
  by_cases c : (2 : Int) ≤ n
  · have := h2 c; exact ⟨r.toNat, by omega, by omega⟩
  · exact ⟨0, h1 (by omega), h0⟩
theorem ok_slot_of (T : Txt K mg) : FnOk P w K mg base CX0 2 T.a_law_slot_of T.d_law_slot_of ["_law_d", "_law_signs", "_law_most"] spSlot := by
  have G_law_draw : FnOk P w K mg base CX0 1 T.a_law_draw T.d_law_draw ["_law_d", "_law_many"] spDraw := ok_draw T
  refine T.D_law_slot_of.F.ok sc_law_slot_of (fun vs H Q E h => ?_) (fun cdv A outer s H vs Q E hr h => ?_)
  · obtain ⟨d, l, zs, m, rfl, _⟩ := h
    rfl
  · obtain ⟨d, l, zs, m, rfl, hD, hz0, hz36, hnd, hm0, hm36, q⟩ := h
    refine ⟨_, (pss_cons (ps_set (i := 3) sc_law_slot_of.nd rfl (.inl rfl) (pe_step (pe_slice sl_str (pv 1) (po_some (pe_call G_law_draw (hr.mono (by decide)) (by rfl) T.D_law_draw.G T.D_law_draw.F.kp T.D_law_draw.B .nil pass0 (pa_cons (pv 0) (pa_cons (pe_callB call_len_str (by rfl) T.n_len PySem.boot_len (pa_cons (pv 1) pa_nil)) pa_nil)))) po_none) po_none (po_some (pe_op op_add pe_int (pe_call G_law_draw (hr.mono (by decide)) (by rfl) T.D_law_draw.G T.D_law_draw.F.kp T.D_law_draw.B .nil pass0 (pa_cons (pv 0) (pa_cons pe_int pa_nil)))))))
      (pss_one (ps_ret (pe_slice sl_str (pv 3) po_none (po_some (pe_op op_add pe_int (pe_call G_law_draw (hr.mono (by decide)) (by rfl) T.D_law_draw.G T.D_law_draw.F.kp T.D_law_draw.B .nil pass0 (pa_cons (pv 0) (pa_cons (pv 2) pa_nil))))))))), ?_⟩
    refine ⟨_, rfl, _, rfl, _, rfl, mkS zs, rfl, by rw [mkS_len]; exact big_ok (by omega), d, l, _, rfl, hD, by rw [mkS_len]; omega, fun H1 r K1 D1 r1 r2 => ?_⟩
    rw [mkS_len] at r1 r2
    obtain ⟨j, rfl, hj⟩ := nat_of hz0 r1 r2
    refine ⟨_, rfl, mkS zs, rfl, by rw [mkS_len]; exact big_ok (by omega), ?_⟩
    rw [cutD (Nat.le_of_lt hj)]
    refine ⟨_, rfl, d, l, _, rfl, D1, by decide, fun H2 r K2 D2 r1 r2 => ?_⟩
    obtain ⟨n, rfl, hn⟩ := nat_of (n := 3) (by decide) r1 r2
    have en : (1 : Int) + (n : Int) = ((n + 1 : Nat) : Int) := by omega
    have e0 := idx_none (z := mkS (zs.drop j)) (n := n + 1) (Nat.succ_pos _)
    have pl := pick_len (Nat.succ_pos n) e0
    have pa := pick_at (Nat.succ_pos n) e0
    have zl : (mkS (zs.drop j)).length = zs.length - j := by rw [mkS_len, List.length_drop]
    refine ⟨_, _, rfl, rfl, _, rfl, mkS (zs.drop j), _, rfl, rfl, by omega, by rw [zl]; omega, ?_, ?_⟩
    · rw [en, len_cps]; exact Nat.le_trans pl.1 (by rw [zl]; omega)
    rw [en]
    generalize hp : (pickS (mkS (zs.drop j)) none ((n + 1 : Nat) : Int)).cps.toList = ps at pl pa
    have hp2 : pickS (mkS (zs.drop j)) none ((n + 1 : Nat) : Int) = mkS ps := by rw [← hp]; rfl
    rw [hp2]
    rw [zl] at pl
    have p0 := pl.2 (by omega)
    refine ⟨_, rfl, _, rfl, _, rfl, d, l, _, rfl, D2, by omega, fun H3 r K3 D3 r1 r2 => ?_⟩
    obtain ⟨k, rfl, hk⟩ := nat_of hm0 r1 r2
    have ek : (1 : Int) + (k : Int) = ((k + 1 : Nat) : Int) := by omega
    refine ⟨_, _, rfl, rfl, _, rfl, mkS ps, rfl, by rw [mkS_len]; exact big_ok (by omega), ?_⟩
    rw [ek, cutT]
    have nps : ps.Nodup := nd_of (f := fun k => 0 + (n + 1) * k) (fun a b e => by
      have e : 0 + (n + 1) * a = 0 + (n + 1) * b := e
      rw [Nat.zero_add, Nat.zero_add] at e
      exact Nat.eq_of_mul_eq_mul_left (Nat.succ_pos n) e) pa (hnd.sublist (List.drop_sublist _ _))
    refine q H3 _ ((K1.trans K2).trans K3) D3 (by rw [List.length_take]; omega) (by rw [List.length_take]; omega) (nps.sublist (List.take_sublist _ _)) fun c hc => ?_
    obtain ⟨i, hi⟩ := List.mem_iff_getElem?.mp (List.mem_of_mem_take hc)
    exact List.mem_of_mem_drop (List.mem_of_getElem? (pa i c hi))
def spNear : Sp := fun vs H Q _ => ∃ (d l : Addr) (t : List Nat), vs = [.ref d, sV t] ∧ DI d l H ∧ t.length ≤ 20 ∧ ∀ H' z, Kp d H H' → DI d l H' → z.length ≤ 100 → Q (sV z) H'
theorem ok_near (T : Txt K mg) : FnOk P w K mg base CX0 3 T.a_law_near T.d_law_near ["_law_d", "_law_stem"] spNear := by
  have G_law_draw : FnOk P w K mg base CX0 1 T.a_law_draw T.d_law_draw ["_law_d", "_law_many"] spDraw := ok_draw T
  have G_law_pick : FnOk P w K mg base CX0 2 T.a_law_pick T.d_law_pick ["_law_d", "_law_row"] (spPick K) := ok_pick T
  refine T.D_law_near.F.ok sc_law_near (fun vs H Q E h => ?_) (fun cdv A outer s H vs Q E hr h => ?_)
  · obtain ⟨d, l, t, rfl, _⟩ := h
    rfl
  · obtain ⟨d, l, t, rfl, hD, ht, q⟩ := h
    refine ⟨_, (pss_cons (ps_set (i := 2) sc_law_near.nd rfl (.inl rfl) (pe_call G_law_draw (hr.mono (by decide)) (by rfl) T.D_law_draw.G T.D_law_draw.F.kp T.D_law_draw.B .nil pass0 (pa_cons (pv 0) (pa_cons (pe_op op_add (pe_callB call_len_str (by rfl) T.n_len PySem.boot_len (pa_cons (pv 1) pa_nil)) pe_int) pa_nil))))
      (pss_cons (ps_set (i := 3) sc_law_near.nd rfl (.inl rfl) (pe_call G_law_pick (hr.mono (by decide)) (by rfl) T.D_law_pick.G T.D_law_pick.F.kp T.D_law_pick.B .nil pass0 (pa_cons (pv 0) (pa_cons (pe_lst (pa_cons pe_str (pa_cons pe_str (pa_cons pe_str (pa_cons pe_str (pa_cons pe_str (pa_cons pe_str (pa_cons pe_str (pa_cons pe_str (pa_cons (pe_slice sl_str (pv 1) po_none (po_some pe_int)) pa_nil)))))))))) pa_nil))))
      (pss_one (ps_ret (pe_op op_add_str (pe_op op_add_str (pe_slice sl_str (pv 1) po_none (po_some (pv 2))) (pv 3)) (pe_slice sl_str (pv 1) (po_some (pe_op op_add (pv 2) (pe_call G_law_draw (hr.mono (by decide)) (by rfl) T.D_law_draw.G T.D_law_draw.F.kp T.D_law_draw.B .nil pass0 (pa_cons (pv 0) (pa_cons pe_int pa_nil))))) po_none)))))), ?_⟩
    have htz : (mkS t).length ≤ sizeLine := by rw [mkS_len]; exact big_ok (by omega)
    refine ⟨_, rfl, _, rfl, mkS t, rfl, htz, _, _, rfl, rfl, d, l, _, rfl, hD, by rw [mkS_len]; omega, fun H1 r K1 D1 _ _ => ?_⟩
    refine ⟨_, rfl, _, rfl, _, rfl, mkS t, rfl, htz, by show 9 ≤ sizeLine; decide, fun p np => ?_⟩
    refine ⟨d, l, _, _, rfl, D1.new np, .inl ⟨p, rfl, (D1.nd np).1, SqL.of upd_same⟩, by show 0 < 9; decide, by show 9 ≤ 1000; decide, fun H2 v K2 D2 hv => ?_⟩
    have hz : ∃ z : Str, v = .str z ∧ z.length ≤ 20 := by
      simp only [List.mem_cons, List.not_mem_nil, or_false] at hv
      rcases hv with rfl | rfl | rfl | rfl | rfl | rfl | rfl | rfl | rfl
      all_goals first | exact ⟨_, rfl, by decide +kernel⟩ | exact ⟨_, rfl, Nat.le_trans (cutS_length _ _ _) (by rw [mkS_len]; exact ht)⟩
    obtain ⟨z, rfl, hz⟩ := hz
    have c1 : ∀ a b, (cutS (mkS t) a b).length ≤ 20 := fun a b => Nat.le_trans (cutS_length _ _ _) (by rw [mkS_len]; exact ht)
    have la : ∀ a b : Str, (a ++ b).length = a.length + b.length := fun a b => by
      rw [len_cps, Str.cps_append, Array.toList_append, List.length_append, ← len_cps, ← len_cps]
    refine ⟨_, rfl, _, rfl, _, rfl, mkS t, rfl, htz, _, rfl, _, _, rfl, rfl, ?_, ?_⟩
    · have := c1 none (some r); exact Nat.le_of_lt (lt_sz (by omega))
    refine ⟨_, rfl, _, rfl, _, rfl, d, l, _, rfl, D2, by decide, fun H3 r3 K3 D3 _ _ => ?_⟩
    refine ⟨_, _, rfl, rfl, _, rfl, mkS t, rfl, htz, _, _, rfl, rfl, ?_, ?_⟩
    · have h1 := c1 none (some r)
      have h2 := c1 (some (r + r3)) none
      rw [la]; exact Nat.le_of_lt (lt_sz (by omega))
    · have h1 := c1 none (some r)
      have h2 := c1 (some (r + r3)) none
      refine q H3 (cutS (mkS t) none (some r) ++ z ++ cutS (mkS t) (some (r + r3)) none).cps.toList (((K1.new np).trans K2).trans K3) D3 ?_
      rw [← len_cps, la, la]; omega
end
end Vf

set_option Elab.async false
set_option linter.all false
set_option maxRecDepth 100000
set_option maxHeartbeats 4000000
namespace Vf
open PySem PySem.Spec PyProof.Rows L2 TL RT
theorem DI.neTup {d l a : Addr} {H : Hp} {xs : List V} (h : DI d l H) (e : H a = some (.tup xs)) : a ≠ d := by
  obtain ⟨_, _, i, b, s, c, _, h2⟩ := h
  intro z
  rw [z, h2] at e
  cases e
theorem PatV.kp {d l : Addr} {H H' : Hp} {v : V} {p : Pat} (h : PatV H v p) (hD : DI d l H) (k : Kp d H H') : PatV H' v p := by
  obtain ⟨a, e, q⟩ := h
  exact ⟨a, e, k _ _ (hD.neTup q) q⟩
theorem StkL.kp {d l : Addr} {H H' : Hp} {vs : List V} {st : List Pat} (h : StkL H vs st) (hD : DI d l H) (k : Kp d H H') : StkL H' vs st := ⟨h.1, fun i p e => by
  obtain ⟨v, e1, q⟩ := h.2 i p e
  exact ⟨v, e1, q.kp hD k⟩⟩
theorem StkV.kp {d l : Addr} {H H' : Hp} {v : V} {st : List Pat} (h : StkV H v st) (hD : DI d l H) (k : Kp d H H') : StkV H' v st := by
  obtain ⟨a, vs, e, q, r⟩ := h
  exact ⟨a, vs, e, k _ _ (hD.neTup q) q, r.kp hD k⟩
theorem StkL.snoc {H : Hp} {vs : List V} {st : List Pat} {v : V} {p : Pat} (h : StkL H vs st) (a : PatV H v p) : StkL H (vs ++ [v]) (st ++ [p]) := by
  refine ⟨by rw [List.length_append, List.length_append, h.1]; rfl, fun i y hy => ?_⟩
  have hv := h.1
  by_cases hi : i < st.length
  · rw [List.getElem?_append_left hi] at hy
    obtain ⟨u, e, b⟩ := h.2 i y hy
    exact ⟨u, by rw [List.getElem?_append_left (by omega)]; exact e, b⟩
  · rw [List.getElem?_append_right (by omega)] at hy
    have e0 : i - st.length = 0 := by
      have := (List.getElem?_eq_some_iff.mp hy).1
      simp only [List.length_singleton] at this; omega
    rw [e0] at hy
    have ey : p = y := Option.some.inj hy
    subst ey
    exact ⟨v, by rw [List.getElem?_append_right (by omega), hv, e0]; rfl, a⟩
theorem StkL.mutL {H : Hp} {vs : List V} {st : List Pat} {F : Addr} {xs : List V} {o : HO} (h : StkL H vs st) (e : H F = some (.lst xs)) : StkL (upd H F o) vs st := ⟨h.1, fun i p hp => by
  obtain ⟨v, e1, a, ev, q⟩ := h.2 i p hp
  have n : a ≠ F := fun z => by rw [z, e] at q; cases q
  exact ⟨v, e1, a, ev, by rw [upd_ne n]; exact q⟩⟩
def nI (x : Nat) : V := .int (x : Int)
/-- a slot as it is drawn -/
structure SlotOk (s : List Nat) : Prop where
  pos : 0 < s.length
  len : s.length ≤ 36
  nd : s.Nodup
theorem sg_ok : SlotOk sg := ⟨by rw [sg_len]; decide, by rw [sg_len]; decide, sg_nd⟩
section
variable {P : Program} {w : World} {K : PySem.W.Frag} {mg : Str → Option Value} {base : Heap}
def spStockOf : Sp := fun vs H Q _ => ∃ (d l : Addr) (lo mo : Nat), vs = [.ref d, .int (lo : Int), .int (mo : Int)] ∧ DI d l H ∧ 0 < lo ∧ lo ≤ 8 ∧ 0 < mo ∧ mo ≤ 36 ∧
  ∀ H' v st, Kp d H H' → DI d l H' → StkV H' v st → Good st → Q v H'
theorem ok_stock_of (T : Txt K mg) : FnOk P w K mg base CX0 3 T.a_law_stock_of T.d_law_stock_of ["_law_d", "_law_longest", "_law_most"] spStockOf := by
  have G_law_draw : FnOk P w K mg base CX0 1 T.a_law_draw T.d_law_draw ["_law_d", "_law_many"] spDraw := ok_draw T
  have G_law_slot_of : FnOk P w K mg base CX0 2 T.a_law_slot_of T.d_law_slot_of ["_law_d", "_law_signs", "_law_most"] spSlot := ok_slot_of T
  refine T.D_law_stock_of.F.ok sc_law_stock_of (fun vs H Q E h => ?_) (fun cdv A outer s H vs Q E hr h => ?_)
  · obtain ⟨d, l, lo, mo, rfl, _⟩ := h
    rfl
  · obtain ⟨d, l, lo, mo, rfl, hD, lo0, lo8, mo0, mo36, q⟩ := h
    refine ⟨_, (pss_cons (ps_set (i := 3) sc_law_stock_of.nd rfl (.inl rfl) pe_str)
      (pss_cons (ps_setLc (i := 4) (own := [("_law_k", 7)]) (g := gName 7) (tt := tYes) rfl sc_law_stock_of.nd rfl rfl (sw_true rfl rfl rfl (by decide +kernel)) (pi_range1 (by rfl) T.n_range (pa_cons (pe_op op_add pe_int (pe_call G_law_draw (hr.mono (by decide)) (by rfl) T.D_law_draw.G T.D_law_draw.F.kp T.D_law_draw.B .nil pass0 (pa_cons (pv 0) (pa_cons pe_int pa_nil)))) pa_nil)) (blkOk_by (own := [("_law_k", 7)]) (N := ["_law_d", "_law_longest", "_law_most", "_law_signs", "_law_longs", "_law_apart", "_law_found", "_law_k", "_law_pattern", "_law_place"]) (sc := defScope s_law_stock_of) (by decide +kernel)) (fun _ _ _ _ _ => (pg_name (i := 7) sc_law_stock_of.nd rfl (.inl rfl))) (fun _ _ _ _ _ => pts_nil) (fun _ _ _ _ _ => (pe_op op_add pe_int (pe_call G_law_draw (hr.mono (by decide)) (by rfl) T.D_law_draw.G T.D_law_draw.F.kp T.D_law_draw.B .nil pass0 (pa_cons (pv 0) (pa_cons (pv 1) pa_nil))))))
      (pss_cons (ps_set (i := 5) sc_law_stock_of.nd rfl (.inl rfl) (pe_call G_law_draw (hr.mono (by decide)) (by rfl) T.D_law_draw.G T.D_law_draw.F.kp T.D_law_draw.B .nil pass0 (pa_cons (pv 0) (pa_cons (pe_callB (cr_min (by rfl)) (by rfl) T.n_min (by decide +kernel) (pa_cons (pv 4) pa_nil)) pa_nil))))
      (pss_cons (ps_set (i := 6) sc_law_stock_of.nd rfl (.inl rfl) (pe_lst pa_nil))
      (pss_cons (ps_for PassesOwn.never rfl (pi_range1 (by rfl) T.n_range (pa_cons (pe_callB call_len_seq (by rfl) T.n_len PySem.boot_len (pa_cons (pv 4) pa_nil)) pa_nil)) (pg_name (i := 7) sc_law_stock_of.nd rfl (.inl rfl)) (pss_cons (ps_set (i := 8) sc_law_stock_of.nd rfl (.inl rfl) (pe_lst pa_nil))
      (pss_cons (ps_for PassesOwn.never rfl (pi_range1 (by rfl) T.n_range (pa_cons (pe_ix ix_list (pv 4) (pv 7) (fun _ _ => rfl)) pa_nil)) (pg_name (i := 9) sc_law_stock_of.nd rfl (.inl rfl)) (pss_one (ps_if (pt_cmpR op_eq (pv 9) (pv 5) (nomark _)) (pss_one (ps_expr (pe_bm PySem.F.plainAttrs_list PySem.F.slot_list_append PySem.F.type_list_append mt_append (pv 8) (pa_cons (pe_call G_law_slot_of (hr.mono (by decide)) (by rfl) T.D_law_slot_of.G T.D_law_slot_of.F.kp T.D_law_slot_of.B .nil pass0 (pa_cons (pv 0) (pa_cons (pe_step (pv 3) (po_some (pv 7)) (po_some pe_int)) (pa_cons (pv 2) pa_nil)))) pa_nil)))) (pss_one (ps_if (PW.pt (pw_and (pt_cmpR op_eq (pv 2) pe_int (nomark _)) (pw_and1 (pt_cmpR op_eq (pe_call G_law_draw (hr.mono (by decide)) (by rfl) T.D_law_draw.G T.D_law_draw.F.kp T.D_law_draw.B .nil pass0 (pa_cons (pv 0) (pa_cons pe_int pa_nil))) pe_int (nomark _))))) (pss_one (ps_expr (pe_bm PySem.F.plainAttrs_list PySem.F.slot_list_append PySem.F.type_list_append mt_append (pv 8) (pa_cons (pv 3) pa_nil)))) (pss_one (ps_expr (pe_bm PySem.F.plainAttrs_list PySem.F.slot_list_append PySem.F.type_list_append mt_append (pv 8) (pa_cons (pe_call G_law_slot_of (hr.mono (by decide)) (by rfl) T.D_law_slot_of.G T.D_law_slot_of.F.kp T.D_law_slot_of.B .nil pass0 (pa_cons (pv 0) (pa_cons (pv 3) (pa_cons (pv 2) pa_nil)))) pa_nil)))))))))
      (pss_one (ps_expr (pe_bm PySem.F.plainAttrs_list PySem.F.slot_list_append PySem.F.type_list_append mt_append (pv 6) (pa_cons (pe_callTy call_tuple_of (by rfl) T.n_tuple (by decide +kernel) (pa_cons (pv 8) pa_nil)) pa_nil)))))))
      (pss_one (ps_ret (pe_callTy call_tuple_of (by rfl) T.n_tuple (by decide +kernel) (pa_cons (pv 6) pa_nil))))))))), ?_⟩
    -- longs
    refine ⟨_, rfl, d, l, _, rfl, hD, by decide, fun H1 r K1 D1 r1 r2 => ?_⟩
    obtain ⟨n, rfl, hn⟩ := nat_of (n := 8) (by decide) r1 r2
    refine ⟨_, _, rfl, rfl, _, rfl, by omega, by omega, ?_⟩
    refine fun A nA => lc_range (lo := 0) (n := (1 + (n : Int)).toNat) (fun i H' => Kp d H1 H' ∧ DI d l H' ∧ ∃ ns : List Nat, ns.length = i ∧ (∀ x ∈ ns, 0 < x ∧ x ≤ lo) ∧ H' A = some (.lst (ns.map nI)))
      ⟨(Kp.refl d H1).new nA, D1.new nA, [], rfl, (fun _ h => nomatch h), upd_same⟩ (fun i H' hi p => ⟨rfl, ?_⟩) (fun H' p => ?_)
    · obtain ⟨k, D', ns, l1, l2, l3⟩ := p
      refine ⟨_, rfl, _, rfl, d, l, _, rfl, D', by omega, fun H2 r K2 D2 r1 r2 => ?_⟩
      obtain ⟨m, rfl, hm⟩ := nat_of lo0 r1 r2
      have nd := D1.nd nA
      refine ⟨_, _, rfl, rfl, _, K2 _ _ nd.1 l3, by rw [List.length_map, l1]; exact lt_sz (by omega), (k.trans K2).mut nA, D2.at nd.1 nd.2, ns ++ [1 + m], ?_, ?_, ?_⟩
      · rw [List.length_append, l1]; rfl
      · intro x hx
        rcases List.mem_append.mp hx with h | h
        · exact l2 x h
        · rw [List.mem_singleton.mp h]; omega
      · rw [upd_same, List.map_append]; rfl
    obtain ⟨k, D2, ns, l1, l2, l3⟩ := p
    have nd := D1.nd nA
    have ln : ns.length = n + 1 := by omega
    have K2 := K1.trans k
    -- apart
    refine ⟨_, rfl, _, rfl, A, ns.map (fun x : Nat => (x : Int)), rfl, SqL.of (by rw [l3, List.map_map]; rfl), by rw [List.length_map]; omega, fun mn hmem hle => ?_⟩
    obtain ⟨mi, hmi, rfl⟩ := List.mem_map.mp hmem
    have b1 := l2 mi hmi
    have b2 : ∀ x ∈ ns, mi ≤ x := fun x hx => by have := hle (x : Int) (List.mem_map.mpr ⟨x, hx, rfl⟩); omega
    refine ⟨d, l, _, rfl, D2, by omega, fun H3 r K3 D3 r1 r2 => ?_⟩
    obtain ⟨ap, rfl, hap⟩ := nat_of b1.1 r1 r2
    -- found
    refine ⟨by show 0 ≤ sizeLine; decide, fun F nF => ?_⟩
    have eA3 := K3 _ _ nd.1 l3
    have nF2 := D3.nd nF
    have nF0 : H F = none := by
      cases h : H F with
      | none => rfl
      | some o => have := (K2.trans K3) F o nF2.1 h; rw [nF] at this; cases this
    have nAF : A ≠ F := ne_of_none eA3 nF
    refine ⟨_, rfl, _, _, rfl, .inl (SqL.of (by rw [upd_ne nAF]; exact eA3)), _, rfl, by rw [List.length_map]; omega, by rw [List.length_map]; omega, ?_⟩
    refine for_range (lo := 0) (n := (((ns.map nI).length : Nat) : Int).toNat) (fun i σ' H' => ∃ (acc : List V) (st : List Pat) (x7 x8 x9 : Option V), σ' = [some (.ref d), some (.int (lo : Int)), some (.int (mo : Int)), some (sV sg), some (.ref A), some (.int (ap : Int)), some (.ref F), x7, x8, x9] ∧
      Kp d H H' ∧ DI d l H' ∧ H' A = some (.lst (ns.map nI)) ∧ H' F = some (.lst acc) ∧ StkL H' acc st ∧ st.length = i ∧ (∀ p ∈ st, PatOk p ∧ ∀ s ∈ p, s.Nodup) ∧ ∀ (j : Nat) (p : Pat), st[j]? = some p → ∃ s, p[ap]? = some s ∧ ClsK j s)
      ⟨[], [], _, _, _, rfl, (K2.trans K3).new nF, D3.new nF, by rw [upd_ne nAF]; exact eA3, upd_same, ⟨rfl, fun i p h => by cases h⟩, rfl, (fun _ h => nomatch h), fun j p h => by cases h⟩ ?_ ?_
    · rintro i σ' H4 hi ⟨acc, st, x7, x8, x9, rfl, K4, D4, eA, eF, hS, ls, hok, hcl⟩
      have hi2 : i < ns.length := by rw [List.length_map] at hi; omega
      have gn : ns[i]? = some ns[i] := List.getElem?_eq_getElem hi2
      have gv : (ns.map nI)[i]? = some (V.int ((ns[i] : Nat) : Int)) := by rw [List.getElem?_map, gn]; rfl
      have bn := l2 ns[i] (List.getElem_mem hi2)
      have bm := b2 ns[i] (List.getElem_mem hi2)
      have e0 : ((0 : Int) + (i : Int)) = (i : Int) := Int.zero_add _
      refine ⟨by show 0 ≤ sizeLine; decide, fun B nB => ?_⟩
      have nBd := D4.nd nB
      have nAB : A ≠ B := ne_of_none eA nB
      have nFB : F ≠ B := ne_of_none eF nB
      refine ⟨_, rfl, _, rfl, A, _, _, _, rfl, rfl, SqL.of (by rw [upd_ne nAB]; exact eA), at_of e0 gv, _, rfl, by omega, by omega, ?_⟩
      refine for_range (lo := 0) (n := ((ns[i] : Nat) : Int).toNat) (fun j σ' H' => ∃ (pat : Pat) (x9 : Option V), σ' = [some (.ref d), some (.int (lo : Int)), some (.int (mo : Int)), some (sV sg), some (.ref A), some (.int (ap : Int)), some (.ref F), some (.int (0 + (i : Int))), some (.ref B), x9] ∧
        Kp d H4 H' ∧ DI d l H' ∧ H' B = some (.lst (pat.map sV)) ∧ pat.length = j ∧ (∀ s ∈ pat, SlotOk s) ∧ ∀ s, pat[ap]? = some s → ClsK i s)
        ⟨[], _, rfl, (Kp.refl d H4).new nB, D4.new nB, upd_same, rfl, (fun _ h => nomatch h), fun s h => by cases h⟩ ?_ ?_
      · rintro j σ' H5 hj ⟨pat, x9, rfl, K5, D5, eB, lp, hsl, hc⟩
        have hj2 : j < ns[i] := by omega
        have nBd5 : B ≠ d := nBd.1
        -- the end of a turn
        have fin : ∀ H6 s, Kp d H5 H6 → DI d l H6 → SlotOk s → (j = ap → ClsK i s) → H6 B = some (.lst (pat.map sV)) ∧ (Kp d H4 (upd H6 B (.lst (pat.map sV ++ [sV s]))) ∧ DI d l (upd H6 B (.lst (pat.map sV ++ [sV s]))) ∧ (upd H6 B (.lst (pat.map sV ++ [sV s]))) B = some (.lst ((pat ++ [s]).map sV)) ∧ (pat ++ [s]).length = j + 1 ∧ (∀ z ∈ pat ++ [s], SlotOk z) ∧ ∀ z, (pat ++ [s])[ap]? = some z → ClsK i z) := by
          intro H6 s K6 D6 hs hcs
          refine ⟨K6 _ _ nBd5 eB, (K5.trans K6).mut nB, D6.at nBd.1 nBd.2, ?_, ?_, ?_, ?_⟩
          · rw [upd_same, List.map_append]; rfl
          · rw [List.length_append, lp]; rfl
          · intro z hz
            rcases List.mem_append.mp hz with h | h
            · exact hsl z h
            · rw [List.mem_singleton.mp h]; exact hs
          · intro z hz
            by_cases c : ap < j
            · rw [List.getElem?_append_left (by omega)] at hz
              exact hc z hz
            · rw [List.getElem?_append_right (by omega)] at hz
              have e1 : ap - pat.length = 0 := by
                have := (List.getElem?_eq_some_iff.mp hz).1
                simp only [List.length_singleton] at this; omega
              rw [e1] at hz
              have ez : s = z := Option.some.inj hz
              rw [← ez]; exact hcs (by omega)
        have sB : (pat.map sV).length < sizeLine := by rw [List.length_map, lp]; exact lt_sz (by omega)
        refine ⟨_, rfl, _, rfl, rfl, _, bl_of (p := V.int (0 + (j : Int)) = V.int (ap : Int)) rfl, ite2 (fun c => ?_) (fun c => ?_)⟩
        · have c := of_decide_eq_true c
          have cj : j = ap := by have := V.int.inj c; omega
          -- signs[k::8]
          have i36 : i < 36 := by omega
          have ei := idx_up (z := mkS sg) (lo := i) (n := 8) (by decide) (by rw [mkS_len, sg_len]; omega)
          have pl := pick_len (by decide : 0 < 8) ei
          have pa := pick_at (by decide : 0 < 8) ei
          rw [mkS_len, sg_len] at pl
          refine ⟨.ref B, rfl, .inl ⟨rfl, _, .inl (.inl eB)⟩, _, rfl, _, rfl, _, rfl, _, rfl, _, rfl, mkS sg, _, rfl, rfl, by decide, by rw [mkS_len, sg_len]; decide, ?_, ?_⟩
          · rw [len_cps, e0]; exact Nat.le_trans pl.1 (by decide)
          rw [e0]
          generalize hp : (pickS (mkS sg) (some (i : Int)) ((8 : Nat) : Int)).cps.toList = ps at pl pa
          have hp2 : pickS (mkS sg) (some (i : Int)) 8 = mkS ps := by rw [← hp]; rfl
          rw [hp2]
          have nps : ps.Nodup := nd_of (f := fun k => i + 8 * k) (fun a b e => by
            have e : i + 8 * a = i + 8 * b := e
            omega) pa sg_nd
          refine ⟨_, rfl, d, l, ps, mo, rfl, D5, pl.2 i36, pl.1, nps, mo0, mo36, fun H6 z K6 D6 z0 z36 znd zin => ?_⟩
          obtain ⟨f1, f2⟩ := fin H6 z K6 D6 ⟨z0, z36, znd⟩ fun _ x hx => by
            obtain ⟨k, hk⟩ := List.mem_iff_getElem?.mp (zin x hx)
            exact ⟨k, pa k x hk⟩
          exact ⟨B, _, _, rfl, rfl, f1, sB, pat ++ [z], _, rfl, f2⟩
        · have cj : j ≠ ap := fun z => c (decide_eq_true (by rw [z, Int.zero_add]))
          refine ⟨_, rfl, rfl, _, bl_of (p := V.int (mo : Int) = V.int 36) rfl, ?_⟩
          have elses : ∀ H6, Kp d H5 H6 → DI d l H6 → ∀ z, SlotOk z → H6 B = some (.lst (pat.map sV)) ∧ ∃ (pat' : Pat) (x9 : Option V), [some (V.ref d), some (.int (lo : Int)), some (.int (mo : Int)), some (sV sg), some (.ref A), some (.int (ap : Int)), some (.ref F), some (.int (0 + (i : Int))), some (.ref B), some (V.int (0 + (j : Int)))] = [some (.ref d), some (.int (lo : Int)), some (.int (mo : Int)), some (sV sg), some (.ref A), some (.int (ap : Int)), some (.ref F), some (.int (0 + (i : Int))), some (.ref B), x9] ∧
              Kp d H4 (upd H6 B (.lst (pat.map sV ++ [sV z]))) ∧ DI d l (upd H6 B (.lst (pat.map sV ++ [sV z]))) ∧ (upd H6 B (.lst (pat.map sV ++ [sV z]))) B = some (.lst (pat'.map sV)) ∧ pat'.length = j + 1 ∧ (∀ s ∈ pat', SlotOk s) ∧ ∀ s, pat'[ap]? = some s → ClsK i s := fun H6 K6 D6 z hz => by
            obtain ⟨f1, f2⟩ := fin H6 z K6 D6 hz fun e => absurd e cj
            exact ⟨f1, pat ++ [z], _, rfl, f2⟩
          generalize decide (V.int (mo : Int) = V.int 36) = b1
          cases b1 with
          | false =>
            refine ⟨.ref B, rfl, .inl ⟨rfl, _, .inl (.inl eB)⟩, _, rfl, _, rfl, _, rfl, d, l, sg, mo, rfl, D5, sg_ok.pos, sg_ok.len, sg_nd, mo0, mo36, fun H6 z K6 D6 z0 z36 znd _ => ?_⟩
            obtain ⟨f1, f2⟩ := elses H6 K6 D6 z ⟨z0, z36, znd⟩
            exact ⟨B, _, _, rfl, rfl, f1, sB, f2⟩
          | true =>
            refine ⟨_, rfl, d, l, _, rfl, D5, by decide, fun H6 r K6 D6 _ _ => ?_⟩
            refine ⟨rfl, _, bl_of (p := V.int r = V.int 0) rfl, ?_⟩
            generalize decide (V.int r = V.int 0) = b2
            cases b2 with
            | false =>
              refine ⟨.ref B, rfl, .inl ⟨rfl, _, .inl (.inl (K6 _ _ nBd5 eB))⟩, _, rfl, _, rfl, _, rfl, d, l, sg, mo, rfl, D6, sg_ok.pos, sg_ok.len, sg_nd, mo0, mo36, fun H7 z K7 D7 z0 z36 znd _ => ?_⟩
              obtain ⟨f1, f2⟩ := elses H7 (K6.trans K7) D7 z ⟨z0, z36, znd⟩
              exact ⟨B, _, _, rfl, rfl, f1, sB, f2⟩
            | true =>
              obtain ⟨f1, f2⟩ := elses H6 K6 D6 sg sg_ok
              exact ⟨.ref B, rfl, .inl ⟨rfl, _, .inl (.inl f1)⟩, _, rfl, B, _, _, rfl, rfl, f1, sB, f2⟩
      · rintro σ' H5 ⟨pat, x9, rfl, K5, D5, eB, lp, hsl, hc⟩
        have lp2 : pat.length = ns[i] := by omega
        have eA5 := K5 _ _ nd.1 eA
        have eF5 := K5 _ _ nF2.1 eF
        refine ⟨.ref F, rfl, .inl ⟨rfl, _, .inl (.inl eF5)⟩, _, rfl, B, pat.map sV, rfl, .inl ⟨SqL.of eB, fun c nc => ?_⟩⟩
        have nFc : F ≠ c := ne_of_none eF5 nc
        have nAc : A ≠ c := ne_of_none eA5 nc
        have hS5 := hS.kp D4 K5
        refine ⟨F, _, _, rfl, rfl, by rw [upd_ne nFc]; exact eF5, by rw [hS.1, ls]; exact lt_sz (by omega), ?_⟩
        have eFc : upd H5 c (.tup (pat.map sV)) F = some (.lst acc) := by rw [upd_ne nFc]; exact eF5
        have hS6 := (hS5.same (same_upd (o := .tup (pat.map sV)) (Same.refl H5) nc)).mutL (o := .lst (acc ++ [V.ref c])) eFc
        have hpat : PatOk pat ∧ ∀ s ∈ pat, s.Nodup := ⟨⟨fun s hs => (hsl s hs).pos, by omega, fun s hs => (hsl s hs).len⟩, fun s hs => (hsl s hs).nd⟩
        refine ⟨acc ++ [.ref c], st ++ [pat], _, _, _, rfl, ((K4.trans K5).new nc).mut nF0, (D5.new nc).at nF2.1 nF2.2, ?_, upd_same, hS6.snoc ⟨c, rfl, ?_⟩, ?_, ?_, ?_⟩
        · rw [upd_ne nAF, upd_ne nAc]; exact eA5
        · rw [upd_ne nFc.symm, upd_same]
        · rw [List.length_append, ls]; rfl
        · intro p hp
          rcases List.mem_append.mp hp with h | h
          · exact hok p h
          · rw [List.mem_singleton.mp h]; exact hpat
        · intro j p hj
          by_cases cj : j < st.length
          · rw [List.getElem?_append_left cj] at hj
            exact hcl j p hj
          · rw [List.getElem?_append_right (by omega)] at hj
            have e1 : j - st.length = 0 := by
              have := (List.getElem?_eq_some_iff.mp hj).1
              simp only [List.length_singleton] at this; omega
            rw [e1] at hj
            have ep : pat = p := Option.some.inj hj
            subst ep
            have ej : j = i := by omega
            have hap2 : ap < pat.length := by omega
            exact ⟨pat[ap], List.getElem?_eq_getElem hap2, by rw [ej]; exact hc _ (List.getElem?_eq_getElem hap2)⟩
    · rintro σ' H4 ⟨acc, st, x7, x8, x9, rfl, K4, D4, eA, eF, hS, ls, hok, hcl⟩
      have ls2 : st.length = n + 1 := by rw [List.length_map] at ls; omega
      refine ⟨_, rfl, F, acc, rfl, .inl ⟨SqL.of eF, fun c nc => ?_⟩⟩
      have sc := same_upd (o := .tup acc) (Same.refl H4) nc
      refine q _ _ st (K4.new nc) (D4.new nc) ⟨c, acc, rfl, upd_same, hS.same sc⟩ ⟨by omega, by omega, fun p hp => ?_, fun p hp => (hok p hp).1, fun p hp => (hok p hp).2, ?_⟩
      · obtain ⟨i, hi⟩ := List.mem_iff_getElem?.mp hp
        obtain ⟨s, e, _⟩ := hcl i p hi
        have := (List.getElem?_eq_some_iff.mp e).1
        omega
      exact apart_of (ap := ap) st 0 (by omega) fun i p hi => by rw [Nat.zero_add]; exact hcl i p hi
end
end Vf

set_option Elab.async false
set_option linter.all false
set_option maxRecDepth 100000
set_option maxHeartbeats 4000000
namespace Vf
open PySem PySem.Spec PyProof.Rows L2 TL RT
theorem place_nil : ∀ (st : List Pat) (a : Nat), (∀ p ∈ st, 0 < p.length) → placeAt st [] a = none
  | [], _, _ => rfl
  | p :: r, a, h => by
    show (if Bel [] p then _ else _) = none
    rw [if_neg fun b => by have := h p List.mem_cons_self; have b1 : 0 = p.length := b.1; omega]
    exact place_nil r _ fun x hx => h x (List.mem_cons_of_mem _ hx)
theorem stemAt_len : ∀ {st : List Pat} {k n : Nat}, (∀ p ∈ st, p.length ≤ n) → (stemAt st k).length ≤ n
  | [], _, _, _ => Nat.zero_le _
  | p :: r, k, n, h => by
    show (if manyN p ≤ k then _ else _ : List Nat).length ≤ n
    by_cases c : manyN p ≤ k
    · rw [if_pos c]; exact stemAt_len fun x hx => h x (List.mem_cons_of_mem _ hx)
    · rw [if_neg c, stemF_length]; exact h p List.mem_cons_self
theorem total_pos {st : List Pat} (h : Good st) : 0 < totalN st := by
  have h0 := h.ne
  have := manyN_le_total (List.getElem_mem h0 : st[0] ∈ st)
  have := manyN_pos (h.ok _ (List.getElem_mem h0)).pos
  omega
theorem eqv_int {H : Hp} (i : Int) : Eqv 1 H (.int i) (.int i) := .inl (.inr (.inl ⟨i, rfl, rfl⟩))
theorem eqv_str {H : Hp} (z : List Nat) : Eqv 1 H (sV z) (sV z) := .inl (.inl ⟨_, rfl, rfl⟩)
theorem eqv_opt {H : Hp} (o : Option Nat) : Eqv 1 H (optV o) (optV o) := by
  cases o with
  | none => exact .inl (.inr (.inr ⟨rfl, rfl⟩))
  | some n => exact eqv_int _
theorem DI.neS {d l a : Addr} {H : Hp} {zs : List (List Nat)} (h : DI d l H) (e : H a = some (.lst (zs.map sV))) : a ≠ d := by
  obtain ⟨_, _, i, b, s, c, _, h2⟩ := h
  intro z
  rw [z, h2] at e
  have e2 := HO.lst.inj (Option.some.inj e)
  cases zs with
  | nil => cases e2
  | cons x r => cases e2
theorem join2 {α β : Type} {R G : α → β → Prop} {M : Prop} (main : (∀ a b, R a b → G a b) → M) (key : ∀ a b, R a b → G a b) : M := main key
theorem join0 {G M : Prop} (main : G → M) (key : G) : M := main key
section
variable {P : Program} {w : World} {K : PySem.W.Frag} {mg : Str → Option Value} {base : Heap}
def spNumbered : Sp := fun vs H Q _ => ∃ (d l : Addr) (v : V) (st : List Pat), vs = [.ref d, v] ∧ DI d l H ∧ StkV H v st ∧ Good st ∧ ∀ H', Kp d H H' → DI d l H' → Q (.bl true) H'
theorem Kp.same {d : Addr} {H H' : Hp} (h : Same H H') : Kp d H H' := fun b o _ e => h b o e
theorem ok_numbered (T : Txt K mg) : FnOk P w K mg base CX0 4 T.a_law_numbered T.d_law_numbered ["_law_d", "_law_stock"] spNumbered := by
  have G_law_many_of : FnOk P w K mg base CX0 1 T.a_law_many_of T.d_law_many_of ["_law_pattern"] spMany := ok_law_many_of T
  have G_stems_many : FnOk P w K mg base CX0 2 T.a_stems_many T.d_stems_many ["stock"] spTotal := ok_stems_many T
  have G_law_exact : FnOk P w K mg base CX0 2 T.a_law_exact T.d_law_exact ["_law_told", "_law_due"] (spExact 1) := ok_exact T 1
  have G_law_great : FnOk P w K mg base CX0 2 T.a_law_great T.d_law_great ["_law_d", "_law_many"] spGreat := ok_great T
  have G_law_stems : FnOk P w K mg base CX0 1 T.a_law_stems T.d_law_stems ["_law_stock"] spStems := ok_law_stems T
  have G_law_stem_of : FnOk P w K mg base CX0 2 T.a_law_stem_of T.d_law_stem_of ["_law_stock", "_law_k"] spStemOf := ok_law_stem_of T
  have G_stem_at : FnOk P w K mg base CX0 2 T.a_stem_at T.d_stem_at ["stock", "k"] spStemAt := ok_stem_at T
  have G_place_in : FnOk P w K mg base CX0 2 T.a_place_in T.d_place_in ["stock", "stem"] spPlace := ok_place_in T
  have G_law_place_of : FnOk P w K mg base CX0 2 T.a_law_place_of T.d_law_place_of ["_law_stock", "_law_text"] spPlaceL := ok_law_place_of T
  have G_law_near : FnOk P w K mg base CX0 3 T.a_law_near T.d_law_near ["_law_d", "_law_stem"] spNear := ok_near T
  refine T.D_law_numbered.F.ok sc_law_numbered (fun vs H Q E h => ?_) (fun cdv A outer s H vs Q E hr h => ?_)
  · obtain ⟨d, l, v, st, rfl, _⟩ := h
    rfl
  · obtain ⟨d, l, v, st, rfl, hD, hV, hg, q⟩ := h
    refine ⟨_, (pss_cons (ps_set (i := 2) sc_law_numbered.nd rfl (.inr rfl) (pe_callB (cr_sum (by rfl)) (by rfl) T.n_sum (by decide +kernel) (pa_cons (pe_lc (own := [("_law_pattern", 5)]) (g := gName 5) (tt := tYes) rfl sc_law_numbered.nd (pi_tup (pv 1)) (blkOk_by (own := [("_law_pattern", 5)]) (N := ["_law_d", "_law_stock", "_law_total", "_law_numbers", "_law_ahead", "_law_pattern", "_law_listed", "_law_k", "_law_due", "_law_text"]) (sc := defScope s_law_numbered) (by decide +kernel)) (fun _ _ _ _ _ => (pg_name (i := 5) sc_law_numbered.nd rfl (.inl rfl))) (fun _ _ _ _ _ => pts_nil) (fun _ _ _ _ _ => (pe_call G_law_many_of (hr.mono (by decide)) (by rfl) T.D_law_many_of.G T.D_law_many_of.F.kp T.D_law_many_of.B .nil pass0 (pa_cons (pv 5) pa_nil)))) pa_nil)))
      (pss_cons (ps_if (pt_not (pt_val (pe_call G_law_exact (hr.mono (by decide)) (by rfl) T.D_law_exact.G T.D_law_exact.F.kp T.D_law_exact.B .nil pass0 (pa_cons (pe_call G_stems_many (hr.mono (by decide)) (by rfl) T.D_stems_many.G T.D_stems_many.F.kp T.D_stems_many.B .nil pass0 (pa_cons (pv 1) pa_nil)) (pa_cons (pv 2) pa_nil))))) (pss_one (ps_ret pe_bl)) pss_nil)
      (pss_cons (ps_set (i := 3) sc_law_numbered.nd rfl (.inl rfl) (pe_op op_cat (pe_lst (pa_cons pe_int pa_nil)) (pe_lc (own := [("_law_k", 7)]) (g := gName 7) (tt := tYes) rfl sc_law_numbered.nd (pi_range1 (by rfl) T.n_range (pa_cons pe_int pa_nil)) (blkOk_by (own := [("_law_k", 7)]) (N := ["_law_d", "_law_stock", "_law_total", "_law_numbers", "_law_ahead", "_law_pattern", "_law_listed", "_law_k", "_law_due", "_law_text"]) (sc := defScope s_law_numbered) (by decide +kernel)) (fun _ _ _ _ _ => (pg_name (i := 7) sc_law_numbered.nd rfl (.inl rfl))) (fun _ _ _ _ _ => pts_nil) (fun _ _ _ _ _ => (pe_call G_law_great (hr.mono (by decide)) (by rfl) T.D_law_great.G T.D_law_great.F.kp T.D_law_great.B .nil pass0 (pa_cons (pv 0) (pa_cons (pv 2) pa_nil)))))))
      (pss_cons (ps_set (i := 4) sc_law_numbered.nd rfl (.inl rfl) pe_int)
      (pss_cons (ps_for PassesOwn.never rfl (pi_tup (pv 1)) (pg_name (i := 5) sc_law_numbered.nd rfl (.inl rfl)) (pss_cons (ps_set (i := 4) sc_law_numbered.nd rfl (.inl rfl) (pe_op op_add (pv 4) (pe_call G_law_many_of (hr.mono (by decide)) (by rfl) T.D_law_many_of.G T.D_law_many_of.F.kp T.D_law_many_of.B .nil pass0 (pa_cons (pv 5) pa_nil))))
      (pss_one (ps_set (i := 3) sc_law_numbered.nd rfl (.inl rfl) (pe_op op_cat (pv 3) (pe_lst (pa_cons (pe_op op_sub (pv 4) pe_int) (pa_cons (pe_op op_modN (pe_callTy call_int1 (by rfl) T.n_int (by decide +kernel) (pa_cons (pv 4) pa_nil)) (pv 2)) pa_nil))))))))
      (pss_cons (ps_set (i := 6) sc_law_numbered.nd rfl (.inl rfl) (pe_ifExp (pt_cmpR op_le (pv 2) pe_int (nomark _)) (pe_call G_law_stems (hr.mono (by decide)) (by rfl) T.D_law_stems.G T.D_law_stems.F.kp T.D_law_stems.B .nil pass0 (pa_cons (pv 1) pa_nil)) (pe_lst pa_nil)))
      (pss_cons (ps_for PassesOwn.never rfl (pi_list (pv 3)) (pg_name (i := 7) sc_law_numbered.nd rfl (.inl rfl)) (pss_cons (ps_set (i := 8) sc_law_numbered.nd rfl (.inl rfl) (pe_ifExp (pt_truth (pv 6) (by intro _; rfl)) (pe_ix ix_list (pv 6) (pv 7) (fun _ _ => rfl)) (pe_call G_law_stem_of (hr.mono (by decide)) (by rfl) T.D_law_stem_of.G T.D_law_stem_of.F.kp T.D_law_stem_of.B .nil pass0 (pa_cons (pv 1) (pa_cons (pv 7) pa_nil)))))
      (pss_cons (ps_if (PW.pt (pw_or (pt_not (pt_val (pe_call G_law_exact (hr.mono (by decide)) (by rfl) T.D_law_exact.G T.D_law_exact.F.kp T.D_law_exact.B .nil pass0 (pa_cons (pe_call G_stem_at (hr.mono (by decide)) (by rfl) T.D_stem_at.G T.D_stem_at.F.kp T.D_stem_at.B .nil pass0 (pa_cons (pv 1) (pa_cons (pv 7) pa_nil))) (pa_cons (pv 8) pa_nil))))) (pw_or1 (pt_not (pt_val (pe_call G_law_exact (hr.mono (by decide)) (by rfl) T.D_law_exact.G T.D_law_exact.F.kp T.D_law_exact.B .nil pass0 (pa_cons (pe_call G_place_in (hr.mono (by decide)) (by rfl) T.D_place_in.G T.D_place_in.F.kp T.D_place_in.B .nil pass0 (pa_cons (pv 1) (pa_cons (pv 8) pa_nil))) (pa_cons (pv 7) pa_nil)))))))) (pss_one (ps_ret pe_bl)) pss_nil)
      (pss_cons (ps_set (i := 9) sc_law_numbered.nd rfl (.inl rfl) (pe_call G_law_near (hr.mono (by decide)) (by rfl) T.D_law_near.G T.D_law_near.F.kp T.D_law_near.B .nil pass0 (pa_cons (pv 0) (pa_cons (pv 8) pa_nil))))
      (pss_one (ps_if (pt_not (pt_val (pe_call G_law_exact (hr.mono (by decide)) (by rfl) T.D_law_exact.G T.D_law_exact.F.kp T.D_law_exact.B .nil pass0 (pa_cons (pe_call G_place_in (hr.mono (by decide)) (by rfl) T.D_place_in.G T.D_place_in.F.kp T.D_place_in.B .nil pass0 (pa_cons (pv 1) (pa_cons (pv 9) pa_nil))) (pa_cons (pe_call G_law_place_of (hr.mono (by decide)) (by rfl) T.D_law_place_of.G T.D_law_place_of.F.kp T.D_law_place_of.B .nil pass0 (pa_cons (pv 1) (pa_cons (pv 9) pa_nil))) pa_nil))))) (pss_one (ps_ret pe_bl)) pss_nil))))))
      (pss_one (ps_ret (pe_cmpR op_isN (pe_call G_place_in (hr.mono (by decide)) (by rfl) T.D_place_in.G T.D_place_in.F.kp T.D_place_in.B .nil pass0 (pa_cons (pv 1) (pa_cons pe_str pa_nil))) pe_non (nomark _))))))))))), ?_⟩
    obtain ⟨a, us, rfl, e, hS⟩ := id hV
    have nda := hD.neTup e
    have tp := total_pos hg
    -- total
    refine ⟨_, rfl, a, rfl, ⟨_, SqT.of e⟩, fun D nD => ?_⟩
    refine lc_tup (K := K) (a := a) (xs := us) (PvI H D fun i => ((totalN (st.take i) : Nat) : Int)) ⟨same_upd (Same.refl H) nD, [], rfl, rfl, upd_same⟩ ?_ ?_ ?_
    · rintro i H' _ ⟨k, _⟩
      exact SqT.of (k _ _ e)
    · rintro i x H' hx ⟨k, ns, l1, l2, l3⟩
      obtain ⟨p, hp, hv⟩ := hS.at hx
      have hi := (List.getElem?_eq_some_iff.mp hx).1
      refine ⟨rfl, ?_⟩
      refine ⟨_, rfl, x, p, rfl, hv.same k, hg.ok p (mem_of_at hp), _, l3, ?_, same_mut k nD, ns ++ [((manyN p : Nat) : Int)], ?_, ?_, ?_⟩
      · rw [List.length_map, l1]; have h1 := hS.1; have h2 := hg.len; exact lt_sz (by omega)
      · rw [List.length_append, l1]; rfl
      · show (ns ++ [((manyN p : Nat) : Int)]).sum = ((totalN (st.take (i + 1)) : Nat) : Int)
        rw [sum_snoc, l2, totalN_snoc st i p hp, Int.natCast_add]
      · rw [upd_same, List.map_append]; rfl
    rintro H1 ⟨k1, ns, l1, l2, l3⟩
    have l2 : ns.sum = ((totalN (st.take us.length) : Nat) : Int) := l2
    rw [hS.1, List.take_length] at l2
    refine ⟨D, ns, rfl, SqL.of l3, ?_⟩
    rw [l2]
    have D1 : DI d l H1 := hD.keep k1
    -- the number of stems
    refine ⟨_, rfl, .ref a, st, rfl, hV.same k1, hg, fun H2 k2 => ?_⟩
    have D2 : DI d l H2 := D1.keep k2
    have k2 := k1.trans k2
    refine ⟨_, rfl, _, _, rfl, eqv_int _, true, rfl, ?_⟩
    -- numbers
    refine ⟨by show 1 ≤ sizeLine; decide, fun Z nZ => ?_⟩
    have kZ := same_upd (o := .lst [V.int 0]) (Same.refl H2) nZ
    have DZ := D2.new (o := .lst [V.int 0]) nZ
    have ndZ := D2.nd nZ
    refine ⟨_, rfl, by decide, by decide, fun N nN => lc_range (lo := 0) (n := (5 : Int).toNat) (fun i H' => Kp d (upd H2 Z (.lst [V.int 0])) H' ∧ DI d l H' ∧ ∃ ns : List Nat, ns.length = i ∧ (∀ x ∈ ns, x < totalN st) ∧ H' N = some (.lst (ns.map nI)))
      ⟨(Kp.refl d _).new nN, DZ.new nN, [], rfl, (fun _ h => nomatch h), upd_same⟩ (fun i H' hi p => ⟨rfl, ?_⟩) (fun H3 p => ?_)⟩
    · obtain ⟨k, D', ns, l1, l2, l3⟩ := p
      refine ⟨_, rfl, _, rfl, d, l, _, rfl, D', by omega, fun H4 r K4 D4 r1 r2 => ?_⟩
      have nd := DZ.nd nN
      obtain ⟨m, rfl⟩ : ∃ m : Nat, r = (m : Int) := ⟨r.toNat, by omega⟩
      refine ⟨_, K4 _ _ nd.1 l3, by rw [List.length_map, l1]; exact lt_sz (by omega), (k.trans K4).mut nN, D4.at nd.1 nd.2, ns ++ [m], ?_, ?_, ?_⟩
      · rw [List.length_append, l1]; rfl
      · intro x hx
        rcases List.mem_append.mp hx with h | h
        · exact l2 x h
        · rw [List.mem_singleton.mp h]; omega
      · rw [upd_same, List.map_append]; rfl
    obtain ⟨k3, D3, ns, ln, bn, eN⟩ := p
    have eZ := k3 _ _ ndZ.1 (upd_same (H := H2) (a := Z) (o := .lst [V.int 0]))
    have KA : Kp d H H3 := (Kp.same (k2.trans kZ)).trans k3
    refine ⟨Z, N, _, _, rfl, rfl, eZ, eN, ?_, fun L0 nL0 => ?_⟩
    · rw [List.length_map, ln]; exact Nat.le_of_lt (lt_sz (by show 1 + 5 < 100000; decide))
    have e3 := KA _ _ nda e
    have KL : Kp d H (upd H3 L0 (.lst ([V.int 0] ++ ns.map nI))) := KA.new nL0
    refine ⟨_, rfl, a, rfl, ⟨_, SqT.of (KL _ _ nda e)⟩, ?_⟩
    refine for_tup (K := K) (a := a) (xs := us) (fun i σ' H' => ∃ (L : Addr) (ws : List V) (az : Int) (x5 : Option V), σ' = [some (.ref d), some (.ref a), some (.int ((totalN st : Nat) : Int)), some (.ref L), some (.int az), x5, none, none, none, none] ∧
      Kp d H H' ∧ DI d l H' ∧ az = ((totalN (st.take i) : Nat) : Int) ∧ H' L = some (.lst ws) ∧ ws.length = 6 + 2 * i ∧ ∀ w ∈ ws, ∃ x : Nat, w = .int (x : Int) ∧ x < totalN st)
      ⟨L0, _, 0, _, rfl, KL, D3.new nL0, rfl, upd_same, by rw [List.length_append, List.length_map, ln]; rfl, fun w hw => by
        rcases List.mem_append.mp hw with h | h
        · rw [List.mem_singleton.mp h]; exact ⟨0, rfl, tp⟩
        · obtain ⟨x, hx, rfl⟩ := List.mem_map.mp h
          exact ⟨x, rfl, bn x hx⟩⟩ ?_ ?_ ?_
    · rintro i σ' H' _ ⟨_, _, _, _, _, k, _⟩
      exact SqT.of (k _ _ nda e)
    · rintro i x σ' H4 hx ⟨L, ws, az, x5, rfl, K4, D4, ea, eL, lw, bw⟩
      obtain ⟨p, hp, hv⟩ := hS.at hx
      have hok := hg.ok p (mem_of_at hp)
      have m0 := manyN_pos hok.pos
      have hi := (List.getElem?_eq_some_iff.mp hp).1
      have h8 := hg.len
      have et := totalN_snoc st i p hp
      have tl := total_take_le st (i + 1)
      have ea2 : az + ((manyN p : Nat) : Int) = ((totalN (st.take (i + 1)) : Nat) : Int) := by rw [ea, et, Int.natCast_add]
      refine ⟨_, rfl, _, rfl, x, p, rfl, hv.kp hD K4, hok, _, _, rfl, rfl, ?_⟩
      refine ⟨_, rfl, _, rfl, _, _, rfl, rfl, _, rfl, .inl ⟨_, rfl, _, rfl, _, _, rfl, rfl, by omega, by show 2 ≤ sizeLine; decide, fun M nM => ?_⟩⟩
      have nLM : L ≠ M := ne_of_none eL nM
      refine ⟨L, M, _, _, rfl, rfl, by rw [upd_ne nLM]; exact eL, upd_same, by show ws.length + 2 ≤ sizeLine; exact Nat.le_of_lt (lt_sz (by omega)), fun L2 n2 => ?_⟩
      refine ⟨L2, _, _, _, rfl, (K4.new nM).new n2, (D4.new nM).new n2, ea2, upd_same, by rw [List.length_append, lw]; show 6 + 2 * i + 2 = _; omega, fun w hw => ?_⟩
      rcases List.mem_append.mp hw with h | h
      · exact bw w h
      · simp only [List.mem_cons, List.not_mem_nil, or_false] at h
        rcases h with rfl | rfl
        · exact ⟨totalN (st.take (i + 1)) - 1, congrArg V.int (by omega), by omega⟩
        · have f1 := Int.fmod_nonneg_of_pos (az + ((manyN p : Nat) : Int)) (b := ((totalN st : Nat) : Int)) (by omega)
          have f2 := Int.fmod_lt_of_pos (az + ((manyN p : Nat) : Int)) (b := ((totalN st : Nat) : Int)) (by omega)
          exact ⟨((az + ((manyN p : Nat) : Int)).fmod ((totalN st : Nat) : Int)).toNat, congrArg V.int (by omega), by omega⟩
    rintro σ' H4 ⟨L, ws, az, x5, rfl, K4, D4, ea, eL, lw, bw⟩
    have h8 := hg.len
    have hsl := hS.1
    have nLd : L ≠ d := by
      obtain ⟨_, _, i, b, s5, c, _, h2⟩ := id D4
      intro z
      rw [z, h2] at eL
      have := congrArg List.length (HO.lst.inj (Option.some.inj eL))
      rw [lw] at this
      have t5 : (5 : Nat) = 6 + 2 * us.length := this
      omega
    refine join2 (R := fun (LL : Addr) (H5 : Hp) => ∃ lst : List (List Nat), Kp d H4 H5 ∧ DI d l H5 ∧ H5 LL = some (.lst (lst.map sV)) ∧ (lst = [] ∨ lst = stemsL st))
      (fun key => ⟨_, rfl, _, _, rfl, rfl, _, rfl, ite2 (fun c => ⟨_, rfl, .ref a, st, rfl, hV.kp hD K4, hg, by have c2 := of_decide_eq_true c; omega, fun H5 LL k5 e5 => key LL H5 ⟨stemsL st, Kp.same k5, D4.keep k5, e5, .inr rfl⟩⟩)
        (fun c => ⟨by show 0 ≤ sizeLine; decide, fun LL nLL => key LL _ ⟨[], (Kp.refl d H4).new nLL, D4.new nLL, upd_same, .inl rfl⟩⟩)⟩) ?_
    · rintro LL H5 ⟨lst, KK, D5, e5, hl⟩
      have K5 := K4.trans KK
      have nLLd := D5.neS e5
      refine ⟨_, rfl, L, rfl, ⟨_, SqL.of (KK _ _ nLd eL)⟩, ?_⟩
      refine for_list (K := K) (a := L) (xs := ws) (fun j σ' H' => ∃ (x7 x8 x9 : Option V), σ' = [some (.ref d), some (.ref a), some (.int ((totalN st : Nat) : Int)), some (.ref L), some (.int az), x5, some (.ref LL), x7, x8, x9] ∧ Kp d H5 H' ∧ DI d l H')
        ⟨none, none, none, rfl, Kp.refl d _, D5⟩ ?_ ?_ ?_
      · rintro j σ' H' _ ⟨_, _, _, _, k, _⟩
        exact SqL.of ((KK.trans k) _ _ nLd eL)
      · rintro j x σ' H6 hx ⟨x7, x8, x9, rfl, k6, D6⟩
        obtain ⟨n, rfl, hn⟩ := bw x (mem_of_at hx)
        have K6 := K5.trans k6
        have eLL6 := k6 _ _ nLLd e5
        have sl8 : (stemAt st n).length ≤ 8 := stemAt_len fun p hp => (hg.ok p hp).len
        have gs : (!(lst.map sV).isEmpty) = true → (lst.map sV)[n]? = some (sV (stemAt st n)) := fun h => by
          rcases hl with hl | hl
          · rw [hl] at h; cases h
          · rw [hl, List.getElem?_map, stemsL_at (fun p hp => (hg.ok p hp).pos) hn]; rfl
        refine join0 (fun key2 => ⟨_, rfl, _, .inl ⟨_, SqL.of eLL6, rfl⟩, ite2 (fun hb => ⟨_, rfl, _, rfl, LL, _, _, _, rfl, rfl, SqL.of eLL6, atI_nat (gs hb), key2⟩) (fun _ => ⟨_, rfl, _, rfl, .ref a, st, n, rfl, hV.kp hD K6, hg, hn, key2⟩)⟩) ?_
        · skip
          have pb := place_back 0 (fun p hp => (hg.ok p hp).pos) hg.nd hg.ap hn
          rw [Nat.zero_add] at pb
          refine ⟨_, rfl, _, rfl, .ref a, st, n, rfl, hV.kp hD K6, hg, hn, fun H7 k7 => ?_⟩
          refine ⟨_, rfl, _, _, rfl, eqv_str _, true, rfl, ?_⟩
          have K7 := K6.trans (Kp.same k7)
          refine ⟨_, rfl, _, rfl, .ref a, st, _, rfl, hV.kp hD K7, hg, by omega, fun H8 k8 => ?_⟩
          rw [pb]
          refine ⟨_, rfl, _, _, rfl, eqv_opt (some n), true, rfl, ?_⟩
          have D8 := (D6.keep k7).keep k8
          have K8 := K7.trans (Kp.same k8)
          refine ⟨_, rfl, _, rfl, d, l, _, rfl, D8, by omega, fun H9 z K9 D9 hz => ?_⟩
          have K9' := K8.trans K9
          refine ⟨_, rfl, _, rfl, .ref a, st, z, rfl, hV.kp hD K9', hg, hz, fun H10 k10 => ?_⟩
          have K10 := K9'.trans (Kp.same k10)
          refine ⟨_, rfl, _, rfl, .ref a, st, z, rfl, hV.kp hD K10, hg, hz, _, _, rfl, eqv_opt _, true, rfl, ?_⟩
          exact ⟨_, _, _, rfl, ((k6.trans (Kp.same k7)).trans (Kp.same k8)).trans (K9.trans (Kp.same k10)), D9.keep k10⟩
      · rintro σ' H6 ⟨x7, x8, x9, rfl, k6, D6⟩
        have K6 := K5.trans k6
        refine ⟨_, rfl, .ref a, st, [], rfl, hV.kp hD K6, hg, by decide, fun H7 k7 => ?_⟩
        rw [place_nil st 0 hg.pl]
        refine ⟨rfl, ?_⟩
        rw [decide_eq_true (show optV none = V.non from rfl)]
        exact q H7 (K6.trans (Kp.same k7)) (D6.keep k7)
def spLaw (K : PySem.W.Frag) : Sp := fun vs H Q _ => ∃ (a : Addr) (ns : List Int), vs = [.ref a] ∧ SqL K H a (ns.map V.int) ∧ ns.length ≤ 63 ∧ ∀ H', Q (.bl true) H'
theorem ok_law (T : Txt K mg) : FnOk P w K mg base CX0 5 T.a_law T.d_law ["_law_script"] (spLaw K) := by
  have G_law_begin : FnOk P w K mg base CX0 1 T.a_law_begin T.d_law_begin ["_law_script"] (spBegin K) := ok_begin T
  have G_law_stock_of : FnOk P w K mg base CX0 3 T.a_law_stock_of T.d_law_stock_of ["_law_d", "_law_longest", "_law_most"] spStockOf := ok_stock_of T
  have G_law_numbered : FnOk P w K mg base CX0 4 T.a_law_numbered T.d_law_numbered ["_law_d", "_law_stock"] spNumbered := ok_numbered T
  refine T.D_law.F.ok sc_law (fun vs H Q E h => ?_) (fun cdv A outer s H vs Q E hr h => ?_)
  · obtain ⟨a, ns, rfl, _⟩ := h
    rfl
  · obtain ⟨a, ns, rfl, hS, hl, q⟩ := h
    refine ⟨_, (pss_cons (ps_set (i := 1) sc_law.nd rfl (.inl rfl) (pe_call G_law_begin (hr.mono (by decide)) (by rfl) T.D_law_begin.G T.D_law_begin.F.kp T.D_law_begin.B .nil pass0 (pa_cons (pv 0) pa_nil)))
      (pss_cons (ps_set (i := 2) sc_law.nd rfl (.inl rfl) (pe_call G_law_stock_of (hr.mono (by decide)) (by rfl) T.D_law_stock_of.G T.D_law_stock_of.F.kp T.D_law_stock_of.B .nil pass0 (pa_cons (pv 1) (pa_cons pe_int (pa_cons pe_int pa_nil)))))
      (pss_cons (ps_set (i := 3) sc_law.nd rfl (.inl rfl) (pe_call G_law_stock_of (hr.mono (by decide)) (by rfl) T.D_law_stock_of.G T.D_law_stock_of.F.kp T.D_law_stock_of.B .nil pass0 (pa_cons (pv 1) (pa_cons pe_int (pa_cons pe_int pa_nil)))))
      (pss_cons (ps_for PassesOwn.never rfl (pi_range1 (by rfl) T.n_range (pa_cons pe_int pa_nil)) (pg_name (i := 4) sc_law.nd rfl (.inl rfl)) (pss_one (ps_if (PW.pt (pw_or (pt_not (pt_val (pe_call G_law_numbered (hr.mono (by decide)) (by rfl) T.D_law_numbered.G T.D_law_numbered.F.kp T.D_law_numbered.B .nil pass0 (pa_cons (pv 1) (pa_cons (pv 2) pa_nil))))) (pw_or1 (pt_not (pt_val (pe_call G_law_numbered (hr.mono (by decide)) (by rfl) T.D_law_numbered.G T.D_law_numbered.F.kp T.D_law_numbered.B .nil pass0 (pa_cons (pv 1) (pa_cons (pv 3) pa_nil)))))))) (pss_one (ps_ret pe_bl)) pss_nil)))
      (pss_one (ps_ret pe_bl)))))), ?_⟩
    refine ⟨_, rfl, a, ns, rfl, hS, hl, fun H1 d l s1 D1 => ?_⟩
    refine ⟨_, rfl, d, l, 3, 3, rfl, D1, by decide, by decide, by decide, by decide, fun H2 v1 st1 K2 D2 hV1 g1 => ?_⟩
    refine ⟨_, rfl, d, l, 8, 36, rfl, D2, by decide, by decide, by decide, by decide, fun H3 v2 st2 K3 D3 hV2 g2 => ?_⟩
    have hV1 := hV1.kp D2 K3
    refine ⟨2, rfl, by decide, by decide, ?_⟩
    refine for_range (lo := 0) (n := (2 : Int).toNat) (fun i σ' H' => ∃ x4 : Option V, σ' = [some (.ref a), some (.ref d), some v1, some v2, x4] ∧ Kp d H3 H' ∧ DI d l H') ⟨none, rfl, Kp.refl d _, D3⟩ ?_ ?_
    · rintro i σ' H4 hi ⟨x4, rfl, K4, D4⟩
      refine ⟨_, rfl, _, rfl, d, l, v1, st1, rfl, D4, hV1.kp D3 K4, g1, fun H5 K5 D5 => ?_⟩
      refine ⟨true, rfl, ?_⟩
      refine ⟨_, rfl, _, rfl, d, l, v2, st2, rfl, D5, hV2.kp D3 (K4.trans K5), g2, fun H6 K6 D6 => ?_⟩
      exact ⟨true, rfl, _, rfl, (K4.trans K5).trans K6, D6⟩
    · rintro σ' H4 ⟨x4, rfl, K4, D4⟩
      exact q H4
end
theorem all_mk {l : PySem.W.OpenLaw} {w : World} {K : PySem.W.Frag} {h : Heap} {mg : Str → Option Value} {fa : Addr} (X : K.In h) (G : h.Ns mainGlobals mg) (hfa : mg "law" = some (.ref fa))
    {f_stems_many : Addr} {od_stems_many an_stems_many : Option Addr} {sl_stems_many : Array (Option Value)} {oc_stems_many kV_stems_many dc_stems_many pm_stems_many cd_stems_many ct_stems_many : Value}
    (a_stems_many : PySem.W.nsIn K mainGlobals "stems_many" = some (some (.ref f_stems_many))) (l_stems_many : K.lookup f_stems_many = some ⟨oc_stems_many, od_stems_many, .func (PySem.W.fnOf "stems_many" "stems_many" (defArgs s_stems_many) (defBody s_stems_many) (defScope s_stems_many) .none kV_stems_many dc_stems_many pm_stems_many an_stems_many cd_stems_many ct_stems_many), sl_stems_many⟩) (c_stems_many : PySem.W.codeIn K cd_stems_many "stems_many" = true) (k_stems_many : PySem.W.keepIn K (.ref f_stems_many) = true)
    {f_stem_at : Addr} {od_stem_at an_stem_at : Option Addr} {sl_stem_at : Array (Option Value)} {oc_stem_at kV_stem_at dc_stem_at pm_stem_at cd_stem_at ct_stem_at : Value}
    (a_stem_at : PySem.W.nsIn K mainGlobals "stem_at" = some (some (.ref f_stem_at))) (l_stem_at : K.lookup f_stem_at = some ⟨oc_stem_at, od_stem_at, .func (PySem.W.fnOf "stem_at" "stem_at" (defArgs s_stem_at) (defBody s_stem_at) (defScope s_stem_at) .none kV_stem_at dc_stem_at pm_stem_at an_stem_at cd_stem_at ct_stem_at), sl_stem_at⟩) (c_stem_at : PySem.W.codeIn K cd_stem_at "stem_at" = true) (k_stem_at : PySem.W.keepIn K (.ref f_stem_at) = true)
    {f_place_in : Addr} {od_place_in an_place_in : Option Addr} {sl_place_in : Array (Option Value)} {oc_place_in kV_place_in dc_place_in pm_place_in cd_place_in ct_place_in : Value}
    (a_place_in : PySem.W.nsIn K mainGlobals "place_in" = some (some (.ref f_place_in))) (l_place_in : K.lookup f_place_in = some ⟨oc_place_in, od_place_in, .func (PySem.W.fnOf "place_in" "place_in" (defArgs s_place_in) (defBody s_place_in) (defScope s_place_in) .none kV_place_in dc_place_in pm_place_in an_place_in cd_place_in ct_place_in), sl_place_in⟩) (c_place_in : PySem.W.codeIn K cd_place_in "place_in" = true) (k_place_in : PySem.W.keepIn K (.ref f_place_in) = true)
    {f_pattern_many : Addr} {od_pattern_many an_pattern_many : Option Addr} {sl_pattern_many : Array (Option Value)} {oc_pattern_many kV_pattern_many dc_pattern_many pm_pattern_many cd_pattern_many ct_pattern_many : Value}
    (a_pattern_many : PySem.W.nsIn K mainGlobals "_pattern_many" = some (some (.ref f_pattern_many))) (l_pattern_many : K.lookup f_pattern_many = some ⟨oc_pattern_many, od_pattern_many, .func (PySem.W.fnOf "_pattern_many" "_pattern_many" (defArgs s_pattern_many) (defBody s_pattern_many) (defScope s_pattern_many) .none kV_pattern_many dc_pattern_many pm_pattern_many an_pattern_many cd_pattern_many ct_pattern_many), sl_pattern_many⟩) (c_pattern_many : PySem.W.codeIn K cd_pattern_many "_pattern_many" = true) (k_pattern_many : PySem.W.keepIn K (.ref f_pattern_many) = true)
    {f_stem_in : Addr} {od_stem_in an_stem_in : Option Addr} {sl_stem_in : Array (Option Value)} {oc_stem_in kV_stem_in dc_stem_in pm_stem_in cd_stem_in ct_stem_in : Value}
    (a_stem_in : PySem.W.nsIn K mainGlobals "_stem_in" = some (some (.ref f_stem_in))) (l_stem_in : K.lookup f_stem_in = some ⟨oc_stem_in, od_stem_in, .func (PySem.W.fnOf "_stem_in" "_stem_in" (defArgs s_stem_in) (defBody s_stem_in) (defScope s_stem_in) .none kV_stem_in dc_stem_in pm_stem_in an_stem_in cd_stem_in ct_stem_in), sl_stem_in⟩) (c_stem_in : PySem.W.codeIn K cd_stem_in "_stem_in" = true) (k_stem_in : PySem.W.keepIn K (.ref f_stem_in) = true)
    {f_belongs : Addr} {od_belongs an_belongs : Option Addr} {sl_belongs : Array (Option Value)} {oc_belongs kV_belongs dc_belongs pm_belongs cd_belongs ct_belongs : Value}
    (a_belongs : PySem.W.nsIn K mainGlobals "_belongs" = some (some (.ref f_belongs))) (l_belongs : K.lookup f_belongs = some ⟨oc_belongs, od_belongs, .func (PySem.W.fnOf "_belongs" "_belongs" (defArgs s_belongs) (defBody s_belongs) (defScope s_belongs) .none kV_belongs dc_belongs pm_belongs an_belongs cd_belongs ct_belongs), sl_belongs⟩) (c_belongs : PySem.W.codeIn K cd_belongs "_belongs" = true) (k_belongs : PySem.W.keepIn K (.ref f_belongs) = true)
    {f_place_within : Addr} {od_place_within an_place_within : Option Addr} {sl_place_within : Array (Option Value)} {oc_place_within kV_place_within dc_place_within pm_place_within cd_place_within ct_place_within : Value}
    (a_place_within : PySem.W.nsIn K mainGlobals "_place_within" = some (some (.ref f_place_within))) (l_place_within : K.lookup f_place_within = some ⟨oc_place_within, od_place_within, .func (PySem.W.fnOf "_place_within" "_place_within" (defArgs s_place_within) (defBody s_place_within) (defScope s_place_within) .none kV_place_within dc_place_within pm_place_within an_place_within cd_place_within ct_place_within), sl_place_within⟩) (c_place_within : PySem.W.codeIn K cd_place_within "_place_within" = true) (k_place_within : PySem.W.keepIn K (.ref f_place_within) = true)
    {f_law_begin : Addr} {od_law_begin an_law_begin : Option Addr} {sl_law_begin : Array (Option Value)} {oc_law_begin kV_law_begin dc_law_begin pm_law_begin cd_law_begin ct_law_begin : Value}
    (a_law_begin : PySem.W.nsIn K mainGlobals "_law_begin" = some (some (.ref f_law_begin))) (l_law_begin : K.lookup f_law_begin = some ⟨oc_law_begin, od_law_begin, .func (PySem.W.fnOf "_law_begin" "_law_begin" (defArgs s_law_begin) (defBody s_law_begin) (defScope s_law_begin) .none kV_law_begin dc_law_begin pm_law_begin an_law_begin cd_law_begin ct_law_begin), sl_law_begin⟩) (c_law_begin : PySem.W.codeIn K cd_law_begin "_law_begin" = true) (k_law_begin : PySem.W.keepIn K (.ref f_law_begin) = true)
    {f_law_draw : Addr} {od_law_draw an_law_draw : Option Addr} {sl_law_draw : Array (Option Value)} {oc_law_draw kV_law_draw dc_law_draw pm_law_draw cd_law_draw ct_law_draw : Value}
    (a_law_draw : PySem.W.nsIn K mainGlobals "_law_draw" = some (some (.ref f_law_draw))) (l_law_draw : K.lookup f_law_draw = some ⟨oc_law_draw, od_law_draw, .func (PySem.W.fnOf "_law_draw" "_law_draw" (defArgs s_law_draw) (defBody s_law_draw) (defScope s_law_draw) .none kV_law_draw dc_law_draw pm_law_draw an_law_draw cd_law_draw ct_law_draw), sl_law_draw⟩) (c_law_draw : PySem.W.codeIn K cd_law_draw "_law_draw" = true) (k_law_draw : PySem.W.keepIn K (.ref f_law_draw) = true)
    {f_law_pick : Addr} {od_law_pick an_law_pick : Option Addr} {sl_law_pick : Array (Option Value)} {oc_law_pick kV_law_pick dc_law_pick pm_law_pick cd_law_pick ct_law_pick : Value}
    (a_law_pick : PySem.W.nsIn K mainGlobals "_law_pick" = some (some (.ref f_law_pick))) (l_law_pick : K.lookup f_law_pick = some ⟨oc_law_pick, od_law_pick, .func (PySem.W.fnOf "_law_pick" "_law_pick" (defArgs s_law_pick) (defBody s_law_pick) (defScope s_law_pick) .none kV_law_pick dc_law_pick pm_law_pick an_law_pick cd_law_pick ct_law_pick), sl_law_pick⟩) (c_law_pick : PySem.W.codeIn K cd_law_pick "_law_pick" = true) (k_law_pick : PySem.W.keepIn K (.ref f_law_pick) = true)
    {f_law_stems : Addr} {od_law_stems an_law_stems : Option Addr} {sl_law_stems : Array (Option Value)} {oc_law_stems kV_law_stems dc_law_stems pm_law_stems cd_law_stems ct_law_stems : Value}
    (a_law_stems : PySem.W.nsIn K mainGlobals "_law_stems" = some (some (.ref f_law_stems))) (l_law_stems : K.lookup f_law_stems = some ⟨oc_law_stems, od_law_stems, .func (PySem.W.fnOf "_law_stems" "_law_stems" (defArgs s_law_stems) (defBody s_law_stems) (defScope s_law_stems) .none kV_law_stems dc_law_stems pm_law_stems an_law_stems cd_law_stems ct_law_stems), sl_law_stems⟩) (c_law_stems : PySem.W.codeIn K cd_law_stems "_law_stems" = true) (k_law_stems : PySem.W.keepIn K (.ref f_law_stems) = true)
    {f_law_exact : Addr} {od_law_exact an_law_exact : Option Addr} {sl_law_exact : Array (Option Value)} {oc_law_exact kV_law_exact dc_law_exact pm_law_exact cd_law_exact ct_law_exact : Value}
    (a_law_exact : PySem.W.nsIn K mainGlobals "_law_exact" = some (some (.ref f_law_exact))) (l_law_exact : K.lookup f_law_exact = some ⟨oc_law_exact, od_law_exact, .func (PySem.W.fnOf "_law_exact" "_law_exact" (defArgs s_law_exact) (defBody s_law_exact) (defScope s_law_exact) .none kV_law_exact dc_law_exact pm_law_exact an_law_exact cd_law_exact ct_law_exact), sl_law_exact⟩) (c_law_exact : PySem.W.codeIn K cd_law_exact "_law_exact" = true) (k_law_exact : PySem.W.keepIn K (.ref f_law_exact) = true)
    {f_law_great : Addr} {od_law_great an_law_great : Option Addr} {sl_law_great : Array (Option Value)} {oc_law_great kV_law_great dc_law_great pm_law_great cd_law_great ct_law_great : Value}
    (a_law_great : PySem.W.nsIn K mainGlobals "_law_great" = some (some (.ref f_law_great))) (l_law_great : K.lookup f_law_great = some ⟨oc_law_great, od_law_great, .func (PySem.W.fnOf "_law_great" "_law_great" (defArgs s_law_great) (defBody s_law_great) (defScope s_law_great) .none kV_law_great dc_law_great pm_law_great an_law_great cd_law_great ct_law_great), sl_law_great⟩) (c_law_great : PySem.W.codeIn K cd_law_great "_law_great" = true) (k_law_great : PySem.W.keepIn K (.ref f_law_great) = true)
    {f_law_slot_of : Addr} {od_law_slot_of an_law_slot_of : Option Addr} {sl_law_slot_of : Array (Option Value)} {oc_law_slot_of kV_law_slot_of dc_law_slot_of pm_law_slot_of cd_law_slot_of ct_law_slot_of : Value}
    (a_law_slot_of : PySem.W.nsIn K mainGlobals "_law_slot_of" = some (some (.ref f_law_slot_of))) (l_law_slot_of : K.lookup f_law_slot_of = some ⟨oc_law_slot_of, od_law_slot_of, .func (PySem.W.fnOf "_law_slot_of" "_law_slot_of" (defArgs s_law_slot_of) (defBody s_law_slot_of) (defScope s_law_slot_of) .none kV_law_slot_of dc_law_slot_of pm_law_slot_of an_law_slot_of cd_law_slot_of ct_law_slot_of), sl_law_slot_of⟩) (c_law_slot_of : PySem.W.codeIn K cd_law_slot_of "_law_slot_of" = true) (k_law_slot_of : PySem.W.keepIn K (.ref f_law_slot_of) = true)
    {f_law_stock_of : Addr} {od_law_stock_of an_law_stock_of : Option Addr} {sl_law_stock_of : Array (Option Value)} {oc_law_stock_of kV_law_stock_of dc_law_stock_of pm_law_stock_of cd_law_stock_of ct_law_stock_of : Value}
    (a_law_stock_of : PySem.W.nsIn K mainGlobals "_law_stock_of" = some (some (.ref f_law_stock_of))) (l_law_stock_of : K.lookup f_law_stock_of = some ⟨oc_law_stock_of, od_law_stock_of, .func (PySem.W.fnOf "_law_stock_of" "_law_stock_of" (defArgs s_law_stock_of) (defBody s_law_stock_of) (defScope s_law_stock_of) .none kV_law_stock_of dc_law_stock_of pm_law_stock_of an_law_stock_of cd_law_stock_of ct_law_stock_of), sl_law_stock_of⟩) (c_law_stock_of : PySem.W.codeIn K cd_law_stock_of "_law_stock_of" = true) (k_law_stock_of : PySem.W.keepIn K (.ref f_law_stock_of) = true)
    {f_law_many_of : Addr} {od_law_many_of an_law_many_of : Option Addr} {sl_law_many_of : Array (Option Value)} {oc_law_many_of kV_law_many_of dc_law_many_of pm_law_many_of cd_law_many_of ct_law_many_of : Value}
    (a_law_many_of : PySem.W.nsIn K mainGlobals "_law_many_of" = some (some (.ref f_law_many_of))) (l_law_many_of : K.lookup f_law_many_of = some ⟨oc_law_many_of, od_law_many_of, .func (PySem.W.fnOf "_law_many_of" "_law_many_of" (defArgs s_law_many_of) (defBody s_law_many_of) (defScope s_law_many_of) .none kV_law_many_of dc_law_many_of pm_law_many_of an_law_many_of cd_law_many_of ct_law_many_of), sl_law_many_of⟩) (c_law_many_of : PySem.W.codeIn K cd_law_many_of "_law_many_of" = true) (k_law_many_of : PySem.W.keepIn K (.ref f_law_many_of) = true)
    {f_law_stem_of : Addr} {od_law_stem_of an_law_stem_of : Option Addr} {sl_law_stem_of : Array (Option Value)} {oc_law_stem_of kV_law_stem_of dc_law_stem_of pm_law_stem_of cd_law_stem_of ct_law_stem_of : Value}
    (a_law_stem_of : PySem.W.nsIn K mainGlobals "_law_stem_of" = some (some (.ref f_law_stem_of))) (l_law_stem_of : K.lookup f_law_stem_of = some ⟨oc_law_stem_of, od_law_stem_of, .func (PySem.W.fnOf "_law_stem_of" "_law_stem_of" (defArgs s_law_stem_of) (defBody s_law_stem_of) (defScope s_law_stem_of) .none kV_law_stem_of dc_law_stem_of pm_law_stem_of an_law_stem_of cd_law_stem_of ct_law_stem_of), sl_law_stem_of⟩) (c_law_stem_of : PySem.W.codeIn K cd_law_stem_of "_law_stem_of" = true) (k_law_stem_of : PySem.W.keepIn K (.ref f_law_stem_of) = true)
    {f_law_place_of : Addr} {od_law_place_of an_law_place_of : Option Addr} {sl_law_place_of : Array (Option Value)} {oc_law_place_of kV_law_place_of dc_law_place_of pm_law_place_of cd_law_place_of ct_law_place_of : Value}
    (a_law_place_of : PySem.W.nsIn K mainGlobals "_law_place_of" = some (some (.ref f_law_place_of))) (l_law_place_of : K.lookup f_law_place_of = some ⟨oc_law_place_of, od_law_place_of, .func (PySem.W.fnOf "_law_place_of" "_law_place_of" (defArgs s_law_place_of) (defBody s_law_place_of) (defScope s_law_place_of) .none kV_law_place_of dc_law_place_of pm_law_place_of an_law_place_of cd_law_place_of ct_law_place_of), sl_law_place_of⟩) (c_law_place_of : PySem.W.codeIn K cd_law_place_of "_law_place_of" = true) (k_law_place_of : PySem.W.keepIn K (.ref f_law_place_of) = true)
    {f_law_near : Addr} {od_law_near an_law_near : Option Addr} {sl_law_near : Array (Option Value)} {oc_law_near kV_law_near dc_law_near pm_law_near cd_law_near ct_law_near : Value}
    (a_law_near : PySem.W.nsIn K mainGlobals "_law_near" = some (some (.ref f_law_near))) (l_law_near : K.lookup f_law_near = some ⟨oc_law_near, od_law_near, .func (PySem.W.fnOf "_law_near" "_law_near" (defArgs s_law_near) (defBody s_law_near) (defScope s_law_near) .none kV_law_near dc_law_near pm_law_near an_law_near cd_law_near ct_law_near), sl_law_near⟩) (c_law_near : PySem.W.codeIn K cd_law_near "_law_near" = true) (k_law_near : PySem.W.keepIn K (.ref f_law_near) = true)
    {f_law_numbered : Addr} {od_law_numbered an_law_numbered : Option Addr} {sl_law_numbered : Array (Option Value)} {oc_law_numbered kV_law_numbered dc_law_numbered pm_law_numbered cd_law_numbered ct_law_numbered : Value}
    (a_law_numbered : PySem.W.nsIn K mainGlobals "_law_numbered" = some (some (.ref f_law_numbered))) (l_law_numbered : K.lookup f_law_numbered = some ⟨oc_law_numbered, od_law_numbered, .func (PySem.W.fnOf "_law_numbered" "_law_numbered" (defArgs s_law_numbered) (defBody s_law_numbered) (defScope s_law_numbered) .none kV_law_numbered dc_law_numbered pm_law_numbered an_law_numbered cd_law_numbered ct_law_numbered), sl_law_numbered⟩) (c_law_numbered : PySem.W.codeIn K cd_law_numbered "_law_numbered" = true) (k_law_numbered : PySem.W.keepIn K (.ref f_law_numbered) = true)
    {f_law : Addr} {od_law an_law : Option Addr} {sl_law : Array (Option Value)} {oc_law kV_law dc_law pm_law cd_law ct_law : Value}
    (a_law : PySem.W.nsIn K mainGlobals "law" = some (some (.ref f_law))) (l_law : K.lookup f_law = some ⟨oc_law, od_law, .func (PySem.W.fnOf "law" "law" (defArgs s_law) (defBody s_law) (defScope s_law) .none kV_law dc_law pm_law an_law cd_law ct_law), sl_law⟩) (c_law : PySem.W.codeIn K cd_law "law" = true) (k_law : PySem.W.keepIn K (.ref f_law) = true)
    (n_all : PySem.W.nsIn K mainGlobals "all" = some none)
    (n_bool : PySem.W.nsIn K mainGlobals "bool" = some none)
    (n_divmod : PySem.W.nsIn K mainGlobals "divmod" = some none)
    (n_int : PySem.W.nsIn K mainGlobals "int" = some none)
    (n_isinstance : PySem.W.nsIn K mainGlobals "isinstance" = some none)
    (n_len : PySem.W.nsIn K mainGlobals "len" = some none)
    (n_list : PySem.W.nsIn K mainGlobals "list" = some none)
    (n_min : PySem.W.nsIn K mainGlobals "min" = some none)
    (n_range : PySem.W.nsIn K mainGlobals "range" = some none)
    (n_reversed : PySem.W.nsIn K mainGlobals "reversed" = some none)
    (n_str : PySem.W.nsIn K mainGlobals "str" = some none)
    (n_sum : PySem.W.nsIn K mainGlobals "sum" = some none)
    (n_tuple : PySem.W.nsIn K mainGlobals "tuple" = some none)
    (n_zip : PySem.W.nsIn K mainGlobals "zip" = some none)
    : ∃ fd : FuncData, (∀ (s : Shared) (v : Value), BindsTo s fd ⟨[v], []⟩ [("_law_script", v)]) ∧ ∀ base : Heap, K.In base → base.Ns mainGlobals mg → FnOk l.prog w K mg base CX0 5 fa fd ["_law_script"] (spLaw K) := by
  have e := hfa.symm.trans (PySem.W.mg_of X G a_law)
  cases e
  have F_stems_many := fun_mk (st := s_stems_many) l_stems_many c_stems_many k_stems_many
  have b_stems_many := F_stems_many.binds (ps := ["stock"]) fun _ _ _ _ _ _ us hl => match us, hl with | [_], _ => rfl
  have F_stem_at := fun_mk (st := s_stem_at) l_stem_at c_stem_at k_stem_at
  have b_stem_at := F_stem_at.binds (ps := ["stock", "k"]) fun _ _ _ _ _ _ us hl => match us, hl with | [_, _], _ => rfl
  have F_place_in := fun_mk (st := s_place_in) l_place_in c_place_in k_place_in
  have b_place_in := F_place_in.binds (ps := ["stock", "stem"]) fun _ _ _ _ _ _ us hl => match us, hl with | [_, _], _ => rfl
  have F_pattern_many := fun_mk (st := s_pattern_many) l_pattern_many c_pattern_many k_pattern_many
  have b_pattern_many := F_pattern_many.binds (ps := ["pattern"]) fun _ _ _ _ _ _ us hl => match us, hl with | [_], _ => rfl
  have F_stem_in := fun_mk (st := s_stem_in) l_stem_in c_stem_in k_stem_in
  have b_stem_in := F_stem_in.binds (ps := ["pattern", "k"]) fun _ _ _ _ _ _ us hl => match us, hl with | [_, _], _ => rfl
  have F_belongs := fun_mk (st := s_belongs) l_belongs c_belongs k_belongs
  have b_belongs := F_belongs.binds (ps := ["stem", "pattern"]) fun _ _ _ _ _ _ us hl => match us, hl with | [_, _], _ => rfl
  have F_place_within := fun_mk (st := s_place_within) l_place_within c_place_within k_place_within
  have b_place_within := F_place_within.binds (ps := ["pattern", "stem"]) fun _ _ _ _ _ _ us hl => match us, hl with | [_, _], _ => rfl
  have F_law_begin := fun_mk (st := s_law_begin) l_law_begin c_law_begin k_law_begin
  have b_law_begin := F_law_begin.binds (ps := ["_law_script"]) fun _ _ _ _ _ _ us hl => match us, hl with | [_], _ => rfl
  have F_law_draw := fun_mk (st := s_law_draw) l_law_draw c_law_draw k_law_draw
  have b_law_draw := F_law_draw.binds (ps := ["_law_d", "_law_many"]) fun _ _ _ _ _ _ us hl => match us, hl with | [_, _], _ => rfl
  have F_law_pick := fun_mk (st := s_law_pick) l_law_pick c_law_pick k_law_pick
  have b_law_pick := F_law_pick.binds (ps := ["_law_d", "_law_row"]) fun _ _ _ _ _ _ us hl => match us, hl with | [_, _], _ => rfl
  have F_law_stems := fun_mk (st := s_law_stems) l_law_stems c_law_stems k_law_stems
  have b_law_stems := F_law_stems.binds (ps := ["_law_stock"]) fun _ _ _ _ _ _ us hl => match us, hl with | [_], _ => rfl
  have F_law_exact := fun_mk (st := s_law_exact) l_law_exact c_law_exact k_law_exact
  have b_law_exact := F_law_exact.binds (ps := ["_law_told", "_law_due"]) fun _ _ _ _ _ _ us hl => match us, hl with | [_, _], _ => rfl
  have F_law_great := fun_mk (st := s_law_great) l_law_great c_law_great k_law_great
  have b_law_great := F_law_great.binds (ps := ["_law_d", "_law_many"]) fun _ _ _ _ _ _ us hl => match us, hl with | [_, _], _ => rfl
  have F_law_slot_of := fun_mk (st := s_law_slot_of) l_law_slot_of c_law_slot_of k_law_slot_of
  have b_law_slot_of := F_law_slot_of.binds (ps := ["_law_d", "_law_signs", "_law_most"]) fun _ _ _ _ _ _ us hl => match us, hl with | [_, _, _], _ => rfl
  have F_law_stock_of := fun_mk (st := s_law_stock_of) l_law_stock_of c_law_stock_of k_law_stock_of
  have b_law_stock_of := F_law_stock_of.binds (ps := ["_law_d", "_law_longest", "_law_most"]) fun _ _ _ _ _ _ us hl => match us, hl with | [_, _, _], _ => rfl
  have F_law_many_of := fun_mk (st := s_law_many_of) l_law_many_of c_law_many_of k_law_many_of
  have b_law_many_of := F_law_many_of.binds (ps := ["_law_pattern"]) fun _ _ _ _ _ _ us hl => match us, hl with | [_], _ => rfl
  have F_law_stem_of := fun_mk (st := s_law_stem_of) l_law_stem_of c_law_stem_of k_law_stem_of
  have b_law_stem_of := F_law_stem_of.binds (ps := ["_law_stock", "_law_k"]) fun _ _ _ _ _ _ us hl => match us, hl with | [_, _], _ => rfl
  have F_law_place_of := fun_mk (st := s_law_place_of) l_law_place_of c_law_place_of k_law_place_of
  have b_law_place_of := F_law_place_of.binds (ps := ["_law_stock", "_law_text"]) fun _ _ _ _ _ _ us hl => match us, hl with | [_, _], _ => rfl
  have F_law_near := fun_mk (st := s_law_near) l_law_near c_law_near k_law_near
  have b_law_near := F_law_near.binds (ps := ["_law_d", "_law_stem"]) fun _ _ _ _ _ _ us hl => match us, hl with | [_, _], _ => rfl
  have F_law_numbered := fun_mk (st := s_law_numbered) l_law_numbered c_law_numbered k_law_numbered
  have b_law_numbered := F_law_numbered.binds (ps := ["_law_d", "_law_stock"]) fun _ _ _ _ _ _ us hl => match us, hl with | [_, _], _ => rfl
  have F_law := fun_mk (st := s_law) l_law c_law k_law
  have b_law := F_law.binds (ps := ["_law_script"]) fun _ _ _ _ _ _ us hl => match us, hl with | [_], _ => rfl
  exact ⟨PySem.W.fnOf "law" "law" (defArgs s_law) (defBody s_law) (defScope s_law) .none kV_law dc_law pm_law an_law cd_law ct_law, fun s v => .of_eq rfl, fun base _ _ => ok_law (T := {
    a_stems_many := _,
    d_stems_many := _,
    D_stems_many := ⟨F_stems_many, PySem.W.mg_of X G a_stems_many, b_stems_many, ⟨_, _, _, _, _, _, rfl⟩⟩,
    a_stem_at := _,
    d_stem_at := _,
    D_stem_at := ⟨F_stem_at, PySem.W.mg_of X G a_stem_at, b_stem_at, ⟨_, _, _, _, _, _, rfl⟩⟩,
    a_place_in := _,
    d_place_in := _,
    D_place_in := ⟨F_place_in, PySem.W.mg_of X G a_place_in, b_place_in, ⟨_, _, _, _, _, _, rfl⟩⟩,
    a_pattern_many := _,
    d_pattern_many := _,
    D_pattern_many := ⟨F_pattern_many, PySem.W.mg_of X G a_pattern_many, b_pattern_many, ⟨_, _, _, _, _, _, rfl⟩⟩,
    a_stem_in := _,
    d_stem_in := _,
    D_stem_in := ⟨F_stem_in, PySem.W.mg_of X G a_stem_in, b_stem_in, ⟨_, _, _, _, _, _, rfl⟩⟩,
    a_belongs := _,
    d_belongs := _,
    D_belongs := ⟨F_belongs, PySem.W.mg_of X G a_belongs, b_belongs, ⟨_, _, _, _, _, _, rfl⟩⟩,
    a_place_within := _,
    d_place_within := _,
    D_place_within := ⟨F_place_within, PySem.W.mg_of X G a_place_within, b_place_within, ⟨_, _, _, _, _, _, rfl⟩⟩,
    a_law_begin := _,
    d_law_begin := _,
    D_law_begin := ⟨F_law_begin, PySem.W.mg_of X G a_law_begin, b_law_begin, ⟨_, _, _, _, _, _, rfl⟩⟩,
    a_law_draw := _,
    d_law_draw := _,
    D_law_draw := ⟨F_law_draw, PySem.W.mg_of X G a_law_draw, b_law_draw, ⟨_, _, _, _, _, _, rfl⟩⟩,
    a_law_pick := _,
    d_law_pick := _,
    D_law_pick := ⟨F_law_pick, PySem.W.mg_of X G a_law_pick, b_law_pick, ⟨_, _, _, _, _, _, rfl⟩⟩,
    a_law_stems := _,
    d_law_stems := _,
    D_law_stems := ⟨F_law_stems, PySem.W.mg_of X G a_law_stems, b_law_stems, ⟨_, _, _, _, _, _, rfl⟩⟩,
    a_law_exact := _,
    d_law_exact := _,
    D_law_exact := ⟨F_law_exact, PySem.W.mg_of X G a_law_exact, b_law_exact, ⟨_, _, _, _, _, _, rfl⟩⟩,
    a_law_great := _,
    d_law_great := _,
    D_law_great := ⟨F_law_great, PySem.W.mg_of X G a_law_great, b_law_great, ⟨_, _, _, _, _, _, rfl⟩⟩,
    a_law_slot_of := _,
    d_law_slot_of := _,
    D_law_slot_of := ⟨F_law_slot_of, PySem.W.mg_of X G a_law_slot_of, b_law_slot_of, ⟨_, _, _, _, _, _, rfl⟩⟩,
    a_law_stock_of := _,
    d_law_stock_of := _,
    D_law_stock_of := ⟨F_law_stock_of, PySem.W.mg_of X G a_law_stock_of, b_law_stock_of, ⟨_, _, _, _, _, _, rfl⟩⟩,
    a_law_many_of := _,
    d_law_many_of := _,
    D_law_many_of := ⟨F_law_many_of, PySem.W.mg_of X G a_law_many_of, b_law_many_of, ⟨_, _, _, _, _, _, rfl⟩⟩,
    a_law_stem_of := _,
    d_law_stem_of := _,
    D_law_stem_of := ⟨F_law_stem_of, PySem.W.mg_of X G a_law_stem_of, b_law_stem_of, ⟨_, _, _, _, _, _, rfl⟩⟩,
    a_law_place_of := _,
    d_law_place_of := _,
    D_law_place_of := ⟨F_law_place_of, PySem.W.mg_of X G a_law_place_of, b_law_place_of, ⟨_, _, _, _, _, _, rfl⟩⟩,
    a_law_near := _,
    d_law_near := _,
    D_law_near := ⟨F_law_near, PySem.W.mg_of X G a_law_near, b_law_near, ⟨_, _, _, _, _, _, rfl⟩⟩,
    a_law_numbered := _,
    d_law_numbered := _,
    D_law_numbered := ⟨F_law_numbered, PySem.W.mg_of X G a_law_numbered, b_law_numbered, ⟨_, _, _, _, _, _, rfl⟩⟩,
    a_law := _,
    d_law := _,
    D_law := ⟨F_law, PySem.W.mg_of X G a_law, b_law, ⟨_, _, _, _, _, _, rfl⟩⟩,
    n_all := PySem.W.mg_none_of X G n_all,
    n_bool := PySem.W.mg_none_of X G n_bool,
    n_divmod := PySem.W.mg_none_of X G n_divmod,
    n_int := PySem.W.mg_none_of X G n_int,
    n_isinstance := PySem.W.mg_none_of X G n_isinstance,
    n_len := PySem.W.mg_none_of X G n_len,
    n_list := PySem.W.mg_none_of X G n_list,
    n_min := PySem.W.mg_none_of X G n_min,
    n_range := PySem.W.mg_none_of X G n_range,
    n_reversed := PySem.W.mg_none_of X G n_reversed,
    n_str := PySem.W.mg_none_of X G n_str,
    n_sum := PySem.W.mg_none_of X G n_sum,
    n_tuple := PySem.W.mg_none_of X G n_tuple,
    n_zip := PySem.W.mg_none_of X G n_zip })⟩
end Vf
open PySem PySem.W PyProof.Rows
set_option maxHeartbeats 0 in
theorem PySem.Challenge.cw_hushedpages_k28_stems_numbered_holds : PySem.Challenge.rw_hushedpages_k28_stems_numbered.Holds := by
  w_on; o_law; k_head; (case hw => w_witness2)
  k_fill
  refine L2.walk_of (l := PySem.Challenge.rw_hushedpages_k28_stems_numbered) (n := 63) (k := 5) (x := "_law_script") (CX := fun _ => L2.CX0) (sp := fun w => Vf.spLaw _) rfl (by decide) rfl ⟨rfl, by decide, by decide⟩ (fun w h Y => PySem.W.kIn_of Y) ?F (fun _ _ a ns hl _ hS => ⟨a, ns, rfl, hS, hl, fun _ => rfl⟩) (fun _ _ _ _ _ h => h)
  case F =>
    intro w mg fa h KX G hmg
    refine' Vf.all_mk KX G hmg ?a_stems_many ?l_stems_many ?c_stems_many ?k_stems_many ?a_stem_at ?l_stem_at ?c_stem_at ?k_stem_at ?a_place_in ?l_place_in ?c_place_in ?k_place_in ?a_pattern_many ?l_pattern_many ?c_pattern_many ?k_pattern_many ?a_stem_in ?l_stem_in ?c_stem_in ?k_stem_in ?a_belongs ?l_belongs ?c_belongs ?k_belongs ?a_place_within ?l_place_within ?c_place_within ?k_place_within ?a_law_begin ?l_law_begin ?c_law_begin ?k_law_begin ?a_law_draw ?l_law_draw ?c_law_draw ?k_law_draw ?a_law_pick ?l_law_pick ?c_law_pick ?k_law_pick ?a_law_stems ?l_law_stems ?c_law_stems ?k_law_stems ?a_law_exact ?l_law_exact ?c_law_exact ?k_law_exact ?a_law_great ?l_law_great ?c_law_great ?k_law_great ?a_law_slot_of ?l_law_slot_of ?c_law_slot_of ?k_law_slot_of ?a_law_stock_of ?l_law_stock_of ?c_law_stock_of ?k_law_stock_of ?a_law_many_of ?l_law_many_of ?c_law_many_of ?k_law_many_of ?a_law_stem_of ?l_law_stem_of ?c_law_stem_of ?k_law_stem_of ?a_law_place_of ?l_law_place_of ?c_law_place_of ?k_law_place_of ?a_law_near ?l_law_near ?c_law_near ?k_law_near ?a_law_numbered ?l_law_numbered ?c_law_numbered ?k_law_numbered ?a_law ?l_law ?c_law ?k_law ?n_all ?n_bool ?n_divmod ?n_int ?n_isinstance ?n_len ?n_list ?n_min ?n_range ?n_reversed ?n_str ?n_sum ?n_tuple ?n_zip
    (case a_stems_many => k_is)
    (case l_stems_many => k_is)
    (case c_stems_many => k_is)
    (case k_stems_many => k_is)
    (case a_stem_at => k_is)
    (case l_stem_at => k_is)
    (case c_stem_at => k_is)
    (case k_stem_at => k_is)
    (case a_place_in => k_is)
    (case l_place_in => k_is)
    (case c_place_in => k_is)
    (case k_place_in => k_is)
    (case a_pattern_many => k_is)
    (case l_pattern_many => k_is)
    (case c_pattern_many => k_is)
    (case k_pattern_many => k_is)
    (case a_stem_in => k_is)
    (case l_stem_in => k_is)
    (case c_stem_in => k_is)
    (case k_stem_in => k_is)
    (case a_belongs => k_is)
    (case l_belongs => k_is)
    (case c_belongs => k_is)
    (case k_belongs => k_is)
    (case a_place_within => k_is)
    (case l_place_within => k_is)
    (case c_place_within => k_is)
    (case k_place_within => k_is)
    (case a_law_begin => k_is)
    (case l_law_begin => k_is)
    (case c_law_begin => k_is)
    (case k_law_begin => k_is)
    (case a_law_draw => k_is)
    (case l_law_draw => k_is)
    (case c_law_draw => k_is)
    (case k_law_draw => k_is)
    (case a_law_pick => k_is)
    (case l_law_pick => k_is)
    (case c_law_pick => k_is)
    (case k_law_pick => k_is)
    (case a_law_stems => k_is)
    (case l_law_stems => k_is)
    (case c_law_stems => k_is)
    (case k_law_stems => k_is)
    (case a_law_exact => k_is)
    (case l_law_exact => k_is)
    (case c_law_exact => k_is)
    (case k_law_exact => k_is)
    (case a_law_great => k_is)
    (case l_law_great => k_is)
    (case c_law_great => k_is)
    (case k_law_great => k_is)
    (case a_law_slot_of => k_is)
    (case l_law_slot_of => k_is)
    (case c_law_slot_of => k_is)
    (case k_law_slot_of => k_is)
    (case a_law_stock_of => k_is)
    (case l_law_stock_of => k_is)
    (case c_law_stock_of => k_is)
    (case k_law_stock_of => k_is)
    (case a_law_many_of => k_is)
    (case l_law_many_of => k_is)
    (case c_law_many_of => k_is)
    (case k_law_many_of => k_is)
    (case a_law_stem_of => k_is)
    (case l_law_stem_of => k_is)
    (case c_law_stem_of => k_is)
    (case k_law_stem_of => k_is)
    (case a_law_place_of => k_is)
    (case l_law_place_of => k_is)
    (case c_law_place_of => k_is)
    (case k_law_place_of => k_is)
    (case a_law_near => k_is)
    (case l_law_near => k_is)
    (case c_law_near => k_is)
    (case k_law_near => k_is)
    (case a_law_numbered => k_is)
    (case l_law_numbered => k_is)
    (case c_law_numbered => k_is)
    (case k_law_numbered => k_is)
    (case a_law => k_is)
    (case l_law => k_is)
    (case c_law => k_is)
    (case k_law => k_is)
    (case n_all => k_is)
    (case n_bool => k_is)
    (case n_divmod => k_is)
    (case n_int => k_is)
    (case n_isinstance => k_is)
    (case n_len => k_is)
    (case n_list => k_is)
    (case n_min => k_is)
    (case n_range => k_is)
    (case n_reversed => k_is)
    (case n_str => k_is)
    (case n_sum => k_is)
    (case n_tuple => k_is)
    (case n_zip => k_is)
