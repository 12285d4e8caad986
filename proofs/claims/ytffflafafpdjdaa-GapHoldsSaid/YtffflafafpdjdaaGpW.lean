/- Next of the program. -/
import Derived.Test.YtffflafafpdjdaaGpV
namespace Go.Proofs.Ytffflafafpdjdaa
open Go.RowKit Go.Shelf
attribute [local go_sem] Oper.semAt_some

/-- May a cell be given to one? -/
def St.free' (s : St) (who p c : Int) : Bool := !s.u p c && !oth s who p c
def okX (s : St) (who : Int) (x : Nat × Nat) : Bool := s.free' who ((x.1 % 32 : Nat) : Int) ((x.2 % 4 : Nat) : Int)
def nxV (o : Option (Nat × Nat)) : Value := match o with
  | some x => .tuple #[.agg #[.int .i64 ((x.1 % 32 : Nat) : Int), .int .i64 ((x.2 % 4 : Nat) : Int)], .bool true]
  | none => .tuple #[.agg #[.int .i64 0, .int .i64 0], .bool false]
theorem find_none' {f : Nat × Nat → Bool} {l : List (Nat × Nat)} (h : ∀ x ∈ l, f x = false) : l.find? f = none := List.find?_eq_none.2 fun x hx => by rw [h x hx]; simp
theorem find_pre {f : Nat × Nat → Bool} {l pre : List (Nat × Nat)} {x : Nat × Nat} (h : ∀ y ∈ pre, f y = false) (hx : f x = true) (hp : (pre ++ [x]) <+: l) : l.find? f = some x := by
  obtain ⟨r, rfl⟩ := hp
  rw [List.append_assoc, List.find?_append, find_none' h]
  simp [hx]
theorem next_end {W : World} {tmps : Array Value} {g3 g4 : Nat} {p c : Int} {b : Bool} (h3 : tmps.getD 10 undef = .pointer (some ⟨g3, 0, none⟩)) (h4 : tmps.getD 11 undef = .pointer (some ⟨g4, 0, none⟩))
    (k3 : BoxR W g3 p c) (k4 : Boxed W g4 4 (.bool b)) : (results Try.f15 tmps).run Try.prog W = .ok (.tuple #[.agg #[.int .i64 p, .int .i64 c], .bool b]) W := by
  rw [Array.getD_eq_getD_getElem?] at h3 h4
  have b0 := (cell_of (cs := #[.int .i64 p, .int .i64 c]) k3 0).1
  have b1 := (cell_of (cs := #[.int .i64 p, .int .i64 c]) k3 1).1
  have b2 := k4.cell
  simp [results, Try.results15, go_sem, h3, h4, b0, b1, b2]
theorem BoxR.kept {W W' : World} {B : Nat} {p c : Int} (h : BoxR W B p c) (hb : W'.heap[B]? = W.heap[B]?) : BoxR W' B p c := hb.trans h
theorem set_at {W : World} {B i : Nat} {cs : Array Value} {t : TypeId} (h : W.heap[B]? = some (.cells cs t (0, 0))) (v : Value) : (W.setCell ⟨B, i, none⟩ v).heap[B]? = some (.cells (cs.setIfInBounds i v) t (0, 0)) := by
  obtain ⟨hlt, hk⟩ := Array.getElem?_eq_some_iff.1 h
  show (W.heap.modify B _)[B]? = _
  rw [Array.getElem?_eq_getElem (by rw [Array.size_modify]; exact hlt), Array.getElem_modify_self, hk]
  simp
theorem BoxR.set {W : World} {B : Nat} {p c : Int} (h : BoxR W B p c) (p' c' : Int) : BoxR ((W.setCell ⟨B, 0, none⟩ (.int .i64 p')).setCell ⟨B, 1, none⟩ (.int .i64 c')) B p' c' :=
  set_at (set_at (show W.heap[B]? = some (.cells #[.int .i64 p, .int .i64 c] 29 (0, 0)) from h) _) _
/-- The blocks that Next has made ahead of its loop. -/
structure Nb (W : World) (d g : Nat) (who : Int) (p c : Int) (f : Bool) : Prop where
  m : Boxed W d 24 (.pointer (some ⟨g, 0, none⟩))
  w : Boxed W (d + 1) 3 (.int .i64 who)
  r : BoxR W (d + 2) p c
  o : Boxed W (d + 3) 4 (.bool f)
theorem Nb.kept {W W' : World} {d g : Nat} {who p c : Int} {f : Bool} (h : Nb W d g who p c f) (hb : ∀ k, d ≤ k → k < d + 4 → W'.heap[k]? = W.heap[k]?) : Nb W' d g who p c f :=
  ⟨(hb _ (by omega) (by omega)).trans h.m, (hb _ (by omega) (by omega)).trans h.w, h.r.kept (hb _ (by omega) (by omega)), (hb _ (by omega) (by omega)).trans h.o⟩
theorem nb_own {β : Type} (d g : Nat) (who : Int) (p c : β → Int) (f : β → Bool) : Own (fun s W => Nb W d g who (p s) (c s) (f s)) := fun s X Y row hs hg hr =>
  ⟨boxed_own d 24 (fun _ => .pointer (some ⟨g, 0, none⟩)) s X Y row hs.m hg hr, boxed_own (d + 1) 3 (fun _ => .int .i64 who) s X Y row hs.w hg hr, boxR_own (d + 2) p c s X Y row hs.r hg hr, boxed_own (d + 3) 4 (fun s => .bool (f s)) s X Y row hs.o hg hr⟩

theorem Nb.set {W : World} {d g : Nat} {who p c : Int} {f : Bool} (h : Nb W d g who p c f) (p' c' : Int) (f' : Bool) :
    ∃ W', (((W.setCell ⟨d + 1 + 1, 0, none⟩ (.int .i64 p')).setCell ⟨d + 1 + 1, 1, none⟩ (.int .i64 c')).setCell ⟨d + 1 + 1 + 1, 0, none⟩ (.bool f')) = W' ∧ Nb W' d g who p' c' f' ∧ KeepsOthers W W' ∧ Below d W W' := by
  have k : ∀ (X : World) (b i : Nat) (v : Value) (j : Nat), j ≠ b → (X.setCell ⟨b, i, none⟩ v).heap[j]? = X.heap[j]? := fun X b i v j hj => Below.heap_setCell _ _ _ _ hj
  refine ⟨_, rfl, ⟨?_, ?_, ?_, ?_⟩, ((KeepsOthers.setCell _ _ _).trans (KeepsOthers.setCell _ _ _)).trans (KeepsOthers.setCell _ _ _),
    (((Below.refl d W).setCell (p := ⟨d + 1 + 1, 0, none⟩) (by simp; omega) _).setCell (p := ⟨d + 1 + 1, 1, none⟩) (by simp; omega) _).setCell (p := ⟨d + 1 + 1 + 1, 0, none⟩) (by simp; omega) _⟩
  · exact ((k _ _ _ _ _ (by omega)).trans ((k _ _ _ _ _ (by omega)).trans (k _ _ _ _ _ (by omega)))).trans h.m
  · exact ((k _ _ _ _ _ (by omega)).trans ((k _ _ _ _ _ (by omega)).trans (k _ _ _ _ _ (by omega)))).trans h.w
  · exact (h.r.set p' c').kept (k _ _ _ _ _ (by omega))
  · have h1 : Boxed ((W.setCell ⟨d + 1 + 1, 0, none⟩ (.int .i64 p')).setCell ⟨d + 1 + 1, 1, none⟩ (.int .i64 c')) (d + 3) 4 (.bool f) := ((k _ _ _ _ _ (by omega)).trans (k _ _ _ _ _ (by omega))).trans h.o
    exact h1.set _

set_option maxRecDepth 100000 in
set_option maxHeartbeats 4000000 in
theorem next_in (w : World) {g b1 b2 m : Nat} {s : St} (h : GA w g b1 b2 m s) (from' to' cells who : Int) :
    CallsIn Fence.wide 8 Try.prog 15 #[.pointer (some ⟨g, 0, none⟩), .int .i64 from', .int .i64 to', .int .i64 cells, .int .i64 who] w fun e w' => e = .returned (nxV ((All s.N from' to' cells).find? (okX s who))) ∧ Below w.heap.size w w' := by
  have HH := Lib.hid h
  have hg0 := h.glt
  clear h
  refine callsIn_of_wp_marks Try.func15 rfl trivial ?_ rfl
  simp only [Try.ntmps15, List.size_toArray, List.length_cons, List.length_nil, Nat.reduceAdd, Nat.reduceSub, Array.replicate_succ, Array.replicate_zero, List.push_toArray, List.append_toArray, List.nil_append, List.cons_append]
  have s1 : ∀ (x : World) (cs : Array Value) (t : TypeId), (x.alloc (.cells cs t)).heap.size = x.heap.size + 1 := fun x cs t => by simp
  have hNB : Nb ((((w.alloc (.cells #[.pointer (some ⟨g, 0, none⟩)] 24)).alloc (.cells #[.int .i64 who] 3)).alloc (.cells #[.int .i64 0, .int .i64 0] 29)).alloc (.cells #[.bool false] 4)) w.heap.size g who 0 0 false := by
    refine ⟨(((Boxed.new w 24 _).alloc _).alloc _).alloc _, ?_, ?_, ?_⟩
    · have := (((Boxed.new (w.alloc (.cells #[.pointer (some ⟨g, 0, none⟩)] 24)) 3 (.int .i64 who)).alloc (.cells #[.int .i64 0, .int .i64 0] 29)).alloc (.cells #[.bool false] 4))
      rwa [s1] at this
    · have h1 : BoxR (((w.alloc (.cells #[.pointer (some ⟨g, 0, none⟩)] 24)).alloc (.cells #[.int .i64 who] 3)).alloc (.cells #[.int .i64 0, .int .i64 0] 29)) _ 0 0 := heap_alloc_new_ _ _
      rw [s1, s1] at h1
      exact h1.kept (Below.heap_alloc _ _ _ (by rw [s1, s1, s1]; omega))
    · have := Boxed.new (((w.alloc (.cells #[.pointer (some ⟨g, 0, none⟩)] 24)).alloc (.cells #[.int .i64 who] 3)).alloc (.cells #[.int .i64 0, .int .i64 0] 29)) 4 (.bool false)
      rwa [s1, s1, s1] at this
  have hB0 : Below w.heap.size w ((((w.alloc (.cells #[.pointer (some ⟨g, 0, none⟩)] 24)).alloc (.cells #[.int .i64 who] 3)).alloc (.cells #[.int .i64 0, .int .i64 0] 29)).alloc (.cells #[.bool false] 4)) :=
    ((((Below.refl _ w).alloc (Nat.le_refl _) _).alloc (by rw [s1]; omega) _).alloc (by rw [s1, s1]; omega) _).alloc (by rw [s1, s1, s1]; omega) _
  have s2 : ((((w.alloc (.cells #[.pointer (some ⟨g, 0, none⟩)] 24)).alloc (.cells #[.int .i64 who] 3)).alloc (.cells #[.int .i64 0, .int .i64 0] 29)).alloc (.cells #[.bool false] 4)).heap.size = w.heap.size + 4 := by rw [s1, s1, s1, s1]
  have HNB := Lib.hid hNB
  have HB0 := Lib.hid hB0
  have HS2 := Lib.hid s2
  clear hNB s1 s2 hB0
  gi_wp2_with (refine ⟨trivial, ?_⟩; gi_at_call 25; refine (all_in _ _ _ _ _ _).mono ?_; rintro e w1 ⟨rfl, hb, hs, q0, q1, q2, q3⟩)
  have hNB := HNB.out
  have hB0 := HB0.out
  have s2 := HS2.out
  generalize ((((w.alloc (.cells #[.pointer (some ⟨g, 0, none⟩)] 24)).alloc (.cells #[.int .i64 who] 3)).alloc (.cells #[.int .i64 0, .int .i64 0] 29)).alloc (.cells #[.bool false] 4)) = w0 at *
  clear HNB HB0 HS2
  have hN1 : Nb w1 w.heap.size g who 0 0 false := hNB.kept fun k h1 h2 => hb.block _ (by omega)
  have hB1 : Below w.heap.size w w1 := hB0.trans (hb.mono (by omega))
  have hG1 := HH.out.on_ hB1
  have hbox : Box4 w1 w0.heap.size g s.N from' to' cells := ⟨q0, q1, q2, q3, hG1.c.1⟩
  have hsz1 : w1.heap.size = w.heap.size + 8 := by omega
  clear hb q0 q1 q2 q3 hNB hB0
  rw [show clo (w.heap.size + 1 + 1 + 1 + 1) = .func (.func 28) #[] (bxs w0.heap.size) from by rw [s2]; rfl]
  generalize w0.heap.size = b at *
  have HS := Lib.hid (And.intro s2 hsz1)
  clear hs s2 hsz1
  refine wpIn_rangeFunc_ownH rfl (by omega) (gf := 28) (lb := bxs b) rfl trivial (enters_of Try.func28 (by kernel_rfl) rfl)
    (all_stops _ (by omega) b g s.N from' to' cells HH.out.ok.le w1 hbox (by have := HS.out; omega) (by have := HS.out; omega)) Kq.trans (Kq_b (by have := HS.out; omega) (by have := HS.out; omega)) (Below.refl _ _) (fun _ => rfl)
    (fun pre W => (Nb W w.heap.size g who 0 0 false ∧ (Below w.heap.size w W ∧ w.heap.size + 8 ≤ W.heap.size)) ∧ ∀ y ∈ pre, okX s who y = false)
    (fun cd pre W => cd = .ret ∧ ∃ pre' x, pre = pre' ++ [x] ∧ (∀ y ∈ pre', okX s who y = false) ∧ okX s who x = true ∧ Nb W w.heap.size g who ((x.1 % 32 : Nat) : Int) ((x.2 % 4 : Nat) : Int) true ∧ Below w.heap.size w W)
    (OwnFrom.and (OwnFrom.and (Own.from (nb_own w.heap.size g who (fun _ => 0) (fun _ => 0) (fun _ => false)) _) (OwnFrom.and (ownFrom_below (Nat.le_refl _) (by have := HS.out; omega)) (own_size _ _))) (ownFrom_pure _ _))
    (fun cd pre X Y row hs hg hr => by
      obtain ⟨hc, pre', x, e, h1, h2, hn, hb⟩ := hs
      exact ⟨hc, pre', x, e, h1, h2, nb_own w.heap.size g who (fun (_ : Unit) => ((x.1 % 32 : Nat) : Int)) (fun _ => ((x.2 % 4 : Nat) : Int)) (fun _ => true) () X Y row hn hg (fun r e => (hr r e).2),
        ownFrom_below (Nat.le_refl _) (by have := HS.out; omega) (() : Unit) X Y row hb hg hr⟩)
    ⟨⟨hN1, hB1, by have := HS.out; omega⟩, fun y hy => by cases hy⟩
    (fun x a' W => ∃ Bx, w.heap.size + 3 < Bx ∧ BoxR W Bx ((x.1 % 32 : Nat) : Int) ((x.2 % 4 : Nat) : Int) ∧ a' = { tmps := #[.pointer (some ⟨g, 0, none⟩), .int .i64 from', .int .i64 to', .int .i64 cells, .int .i64 who, .pointer (some ⟨w.heap.size, 0, none⟩), undef, undef, undef, .pointer (some ⟨w.heap.size + 1, 0, none⟩), .pointer (some ⟨w.heap.size + 1 + 1, 0, none⟩), .pointer (some ⟨w.heap.size + 1 + 1 + 1, 0, none⟩), .pointer (some ⟨Bx, 0, none⟩), .pointer (some ⟨g, 0, none⟩), .int .i64 from', .int .i64 to', .int .i64 cells, .func (.func 28) #[] (bxs b), .agg #[.int .i64 ((x.1 % 32 : Nat) : Int), .int .i64 ((x.2 % 4 : Nat) : Int)], undef, undef, undef, undef, undef, undef, undef, undef, undef, undef, undef, undef, undef], defers := [] })
    (fun x a' _ X Y row hs hg hr => by obtain ⟨Bx, h1, h2, h3⟩ := hs; exact ⟨Bx, h1, boxR_own Bx (fun (_ : Unit) => ((x.1 % 32 : Nat) : Int)) (fun _ => ((x.2 % 4 : Nat) : Int)) () X Y row h2 hg (fun r e => (hr r e).2), h3⟩)
    ?assign ?body ?done ?stop
  case assign =>
    rintro l pre x W K ⟨⟨hn2, hB2, hZ2⟩, hF⟩ hK
    unfold encR
    obtain ⟨p, hp⟩ : ∃ p : Int, p = ((x.1 % 32 : Nat) : Int) := ⟨_, rfl⟩
    obtain ⟨c, hc⟩ : ∃ c : Int, c = ((x.2 % 4 : Nat) : Int) := ⟨_, rfl⟩
    rw [← hp, ← hc]
    have HP := Lib.hid hp
    have HC := Lib.hid hc
    clear hp hc
    gi_wp2
    exact hK _ _ ((KeepsOthers.alloc _ _).from _) (Kq.of_below ((Below.refl _ W).alloc (Nat.le_refl _) _) (by have := HS.out; omega) (by have := HS.out; omega)) ⟨⟨hn2.kept fun k h1 h2 => Below.heap_alloc _ _ _ (by omega), hB2.alloc hB2.size _, by simp; omega⟩, hF⟩ ⟨W.heap.size, by omega, by rw [← HP.out, ← HC.out]; exact heap_alloc_new_ _ _, by rw [← HP.out, ← HC.out]⟩
  case body =>
    rintro l pre x a' W hl ⟨r, hr⟩ ⟨⟨hn2, hB2, hZ2⟩, hF⟩ ⟨Bx, hBx, bX, rfl⟩ hlt
    obtain ⟨p, hp⟩ : ∃ p : Int, p = ((x.1 % 32 : Nat) : Int) := ⟨_, rfl⟩
    obtain ⟨c, hc⟩ : ∃ c : Int, c = ((x.2 % 4 : Nat) : Int) := ⟨_, rfl⟩
    rw [← hp, ← hc] at bX ⊢
    have HO : Hid (okX s who x = s.free' who p c) := by show okX s who x = s.free' who p c; rw [hp, hc]; rfl
    have HPC := Lib.hid (And.intro hp hc)
    have hwp : Wf p := wf_small (by omega)
    have hwc : Wf c := wf_small (by omega)
    have HG := Lib.hid (HH.out.on_ hB2)
    have CT := Lib.hid (isUsed_g W HG.out hwp hwc)
    have HWF := Lib.hid (And.intro hwp hwc)
    have cM := hn2.m.cell
    have cW := hn2.w.cell
    have c0 := (cell_of bX 0).1
    have c1 := (cell_of bX 1).1
    have H2 := Lib.hid (And.intro hn2 (And.intro hB2 hZ2))
    have HX := Lib.hid bX
    have HFF := Lib.hid hF
    clear hp hc hwp hwc hn2 bX hZ2 hB2 hF
    have fin0 : ∀ W2 : World, Below W.heap.size W W2 → s.free' who p c = false → KeepsFrom w1.heap.size W W2 ∧ Kq g b W W2 ∧ (Nb W2 w.heap.size g who 0 0 false ∧ (Below w.heap.size w W2 ∧ w.heap.size + 8 ≤ W2.heap.size)) ∧ ∀ y ∈ pre ++ [x], okX s who y = false := by
      intro W2 hb2 hno
      obtain ⟨hn2, hB2, hZ2⟩ := H2.out
      have hsz := hb2.size
      refine ⟨KeepsFrom.of_below hb2, Kq.of_below hb2 (by have := HS.out; omega) (by have := HS.out; omega), ⟨hn2.kept fun k h1 h2 => hb2.block k (by omega), hB2.trans (hb2.mono hB2.size), by omega⟩, fun y hy => ?_⟩
      rcases List.mem_append.1 hy with hy | hy
      · exact HFF.out y hy
      · rw [List.mem_singleton.1 hy, HO.out]; exact hno
    have FIN0 := Lib.hid fin0
    clear fin0
    cases hu : s.u p c with
    | true =>
      rw [hu] at CT
      have HNO : Hid (s.free' who p c = false) := by show s.free' who p c = false; unfold St.free'; rw [hu]; rfl
      clear hu
      gi_wp2_with (first
        | (refine ⟨trivial, ?_⟩; gi_at_call 26; refine (CallsIn.inRound l (callsIn_wide.2 CT.out)).mono ?_; rintro e w2 ⟨rfl, hb2⟩)
        | (refine ⟨trivial, ?_⟩))
      exact FIN0.out w2 hb2 HNO.out
    | false =>
      rw [hu] at CT
      cases ho : oth s who p c with
      | true =>
        have HNO : Hid (s.free' who p c = false) := by show s.free' who p c = false; unfold St.free'; rw [hu, ho]; rfl
        have HOO := Lib.hid ho
        clear hu ho
        gi_wp2_with (first
          | (refine ⟨trivial, ?_⟩; gi_at_call 26; refine (CallsIn.inRound l (callsIn_wide.2 CT.out)).mono ?_; rintro e w2 ⟨rfl, hb2⟩; have cM' := (hb2.cell (p := ⟨w.heap.size, 0, none⟩) H2.out.1.m.lt).trans cM; have cW' := (hb2.cell (p := ⟨w.heap.size + 1, 0, none⟩) H2.out.1.w.lt).trans cW; have c0' := (hb2.cell (p := ⟨Bx, 0, none⟩) HX.out.lt).trans c0; have c1' := (hb2.cell (p := ⟨Bx, 1, none⟩) HX.out.lt).trans c1)
          | (refine ⟨trivial, ?_⟩; gi_at_call 22; refine (CallsIn.inRound l (callsIn_wide.2 (oth_g w2 (HG.out.on_ hb2) HWF.out.1 HWF.out.2 who))).mono ?_; rintro e w3 ⟨rfl, hb3⟩; rw [HOO.out]))
        exact FIN0.out w3 (hb2.trans (hb3.mono hb2.size)) HNO.out
      | false =>
        have HYES : Hid (s.free' who p c = true) := by show s.free' who p c = true; unfold St.free'; rw [hu, ho]; rfl
        have HOO := Lib.hid ho
        clear hu ho
        gi_wp2_with (first
          | (refine ⟨trivial, ?_⟩; gi_at_call 26; refine (CallsIn.inRound l (callsIn_wide.2 CT.out)).mono ?_; rintro e w2 ⟨rfl, hb2⟩; have cM' := (hb2.cell (p := ⟨w.heap.size, 0, none⟩) H2.out.1.m.lt).trans cM; have cW' := (hb2.cell (p := ⟨w.heap.size + 1, 0, none⟩) H2.out.1.w.lt).trans cW; have c0' := (hb2.cell (p := ⟨Bx, 0, none⟩) HX.out.lt).trans c0; have c1' := (hb2.cell (p := ⟨Bx, 1, none⟩) HX.out.lt).trans c1)
          | (refine ⟨trivial, ?_⟩; gi_at_call 22; refine (CallsIn.inRound l (callsIn_wide.2 (oth_g w2 (HG.out.on_ hb2) HWF.out.1 HWF.out.2 who))).mono ?_; rintro e w3 ⟨rfl, hb3⟩; rw [HOO.out]
             have hb4 := hb2.trans (hb3.mono hb2.size)
             have hn4 : Nb w3 w.heap.size g who 0 0 false := H2.out.1.kept fun k h1 h2 => hb4.block k (by have := H2.out.2.2; omega)
             have d0 := (hb4.cell (p := ⟨Bx, 0, none⟩) HX.out.lt).trans c0
             have d1 := (hb4.cell (p := ⟨Bx, 1, none⟩) HX.out.lt).trans c1
             have e0 := cell_of hn4.r 0
             have e1 := cell_of hn4.r 1
             have e2 := hn4.o.cell
             have e3 := hn4.o.frozen))
        obtain ⟨W3, hW3, hn5, hk5, hb5⟩ := hn4.set p c true
        rw [hW3]
        refine ⟨(KeepsFrom.of_below hb4).trans (hk5.from _), rfl, pre, x, rfl, HFF.out, by rw [HO.out]; exact HYES.out, ?_, (H2.out.2.1.trans (hb4.mono H2.out.2.1.size)).trans hb5⟩
        rw [← HPC.out.1, ← HPC.out.2]; exact hn5
  case done =>
    rintro D zs W hD rfl ⟨⟨hn2, hB2, hZ2⟩, hF⟩ hK
    have c1 := (cell_of hn2.r 0)
    have c2 := (cell_of hn2.r 1)
    have c3 := hn2.o.cell
    have c4 := hn2.o.frozen
    gi_wp2
    obtain ⟨W3, hW3, hn4, hk4, hb4⟩ := hn2.set 0 0 false
    rw [hW3]
    have hK4 := hk4.same D _ hK rfl
    refine ⟨by simp, .inl ⟨_, _, rfl, run_takeDeferred hK4, ?_⟩⟩
    have hn5 : Nb (W3.putObj D (.deferred none)) w.heap.size g who 0 0 false := hn4.kept fun k h1 h2 => (grownBy_putObj' W3 D (.deferred none)).block k (by have := hn4.o.lt; omega) (fun e => by cases e; have := HS.out; omega)
    refine ⟨_, next_end (g3 := w.heap.size + 2) (g4 := w.heap.size + 3) rfl rfl hn5.r hn5.o, by rw [find_none' hF]; rfl, ?_⟩
    exact (hB2.trans hb4).trans (belowK_b (w := w) (Nat.le_refl _) W3 D _ (.deferred none) (by have := HS.out; omega) hK4 rfl rfl)
  case stop =>
    rintro D c pre W hD hSp ⟨rfl, pre', x, rfl, h1, h2, hn2, hB2⟩ hK
    have hn3 : Nb (W.putObj D (.deferred none)) w.heap.size g who ((x.1 % 32 : Nat) : Int) ((x.2 % 4 : Nat) : Int) true := hn2.kept fun k h1 h2 => (grownBy_putObj' W D (.deferred none)).block k (by have := hn2.o.lt; omega) (fun e => by cases e; have := HS.out; omega)
    have hb3 := hB2.trans (belowK_b (w := w) (Nat.le_refl _) W D _ (.deferred none) (by have := HS.out; omega) hK rfl rfl)
    have hfd := find_pre h1 h2 hSp
    gi_wp2
    refine ⟨by simp, .inl ⟨_, _, rfl, run_takeDeferred hK, ?_⟩⟩
    exact ⟨_, next_end (g3 := w.heap.size + 2) (g4 := w.heap.size + 3) rfl rfl hn3.r hn3.o, by rw [hfd]; rfl, hb3⟩
end Go.Proofs.Ytffflafafpdjdaa
