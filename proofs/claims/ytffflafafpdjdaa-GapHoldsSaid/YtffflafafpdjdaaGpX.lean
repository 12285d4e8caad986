/- Next, Used, Held of a nil map. -/
import Derived.Test.YtffflafafpdjdaaGpW
namespace Go.Proofs.Ytffflafafpdjdaa
open Go.RowKit Go.Shelf
attribute [local go_sem] Oper.semAt_some

set_option maxRecDepth 100000 in
set_option maxHeartbeats 4000000 in
theorem used_nil (w : World) (from' to' : Int) :
    CallsIn Fence.wide 8 Try.prog 18 #[.pointer none, .int .i64 from', .int .i64 to'] w fun e w' => e = .returned (.int .i64 0) ∧ Below w.heap.size w w' := by
  refine callsIn_of_wp_marks Try.func18 rfl trivial ?_ rfl
  simp only [Try.ntmps18, List.size_toArray, List.length_cons, List.length_nil, Nat.reduceAdd, Nat.reduceSub, Array.replicate_succ, Array.replicate_zero, List.push_toArray, List.append_toArray, List.nil_append, List.cons_append]
  have bN := Boxed.new (w.alloc (.cells #[.pointer none] 24)) 3 (.int .i64 0)
  have s1 : (w.alloc (.cells #[.pointer none] 24)).heap.size = w.heap.size + 1 := by simp
  have s2 : ((w.alloc (.cells #[.pointer none] 24)).alloc (.cells #[.int .i64 0] 3)).heap.size = w.heap.size + 2 := by simp
  rw [s1] at bN
  have hB0 : Below w.heap.size w ((w.alloc (.cells #[.pointer none] 24)).alloc (.cells #[.int .i64 0] 3)) := ((Below.refl _ w).alloc (Nat.le_refl _) _).alloc (by rw [s1]; omega) _
  have HN := Lib.hid bN
  have HB0 := Lib.hid hB0
  have HS2 := Lib.hid s2
  clear bN s1 s2 hB0
  gi_wp2_with (refine ⟨trivial, ?_⟩; gi_at_call 25; refine (all_in _ _ _ _ _ _).mono ?_; rintro e w1 ⟨rfl, hb, hs, q0, q1, q2, q3⟩)
  have bN := HN.out
  have hB0 := HB0.out
  have s2 := HS2.out
  generalize (w.alloc (.cells #[.pointer none] 24)).alloc (.cells #[.int .i64 0] 3) = w0 at *
  clear HN HB0 HS2
  have bN1 : Boxed w1 (w.heap.size + 1) 3 (.int .i64 0) := (hb.block _ (by omega)).trans bN
  have hB1 : Below w.heap.size w w1 := hB0.trans (hb.mono (by omega))
  have hsz1 : w1.heap.size = w.heap.size + 6 := by omega
  rw [show clo (w.heap.size + 1 + 1) = .func (.func 28) #[] (bxs w0.heap.size) from by rw [s2]; rfl]
  generalize w0.heap.size = b at *
  have HS := Lib.hid (And.intro s2 hsz1)
  clear hs s2 hsz1 hb q1 q2 q3 hB0 bN
  refine wpIn_rangeFunc_ownH (α := Empty) (encs := fun x => x.elim) (Kp := fun _ _ => True) rfl (by omega) (gf := 28) (lb := bxs b) rfl trivial (enters_of Try.func28 (by kernel_rfl) rfl)
    (nil_stops _ (by omega) b w1 q0 (by have := HS.out; omega)) (fun _ _ => trivial) (fun _ _ _ _ _ _ _ _ => trivial) (Below.refl _ _) (fun x => x.elim)
    (fun _ W => Boxed W (w.heap.size + 1) 3 (.int .i64 0) ∧ Below w.heap.size w W)
    (fun _ _ _ => False)
    (OwnFrom.and (Own.from (boxed_own _ _ (fun _ => .int .i64 0)) _) (ownFrom_below (Nat.le_refl _) (by have := HS.out; omega)))
    (fun _ _ _ _ _ hs _ _ => hs)
    ⟨bN1, hB1⟩
    (fun _ _ _ => True) (fun _ _ _ _ _ _ _ _ _ => trivial)
    (fun _ _ x => x.elim) (fun _ _ x => x.elim) ?done ?stop
  case done =>
    rintro D zs W hD rfl ⟨bN2, hB2⟩ hK
    have cN := bN2.cell
    gi_wp2
    refine ⟨by simp, .inl ⟨_, _, rfl, run_takeDeferred hK, ?_⟩⟩
    exact ⟨_, results_tmp rfl _ _ _, rfl, hB2.trans (belowK_b (w := w) (Nat.le_refl _) W D _ _ (by have := HS.out; omega) hK rfl rfl)⟩
  case stop =>
    rintro D c pre W _ _ h _
    exact h.elim

set_option maxRecDepth 100000 in
set_option maxHeartbeats 4000000 in
theorem held_nil (w : World) (from' to' : Int) :
    CallsIn Fence.wide 8 Try.prog 19 #[.pointer none, .int .i64 from', .int .i64 to'] w fun e w' => e = .returned (.int .i64 0) ∧ Below w.heap.size w w' := by
  refine callsIn_of_wp_marks Try.func19 rfl trivial ?_ rfl
  simp only [Try.ntmps19, List.size_toArray, List.length_cons, List.length_nil, Nat.reduceAdd, Nat.reduceSub, Array.replicate_succ, Array.replicate_zero, List.push_toArray, List.append_toArray, List.nil_append, List.cons_append]
  have bN := Boxed.new (w.alloc (.cells #[.pointer none] 24)) 3 (.int .i64 0)
  have s1 : (w.alloc (.cells #[.pointer none] 24)).heap.size = w.heap.size + 1 := by simp
  have s2 : ((w.alloc (.cells #[.pointer none] 24)).alloc (.cells #[.int .i64 0] 3)).heap.size = w.heap.size + 2 := by simp
  rw [s1] at bN
  have hB0 : Below w.heap.size w ((w.alloc (.cells #[.pointer none] 24)).alloc (.cells #[.int .i64 0] 3)) := ((Below.refl _ w).alloc (Nat.le_refl _) _).alloc (by rw [s1]; omega) _
  have HN := Lib.hid bN
  have HB0 := Lib.hid hB0
  have HS2 := Lib.hid s2
  clear bN s1 s2 hB0
  gi_wp2_with (refine ⟨trivial, ?_⟩; gi_at_call 25; refine (all_in _ _ _ _ _ _).mono ?_; rintro e w1 ⟨rfl, hb, hs, q0, q1, q2, q3⟩)
  have bN := HN.out
  have hB0 := HB0.out
  have s2 := HS2.out
  generalize (w.alloc (.cells #[.pointer none] 24)).alloc (.cells #[.int .i64 0] 3) = w0 at *
  clear HN HB0 HS2
  have bN1 : Boxed w1 (w.heap.size + 1) 3 (.int .i64 0) := (hb.block _ (by omega)).trans bN
  have hB1 : Below w.heap.size w w1 := hB0.trans (hb.mono (by omega))
  have hsz1 : w1.heap.size = w.heap.size + 6 := by omega
  rw [show clo (w.heap.size + 1 + 1) = .func (.func 28) #[] (bxs w0.heap.size) from by rw [s2]; rfl]
  generalize w0.heap.size = b at *
  have HS := Lib.hid (And.intro s2 hsz1)
  clear hs s2 hsz1 hb q1 q2 q3 hB0 bN
  refine wpIn_rangeFunc_ownH (α := Empty) (encs := fun x => x.elim) (Kp := fun _ _ => True) rfl (by omega) (gf := 28) (lb := bxs b) rfl trivial (enters_of Try.func28 (by kernel_rfl) rfl)
    (nil_stops _ (by omega) b w1 q0 (by have := HS.out; omega)) (fun _ _ => trivial) (fun _ _ _ _ _ _ _ _ => trivial) (Below.refl _ _) (fun x => x.elim)
    (fun _ W => Boxed W (w.heap.size + 1) 3 (.int .i64 0) ∧ Below w.heap.size w W)
    (fun _ _ _ => False)
    (OwnFrom.and (Own.from (boxed_own _ _ (fun _ => .int .i64 0)) _) (ownFrom_below (Nat.le_refl _) (by have := HS.out; omega)))
    (fun _ _ _ _ _ hs _ _ => hs)
    ⟨bN1, hB1⟩
    (fun _ _ _ => True) (fun _ _ _ _ _ _ _ _ _ => trivial)
    (fun _ _ x => x.elim) (fun _ _ x => x.elim) ?done ?stop
  case done =>
    rintro D zs W hD rfl ⟨bN2, hB2⟩ hK
    have cN := bN2.cell
    gi_wp2
    refine ⟨by simp, .inl ⟨_, _, rfl, run_takeDeferred hK, ?_⟩⟩
    exact ⟨_, results_tmp rfl _ _ _, rfl, hB2.trans (belowK_b (w := w) (Nat.le_refl _) W D _ _ (by have := HS.out; omega) hK rfl rfl)⟩
  case stop =>
    rintro D c pre W _ _ h _
    exact h.elim
/-- The blocks that Next of nil has made ahead of its loop. -/
structure NbN (W : World) (d : Nat) (who : Int) (p c : Int) (f : Bool) : Prop where
  m : Boxed W d 24 (.pointer none)
  w : Boxed W (d + 1) 3 (.int .i64 who)
  r : BoxR W (d + 2) p c
  o : Boxed W (d + 3) 4 (.bool f)
theorem NbN.kept {W W' : World} {d : Nat} {who p c : Int} {f : Bool} (h : NbN W d who p c f) (hb : ∀ k, d ≤ k → k < d + 4 → W'.heap[k]? = W.heap[k]?) : NbN W' d who p c f :=
  ⟨(hb _ (by omega) (by omega)).trans h.m, (hb _ (by omega) (by omega)).trans h.w, h.r.kept (hb _ (by omega) (by omega)), (hb _ (by omega) (by omega)).trans h.o⟩
theorem nbn_own {β : Type} (d : Nat) (who : Int) (p c : β → Int) (f : β → Bool) : Own (fun s W => NbN W d who (p s) (c s) (f s)) := fun s X Y row hs hg hr =>
  ⟨boxed_own d 24 (fun _ => .pointer none) s X Y row hs.m hg hr, boxed_own (d + 1) 3 (fun _ => .int .i64 who) s X Y row hs.w hg hr, boxR_own (d + 2) p c s X Y row hs.r hg hr, boxed_own (d + 3) 4 (fun s => .bool (f s)) s X Y row hs.o hg hr⟩

theorem NbN.set {W : World} {d : Nat} {who p c : Int} {f : Bool} (h : NbN W d who p c f) (p' c' : Int) (f' : Bool) :
    ∃ W', (((W.setCell ⟨d + 1 + 1, 0, none⟩ (.int .i64 p')).setCell ⟨d + 1 + 1, 1, none⟩ (.int .i64 c')).setCell ⟨d + 1 + 1 + 1, 0, none⟩ (.bool f')) = W' ∧ NbN W' d who p' c' f' ∧ KeepsOthers W W' ∧ Below d W W' := by
  have k : ∀ (X : World) (b i : Nat) (v : Value) (j : Nat), j ≠ b → (X.setCell ⟨b, i, none⟩ v).heap[j]? = X.heap[j]? := fun X b i v j hj => Below.heap_setCell _ _ _ _ hj
  refine ⟨_, rfl, ⟨?_, ?_, ?_, ?_⟩, ((KeepsOthers.setCell _ _ _).trans (KeepsOthers.setCell _ _ _)).trans (KeepsOthers.setCell _ _ _),
    (((Below.refl d W).setCell (p := ⟨d + 1 + 1, 0, none⟩) (by simp; omega) _).setCell (p := ⟨d + 1 + 1, 1, none⟩) (by simp; omega) _).setCell (p := ⟨d + 1 + 1 + 1, 0, none⟩) (by simp; omega) _⟩
  · exact ((k _ _ _ _ _ (by omega)).trans ((k _ _ _ _ _ (by omega)).trans (k _ _ _ _ _ (by omega)))).trans h.m
  · exact ((k _ _ _ _ _ (by omega)).trans ((k _ _ _ _ _ (by omega)).trans (k _ _ _ _ _ (by omega)))).trans h.w
  · exact (h.r.set p' c').kept (k _ _ _ _ _ (by omega))
  · have h1 : Boxed ((W.setCell ⟨d + 1 + 1, 0, none⟩ (.int .i64 p')).setCell ⟨d + 1 + 1, 1, none⟩ (.int .i64 c')) (d + 3) 4 (.bool f) := ((k _ _ _ _ _ (by omega)).trans (k _ _ _ _ _ (by omega))).trans h.o
    exact h1.set _

set_option maxRecDepth 100000 in
set_option maxHeartbeats 4000000 in
theorem next_nil (w : World) (from' to' cells who : Int) :
    CallsIn Fence.wide 8 Try.prog 15 #[.pointer none, .int .i64 from', .int .i64 to', .int .i64 cells, .int .i64 who] w fun e w' => e = .returned (nxV none) ∧ Below w.heap.size w w' := by
  refine callsIn_of_wp_marks Try.func15 rfl trivial ?_ rfl
  simp only [Try.ntmps15, List.size_toArray, List.length_cons, List.length_nil, Nat.reduceAdd, Nat.reduceSub, Array.replicate_succ, Array.replicate_zero, List.push_toArray, List.append_toArray, List.nil_append, List.cons_append]
  have s1 : ∀ (x : World) (cs : Array Value) (t : TypeId), (x.alloc (.cells cs t)).heap.size = x.heap.size + 1 := fun x cs t => by simp
  have hNB : NbN ((((w.alloc (.cells #[.pointer none] 24)).alloc (.cells #[.int .i64 who] 3)).alloc (.cells #[.int .i64 0, .int .i64 0] 29)).alloc (.cells #[.bool false] 4)) w.heap.size who 0 0 false := by
    refine ⟨(((Boxed.new w 24 _).alloc _).alloc _).alloc _, ?_, ?_, ?_⟩
    · have := (((Boxed.new (w.alloc (.cells #[.pointer none] 24)) 3 (.int .i64 who)).alloc (.cells #[.int .i64 0, .int .i64 0] 29)).alloc (.cells #[.bool false] 4))
      rwa [s1] at this
    · have h1 : BoxR (((w.alloc (.cells #[.pointer none] 24)).alloc (.cells #[.int .i64 who] 3)).alloc (.cells #[.int .i64 0, .int .i64 0] 29)) _ 0 0 := heap_alloc_new_ _ _
      rw [s1, s1] at h1
      exact h1.kept (Below.heap_alloc _ _ _ (by rw [s1, s1, s1]; omega))
    · have := Boxed.new (((w.alloc (.cells #[.pointer none] 24)).alloc (.cells #[.int .i64 who] 3)).alloc (.cells #[.int .i64 0, .int .i64 0] 29)) 4 (.bool false)
      rwa [s1, s1, s1] at this
  have hB0 : Below w.heap.size w ((((w.alloc (.cells #[.pointer none] 24)).alloc (.cells #[.int .i64 who] 3)).alloc (.cells #[.int .i64 0, .int .i64 0] 29)).alloc (.cells #[.bool false] 4)) :=
    ((((Below.refl _ w).alloc (Nat.le_refl _) _).alloc (by rw [s1]; omega) _).alloc (by rw [s1, s1]; omega) _).alloc (by rw [s1, s1, s1]; omega) _
  have s2 : ((((w.alloc (.cells #[.pointer none] 24)).alloc (.cells #[.int .i64 who] 3)).alloc (.cells #[.int .i64 0, .int .i64 0] 29)).alloc (.cells #[.bool false] 4)).heap.size = w.heap.size + 4 := by rw [s1, s1, s1, s1]
  have HNB := Lib.hid hNB
  have HB0 := Lib.hid hB0
  have HS2 := Lib.hid s2
  clear hNB s1 s2 hB0
  gi_wp2_with (refine ⟨trivial, ?_⟩; gi_at_call 25; refine (all_in _ _ _ _ _ _).mono ?_; rintro e w1 ⟨rfl, hb, hs, q0, q1, q2, q3⟩)
  have hNB := HNB.out
  have hB0 := HB0.out
  have s2 := HS2.out
  generalize ((((w.alloc (.cells #[.pointer none] 24)).alloc (.cells #[.int .i64 who] 3)).alloc (.cells #[.int .i64 0, .int .i64 0] 29)).alloc (.cells #[.bool false] 4)) = w0 at *
  clear HNB HB0 HS2
  have hN1 : NbN w1 w.heap.size who 0 0 false := hNB.kept fun k h1 h2 => hb.block _ (by omega)
  have hB1 : Below w.heap.size w w1 := hB0.trans (hb.mono (by omega))
  have hsz1 : w1.heap.size = w.heap.size + 8 := by omega
  clear hb q1 q2 q3 hNB hB0
  rw [show clo (w.heap.size + 1 + 1 + 1 + 1) = .func (.func 28) #[] (bxs w0.heap.size) from by rw [s2]; rfl]
  generalize w0.heap.size = b at *
  have HS := Lib.hid (And.intro s2 hsz1)
  clear hs s2 hsz1
  refine wpIn_rangeFunc_ownH (α := Empty) (encs := fun x => x.elim) (Kp := fun _ _ => True) rfl (by omega) (gf := 28) (lb := bxs b) rfl trivial (enters_of Try.func28 (by kernel_rfl) rfl)
    (nil_stops _ (by omega) b w1 q0 (by have := HS.out; omega)) (fun _ _ => trivial) (fun _ _ _ _ _ _ _ _ => trivial) (Below.refl _ _) (fun x => x.elim)
    (fun _ W => NbN W w.heap.size who 0 0 false ∧ (Below w.heap.size w W ∧ w.heap.size + 8 ≤ W.heap.size))
    (fun _ _ _ => False)
    (OwnFrom.and (Own.from (nbn_own w.heap.size who (fun _ => 0) (fun _ => 0) (fun _ => false)) _) (OwnFrom.and (ownFrom_below (Nat.le_refl _) (by have := HS.out; omega)) (own_size _ _)))
    (fun _ _ _ _ _ hs _ _ => hs)
    ⟨hN1, hB1, by have := HS.out; omega⟩
    (fun _ _ _ => True) (fun _ _ _ _ _ _ _ _ _ => trivial)
    (fun _ _ x => x.elim) (fun _ _ x => x.elim) ?done ?stop
  case done =>
    rintro D zs W hD rfl ⟨hn2, hB2, hZ2⟩ hK
    have c1 := (cell_of hn2.r 0)
    have c2 := (cell_of hn2.r 1)
    have c3 := hn2.o.cell
    have c4 := hn2.o.frozen
    gi_wp2
    obtain ⟨W3, hW3, hn4, hk4, hb4⟩ := hn2.set 0 0 false
    rw [hW3]
    have hK4 := hk4.same D _ hK rfl
    refine ⟨by simp, .inl ⟨_, _, rfl, run_takeDeferred hK4, ?_⟩⟩
    have hn5 : NbN (W3.putObj D (.deferred none)) w.heap.size who 0 0 false := hn4.kept fun k h1 h2 => (grownBy_putObj' W3 D (.deferred none)).block k (by have := hn4.o.lt; omega) (fun e => by cases e; have := HS.out; omega)
    refine ⟨_, next_end (g3 := w.heap.size + 2) (g4 := w.heap.size + 3) rfl rfl hn5.r hn5.o, rfl, ?_⟩
    exact (hB2.trans hb4).trans (belowK_b (w := w) (Nat.le_refl _) W3 D _ (.deferred none) (by have := HS.out; omega) hK4 rfl rfl)
  case stop =>
    rintro D c pre W _ _ h _
    exact h.elim
end Go.Proofs.Ytffflafafpdjdaa
