/- Copy of a disk. -/
import Derived.Test.YtliakndgbfbicaaArm
namespace Go.Proofs.Ytliakndgbfbicaa
open Go.RowKit Go.Maps

theorem fm_clone {w : World} {b : Nat} {m : Int → Option Value} (h : fm w Try.prog 3 b m) : Calls Try.prog 30 #[.map (some b)] w fun e w' => e = .returned (.map (some w.heap.size)) ∧ fm w' Try.prog 3 w.heap.size m ∧ w.heap.size < w'.heap.size ∧ Below w.heap.size w w' := by
  obtain ⟨D, hD, hm⟩ := h
  refine (AnyW.maps_Clone_owns Try.cloneA _ tokR b _ D w hD).mono ?_
  rintro e w' ⟨rfl, h1, h2, h3⟩
  exact ⟨rfl, ⟨D, h1, hm⟩, h1.lt, h3⟩

theorem clone_any2 (w : World) {sv : Value} {l : List Int} {gb : Nat} (h : SlB w sv l gb) (hz : sv = .slice none 0 0 ∨ ∃ a n c, sv = .slice (some a) n c) : Calls Try.prog 29 #[sv] w fun e w' => ∃ p1 c1 g, e = .returned (.slice p1 l.length c1) ∧ SlB w' (.slice p1 l.length c1) l g ∧ w.heap.size ≤ g ∧ Below w.heap.size w w' ∧ (p1 = none → l.length = 0 ∧ c1 = 0) := by
  rcases hz with rfl | ⟨a, n, c, rfl⟩
  · obtain ⟨p0, len, cap, e, e2, _, _, hn, _⟩ := h
    cases e
    obtain rfl := hn rfl
    exact (clone_nil w).mono fun e w' ⟨he, hw⟩ => ⟨none, 0, w.heap.size, he, nil_SlB _ _, Nat.le_refl _, by rw [hw]; exact Below.refl _ _, fun _ => ⟨rfl, rfl⟩⟩
  · obtain ⟨p0, len, cap, e, e2, _, hl, _, ha⟩ := h
    cases e
    obtain ⟨gb, ao, asp⟩ := a
    subst e2
    refine (clone_some w gb ao asp c l hl (fun hne => (ha _ rfl hne).2.1) (fun j hj => by
      obtain ⟨q1, _, q3⟩ := ha _ rfl (by intro e; rw [e] at hj; cases hj)
      simp only at q1 q3
      rw [q1]; exact q3 j hj)).mono fun e w' ⟨v, he, hown, hb⟩ => ?_
    obtain ⟨g, hg, hs⟩ := slB_own hown hl
    have hsh := hown.2
    obtain ⟨p1, len, c1, e1, e2, r⟩ := hs
    subst e1
    subst e2
    refine ⟨p1, c1, g, he, ⟨p1, _, c1, rfl, rfl, r⟩, hg, hb, fun hp => ?_⟩
    subst hp
    rcases hsh with ⟨e, _⟩ | ⟨_, _, _, e, _⟩
    · injection e with _ e1 e2
      exact ⟨e1, e2⟩
    · cases e

theorem SlB.block_lt {w : World} {v : Value} {l : List Int} {g : Nat} (h : SlB w v l g) (hl : l ≠ []) : g < w.heap.size := by
  obtain ⟨p0, len, cap, e, e2, hle, hcap, hn, ha⟩ := h
  cases p0 with
  | none => exact absurd (hn rfl) hl
  | some a =>
    obtain ⟨h1, h2, h3⟩ := ha a rfl hl
    exact block_lt_of_cell (h3 0 (List.length_pos_iff.2 hl))

section
variable {w : World} {p bn bo g : Nat} {d : Dk}
set_option maxRecDepth 100000 in
set_option maxHeartbeats 2000000 in
theorem copy_any (h : DiskAt w p bn bo g d) (hz : d.mv = .slice none 0 0 ∨ ∃ a n c, d.mv = .slice (some a) n c) : Calls Try.prog 16 #[.pointer (some ⟨p, 0, none⟩)] w fun e w' => ∃ p' bn' bo' g' mv, e = .returned (.pointer (some ⟨p', 0, none⟩)) ∧ DiskAt w' p' bn' bo' g' { d with mv := mv } ∧ (mv = .slice none 0 0 ∨ ∃ a n c, mv = .slice (some a) n c) ∧ w.heap.size ≤ p' ∧ w.heap.size ≤ bn' ∧ w.heap.size ≤ bo' ∧ w.heap.size ≤ g' ∧ Below w.heap.size w w' := by
  have c0 := h.c0
  have c1 := h.c1
  have c2 := h.c2
  have c3 := h.c3
  have c4 := h.c4
  have c5 := h.c5
  have c6 := h.c6
  have HH := Lib.hid h
  have HZ := Lib.hid hz
  obtain ⟨p0, len, cap, emv, -⟩ := h.mask
  rw [emv] at c6
  have HE := Lib.hid emv
  have hl := h.lt
  clear h
  go_enter Try.func16, Try.ntmps16
  clear hz emv
  go_wp2_with fail
  clear c0 c1 c2 c3 c4 c5 c6
  have b1 : Below w.heap.size w (w.alloc (.cells #[.int .i64 d.tiles, .map (some bn), .map (some bo), .bool d.dead, .bool d.set, .int .i64 d.left, .slice p0 len cap] 52)) := (Below.refl _ _).alloc (Nat.le_refl _) _
  have g1 : (w.alloc (.cells #[.int .i64 d.tiles, .map (some bn), .map (some bo), .bool d.dead, .bool d.set, .int .i64 d.left, .slice p0 len cap] 52)).heap[w.heap.size]? = some (.cells #[.int .i64 d.tiles, .map (some bn), .map (some bo), .bool d.dead, .bool d.set, .int .i64 d.left, .slice p0 len cap] 52 (0, 0)) := heap_alloc_new _ _
  have s1 : w.heap.size < (w.alloc (.cells #[.int .i64 d.tiles, .map (some bn), .map (some bo), .bool d.dead, .bool d.set, .int .i64 d.left, .slice p0 len cap] 52)).heap.size := by simp
  generalize hw1 : w.alloc (.cells #[.int .i64 d.tiles, .map (some bn), .map (some bo), .bool d.dead, .bool d.set, .int .i64 d.left, .slice p0 len cap] 52) = w1 at *
  clear hw1
  generalize hP : w.heap.size = P at *
  refine (fm_clone (HH.out.now.of_block (b1.block bn (by omega)))).mono ?_
  rintro e w2 ⟨rfl, m1, m2, m3⟩
  have d1 := b1.block p (by omega)
  have c2 : w2.cell? ⟨p, 2, none⟩ = some (.map (some bo)) := (World.cell?_of_block (m3.block p (by omega))).trans ((World.cell?_of_block d1).trans HH.out.c2)
  have c6 : w2.cell? ⟨p, 6, none⟩ = some (.slice p0 len cap) := (World.cell?_of_block (m3.block p (by omega))).trans ((World.cell?_of_block d1).trans (HH.out.c6.trans (by rw [HE.out])))
  have g2 := (m3.block P s1).trans g1
  have e1 := (cell_of g2 1).1
  have f1 := (cell_of g2 1).2
  go_wp2_with fail
  have g3 : (w2.setCell ⟨P, 1, none⟩ (.map (some w1.heap.size))).heap[P]? = some (.cells #[.int .i64 d.tiles, .map (some w1.heap.size), .map (some bo), .bool d.dead, .bool d.set, .int .i64 d.left, .slice p0 len cap] 52 (0, 0)) := heap_setCell_same w2 P 1 _ _ _ g2
  have o3 := fun k (hk : k ≠ P) => Below.heap_setCell w2 ⟨P, 1, none⟩ (.map (some w1.heap.size)) k hk
  have n3 : fm (w2.setCell ⟨P, 1, none⟩ (.map (some w1.heap.size))) Try.prog 3 w1.heap.size d.now := m1.of_block (o3 _ (by omega))
  have z1 := b1.size
  have z2 := m3.size
  have z3 : (w2.setCell ⟨P, 1, none⟩ (.map (some w1.heap.size))).heap.size = w2.heap.size := by simp [World.setCell]
  have q3 : fm (w2.setCell ⟨P, 1, none⟩ (.map (some w1.heap.size))) Try.prog 3 bo d.old := ((HH.out.old.of_block (b1.block bo (by omega))).of_block (m3.block bo (by omega))).of_block (o3 _ (by omega))
  have b3 : Below P w (w2.setCell ⟨P, 1, none⟩ (.map (some w1.heap.size))) := (b1.trans (m3.mono (by omega))).setCell (Nat.le_refl _) _
  have c6' : (w2.setCell ⟨P, 1, none⟩ (.map (some w1.heap.size))).cell? ⟨p, 6, none⟩ = some (.slice p0 len cap) := (World.cell?_of_block (o3 p (by omega))).trans c6
  generalize w2.setCell ⟨P, 1, none⟩ (.map (some w1.heap.size)) = w3 at *
  generalize w1.heap.size = Q at *
  have Z3 := Lib.hid z3
  clear c2 c6 g2 e1 f1 o3 m1 g1 d1
  refine (fm_clone q3).mono ?_
  rintro e w4 ⟨rfl, r1, r2, r3⟩
  have c6 : w4.cell? ⟨p, 6, none⟩ = some (.slice p0 len cap) := (World.cell?_of_block (r3.block p (by omega))).trans c6'
  have g4 := (r3.block P (by omega)).trans g3
  have e2 := (cell_of g4 2).1
  have f2 := (cell_of g4 2).2
  have fp : w4.frozen? ⟨p, 2, none⟩ = w4.frozen? ⟨p, 2, none⟩ := rfl
  clear c6' fp z3
  go_wp2_with fail
  have z3 := Z3.out
  have g5 : (w4.setCell ⟨P, 2, none⟩ (.map (some w3.heap.size))).heap[P]? = some (.cells #[.int .i64 d.tiles, .map (some Q), .map (some w3.heap.size), .bool d.dead, .bool d.set, .int .i64 d.left, .slice p0 len cap] 52 (0, 0)) := heap_setCell_same w4 P 2 _ _ _ g4
  have o5 := fun k (hk : k ≠ P) => Below.heap_setCell w4 ⟨P, 2, none⟩ (.map (some w3.heap.size)) k hk
  have n5 := (n3.of_block (r3.block Q (by omega))).of_block (o5 Q (by omega))
  have q5 := r1.of_block (o5 w3.heap.size (by omega))
  have z5 : (w4.setCell ⟨P, 2, none⟩ (.map (some w3.heap.size))).heap.size = w4.heap.size := by simp [World.setCell]
  have z4 := r3.size
  have b5 : Below P w (w4.setCell ⟨P, 2, none⟩ (.map (some w3.heap.size))) := (b3.trans (r3.mono (by omega))).setCell (Nat.le_refl _) _
  generalize w4.setCell ⟨P, 2, none⟩ (.map (some w3.heap.size)) = w5 at *
  generalize w3.heap.size = R at *
  have k5 : SlB w5 d.mv d.mask g := HH.out.mask.kept (fun k hk => b5.block k (by omega))
  have hz := HZ.out
  rw [HE.out] at k5 hz
  refine (clone_any2 w5 k5 hz).mono ?_
  rintro e w6 ⟨p1, c1, g6, rfl, k6, hg6, b6, hnn⟩
  have HNN := Lib.hid hnn
  clear hnn
  have g6' := (b6.block P (by omega)).trans g5
  have e6 := (cell_of g6' 6).1
  have f6 := (cell_of g6' 6).2
  have HK := Lib.hid k6
  clear k5 hz c6 e2 f2 g4 g5 q3 n3 r1 k6
  go_wp2
  go_ret
  have o7 := fun k (hk : k ≠ P) => Below.heap_setCell w6 ⟨P, 6, none⟩ (.slice p1 d.mask.length c1) k hk
  have hrow : (w6.setCell ⟨P, 6, none⟩ (.slice p1 d.mask.length c1)).heap[P]? = some (.cells #[.int .i64 d.tiles, .map (some Q), .map (some R), .bool d.dead, .bool d.set, .int .i64 d.left, .slice p1 d.mask.length c1] 52 (0, 0)) := heap_setCell_same w6 P 6 _ _ _ g6'
  have hR : R < w4.heap.size := r2
  refine ⟨P, Q, R, g6, .slice p1 d.mask.length c1, rfl, ⟨hrow, (n5.of_block (b6.block Q (by omega))).of_block (o7 Q (by omega)), (q5.of_block (b6.block R (by omega))).of_block (o7 R (by omega)), HK.out.poke (show g6 ≠ P by omega), ⟨by omega, by omega, by omega, by omega⟩, ⟨HH.out.ok.lo, HH.out.ok.hi, HH.out.ok.now, HH.out.ok.old, HH.out.ok.llo, HH.out.ok.lhi, HH.out.ok.mok⟩⟩, ?_, by omega, by omega, by omega, by omega, by rw [hP]; exact (b5.trans (b6.mono (by omega))).setCell (show P ≤ P from Nat.le_refl _) _⟩
  cases p1 with
  | none =>
    obtain ⟨e1, e2⟩ := HNN.out rfl
    exact Or.inl (by rw [e1, e2])
  | some a => exact Or.inr ⟨a, _, _, rfl⟩
end
end Go.Proofs.Ytliakndgbfbicaa
