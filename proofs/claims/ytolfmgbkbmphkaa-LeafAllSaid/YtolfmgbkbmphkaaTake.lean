/- Take. -/
import Derived.Test.YtolfmgbkbmphkaaPage
namespace Go.Proofs.Ytolfmgbkbmphkaa
open Go.RowKit

theorem numL_bounds {l : List Int} (h : bytesOk l) : 0 ≤ numL l ∧ numL l < 4294967296 := by
  unfold numL
  split
  · rename_i a b c d r
    have := h a (by simp); have := h b (by simp); have := h c (by simp); have := h d (by simp)
    omega
  · omega

theorem take_bad (w : World) (a b : Value) (la lb : List Int) (ha : SlK .u8 w a la) (hb : SlK .u8 w b lb) (hx : la.length ≠ 64 ∨ lb.length ≠ 64) : Calls Try.prog 24 #[a, b] w fun e w' => e = .returned (.tuple #[.int .i64 0, .slice none 0 0, .int .i64 1]) ∧ w' = w := by
  obtain ⟨p, cap, rfl, h1, h2, h3, h4⟩ := ha
  obtain ⟨q, cbp, rfl, i1, i2, i3, i4⟩ := hb
  clear h2 h3 h4 i2 i3 i4
  go_enter Try.func24, Try.ntmps24
  by_cases a1 : la.length = 64
  · have a2 : lb.length ≠ 64 := by omega
    have d1 : decide ((la.length : Int) = 64) = true := by simp; omega
    have a3 : ¬ ((lb.length : Int) = 64) := by omega
    go_wp2
    go_ret3
    constructor <;> first | rfl | trivial
  · have a3 : ¬ ((la.length : Int) = 64) := by omega
    go_wp2
    go_ret3
    constructor <;> first | rfl | trivial

section

variable (w : World) (a b : Value) (la lb : List Int) (ha : Pt w a la) (hb : Pt w b lb) (la4 : la.length = 64) (lb4 : lb.length = 64) (oka : bytesOk la) (okb : bytesOk lb)

include ha hb la4 lb4 oka okb

set_option maxHeartbeats 400000 in
theorem take_torn (hx : numL la ≠ numL lb) : Calls Try.prog 24 #[a, b] w fun e w' => e = .returned (.tuple #[.int .i64 0, .slice none 0 0, .int .i64 3]) ∧ w' = w := by
  have n1 := fun W h => number_any W a la h oka (by omega)
  have n2 := fun W h => number_any W b lb h okb (by omega)
  obtain ⟨p, off, cap, rfl, h1, h2, h3⟩ := id ha
  obtain ⟨q, ofb, cbp, rfl, i1, i2, i3⟩ := id hb
  rw [la4] at *
  rw [lb4] at *
  clear h3 i3
  go_enter Try.func24, Try.ntmps24
  go_wp2_with fail
  refine (n1 _ ha).mono ?_
  rintro e w1 ⟨rfl, rfl⟩
  go_wp2_with fail
  refine (n2 _ hb).mono ?_
  rintro e w2 ⟨rfl, rfl⟩
  go_wp2
  go_ret3
  constructor <;> first | rfl | trivial

set_option maxHeartbeats 400000 in
theorem take_form (hx : numL la = numL lb) (hy : 2147483647 < numL la) : Calls Try.prog 24 #[a, b] w fun e w' => e = .returned (.tuple #[.int .i64 0, .slice none 0 0, .int .i64 4]) ∧ w' = w := by
  have n1 := fun W h => number_any W a la h oka (by omega)
  have n2 := fun W h => number_any W b lb h okb (by omega)
  rw [← hx] at n2
  obtain ⟨p, off, cap, rfl, h1, h2, h3⟩ := id ha
  obtain ⟨q, ofb, cbp, rfl, i1, i2, i3⟩ := id hb
  rw [la4] at *
  rw [lb4] at *
  clear h3 i3
  go_enter Try.func24, Try.ntmps24
  go_wp2_with fail
  refine (n1 _ ha).mono ?_
  rintro e w1 ⟨rfl, rfl⟩
  go_wp2_with fail
  refine (n2 _ hb).mono ?_
  rintro e w2 ⟨rfl, rfl⟩
  go_wp2
  go_ret3
  constructor <;> first | rfl | trivial

omit ha hb la4 lb4 oka okb in
theorem Pt.tail4 {w : World} {g off cap n : Nat} {l : List Int} (h : Pt w (.slice (some ⟨g, off, none⟩) n cap) l) (hl : l.length = 64) : Pt w (.slice (some ⟨g, off + 4, none⟩) 60 (cap - 4)) (l.drop 4) := by
  obtain ⟨b, o, c, e, h1, h2, h3⟩ := h
  cases e
  refine ⟨g, off + 4, cap - 4, by rw [List.length_drop, hl], by rw [List.length_drop]; omega, h2, fun j hj => ?_⟩
  rw [List.length_drop] at hj
  rw [List.getElem_drop]
  have e2 := h3 (4 + j) (by omega)
  have e3 : off + 4 + j = off + (4 + j) := by omega
  rw [e3]; exact e2

set_option maxRecDepth 100000 in
set_option maxHeartbeats 1000000 in
theorem take_ok (hx : numL la = numL lb) (hy : numL la < 2147483648) : Calls Try.prog 24 #[a, b] w fun e w' => ∃ v, e = .returned (.tuple #[.int .i64 (numL la), v, .int .i64 0]) ∧ w'.ownsRow w.heap.size 5 1 v 120 (byteV (la.drop 4 ++ lb.drop 4)) ∧ Below w.heap.size w w' := by
  have n1 := fun W h => number_any W a la h oka (by omega)
  have n2 := fun W h => number_any W b lb h okb (by omega)
  rw [← hx] at n2
  have nb := numL_bounds oka
  obtain ⟨p, off, cap, rfl, h1, h2, h3⟩ := id ha
  obtain ⟨q, ofb, cbp, rfl, i1, i2, i3⟩ := id hb
  have p1 := ha.tail4 la4
  have p2 := hb.tail4 lb4
  have l4a := la4
  have l4b := lb4
  rw [la4] at ha h1 ⊢
  rw [lb4] at hb i1 ⊢
  simp only [l4a] at n1
  simp only [l4b] at n2
  clear h3 i3
  have hC : ∀ W g t, Below w.heap.size w W → W.heap[g]? = some (.cells #[.slice (some ⟨p, off + 4, none⟩) 60 (cap - 4), .slice (some ⟨q, ofb + 4, none⟩) 60 (cbp - 4)] t (0, 0)) →
      Calls Try.prog 39 #[.slice (some ⟨g, 0, none⟩) 2 2] W fun e w' => ∃ v, e = .returned v ∧ w'.ownsRow w.heap.size 5 1 v 120 (byteV (la.drop 4 ++ lb.drop 4)) ∧ Below w.heap.size w w' := by
    intro W g t hB hg
    have q1 := p1.below hB (Nat.le_refl _)
    have q2 := p2.below hB (Nat.le_refl _)
    have e0 : [la.drop 4, lb.drop 4].flatten = la.drop 4 ++ lb.drop 4 := by simp
    have e1 : (la.drop 4 ++ lb.drop 4).length = 120 := by simp [l4a, l4b]
    refine (concat_any W g t [_, _] [la.drop 4, lb.drop 4] hg rfl ?_ (by rw [e0, e1]; omega) (by simp)).mono ?_
    · intro j h h'
      match j, h with
      | 0, _ => exact q1
      | 1, _ => exact q2
    · rintro e w' ⟨v, rfl, ho, hb⟩
      rw [e0, e1] at ho
      exact ⟨v, rfl, ⟨ho.1, ho.2.imp id (fun ⟨g, cap, cur, r1, r2, r⟩ => ⟨g, cap, cur, r1, Nat.le_trans hB.size r2, r⟩)⟩, hB.trans (hb.mono hB.size)⟩
  generalize hN : numL la = N at *
  generalize la.drop 4 ++ lb.drop 4 = L at *
  have HC := Lib.hid hC
  clear p1 p2 hC hx hN
  go_enter Try.func24, Try.ntmps24
  go_wp2_with fail
  refine (n1 _ ha).mono ?_
  rintro e w1 ⟨rfl, rfl⟩
  go_wp2_with fail
  refine (n2 _ hb).mono ?_
  rintro e w2 ⟨rfl, rfl⟩
  have c4 : ¬ cap = 4 := by omega
  have d4 : ¬ cbp = 4 := by omega
  have wN := IntWalk.i64_in N (by omega)
  go_wp2
  go_region_with (go_at_call 39; refine (HC.out _ _ _ ((Below.refl _ _).alloc (Nat.le_refl _) _).drew (heap_alloc_new _ _)).mono ?_; rintro e w3 ⟨v, rfl, ho, hb3⟩)
  all_goals (go_wp2; go_ret3; exact ⟨_, rfl, ho, hb3⟩)

end

end Go.Proofs.Ytolfmgbkbmphkaa
