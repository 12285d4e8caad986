/- Same. -/
import Derived.Test.YtbjfhlcfnohiiaaEntSn
namespace Go.Proofs.Ytbjfhlcfnohiiaa
open Go.RowKit

def sameE (a b : Ent) : Bool := decide (numsE a = numsE b) && (decide (a.old = b.old) && (decide (a.new = b.new) && (decide (a.moves = b.moves) && (decide (a.lives = b.lives) && (decide (a.dirty = b.dirty) && decide (a.opens = b.opens))))))
theorem sameE_iff (a b : Ent) : sameE a b = true ↔ a = b := by
  unfold sameE
  simp only [Bool.and_eq_true, decide_eq_true_eq]
  constructor
  · rintro ⟨h, h1, h2, h3, h4, h5, h6⟩
    unfold numsE at h
    simp only [List.cons.injEq, and_true] at h
    obtain ⟨q0, q1, q2, q3, q4, q5, q6, q7, q8, q9⟩ := h
    cases a; cases b
    simp only at *
    subst q0 q1 q2 q3 q4 q5 q6 q7 q8 q9 h1 h2 h3 h4 h5 h6
    rfl
  · rintro rfl
    exact ⟨rfl, rfl, rfl, rfl, rfl, rfl, rfl⟩

/-- Lists that are no longer than memory may be. -/
structure EntLen (e : Ent) : Prop where
  moves : e.moves.length ≤ 9223372036854775807
  lives : e.lives.length ≤ 9223372036854775807
  dirty : e.dirty.length ≤ 9223372036854775807
  opens : e.opens.length ≤ 9223372036854775807
  inner : ∀ o ∈ e.opens, o.2.2.length ≤ 9223372036854775807

set_option maxRecDepth 100000 in
set_option maxHeartbeats 4000000 in
theorem same_any (w : World) (a b : Ent) {s1 s2 s3 s4 s5 s6 t1 t2 t3 t4 t5 t6 : Value} (hs : EntS w s1 s2 s3 s4 s5 s6 a) (ht : EntS w t1 t2 t3 t4 t5 t6 b) (hl : EntLen a) :
    Calls Try.prog 19 #[.agg (entC a s1 s2 s3 s4 s5 s6), .agg (entC b t1 t2 t3 t4 t5 t6)] w fun e w' => e = .returned (.bool (sameE a b)) ∧ Below w.heap.size w w' := by
  obtain ⟨A1, c1, A2, c2, A3, c3, A4, c4, A5, c5, A6, c6, rfl, rfl, rfl, rfl, rfl, rfl⟩ := hs.form
  obtain ⟨B1, d1, B2, d2, B3, d3, B4, d4, B5, d5, B6, d6, rfl, rfl, rfl, rfl, rfl, rfl⟩ := ht.form
  have HS := Lib.hid hs
  have HT := Lib.hid ht
  have HL := Lib.hid hl
  clear hs ht hl
  obtain ⟨n1, hn1⟩ : ∃ n, n = a.old.length := ⟨_, rfl⟩
  obtain ⟨m1, hm1⟩ : ∃ n, n = b.old.length := ⟨_, rfl⟩
  rw [← hn1] at HS ⊢
  rw [← hm1] at HT ⊢
  clear hn1 hm1
  obtain ⟨n2, hn2⟩ : ∃ n, n = a.new.length := ⟨_, rfl⟩
  obtain ⟨m2, hm2⟩ : ∃ n, n = b.new.length := ⟨_, rfl⟩
  rw [← hn2] at HS ⊢
  rw [← hm2] at HT ⊢
  clear hn2 hm2
  obtain ⟨n3, hn3⟩ : ∃ n, n = a.moves.length := ⟨_, rfl⟩
  obtain ⟨m3, hm3⟩ : ∃ n, n = b.moves.length := ⟨_, rfl⟩
  rw [← hn3] at HS ⊢
  rw [← hm3] at HT ⊢
  clear hn3 hm3
  obtain ⟨n4, hn4⟩ : ∃ n, n = a.lives.length := ⟨_, rfl⟩
  obtain ⟨m4, hm4⟩ : ∃ n, n = b.lives.length := ⟨_, rfl⟩
  rw [← hn4] at HS ⊢
  rw [← hm4] at HT ⊢
  clear hn4 hm4
  obtain ⟨n5, hn5⟩ : ∃ n, n = a.dirty.length := ⟨_, rfl⟩
  obtain ⟨m5, hm5⟩ : ∃ n, n = b.dirty.length := ⟨_, rfl⟩
  rw [← hn5] at HS ⊢
  rw [← hm5] at HT ⊢
  clear hn5 hm5
  obtain ⟨n6, hn6⟩ : ∃ n, n = a.opens.length := ⟨_, rfl⟩
  obtain ⟨m6, hm6⟩ : ∃ n, n = b.opens.length := ⟨_, rfl⟩
  rw [← hn6] at HS ⊢
  rw [← hm6] at HT ⊢
  clear hn6 hm6
  obtain ⟨W, hW⟩ : ∃ W, W = (w.alloc (entO a (.slice A1 n1 c1) (.slice A2 n2 c2) (.slice A3 n3 c3) (.slice A4 n4 c4) (.slice A5 n5 c5) (.slice A6 n6 c6))).alloc (entO b (.slice B1 m1 d1) (.slice B2 m2 d2) (.slice B3 m3 d3) (.slice B4 m4 d4) (.slice B5 m5 d5) (.slice B6 m6 d6)) := ⟨_, rfl⟩
  have HB : Hid (Bx2 w W (entO a (.slice A1 n1 c1) (.slice A2 n2 c2) (.slice A3 n3 c3) (.slice A4 n4 c4) (.slice A5 n5 c5) (.slice A6 n6 c6)) (entO b (.slice B1 m1 d1) (.slice B2 m2 d2) (.slice B3 m3 d3) (.slice B4 m4 d4) (.slice B5 m5 d5) (.slice B6 m6 d6))) := by rw [hW]; exact Bx2.new w _ _
  have HBX1 : Hid (W.heap[w.heap.size]? = some (.cells (entC a (.slice A1 n1 c1) (.slice A2 n2 c2) (.slice A3 n3 c3) (.slice A4 n4 c4) (.slice A5 n5 c5) (.slice A6 n6 c6)) 30 (0, 0))) := HB.out.2.1
  have HBX2 : Hid (W.heap[w.heap.size + 1]? = some (.cells (entC b (.slice B1 m1 d1) (.slice B2 m2 d2) (.slice B3 m3 d3) (.slice B4 m4 d4) (.slice B5 m5 d5) (.slice B6 m6 d6)) 30 (0, 0))) := HB.out.2.2
  have HCA := Lib.hid (infoEntC a (.slice A1 n1 c1) (.slice A2 n2 c2) (.slice A3 n3 c3) (.slice A4 n4 c4) (.slice A5 n5 c5) (.slice A6 n6 c6))
  have HCB := Lib.hid (infoEntC b (.slice B1 m1 d1) (.slice B2 m2 d2) (.slice B3 m3 d3) (.slice B4 m4 d4) (.slice B5 m5 d5) (.slice B6 m6 d6))
  have hcase : (decide (numsE a = numsE b) = true ∧ decide (a.old = b.old) = true ∧ decide (a.new = b.new) = true ∧ decide (a.moves = b.moves) = true ∧ decide (a.lives = b.lives) = true ∧ decide (a.dirty = b.dirty) = true ∧ decide (a.opens = b.opens) = true) ∨ (decide (numsE a = numsE b) = false) ∨ (decide (numsE a = numsE b) = true ∧ decide (a.old = b.old) = false) ∨ (decide (numsE a = numsE b) = true ∧ decide (a.old = b.old) = true ∧ decide (a.new = b.new) = false) ∨ (decide (numsE a = numsE b) = true ∧ decide (a.old = b.old) = true ∧ decide (a.new = b.new) = true ∧ decide (a.moves = b.moves) = false) ∨ (decide (numsE a = numsE b) = true ∧ decide (a.old = b.old) = true ∧ decide (a.new = b.new) = true ∧ decide (a.moves = b.moves) = true ∧ decide (a.lives = b.lives) = false) ∨ (decide (numsE a = numsE b) = true ∧ decide (a.old = b.old) = true ∧ decide (a.new = b.new) = true ∧ decide (a.moves = b.moves) = true ∧ decide (a.lives = b.lives) = true ∧ decide (a.dirty = b.dirty) = false) ∨ (decide (numsE a = numsE b) = true ∧ decide (a.old = b.old) = true ∧ decide (a.new = b.new) = true ∧ decide (a.moves = b.moves) = true ∧ decide (a.lives = b.lives) = true ∧ decide (a.dirty = b.dirty) = true ∧ decide (a.opens = b.opens) = false) := by
    cases q0 : decide (numsE a = numsE b)
    · simp
    cases q1 : decide (a.old = b.old)
    · simp
    cases q2 : decide (a.new = b.new)
    · simp
    cases q3 : decide (a.moves = b.moves)
    · simp
    cases q4 : decide (a.lives = b.lives)
    · simp
    cases q5 : decide (a.dirty = b.dirty)
    · simp
    cases q6 : decide (a.opens = b.opens)
    · simp
    exact .inl ⟨rfl, rfl, rfl, rfl, rfl, rfl, rfl⟩
  rcases hcase with ⟨q0, q1, q2, q3, q4, q5, q6⟩ | q0 | ⟨q0, q1⟩ | ⟨q0, q1, q2⟩ | ⟨q0, q1, q2, q3⟩ | ⟨q0, q1, q2, q3, q4⟩ | ⟨q0, q1, q2, q3, q4, q5⟩ | ⟨q0, q1, q2, q3, q4, q5, q6⟩
  · have HD : Hid (sameE a b = true) := Lib.hid (by unfold sameE; rw [q0, q1, q2, q3, q4, q5, q6]; rfl)
    have Q0 := Lib.hid q0
    clear q0
    have Q1 := Lib.hid q1
    clear q1
    have Q2 := Lib.hid q2
    clear q2
    have Q3 := Lib.hid q3
    clear q3
    have Q4 := Lib.hid q4
    clear q4
    have Q5 := Lib.hid q5
    clear q5
    have Q6 := Lib.hid q6
    clear q6
    show Calls _ _ #[.agg #[.int .i64 a.kind, .int .i64 a.txn, .int .i64 a.unit, .int .i64 a.half, .int .i64 a.prev, .int .i64 a.next, .int .i64 a.ap, .int .i64 a.ac, .int .i64 a.tp, .int .i64 a.tc, _, _, _, _, _, _], .agg #[.int .i64 b.kind, .int .i64 b.txn, .int .i64 b.unit, .int .i64 b.half, .int .i64 b.prev, .int .i64 b.next, .int .i64 b.ap, .int .i64 b.ac, .int .i64 b.tp, .int .i64 b.tc, _, _, _, _, _, _]] _ _
    go_enter Try.func19, Try.ntmps19
    go_upto_region 1 with (fail)
    show Code.wp _ _ _ _ ((w.alloc (entO a (.slice A1 n1 c1) (.slice A2 n2 c2) (.slice A3 n3 c3) (.slice A4 n4 c4) (.slice A5 n5 c5) (.slice A6 n6 c6))).alloc (entO b (.slice B1 m1 d1) (.slice B2 m2 d2) (.slice B3 m3 d3) (.slice B4 m4 d4) (.slice B5 m5 d5) (.slice B6 m6 d6)))
    rw [← hW]
    clear hW
    go_wp2_with (first
      | (with_reducible refine wpList_load_row rfl 30 (.tmp 2) rfl w.heap.size rfl 30 _ (0, 0) _ HBX1.out Try.underlying30 rfl HCA.out ?_)
      | (with_reducible refine wpList_load_row rfl 30 (.tmp 3) rfl (w.heap.size + 1) rfl 30 _ (0, 0) _ HBX2.out Try.underlying30 rfl HCB.out ?_))
    refine (sameNums_any W a b).mono ?_
    rintro e w1 ⟨he, hb1⟩
    rw [Q0.out] at he
    subst he
    have HB1 := Lib.hid (HB.out.on hb1)
    clear hb1
    have x1 : w1.cell? ⟨w.heap.size, 10, none⟩ = some (.slice A1 n1 c1) := (cell_of HB1.out.2.1 10).1
    have y1 : w1.cell? ⟨w.heap.size + 1, 10, none⟩ = some (.slice B1 m1 d1) := (cell_of HB1.out.2.2 10).1
    have HC1 := Lib.hid (equalE_any w1 _ _ _ _ (HS.out.old.below HB1.out.1 (Nat.le_refl _)) (HT.out.old.below HB1.out.1 (Nat.le_refl _)))
    rw [Q1.out] at HC1
    go_wp2_with fail
    refine HC1.out.mono ?_
    rintro e w2 ⟨rfl, hw⟩
    obtain rfl := hw.symm
    clear hw
    clear x1 y1 HC1
    have x2 : w1.cell? ⟨w.heap.size, 11, none⟩ = some (.slice A2 n2 c2) := (cell_of HB1.out.2.1 11).1
    have y2 : w1.cell? ⟨w.heap.size + 1, 11, none⟩ = some (.slice B2 m2 d2) := (cell_of HB1.out.2.2 11).1
    have HC2 := Lib.hid (equalE_any w1 _ _ _ _ (HS.out.new.below HB1.out.1 (Nat.le_refl _)) (HT.out.new.below HB1.out.1 (Nat.le_refl _)))
    rw [Q2.out] at HC2
    go_wp2_with fail
    refine HC2.out.mono ?_
    rintro e w3 ⟨rfl, hw⟩
    obtain rfl := hw.symm
    clear hw
    clear x2 y2 HC2
    have x3 : w1.cell? ⟨w.heap.size, 12, none⟩ = some (.slice A3 n3 c3) := (cell_of HB1.out.2.1 12).1
    have y3 : w1.cell? ⟨w.heap.size + 1, 12, none⟩ = some (.slice B3 m3 d3) := (cell_of HB1.out.2.2 12).1
    have HC3 := Lib.hid (eqMoves_any (HS.out.moves.below HB1.out.1 (Nat.le_refl _)) (HT.out.moves.below HB1.out.1 (Nat.le_refl _)) HL.out.moves)
    rw [Q3.out] at HC3
    go_wp2_with fail
    refine HC3.out.mono ?_
    rintro e w4 ⟨rfl, hb4⟩
    have HB4 := Lib.hid (HB1.out.on hb4)
    clear hb4 x3 y3 HC3 HB1
    have x4 : w4.cell? ⟨w.heap.size, 13, none⟩ = some (.slice A4 n4 c4) := (cell_of HB4.out.2.1 13).1
    have y4 : w4.cell? ⟨w.heap.size + 1, 13, none⟩ = some (.slice B4 m4 d4) := (cell_of HB4.out.2.2 13).1
    have HC4 := Lib.hid (eqLives_any (HS.out.lives.below HB4.out.1 (Nat.le_refl _)) (HT.out.lives.below HB4.out.1 (Nat.le_refl _)) HL.out.lives)
    rw [Q4.out] at HC4
    go_wp2_with fail
    refine HC4.out.mono ?_
    rintro e w5 ⟨rfl, hb5⟩
    have HB5 := Lib.hid (HB4.out.on hb5)
    clear hb5 x4 y4 HC4 HB4
    have x5 : w5.cell? ⟨w.heap.size, 14, none⟩ = some (.slice A5 n5 c5) := (cell_of HB5.out.2.1 14).1
    have y5 : w5.cell? ⟨w.heap.size + 1, 14, none⟩ = some (.slice B5 m5 d5) := (cell_of HB5.out.2.2 14).1
    have HC5 := Lib.hid (eqDirty_any (HS.out.dirty.below HB5.out.1 (Nat.le_refl _)) (HT.out.dirty.below HB5.out.1 (Nat.le_refl _)) HL.out.dirty)
    rw [Q5.out] at HC5
    go_wp2_with fail
    refine HC5.out.mono ?_
    rintro e w6 ⟨rfl, hb6⟩
    have HB6 := Lib.hid (HB5.out.on hb6)
    clear hb6 x5 y5 HC5 HB5
    have x6 : w6.cell? ⟨w.heap.size, 15, none⟩ = some (.slice A6 n6 c6) := (cell_of HB6.out.2.1 15).1
    have y6 : w6.cell? ⟨w.heap.size + 1, 15, none⟩ = some (.slice B6 m6 d6) := (cell_of HB6.out.2.2 15).1
    have HC6 := Lib.hid (eqOpens_any (HS.out.opens.below HB6.out.1 (Nat.le_refl _)) (HT.out.opens.below HB6.out.1 (Nat.le_refl _)) HL.out.opens HL.out.inner)
    rw [Q6.out] at HC6
    go_wp2_with fail
    refine HC6.out.mono ?_
    rintro e w7 ⟨rfl, hb7⟩
    have HB7 := Lib.hid (HB6.out.on hb7)
    clear hb7 x6 y6 HC6 HB6
    go_wp2
    go_ret
    rw [HD.out]
    exact ⟨rfl, HB7.out.1⟩
  · have HD : Hid (sameE a b = false) := Lib.hid (by unfold sameE; rw [q0]; rfl)
    have Q0 := Lib.hid q0
    clear q0
    show Calls _ _ #[.agg #[.int .i64 a.kind, .int .i64 a.txn, .int .i64 a.unit, .int .i64 a.half, .int .i64 a.prev, .int .i64 a.next, .int .i64 a.ap, .int .i64 a.ac, .int .i64 a.tp, .int .i64 a.tc, _, _, _, _, _, _], .agg #[.int .i64 b.kind, .int .i64 b.txn, .int .i64 b.unit, .int .i64 b.half, .int .i64 b.prev, .int .i64 b.next, .int .i64 b.ap, .int .i64 b.ac, .int .i64 b.tp, .int .i64 b.tc, _, _, _, _, _, _]] _ _
    go_enter Try.func19, Try.ntmps19
    go_upto_region 1 with (fail)
    show Code.wp _ _ _ _ ((w.alloc (entO a (.slice A1 n1 c1) (.slice A2 n2 c2) (.slice A3 n3 c3) (.slice A4 n4 c4) (.slice A5 n5 c5) (.slice A6 n6 c6))).alloc (entO b (.slice B1 m1 d1) (.slice B2 m2 d2) (.slice B3 m3 d3) (.slice B4 m4 d4) (.slice B5 m5 d5) (.slice B6 m6 d6)))
    rw [← hW]
    clear hW
    go_wp2_with (first
      | (with_reducible refine wpList_load_row rfl 30 (.tmp 2) rfl w.heap.size rfl 30 _ (0, 0) _ HBX1.out Try.underlying30 rfl HCA.out ?_)
      | (with_reducible refine wpList_load_row rfl 30 (.tmp 3) rfl (w.heap.size + 1) rfl 30 _ (0, 0) _ HBX2.out Try.underlying30 rfl HCB.out ?_))
    refine (sameNums_any W a b).mono ?_
    rintro e w1 ⟨he, hb1⟩
    rw [Q0.out] at he
    subst he
    have HB1 := Lib.hid (HB.out.on hb1)
    clear hb1
    go_wp2
    go_ret
    rw [HD.out]
    exact ⟨rfl, HB1.out.1⟩
  · have HD : Hid (sameE a b = false) := Lib.hid (by unfold sameE; rw [q0, q1]; rfl)
    have Q0 := Lib.hid q0
    clear q0
    have Q1 := Lib.hid q1
    clear q1
    show Calls _ _ #[.agg #[.int .i64 a.kind, .int .i64 a.txn, .int .i64 a.unit, .int .i64 a.half, .int .i64 a.prev, .int .i64 a.next, .int .i64 a.ap, .int .i64 a.ac, .int .i64 a.tp, .int .i64 a.tc, _, _, _, _, _, _], .agg #[.int .i64 b.kind, .int .i64 b.txn, .int .i64 b.unit, .int .i64 b.half, .int .i64 b.prev, .int .i64 b.next, .int .i64 b.ap, .int .i64 b.ac, .int .i64 b.tp, .int .i64 b.tc, _, _, _, _, _, _]] _ _
    go_enter Try.func19, Try.ntmps19
    go_upto_region 1 with (fail)
    show Code.wp _ _ _ _ ((w.alloc (entO a (.slice A1 n1 c1) (.slice A2 n2 c2) (.slice A3 n3 c3) (.slice A4 n4 c4) (.slice A5 n5 c5) (.slice A6 n6 c6))).alloc (entO b (.slice B1 m1 d1) (.slice B2 m2 d2) (.slice B3 m3 d3) (.slice B4 m4 d4) (.slice B5 m5 d5) (.slice B6 m6 d6)))
    rw [← hW]
    clear hW
    go_wp2_with (first
      | (with_reducible refine wpList_load_row rfl 30 (.tmp 2) rfl w.heap.size rfl 30 _ (0, 0) _ HBX1.out Try.underlying30 rfl HCA.out ?_)
      | (with_reducible refine wpList_load_row rfl 30 (.tmp 3) rfl (w.heap.size + 1) rfl 30 _ (0, 0) _ HBX2.out Try.underlying30 rfl HCB.out ?_))
    refine (sameNums_any W a b).mono ?_
    rintro e w1 ⟨he, hb1⟩
    rw [Q0.out] at he
    subst he
    have HB1 := Lib.hid (HB.out.on hb1)
    clear hb1
    have x1 : w1.cell? ⟨w.heap.size, 10, none⟩ = some (.slice A1 n1 c1) := (cell_of HB1.out.2.1 10).1
    have y1 : w1.cell? ⟨w.heap.size + 1, 10, none⟩ = some (.slice B1 m1 d1) := (cell_of HB1.out.2.2 10).1
    have HC1 := Lib.hid (equalE_any w1 _ _ _ _ (HS.out.old.below HB1.out.1 (Nat.le_refl _)) (HT.out.old.below HB1.out.1 (Nat.le_refl _)))
    rw [Q1.out] at HC1
    go_wp2_with fail
    refine HC1.out.mono ?_
    rintro e w2 ⟨rfl, hw⟩
    obtain rfl := hw.symm
    clear hw
    clear x1 y1 HC1
    go_wp2
    go_ret
    rw [HD.out]
    exact ⟨rfl, HB1.out.1⟩
  · have HD : Hid (sameE a b = false) := Lib.hid (by unfold sameE; rw [q0, q1, q2]; rfl)
    have Q0 := Lib.hid q0
    clear q0
    have Q1 := Lib.hid q1
    clear q1
    have Q2 := Lib.hid q2
    clear q2
    show Calls _ _ #[.agg #[.int .i64 a.kind, .int .i64 a.txn, .int .i64 a.unit, .int .i64 a.half, .int .i64 a.prev, .int .i64 a.next, .int .i64 a.ap, .int .i64 a.ac, .int .i64 a.tp, .int .i64 a.tc, _, _, _, _, _, _], .agg #[.int .i64 b.kind, .int .i64 b.txn, .int .i64 b.unit, .int .i64 b.half, .int .i64 b.prev, .int .i64 b.next, .int .i64 b.ap, .int .i64 b.ac, .int .i64 b.tp, .int .i64 b.tc, _, _, _, _, _, _]] _ _
    go_enter Try.func19, Try.ntmps19
    go_upto_region 1 with (fail)
    show Code.wp _ _ _ _ ((w.alloc (entO a (.slice A1 n1 c1) (.slice A2 n2 c2) (.slice A3 n3 c3) (.slice A4 n4 c4) (.slice A5 n5 c5) (.slice A6 n6 c6))).alloc (entO b (.slice B1 m1 d1) (.slice B2 m2 d2) (.slice B3 m3 d3) (.slice B4 m4 d4) (.slice B5 m5 d5) (.slice B6 m6 d6)))
    rw [← hW]
    clear hW
    go_wp2_with (first
      | (with_reducible refine wpList_load_row rfl 30 (.tmp 2) rfl w.heap.size rfl 30 _ (0, 0) _ HBX1.out Try.underlying30 rfl HCA.out ?_)
      | (with_reducible refine wpList_load_row rfl 30 (.tmp 3) rfl (w.heap.size + 1) rfl 30 _ (0, 0) _ HBX2.out Try.underlying30 rfl HCB.out ?_))
    refine (sameNums_any W a b).mono ?_
    rintro e w1 ⟨he, hb1⟩
    rw [Q0.out] at he
    subst he
    have HB1 := Lib.hid (HB.out.on hb1)
    clear hb1
    have x1 : w1.cell? ⟨w.heap.size, 10, none⟩ = some (.slice A1 n1 c1) := (cell_of HB1.out.2.1 10).1
    have y1 : w1.cell? ⟨w.heap.size + 1, 10, none⟩ = some (.slice B1 m1 d1) := (cell_of HB1.out.2.2 10).1
    have HC1 := Lib.hid (equalE_any w1 _ _ _ _ (HS.out.old.below HB1.out.1 (Nat.le_refl _)) (HT.out.old.below HB1.out.1 (Nat.le_refl _)))
    rw [Q1.out] at HC1
    go_wp2_with fail
    refine HC1.out.mono ?_
    rintro e w2 ⟨rfl, hw⟩
    obtain rfl := hw.symm
    clear hw
    clear x1 y1 HC1
    have x2 : w1.cell? ⟨w.heap.size, 11, none⟩ = some (.slice A2 n2 c2) := (cell_of HB1.out.2.1 11).1
    have y2 : w1.cell? ⟨w.heap.size + 1, 11, none⟩ = some (.slice B2 m2 d2) := (cell_of HB1.out.2.2 11).1
    have HC2 := Lib.hid (equalE_any w1 _ _ _ _ (HS.out.new.below HB1.out.1 (Nat.le_refl _)) (HT.out.new.below HB1.out.1 (Nat.le_refl _)))
    rw [Q2.out] at HC2
    go_wp2_with fail
    refine HC2.out.mono ?_
    rintro e w3 ⟨rfl, hw⟩
    obtain rfl := hw.symm
    clear hw
    clear x2 y2 HC2
    go_wp2
    go_ret
    rw [HD.out]
    exact ⟨rfl, HB1.out.1⟩
  · have HD : Hid (sameE a b = false) := Lib.hid (by unfold sameE; rw [q0, q1, q2, q3]; rfl)
    have Q0 := Lib.hid q0
    clear q0
    have Q1 := Lib.hid q1
    clear q1
    have Q2 := Lib.hid q2
    clear q2
    have Q3 := Lib.hid q3
    clear q3
    show Calls _ _ #[.agg #[.int .i64 a.kind, .int .i64 a.txn, .int .i64 a.unit, .int .i64 a.half, .int .i64 a.prev, .int .i64 a.next, .int .i64 a.ap, .int .i64 a.ac, .int .i64 a.tp, .int .i64 a.tc, _, _, _, _, _, _], .agg #[.int .i64 b.kind, .int .i64 b.txn, .int .i64 b.unit, .int .i64 b.half, .int .i64 b.prev, .int .i64 b.next, .int .i64 b.ap, .int .i64 b.ac, .int .i64 b.tp, .int .i64 b.tc, _, _, _, _, _, _]] _ _
    go_enter Try.func19, Try.ntmps19
    go_upto_region 1 with (fail)
    show Code.wp _ _ _ _ ((w.alloc (entO a (.slice A1 n1 c1) (.slice A2 n2 c2) (.slice A3 n3 c3) (.slice A4 n4 c4) (.slice A5 n5 c5) (.slice A6 n6 c6))).alloc (entO b (.slice B1 m1 d1) (.slice B2 m2 d2) (.slice B3 m3 d3) (.slice B4 m4 d4) (.slice B5 m5 d5) (.slice B6 m6 d6)))
    rw [← hW]
    clear hW
    go_wp2_with (first
      | (with_reducible refine wpList_load_row rfl 30 (.tmp 2) rfl w.heap.size rfl 30 _ (0, 0) _ HBX1.out Try.underlying30 rfl HCA.out ?_)
      | (with_reducible refine wpList_load_row rfl 30 (.tmp 3) rfl (w.heap.size + 1) rfl 30 _ (0, 0) _ HBX2.out Try.underlying30 rfl HCB.out ?_))
    refine (sameNums_any W a b).mono ?_
    rintro e w1 ⟨he, hb1⟩
    rw [Q0.out] at he
    subst he
    have HB1 := Lib.hid (HB.out.on hb1)
    clear hb1
    have x1 : w1.cell? ⟨w.heap.size, 10, none⟩ = some (.slice A1 n1 c1) := (cell_of HB1.out.2.1 10).1
    have y1 : w1.cell? ⟨w.heap.size + 1, 10, none⟩ = some (.slice B1 m1 d1) := (cell_of HB1.out.2.2 10).1
    have HC1 := Lib.hid (equalE_any w1 _ _ _ _ (HS.out.old.below HB1.out.1 (Nat.le_refl _)) (HT.out.old.below HB1.out.1 (Nat.le_refl _)))
    rw [Q1.out] at HC1
    go_wp2_with fail
    refine HC1.out.mono ?_
    rintro e w2 ⟨rfl, hw⟩
    obtain rfl := hw.symm
    clear hw
    clear x1 y1 HC1
    have x2 : w1.cell? ⟨w.heap.size, 11, none⟩ = some (.slice A2 n2 c2) := (cell_of HB1.out.2.1 11).1
    have y2 : w1.cell? ⟨w.heap.size + 1, 11, none⟩ = some (.slice B2 m2 d2) := (cell_of HB1.out.2.2 11).1
    have HC2 := Lib.hid (equalE_any w1 _ _ _ _ (HS.out.new.below HB1.out.1 (Nat.le_refl _)) (HT.out.new.below HB1.out.1 (Nat.le_refl _)))
    rw [Q2.out] at HC2
    go_wp2_with fail
    refine HC2.out.mono ?_
    rintro e w3 ⟨rfl, hw⟩
    obtain rfl := hw.symm
    clear hw
    clear x2 y2 HC2
    have x3 : w1.cell? ⟨w.heap.size, 12, none⟩ = some (.slice A3 n3 c3) := (cell_of HB1.out.2.1 12).1
    have y3 : w1.cell? ⟨w.heap.size + 1, 12, none⟩ = some (.slice B3 m3 d3) := (cell_of HB1.out.2.2 12).1
    have HC3 := Lib.hid (eqMoves_any (HS.out.moves.below HB1.out.1 (Nat.le_refl _)) (HT.out.moves.below HB1.out.1 (Nat.le_refl _)) HL.out.moves)
    rw [Q3.out] at HC3
    go_wp2_with fail
    refine HC3.out.mono ?_
    rintro e w4 ⟨rfl, hb4⟩
    have HB4 := Lib.hid (HB1.out.on hb4)
    clear hb4 x3 y3 HC3 HB1
    go_wp2
    go_ret
    rw [HD.out]
    exact ⟨rfl, HB4.out.1⟩
  · have HD : Hid (sameE a b = false) := Lib.hid (by unfold sameE; rw [q0, q1, q2, q3, q4]; rfl)
    have Q0 := Lib.hid q0
    clear q0
    have Q1 := Lib.hid q1
    clear q1
    have Q2 := Lib.hid q2
    clear q2
    have Q3 := Lib.hid q3
    clear q3
    have Q4 := Lib.hid q4
    clear q4
    show Calls _ _ #[.agg #[.int .i64 a.kind, .int .i64 a.txn, .int .i64 a.unit, .int .i64 a.half, .int .i64 a.prev, .int .i64 a.next, .int .i64 a.ap, .int .i64 a.ac, .int .i64 a.tp, .int .i64 a.tc, _, _, _, _, _, _], .agg #[.int .i64 b.kind, .int .i64 b.txn, .int .i64 b.unit, .int .i64 b.half, .int .i64 b.prev, .int .i64 b.next, .int .i64 b.ap, .int .i64 b.ac, .int .i64 b.tp, .int .i64 b.tc, _, _, _, _, _, _]] _ _
    go_enter Try.func19, Try.ntmps19
    go_upto_region 1 with (fail)
    show Code.wp _ _ _ _ ((w.alloc (entO a (.slice A1 n1 c1) (.slice A2 n2 c2) (.slice A3 n3 c3) (.slice A4 n4 c4) (.slice A5 n5 c5) (.slice A6 n6 c6))).alloc (entO b (.slice B1 m1 d1) (.slice B2 m2 d2) (.slice B3 m3 d3) (.slice B4 m4 d4) (.slice B5 m5 d5) (.slice B6 m6 d6)))
    rw [← hW]
    clear hW
    go_wp2_with (first
      | (with_reducible refine wpList_load_row rfl 30 (.tmp 2) rfl w.heap.size rfl 30 _ (0, 0) _ HBX1.out Try.underlying30 rfl HCA.out ?_)
      | (with_reducible refine wpList_load_row rfl 30 (.tmp 3) rfl (w.heap.size + 1) rfl 30 _ (0, 0) _ HBX2.out Try.underlying30 rfl HCB.out ?_))
    refine (sameNums_any W a b).mono ?_
    rintro e w1 ⟨he, hb1⟩
    rw [Q0.out] at he
    subst he
    have HB1 := Lib.hid (HB.out.on hb1)
    clear hb1
    have x1 : w1.cell? ⟨w.heap.size, 10, none⟩ = some (.slice A1 n1 c1) := (cell_of HB1.out.2.1 10).1
    have y1 : w1.cell? ⟨w.heap.size + 1, 10, none⟩ = some (.slice B1 m1 d1) := (cell_of HB1.out.2.2 10).1
    have HC1 := Lib.hid (equalE_any w1 _ _ _ _ (HS.out.old.below HB1.out.1 (Nat.le_refl _)) (HT.out.old.below HB1.out.1 (Nat.le_refl _)))
    rw [Q1.out] at HC1
    go_wp2_with fail
    refine HC1.out.mono ?_
    rintro e w2 ⟨rfl, hw⟩
    obtain rfl := hw.symm
    clear hw
    clear x1 y1 HC1
    have x2 : w1.cell? ⟨w.heap.size, 11, none⟩ = some (.slice A2 n2 c2) := (cell_of HB1.out.2.1 11).1
    have y2 : w1.cell? ⟨w.heap.size + 1, 11, none⟩ = some (.slice B2 m2 d2) := (cell_of HB1.out.2.2 11).1
    have HC2 := Lib.hid (equalE_any w1 _ _ _ _ (HS.out.new.below HB1.out.1 (Nat.le_refl _)) (HT.out.new.below HB1.out.1 (Nat.le_refl _)))
    rw [Q2.out] at HC2
    go_wp2_with fail
    refine HC2.out.mono ?_
    rintro e w3 ⟨rfl, hw⟩
    obtain rfl := hw.symm
    clear hw
    clear x2 y2 HC2
    have x3 : w1.cell? ⟨w.heap.size, 12, none⟩ = some (.slice A3 n3 c3) := (cell_of HB1.out.2.1 12).1
    have y3 : w1.cell? ⟨w.heap.size + 1, 12, none⟩ = some (.slice B3 m3 d3) := (cell_of HB1.out.2.2 12).1
    have HC3 := Lib.hid (eqMoves_any (HS.out.moves.below HB1.out.1 (Nat.le_refl _)) (HT.out.moves.below HB1.out.1 (Nat.le_refl _)) HL.out.moves)
    rw [Q3.out] at HC3
    go_wp2_with fail
    refine HC3.out.mono ?_
    rintro e w4 ⟨rfl, hb4⟩
    have HB4 := Lib.hid (HB1.out.on hb4)
    clear hb4 x3 y3 HC3 HB1
    have x4 : w4.cell? ⟨w.heap.size, 13, none⟩ = some (.slice A4 n4 c4) := (cell_of HB4.out.2.1 13).1
    have y4 : w4.cell? ⟨w.heap.size + 1, 13, none⟩ = some (.slice B4 m4 d4) := (cell_of HB4.out.2.2 13).1
    have HC4 := Lib.hid (eqLives_any (HS.out.lives.below HB4.out.1 (Nat.le_refl _)) (HT.out.lives.below HB4.out.1 (Nat.le_refl _)) HL.out.lives)
    rw [Q4.out] at HC4
    go_wp2_with fail
    refine HC4.out.mono ?_
    rintro e w5 ⟨rfl, hb5⟩
    have HB5 := Lib.hid (HB4.out.on hb5)
    clear hb5 x4 y4 HC4 HB4
    go_wp2
    go_ret
    rw [HD.out]
    exact ⟨rfl, HB5.out.1⟩
  · have HD : Hid (sameE a b = false) := Lib.hid (by unfold sameE; rw [q0, q1, q2, q3, q4, q5]; rfl)
    have Q0 := Lib.hid q0
    clear q0
    have Q1 := Lib.hid q1
    clear q1
    have Q2 := Lib.hid q2
    clear q2
    have Q3 := Lib.hid q3
    clear q3
    have Q4 := Lib.hid q4
    clear q4
    have Q5 := Lib.hid q5
    clear q5
    show Calls _ _ #[.agg #[.int .i64 a.kind, .int .i64 a.txn, .int .i64 a.unit, .int .i64 a.half, .int .i64 a.prev, .int .i64 a.next, .int .i64 a.ap, .int .i64 a.ac, .int .i64 a.tp, .int .i64 a.tc, _, _, _, _, _, _], .agg #[.int .i64 b.kind, .int .i64 b.txn, .int .i64 b.unit, .int .i64 b.half, .int .i64 b.prev, .int .i64 b.next, .int .i64 b.ap, .int .i64 b.ac, .int .i64 b.tp, .int .i64 b.tc, _, _, _, _, _, _]] _ _
    go_enter Try.func19, Try.ntmps19
    go_upto_region 1 with (fail)
    show Code.wp _ _ _ _ ((w.alloc (entO a (.slice A1 n1 c1) (.slice A2 n2 c2) (.slice A3 n3 c3) (.slice A4 n4 c4) (.slice A5 n5 c5) (.slice A6 n6 c6))).alloc (entO b (.slice B1 m1 d1) (.slice B2 m2 d2) (.slice B3 m3 d3) (.slice B4 m4 d4) (.slice B5 m5 d5) (.slice B6 m6 d6)))
    rw [← hW]
    clear hW
    go_wp2_with (first
      | (with_reducible refine wpList_load_row rfl 30 (.tmp 2) rfl w.heap.size rfl 30 _ (0, 0) _ HBX1.out Try.underlying30 rfl HCA.out ?_)
      | (with_reducible refine wpList_load_row rfl 30 (.tmp 3) rfl (w.heap.size + 1) rfl 30 _ (0, 0) _ HBX2.out Try.underlying30 rfl HCB.out ?_))
    refine (sameNums_any W a b).mono ?_
    rintro e w1 ⟨he, hb1⟩
    rw [Q0.out] at he
    subst he
    have HB1 := Lib.hid (HB.out.on hb1)
    clear hb1
    have x1 : w1.cell? ⟨w.heap.size, 10, none⟩ = some (.slice A1 n1 c1) := (cell_of HB1.out.2.1 10).1
    have y1 : w1.cell? ⟨w.heap.size + 1, 10, none⟩ = some (.slice B1 m1 d1) := (cell_of HB1.out.2.2 10).1
    have HC1 := Lib.hid (equalE_any w1 _ _ _ _ (HS.out.old.below HB1.out.1 (Nat.le_refl _)) (HT.out.old.below HB1.out.1 (Nat.le_refl _)))
    rw [Q1.out] at HC1
    go_wp2_with fail
    refine HC1.out.mono ?_
    rintro e w2 ⟨rfl, hw⟩
    obtain rfl := hw.symm
    clear hw
    clear x1 y1 HC1
    have x2 : w1.cell? ⟨w.heap.size, 11, none⟩ = some (.slice A2 n2 c2) := (cell_of HB1.out.2.1 11).1
    have y2 : w1.cell? ⟨w.heap.size + 1, 11, none⟩ = some (.slice B2 m2 d2) := (cell_of HB1.out.2.2 11).1
    have HC2 := Lib.hid (equalE_any w1 _ _ _ _ (HS.out.new.below HB1.out.1 (Nat.le_refl _)) (HT.out.new.below HB1.out.1 (Nat.le_refl _)))
    rw [Q2.out] at HC2
    go_wp2_with fail
    refine HC2.out.mono ?_
    rintro e w3 ⟨rfl, hw⟩
    obtain rfl := hw.symm
    clear hw
    clear x2 y2 HC2
    have x3 : w1.cell? ⟨w.heap.size, 12, none⟩ = some (.slice A3 n3 c3) := (cell_of HB1.out.2.1 12).1
    have y3 : w1.cell? ⟨w.heap.size + 1, 12, none⟩ = some (.slice B3 m3 d3) := (cell_of HB1.out.2.2 12).1
    have HC3 := Lib.hid (eqMoves_any (HS.out.moves.below HB1.out.1 (Nat.le_refl _)) (HT.out.moves.below HB1.out.1 (Nat.le_refl _)) HL.out.moves)
    rw [Q3.out] at HC3
    go_wp2_with fail
    refine HC3.out.mono ?_
    rintro e w4 ⟨rfl, hb4⟩
    have HB4 := Lib.hid (HB1.out.on hb4)
    clear hb4 x3 y3 HC3 HB1
    have x4 : w4.cell? ⟨w.heap.size, 13, none⟩ = some (.slice A4 n4 c4) := (cell_of HB4.out.2.1 13).1
    have y4 : w4.cell? ⟨w.heap.size + 1, 13, none⟩ = some (.slice B4 m4 d4) := (cell_of HB4.out.2.2 13).1
    have HC4 := Lib.hid (eqLives_any (HS.out.lives.below HB4.out.1 (Nat.le_refl _)) (HT.out.lives.below HB4.out.1 (Nat.le_refl _)) HL.out.lives)
    rw [Q4.out] at HC4
    go_wp2_with fail
    refine HC4.out.mono ?_
    rintro e w5 ⟨rfl, hb5⟩
    have HB5 := Lib.hid (HB4.out.on hb5)
    clear hb5 x4 y4 HC4 HB4
    have x5 : w5.cell? ⟨w.heap.size, 14, none⟩ = some (.slice A5 n5 c5) := (cell_of HB5.out.2.1 14).1
    have y5 : w5.cell? ⟨w.heap.size + 1, 14, none⟩ = some (.slice B5 m5 d5) := (cell_of HB5.out.2.2 14).1
    have HC5 := Lib.hid (eqDirty_any (HS.out.dirty.below HB5.out.1 (Nat.le_refl _)) (HT.out.dirty.below HB5.out.1 (Nat.le_refl _)) HL.out.dirty)
    rw [Q5.out] at HC5
    go_wp2_with fail
    refine HC5.out.mono ?_
    rintro e w6 ⟨rfl, hb6⟩
    have HB6 := Lib.hid (HB5.out.on hb6)
    clear hb6 x5 y5 HC5 HB5
    go_wp2
    go_ret
    rw [HD.out]
    exact ⟨rfl, HB6.out.1⟩
  · have HD : Hid (sameE a b = false) := Lib.hid (by unfold sameE; rw [q0, q1, q2, q3, q4, q5, q6]; rfl)
    have Q0 := Lib.hid q0
    clear q0
    have Q1 := Lib.hid q1
    clear q1
    have Q2 := Lib.hid q2
    clear q2
    have Q3 := Lib.hid q3
    clear q3
    have Q4 := Lib.hid q4
    clear q4
    have Q5 := Lib.hid q5
    clear q5
    have Q6 := Lib.hid q6
    clear q6
    show Calls _ _ #[.agg #[.int .i64 a.kind, .int .i64 a.txn, .int .i64 a.unit, .int .i64 a.half, .int .i64 a.prev, .int .i64 a.next, .int .i64 a.ap, .int .i64 a.ac, .int .i64 a.tp, .int .i64 a.tc, _, _, _, _, _, _], .agg #[.int .i64 b.kind, .int .i64 b.txn, .int .i64 b.unit, .int .i64 b.half, .int .i64 b.prev, .int .i64 b.next, .int .i64 b.ap, .int .i64 b.ac, .int .i64 b.tp, .int .i64 b.tc, _, _, _, _, _, _]] _ _
    go_enter Try.func19, Try.ntmps19
    go_upto_region 1 with (fail)
    show Code.wp _ _ _ _ ((w.alloc (entO a (.slice A1 n1 c1) (.slice A2 n2 c2) (.slice A3 n3 c3) (.slice A4 n4 c4) (.slice A5 n5 c5) (.slice A6 n6 c6))).alloc (entO b (.slice B1 m1 d1) (.slice B2 m2 d2) (.slice B3 m3 d3) (.slice B4 m4 d4) (.slice B5 m5 d5) (.slice B6 m6 d6)))
    rw [← hW]
    clear hW
    go_wp2_with (first
      | (with_reducible refine wpList_load_row rfl 30 (.tmp 2) rfl w.heap.size rfl 30 _ (0, 0) _ HBX1.out Try.underlying30 rfl HCA.out ?_)
      | (with_reducible refine wpList_load_row rfl 30 (.tmp 3) rfl (w.heap.size + 1) rfl 30 _ (0, 0) _ HBX2.out Try.underlying30 rfl HCB.out ?_))
    refine (sameNums_any W a b).mono ?_
    rintro e w1 ⟨he, hb1⟩
    rw [Q0.out] at he
    subst he
    have HB1 := Lib.hid (HB.out.on hb1)
    clear hb1
    have x1 : w1.cell? ⟨w.heap.size, 10, none⟩ = some (.slice A1 n1 c1) := (cell_of HB1.out.2.1 10).1
    have y1 : w1.cell? ⟨w.heap.size + 1, 10, none⟩ = some (.slice B1 m1 d1) := (cell_of HB1.out.2.2 10).1
    have HC1 := Lib.hid (equalE_any w1 _ _ _ _ (HS.out.old.below HB1.out.1 (Nat.le_refl _)) (HT.out.old.below HB1.out.1 (Nat.le_refl _)))
    rw [Q1.out] at HC1
    go_wp2_with fail
    refine HC1.out.mono ?_
    rintro e w2 ⟨rfl, hw⟩
    obtain rfl := hw.symm
    clear hw
    clear x1 y1 HC1
    have x2 : w1.cell? ⟨w.heap.size, 11, none⟩ = some (.slice A2 n2 c2) := (cell_of HB1.out.2.1 11).1
    have y2 : w1.cell? ⟨w.heap.size + 1, 11, none⟩ = some (.slice B2 m2 d2) := (cell_of HB1.out.2.2 11).1
    have HC2 := Lib.hid (equalE_any w1 _ _ _ _ (HS.out.new.below HB1.out.1 (Nat.le_refl _)) (HT.out.new.below HB1.out.1 (Nat.le_refl _)))
    rw [Q2.out] at HC2
    go_wp2_with fail
    refine HC2.out.mono ?_
    rintro e w3 ⟨rfl, hw⟩
    obtain rfl := hw.symm
    clear hw
    clear x2 y2 HC2
    have x3 : w1.cell? ⟨w.heap.size, 12, none⟩ = some (.slice A3 n3 c3) := (cell_of HB1.out.2.1 12).1
    have y3 : w1.cell? ⟨w.heap.size + 1, 12, none⟩ = some (.slice B3 m3 d3) := (cell_of HB1.out.2.2 12).1
    have HC3 := Lib.hid (eqMoves_any (HS.out.moves.below HB1.out.1 (Nat.le_refl _)) (HT.out.moves.below HB1.out.1 (Nat.le_refl _)) HL.out.moves)
    rw [Q3.out] at HC3
    go_wp2_with fail
    refine HC3.out.mono ?_
    rintro e w4 ⟨rfl, hb4⟩
    have HB4 := Lib.hid (HB1.out.on hb4)
    clear hb4 x3 y3 HC3 HB1
    have x4 : w4.cell? ⟨w.heap.size, 13, none⟩ = some (.slice A4 n4 c4) := (cell_of HB4.out.2.1 13).1
    have y4 : w4.cell? ⟨w.heap.size + 1, 13, none⟩ = some (.slice B4 m4 d4) := (cell_of HB4.out.2.2 13).1
    have HC4 := Lib.hid (eqLives_any (HS.out.lives.below HB4.out.1 (Nat.le_refl _)) (HT.out.lives.below HB4.out.1 (Nat.le_refl _)) HL.out.lives)
    rw [Q4.out] at HC4
    go_wp2_with fail
    refine HC4.out.mono ?_
    rintro e w5 ⟨rfl, hb5⟩
    have HB5 := Lib.hid (HB4.out.on hb5)
    clear hb5 x4 y4 HC4 HB4
    have x5 : w5.cell? ⟨w.heap.size, 14, none⟩ = some (.slice A5 n5 c5) := (cell_of HB5.out.2.1 14).1
    have y5 : w5.cell? ⟨w.heap.size + 1, 14, none⟩ = some (.slice B5 m5 d5) := (cell_of HB5.out.2.2 14).1
    have HC5 := Lib.hid (eqDirty_any (HS.out.dirty.below HB5.out.1 (Nat.le_refl _)) (HT.out.dirty.below HB5.out.1 (Nat.le_refl _)) HL.out.dirty)
    rw [Q5.out] at HC5
    go_wp2_with fail
    refine HC5.out.mono ?_
    rintro e w6 ⟨rfl, hb6⟩
    have HB6 := Lib.hid (HB5.out.on hb6)
    clear hb6 x5 y5 HC5 HB5
    have x6 : w6.cell? ⟨w.heap.size, 15, none⟩ = some (.slice A6 n6 c6) := (cell_of HB6.out.2.1 15).1
    have y6 : w6.cell? ⟨w.heap.size + 1, 15, none⟩ = some (.slice B6 m6 d6) := (cell_of HB6.out.2.2 15).1
    have HC6 := Lib.hid (eqOpens_any (HS.out.opens.below HB6.out.1 (Nat.le_refl _)) (HT.out.opens.below HB6.out.1 (Nat.le_refl _)) HL.out.opens HL.out.inner)
    rw [Q6.out] at HC6
    go_wp2_with fail
    refine HC6.out.mono ?_
    rintro e w7 ⟨rfl, hb7⟩
    have HB7 := Lib.hid (HB6.out.on hb7)
    clear hb7 x6 y6 HC6 HB6
    go_wp2
    go_ret
    rw [HD.out]
    exact ⟨rfl, HB7.out.1⟩

end Go.Proofs.Ytbjfhlcfnohiiaa
