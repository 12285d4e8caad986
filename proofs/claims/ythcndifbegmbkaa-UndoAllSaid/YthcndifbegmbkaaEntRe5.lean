/- The reference's SameEntry. -/
import Derived.Test.YthcndifbegmbkaaEntRo
import Derived.Test.YthcndifbegmbkaaEntSm
import Derived.Test.YthcndifbegmbkaaEntRe1
namespace Go.Proofs.Ythcndifbegmbkaa
open Go.RowKit

set_option maxRecDepth 100000 in
set_option maxHeartbeats 4000000 in
theorem rsame_5 (w : World) (a b : Ent) {s1 s2 s3 s4 s5 s6 t1 t2 t3 t4 t5 t6 : Value} (hs : EntS w s1 s2 s3 s4 s5 s6 a) (ht : EntS w t1 t2 t3 t4 t5 t6 b) (hl : EntLen a) (hcase : (a.kind = b.kind ∧ a.txn = b.txn ∧ a.unit = b.unit ∧ a.half = b.half ∧ a.prev = b.prev ∧ a.next = b.next ∧ a.ap = b.ap ∧ a.ac = b.ac ∧ a.tp = b.tp ∧ a.tc = b.tc ∧ decide (a.old = b.old) = true ∧ decide (a.new = b.new) = true ∧ decide (a.moves = b.moves) = true ∧ decide (a.lives = b.lives) = true ∧ decide (a.dirty = b.dirty) = true ∧ decide (a.opens = b.opens) = false) ∨ (a.kind = b.kind ∧ a.txn = b.txn ∧ a.unit = b.unit ∧ a.half = b.half ∧ a.prev = b.prev ∧ a.next = b.next ∧ a.ap = b.ap ∧ a.ac = b.ac ∧ a.tp = b.tp ∧ a.tc = b.tc ∧ decide (a.old = b.old) = true ∧ decide (a.new = b.new) = true ∧ decide (a.moves = b.moves) = true ∧ decide (a.lives = b.lives) = true ∧ decide (a.dirty = b.dirty) = true ∧ decide (a.opens = b.opens) = true)) :
    Calls Try.prog 10 #[.agg (entC a s1 s2 s3 s4 s5 s6), .agg (entC b t1 t2 t3 t4 t5 t6)] w fun e w' => e = .returned (.bool (sameE a b)) ∧ Below w.heap.size w w' := by
  obtain ⟨A1, c1, A2, c2, A3, c3, A4, c4, A5, c5, A6, c6, rfl, rfl, rfl, rfl, rfl, rfl⟩ := hs.form
  obtain ⟨B1, d1, B2, d2, B3, d3, B4, d4, B5, d5, B6, d6, rfl, rfl, rfl, rfl, rfl, rfl⟩ := ht.form
  have HL := Lib.hid hl
  have hbb : ∀ o1 o2, Below w.heap.size w ((w.alloc o1).alloc o2) := fun o1 o2 => ((Below.refl _ _).alloc (Nat.le_refl _) _).alloc (by simp) _
  have HBB := Lib.hid hbb
  have HS := Lib.hid hs
  have HT := Lib.hid ht
  clear hs ht hl hbb
  obtain ⟨n1, hn1⟩ : ∃ n, n = a.old.length := ⟨_, rfl⟩
  obtain ⟨m1, hm1⟩ : ∃ n, n = b.old.length := ⟨_, rfl⟩
  rw [← hn1] at HS ⊢
  rw [← hm1] at HT ⊢
  clear hn1 hm1
  obtain ⟨n2, hn2⟩ : ∃ n, n = a.new.length := ⟨_, rfl⟩
  obtain ⟨m2, hm2⟩ : ∃ n, n = b.new.length := ⟨_, rfl⟩
  rw [← hn2] at HS ⊢
  rw [← hm2] at HT ⊢
  clear hn2 hm2
  obtain ⟨n3, hn3⟩ : ∃ n, n = a.moves.length := ⟨_, rfl⟩
  obtain ⟨m3, hm3⟩ : ∃ n, n = b.moves.length := ⟨_, rfl⟩
  rw [← hn3] at HS ⊢
  rw [← hm3] at HT ⊢
  clear hn3 hm3
  obtain ⟨n4, hn4⟩ : ∃ n, n = a.lives.length := ⟨_, rfl⟩
  obtain ⟨m4, hm4⟩ : ∃ n, n = b.lives.length := ⟨_, rfl⟩
  rw [← hn4] at HS ⊢
  rw [← hm4] at HT ⊢
  clear hn4 hm4
  obtain ⟨n5, hn5⟩ : ∃ n, n = a.dirty.length := ⟨_, rfl⟩
  obtain ⟨m5, hm5⟩ : ∃ n, n = b.dirty.length := ⟨_, rfl⟩
  rw [← hn5] at HS ⊢
  rw [← hm5] at HT ⊢
  clear hn5 hm5
  obtain ⟨n6, hn6⟩ : ∃ n, n = a.opens.length := ⟨_, rfl⟩
  obtain ⟨m6, hm6⟩ : ∃ n, n = b.opens.length := ⟨_, rfl⟩
  rw [← hn6] at HS ⊢
  rw [← hm6] at HT ⊢
  clear hn6 hm6
  have V1 : Hid (∀ W, Below w.heap.size w W → (convert 24 9 (.slice A1 n1 c1)).run Try.prog W = .ok (.string (bstr a.old)) W) := fun W hW => conv_slW (HS.out.old.below hW (Nat.le_refl _))
  have U1 : Hid (∀ W, Below w.heap.size w W → (convert 24 9 (.slice B1 m1 d1)).run Try.prog W = .ok (.string (bstr b.old)) W) := fun W hW => conv_slW (HT.out.old.below hW (Nat.le_refl _))
  have E1 := Lib.hid (bstr_eqlE HS.out.old.ok HT.out.old.ok)
  have V2 : Hid (∀ W, Below w.heap.size w W → (convert 24 9 (.slice A2 n2 c2)).run Try.prog W = .ok (.string (bstr a.new)) W) := fun W hW => conv_slW (HS.out.new.below hW (Nat.le_refl _))
  have U2 : Hid (∀ W, Below w.heap.size w W → (convert 24 9 (.slice B2 m2 d2)).run Try.prog W = .ok (.string (bstr b.new)) W) := fun W hW => conv_slW (HT.out.new.below hW (Nat.le_refl _))
  have E2 := Lib.hid (bstr_eqlE HS.out.new.ok HT.out.new.ok)
  rcases hcase with ⟨q0, q1, q2, q3, q4, q5, q6, q7, q8, q9, r0, r1, r2, r3, r4, r5⟩ | ⟨q0, q1, q2, q3, q4, q5, q6, q7, q8, q9, r0, r1, r2, r3, r4, r5⟩
  · have HNQ : decide (numsE a = numsE b) = true := decide_eq_true (by unfold numsE; rw [q0, q1, q2, q3, q4, q5, q6, q7, q8, q9])
    have HD : Hid (sameE a b = false) := Lib.hid (by unfold sameE; rw [HNQ, r0, r1, r2, r3, r4, r5]; rfl)
    clear HNQ
    have z0 : (a.kind == b.kind) = true := beq_iff_eq.2 q0
    clear q0
    have z1 : (a.txn == b.txn) = true := beq_iff_eq.2 q1
    clear q1
    have z2 : (a.unit == b.unit) = true := beq_iff_eq.2 q2
    clear q2
    have z3 : (a.half == b.half) = true := beq_iff_eq.2 q3
    clear q3
    have z4 : (a.prev == b.prev) = true := beq_iff_eq.2 q4
    clear q4
    have z5 : (a.next == b.next) = true := beq_iff_eq.2 q5
    clear q5
    have hat : ∀ W, (Op.equalIn 10000 23 (.agg #[.int .i64 a.ap, .int .i64 a.ac]) (.agg #[.int .i64 b.ap, .int .i64 b.ac])).run Try.prog W = .ok true W := fun W => by rw [inE_rid W 9998]; simp [q6, q7]
    have hto : ∀ W, (Op.equalIn 10000 23 (.agg #[.int .i64 a.tp, .int .i64 a.tc]) (.agg #[.int .i64 b.tp, .int .i64 b.tc])).run Try.prog W = .ok true W := fun W => by rw [inE_rid W 9998]; simp [q8, q9]
    clear q6 q7 q8 q9
    have e0 := E1.out
    rw [r0] at e0
    have e1 := E2.out
    rw [r1] at e1
    have R0 := Lib.hid r0
    clear r0
    have R1 := Lib.hid r1
    clear r1
    have R2 := Lib.hid r2
    clear r2
    have R3 := Lib.hid r3
    clear r3
    have R4 := Lib.hid r4
    clear r4
    have R5 := Lib.hid r5
    clear r5
    show Calls _ _ #[.agg #[.int .i64 a.kind, .int .i64 a.txn, .int .i64 a.unit, .int .i64 a.half, .int .i64 a.prev, .int .i64 a.next, .int .i64 a.ap, .int .i64 a.ac, .int .i64 a.tp, .int .i64 a.tc, _, _, _, _, _, _], .agg #[.int .i64 b.kind, .int .i64 b.txn, .int .i64 b.unit, .int .i64 b.half, .int .i64 b.prev, .int .i64 b.next, .int .i64 b.ap, .int .i64 b.ac, .int .i64 b.tp, .int .i64 b.tc, _, _, _, _, _, _]] _ _
    go_enter Try.func10, Try.ntmps10
    go_upto_region 1 with (fail)
    show Code.wp _ _ _ _ ((w.alloc (entO a (.slice A1 n1 c1) (.slice A2 n2 c2) (.slice A3 n3 c3) (.slice A4 n4 c4) (.slice A5 n5 c5) (.slice A6 n6 c6))).alloc (entO b (.slice B1 m1 d1) (.slice B2 m2 d2) (.slice B3 m3 d3) (.slice B4 m4 d4) (.slice B5 m5 d5) (.slice B6 m6 d6)))
    obtain ⟨W, hWW⟩ : ∃ W, W = (w.alloc (entO a (.slice A1 n1 c1) (.slice A2 n2 c2) (.slice A3 n3 c3) (.slice A4 n4 c4) (.slice A5 n5 c5) (.slice A6 n6 c6))).alloc (entO b (.slice B1 m1 d1) (.slice B2 m2 d2) (.slice B3 m3 d3) (.slice B4 m4 d4) (.slice B5 m5 d5) (.slice B6 m6 d6)) := ⟨_, rfl⟩
    have hW : Bx2 w W (entO a (.slice A1 n1 c1) (.slice A2 n2 c2) (.slice A3 n3 c3) (.slice A4 n4 c4) (.slice A5 n5 c5) (.slice A6 n6 c6)) (entO b (.slice B1 m1 d1) (.slice B2 m2 d2) (.slice B3 m3 d3) (.slice B4 m4 d4) (.slice B5 m5 d5) (.slice B6 m6 d6)) := by rw [hWW]; exact Bx2.new w _ _
    rw [← hWW]
    clear hWW
    have HW := Lib.hid hW
    have x0 : W.cell? ⟨w.heap.size, 0, none⟩ = some (.int .i64 a.kind) := (cell_of hW.2.1 0).1
    have y0 : W.cell? ⟨w.heap.size + 1, 0, none⟩ = some (.int .i64 b.kind) := (cell_of hW.2.2 0).1
    have x1 : W.cell? ⟨w.heap.size, 1, none⟩ = some (.int .i64 a.txn) := (cell_of hW.2.1 1).1
    have y1 : W.cell? ⟨w.heap.size + 1, 1, none⟩ = some (.int .i64 b.txn) := (cell_of hW.2.2 1).1
    have x2 : W.cell? ⟨w.heap.size, 2, none⟩ = some (.int .i64 a.unit) := (cell_of hW.2.1 2).1
    have y2 : W.cell? ⟨w.heap.size + 1, 2, none⟩ = some (.int .i64 b.unit) := (cell_of hW.2.2 2).1
    have x3 : W.cell? ⟨w.heap.size, 3, none⟩ = some (.int .i64 a.half) := (cell_of hW.2.1 3).1
    have y3 : W.cell? ⟨w.heap.size + 1, 3, none⟩ = some (.int .i64 b.half) := (cell_of hW.2.2 3).1
    have x4 : W.cell? ⟨w.heap.size, 4, none⟩ = some (.int .i64 a.prev) := (cell_of hW.2.1 4).1
    have y4 : W.cell? ⟨w.heap.size + 1, 4, none⟩ = some (.int .i64 b.prev) := (cell_of hW.2.2 4).1
    have x5 : W.cell? ⟨w.heap.size, 5, none⟩ = some (.int .i64 a.next) := (cell_of hW.2.1 5).1
    have y5 : W.cell? ⟨w.heap.size + 1, 5, none⟩ = some (.int .i64 b.next) := (cell_of hW.2.2 5).1
    have x6 : W.cell? ⟨w.heap.size, 6, none⟩ = some (.int .i64 a.ap) := (cell_of hW.2.1 6).1
    have y6 : W.cell? ⟨w.heap.size + 1, 6, none⟩ = some (.int .i64 b.ap) := (cell_of hW.2.2 6).1
    have x7 : W.cell? ⟨w.heap.size, 7, none⟩ = some (.int .i64 a.ac) := (cell_of hW.2.1 7).1
    have y7 : W.cell? ⟨w.heap.size + 1, 7, none⟩ = some (.int .i64 b.ac) := (cell_of hW.2.2 7).1
    have x8 : W.cell? ⟨w.heap.size, 8, none⟩ = some (.int .i64 a.tp) := (cell_of hW.2.1 8).1
    have y8 : W.cell? ⟨w.heap.size + 1, 8, none⟩ = some (.int .i64 b.tp) := (cell_of hW.2.2 8).1
    have x9 : W.cell? ⟨w.heap.size, 9, none⟩ = some (.int .i64 a.tc) := (cell_of hW.2.1 9).1
    have y9 : W.cell? ⟨w.heap.size + 1, 9, none⟩ = some (.int .i64 b.tc) := (cell_of hW.2.2 9).1
    have x10 : W.cell? ⟨w.heap.size, 10, none⟩ = some (.slice A1 n1 c1) := (cell_of hW.2.1 10).1
    have y10 : W.cell? ⟨w.heap.size + 1, 10, none⟩ = some (.slice B1 m1 d1) := (cell_of hW.2.2 10).1
    have x11 : W.cell? ⟨w.heap.size, 11, none⟩ = some (.slice A2 n2 c2) := (cell_of hW.2.1 11).1
    have y11 : W.cell? ⟨w.heap.size + 1, 11, none⟩ = some (.slice B2 m2 d2) := (cell_of hW.2.2 11).1
    have x12 : W.cell? ⟨w.heap.size, 12, none⟩ = some (.slice A3 n3 c3) := (cell_of hW.2.1 12).1
    have y12 : W.cell? ⟨w.heap.size + 1, 12, none⟩ = some (.slice B3 m3 d3) := (cell_of hW.2.2 12).1
    have v0 := V1.out W hW.1
    have u0 := U1.out W hW.1
    have v1 := V2.out W hW.1
    have u1 := U2.out W hW.1
    clear hW
    go_wp2_with fail
    refine (rsMoves_any (HS.out.moves.below HW.out.1 (Nat.le_refl _)) (HT.out.moves.below HW.out.1 (Nat.le_refl _)) HL.out.moves).mono ?_
    rintro e w3 ⟨he, hb3⟩
    rw [R2.out] at he
    subst he
    have HB3 := Lib.hid (HW.out.on hb3)
    clear hb3 z0 z1 z2 z3 z4 z5 hat hto e0 e1 v0 v1 u0 u1 x0 y0 x1 y1 x2 y2 x3 y3 x4 y4 x5 y5 x6 y6 x7 y7 x8 y8 x9 y9 x10 y10 x11 y11 x12 y12
    have x3 : w3.cell? ⟨w.heap.size, 13, none⟩ = some (.slice A4 n4 c4) := (cell_of HB3.out.2.1 13).1
    have y3 : w3.cell? ⟨w.heap.size + 1, 13, none⟩ = some (.slice B4 m4 d4) := (cell_of HB3.out.2.2 13).1
    have HC3 := Lib.hid (rsLives_any (HS.out.lives.below HB3.out.1 (Nat.le_refl _)) (HT.out.lives.below HB3.out.1 (Nat.le_refl _)) HL.out.lives)
    rw [R3.out] at HC3
    go_wp2_with fail
    refine HC3.out.mono ?_
    rintro e w4 ⟨rfl, hb4⟩
    have HB4 := Lib.hid (HB3.out.on hb4)
    clear hb4 x3 y3 HC3 HB3
    have x4 : w4.cell? ⟨w.heap.size, 14, none⟩ = some (.slice A5 n5 c5) := (cell_of HB4.out.2.1 14).1
    have y4 : w4.cell? ⟨w.heap.size + 1, 14, none⟩ = some (.slice B5 m5 d5) := (cell_of HB4.out.2.2 14).1
    have HC4 := Lib.hid (rsDirty_any (HS.out.dirty.below HB4.out.1 (Nat.le_refl _)) (HT.out.dirty.below HB4.out.1 (Nat.le_refl _)) HL.out.dirty)
    rw [R4.out] at HC4
    go_wp2_with fail
    refine HC4.out.mono ?_
    rintro e w5 ⟨rfl, hb5⟩
    have HB5 := Lib.hid (HB4.out.on hb5)
    clear hb5 x4 y4 HC4 HB4
    have x5 : w5.cell? ⟨w.heap.size, 15, none⟩ = some (.slice A6 n6 c6) := (cell_of HB5.out.2.1 15).1
    have y5 : w5.cell? ⟨w.heap.size + 1, 15, none⟩ = some (.slice B6 m6 d6) := (cell_of HB5.out.2.2 15).1
    have HC5 := Lib.hid (rsOpens_any (HS.out.opens.below HB5.out.1 (Nat.le_refl _)) (HT.out.opens.below HB5.out.1 (Nat.le_refl _)) HL.out.opens HL.out.inner)
    rw [R5.out] at HC5
    go_wp2_with fail
    refine HC5.out.mono ?_
    rintro e w6 ⟨rfl, hb6⟩
    have HB6 := Lib.hid (HB5.out.on hb6)
    clear hb6 x5 y5 HC5 HB5
    go_wp2
    go_ret
    rw [HD.out]
    exact ⟨rfl, HB6.out.1⟩
  · have HNQ : decide (numsE a = numsE b) = true := decide_eq_true (by unfold numsE; rw [q0, q1, q2, q3, q4, q5, q6, q7, q8, q9])
    have HD : Hid (sameE a b = true) := Lib.hid (by unfold sameE; rw [HNQ, r0, r1, r2, r3, r4, r5]; rfl)
    clear HNQ
    have z0 : (a.kind == b.kind) = true := beq_iff_eq.2 q0
    clear q0
    have z1 : (a.txn == b.txn) = true := beq_iff_eq.2 q1
    clear q1
    have z2 : (a.unit == b.unit) = true := beq_iff_eq.2 q2
    clear q2
    have z3 : (a.half == b.half) = true := beq_iff_eq.2 q3
    clear q3
    have z4 : (a.prev == b.prev) = true := beq_iff_eq.2 q4
    clear q4
    have z5 : (a.next == b.next) = true := beq_iff_eq.2 q5
    clear q5
    have hat : ∀ W, (Op.equalIn 10000 23 (.agg #[.int .i64 a.ap, .int .i64 a.ac]) (.agg #[.int .i64 b.ap, .int .i64 b.ac])).run Try.prog W = .ok true W := fun W => by rw [inE_rid W 9998]; simp [q6, q7]
    have hto : ∀ W, (Op.equalIn 10000 23 (.agg #[.int .i64 a.tp, .int .i64 a.tc]) (.agg #[.int .i64 b.tp, .int .i64 b.tc])).run Try.prog W = .ok true W := fun W => by rw [inE_rid W 9998]; simp [q8, q9]
    clear q6 q7 q8 q9
    have e0 := E1.out
    rw [r0] at e0
    have e1 := E2.out
    rw [r1] at e1
    have R0 := Lib.hid r0
    clear r0
    have R1 := Lib.hid r1
    clear r1
    have R2 := Lib.hid r2
    clear r2
    have R3 := Lib.hid r3
    clear r3
    have R4 := Lib.hid r4
    clear r4
    have R5 := Lib.hid r5
    clear r5
    show Calls _ _ #[.agg #[.int .i64 a.kind, .int .i64 a.txn, .int .i64 a.unit, .int .i64 a.half, .int .i64 a.prev, .int .i64 a.next, .int .i64 a.ap, .int .i64 a.ac, .int .i64 a.tp, .int .i64 a.tc, _, _, _, _, _, _], .agg #[.int .i64 b.kind, .int .i64 b.txn, .int .i64 b.unit, .int .i64 b.half, .int .i64 b.prev, .int .i64 b.next, .int .i64 b.ap, .int .i64 b.ac, .int .i64 b.tp, .int .i64 b.tc, _, _, _, _, _, _]] _ _
    go_enter Try.func10, Try.ntmps10
    go_upto_region 1 with (fail)
    show Code.wp _ _ _ _ ((w.alloc (entO a (.slice A1 n1 c1) (.slice A2 n2 c2) (.slice A3 n3 c3) (.slice A4 n4 c4) (.slice A5 n5 c5) (.slice A6 n6 c6))).alloc (entO b (.slice B1 m1 d1) (.slice B2 m2 d2) (.slice B3 m3 d3) (.slice B4 m4 d4) (.slice B5 m5 d5) (.slice B6 m6 d6)))
    obtain ⟨W, hWW⟩ : ∃ W, W = (w.alloc (entO a (.slice A1 n1 c1) (.slice A2 n2 c2) (.slice A3 n3 c3) (.slice A4 n4 c4) (.slice A5 n5 c5) (.slice A6 n6 c6))).alloc (entO b (.slice B1 m1 d1) (.slice B2 m2 d2) (.slice B3 m3 d3) (.slice B4 m4 d4) (.slice B5 m5 d5) (.slice B6 m6 d6)) := ⟨_, rfl⟩
    have hW : Bx2 w W (entO a (.slice A1 n1 c1) (.slice A2 n2 c2) (.slice A3 n3 c3) (.slice A4 n4 c4) (.slice A5 n5 c5) (.slice A6 n6 c6)) (entO b (.slice B1 m1 d1) (.slice B2 m2 d2) (.slice B3 m3 d3) (.slice B4 m4 d4) (.slice B5 m5 d5) (.slice B6 m6 d6)) := by rw [hWW]; exact Bx2.new w _ _
    rw [← hWW]
    clear hWW
    have HW := Lib.hid hW
    have x0 : W.cell? ⟨w.heap.size, 0, none⟩ = some (.int .i64 a.kind) := (cell_of hW.2.1 0).1
    have y0 : W.cell? ⟨w.heap.size + 1, 0, none⟩ = some (.int .i64 b.kind) := (cell_of hW.2.2 0).1
    have x1 : W.cell? ⟨w.heap.size, 1, none⟩ = some (.int .i64 a.txn) := (cell_of hW.2.1 1).1
    have y1 : W.cell? ⟨w.heap.size + 1, 1, none⟩ = some (.int .i64 b.txn) := (cell_of hW.2.2 1).1
    have x2 : W.cell? ⟨w.heap.size, 2, none⟩ = some (.int .i64 a.unit) := (cell_of hW.2.1 2).1
    have y2 : W.cell? ⟨w.heap.size + 1, 2, none⟩ = some (.int .i64 b.unit) := (cell_of hW.2.2 2).1
    have x3 : W.cell? ⟨w.heap.size, 3, none⟩ = some (.int .i64 a.half) := (cell_of hW.2.1 3).1
    have y3 : W.cell? ⟨w.heap.size + 1, 3, none⟩ = some (.int .i64 b.half) := (cell_of hW.2.2 3).1
    have x4 : W.cell? ⟨w.heap.size, 4, none⟩ = some (.int .i64 a.prev) := (cell_of hW.2.1 4).1
    have y4 : W.cell? ⟨w.heap.size + 1, 4, none⟩ = some (.int .i64 b.prev) := (cell_of hW.2.2 4).1
    have x5 : W.cell? ⟨w.heap.size, 5, none⟩ = some (.int .i64 a.next) := (cell_of hW.2.1 5).1
    have y5 : W.cell? ⟨w.heap.size + 1, 5, none⟩ = some (.int .i64 b.next) := (cell_of hW.2.2 5).1
    have x6 : W.cell? ⟨w.heap.size, 6, none⟩ = some (.int .i64 a.ap) := (cell_of hW.2.1 6).1
    have y6 : W.cell? ⟨w.heap.size + 1, 6, none⟩ = some (.int .i64 b.ap) := (cell_of hW.2.2 6).1
    have x7 : W.cell? ⟨w.heap.size, 7, none⟩ = some (.int .i64 a.ac) := (cell_of hW.2.1 7).1
    have y7 : W.cell? ⟨w.heap.size + 1, 7, none⟩ = some (.int .i64 b.ac) := (cell_of hW.2.2 7).1
    have x8 : W.cell? ⟨w.heap.size, 8, none⟩ = some (.int .i64 a.tp) := (cell_of hW.2.1 8).1
    have y8 : W.cell? ⟨w.heap.size + 1, 8, none⟩ = some (.int .i64 b.tp) := (cell_of hW.2.2 8).1
    have x9 : W.cell? ⟨w.heap.size, 9, none⟩ = some (.int .i64 a.tc) := (cell_of hW.2.1 9).1
    have y9 : W.cell? ⟨w.heap.size + 1, 9, none⟩ = some (.int .i64 b.tc) := (cell_of hW.2.2 9).1
    have x10 : W.cell? ⟨w.heap.size, 10, none⟩ = some (.slice A1 n1 c1) := (cell_of hW.2.1 10).1
    have y10 : W.cell? ⟨w.heap.size + 1, 10, none⟩ = some (.slice B1 m1 d1) := (cell_of hW.2.2 10).1
    have x11 : W.cell? ⟨w.heap.size, 11, none⟩ = some (.slice A2 n2 c2) := (cell_of hW.2.1 11).1
    have y11 : W.cell? ⟨w.heap.size + 1, 11, none⟩ = some (.slice B2 m2 d2) := (cell_of hW.2.2 11).1
    have x12 : W.cell? ⟨w.heap.size, 12, none⟩ = some (.slice A3 n3 c3) := (cell_of hW.2.1 12).1
    have y12 : W.cell? ⟨w.heap.size + 1, 12, none⟩ = some (.slice B3 m3 d3) := (cell_of hW.2.2 12).1
    have v0 := V1.out W hW.1
    have u0 := U1.out W hW.1
    have v1 := V2.out W hW.1
    have u1 := U2.out W hW.1
    clear hW
    go_wp2_with fail
    refine (rsMoves_any (HS.out.moves.below HW.out.1 (Nat.le_refl _)) (HT.out.moves.below HW.out.1 (Nat.le_refl _)) HL.out.moves).mono ?_
    rintro e w3 ⟨he, hb3⟩
    rw [R2.out] at he
    subst he
    have HB3 := Lib.hid (HW.out.on hb3)
    clear hb3 z0 z1 z2 z3 z4 z5 hat hto e0 e1 v0 v1 u0 u1 x0 y0 x1 y1 x2 y2 x3 y3 x4 y4 x5 y5 x6 y6 x7 y7 x8 y8 x9 y9 x10 y10 x11 y11 x12 y12
    have x3 : w3.cell? ⟨w.heap.size, 13, none⟩ = some (.slice A4 n4 c4) := (cell_of HB3.out.2.1 13).1
    have y3 : w3.cell? ⟨w.heap.size + 1, 13, none⟩ = some (.slice B4 m4 d4) := (cell_of HB3.out.2.2 13).1
    have HC3 := Lib.hid (rsLives_any (HS.out.lives.below HB3.out.1 (Nat.le_refl _)) (HT.out.lives.below HB3.out.1 (Nat.le_refl _)) HL.out.lives)
    rw [R3.out] at HC3
    go_wp2_with fail
    refine HC3.out.mono ?_
    rintro e w4 ⟨rfl, hb4⟩
    have HB4 := Lib.hid (HB3.out.on hb4)
    clear hb4 x3 y3 HC3 HB3
    have x4 : w4.cell? ⟨w.heap.size, 14, none⟩ = some (.slice A5 n5 c5) := (cell_of HB4.out.2.1 14).1
    have y4 : w4.cell? ⟨w.heap.size + 1, 14, none⟩ = some (.slice B5 m5 d5) := (cell_of HB4.out.2.2 14).1
    have HC4 := Lib.hid (rsDirty_any (HS.out.dirty.below HB4.out.1 (Nat.le_refl _)) (HT.out.dirty.below HB4.out.1 (Nat.le_refl _)) HL.out.dirty)
    rw [R4.out] at HC4
    go_wp2_with fail
    refine HC4.out.mono ?_
    rintro e w5 ⟨rfl, hb5⟩
    have HB5 := Lib.hid (HB4.out.on hb5)
    clear hb5 x4 y4 HC4 HB4
    have x5 : w5.cell? ⟨w.heap.size, 15, none⟩ = some (.slice A6 n6 c6) := (cell_of HB5.out.2.1 15).1
    have y5 : w5.cell? ⟨w.heap.size + 1, 15, none⟩ = some (.slice B6 m6 d6) := (cell_of HB5.out.2.2 15).1
    have HC5 := Lib.hid (rsOpens_any (HS.out.opens.below HB5.out.1 (Nat.le_refl _)) (HT.out.opens.below HB5.out.1 (Nat.le_refl _)) HL.out.opens HL.out.inner)
    rw [R5.out] at HC5
    go_wp2_with fail
    refine HC5.out.mono ?_
    rintro e w6 ⟨rfl, hb6⟩
    have HB6 := Lib.hid (HB5.out.on hb6)
    clear hb6 x5 y5 HC5 HB5
    go_wp2
    go_ret
    rw [HD.out]
    exact ⟨rfl, HB6.out.1⟩

end Go.Proofs.Ythcndifbegmbkaa
