/- The reference's SameEntry. -/
import Derived.Test.YthcndifbegmbkaaEntRo
import Derived.Test.YthcndifbegmbkaaEntSm
namespace Go.Proofs.Ythcndifbegmbkaa
open Go.RowKit

theorem sameE_nums {a b : Ent} (h : decide (numsE a = numsE b) = false) : sameE a b = false := by unfold sameE; rw [h]; rfl

set_option maxRecDepth 100000 in
set_option maxHeartbeats 4000000 in
theorem rsame_1 (w : World) (a b : Ent) {s1 s2 s3 s4 s5 s6 t1 t2 t3 t4 t5 t6 : Value} (hs : EntS w s1 s2 s3 s4 s5 s6 a) (ht : EntS w t1 t2 t3 t4 t5 t6 b) (hl : EntLen a) (hcase : (¬ a.kind = b.kind) ∨ (a.kind = b.kind ∧ ¬ a.txn = b.txn) ∨ (a.kind = b.kind ∧ a.txn = b.txn ∧ ¬ a.unit = b.unit) ∨ (a.kind = b.kind ∧ a.txn = b.txn ∧ a.unit = b.unit ∧ ¬ a.half = b.half) ∨ (a.kind = b.kind ∧ a.txn = b.txn ∧ a.unit = b.unit ∧ a.half = b.half ∧ ¬ a.prev = b.prev)) :
    Calls Try.prog 10 #[.agg (entC a s1 s2 s3 s4 s5 s6), .agg (entC b t1 t2 t3 t4 t5 t6)] w fun e w' => e = .returned (.bool (sameE a b)) ∧ Below w.heap.size w w' := by
  obtain ⟨A1, c1, A2, c2, A3, c3, A4, c4, A5, c5, A6, c6, rfl, rfl, rfl, rfl, rfl, rfl⟩ := hs.form
  obtain ⟨B1, d1, B2, d2, B3, d3, B4, d4, B5, d5, B6, d6, rfl, rfl, rfl, rfl, rfl, rfl⟩ := ht.form
  have HL := Lib.hid hl
  have hbb : ∀ o1 o2, Below w.heap.size w ((w.alloc o1).alloc o2) := fun o1 o2 => ((Below.refl _ _).alloc (Nat.le_refl _) _).alloc (by simp) _
  have HBB := Lib.hid hbb
  have HS := Lib.hid hs
  have HT := Lib.hid ht
  clear hs ht hl hbb
  obtain ⟨n1, hn1⟩ : ∃ n, n = a.old.length := ⟨_, rfl⟩
  obtain ⟨m1, hm1⟩ : ∃ n, n = b.old.length := ⟨_, rfl⟩
  rw [← hn1] at HS ⊢
  rw [← hm1] at HT ⊢
  clear hn1 hm1
  obtain ⟨n2, hn2⟩ : ∃ n, n = a.new.length := ⟨_, rfl⟩
  obtain ⟨m2, hm2⟩ : ∃ n, n = b.new.length := ⟨_, rfl⟩
  rw [← hn2] at HS ⊢
  rw [← hm2] at HT ⊢
  clear hn2 hm2
  obtain ⟨n3, hn3⟩ : ∃ n, n = a.moves.length := ⟨_, rfl⟩
  obtain ⟨m3, hm3⟩ : ∃ n, n = b.moves.length := ⟨_, rfl⟩
  rw [← hn3] at HS ⊢
  rw [← hm3] at HT ⊢
  clear hn3 hm3
  obtain ⟨n4, hn4⟩ : ∃ n, n = a.lives.length := ⟨_, rfl⟩
  obtain ⟨m4, hm4⟩ : ∃ n, n = b.lives.length := ⟨_, rfl⟩
  rw [← hn4] at HS ⊢
  rw [← hm4] at HT ⊢
  clear hn4 hm4
  obtain ⟨n5, hn5⟩ : ∃ n, n = a.dirty.length := ⟨_, rfl⟩
  obtain ⟨m5, hm5⟩ : ∃ n, n = b.dirty.length := ⟨_, rfl⟩
  rw [← hn5] at HS ⊢
  rw [← hm5] at HT ⊢
  clear hn5 hm5
  obtain ⟨n6, hn6⟩ : ∃ n, n = a.opens.length := ⟨_, rfl⟩
  obtain ⟨m6, hm6⟩ : ∃ n, n = b.opens.length := ⟨_, rfl⟩
  rw [← hn6] at HS ⊢
  rw [← hm6] at HT ⊢
  clear hn6 hm6
  have V1 : Hid (∀ W, Below w.heap.size w W → (convert 24 9 (.slice A1 n1 c1)).run Try.prog W = .ok (.string (bstr a.old)) W) := fun W hW => conv_slW (HS.out.old.below hW (Nat.le_refl _))
  have U1 : Hid (∀ W, Below w.heap.size w W → (convert 24 9 (.slice B1 m1 d1)).run Try.prog W = .ok (.string (bstr b.old)) W) := fun W hW => conv_slW (HT.out.old.below hW (Nat.le_refl _))
  have E1 := Lib.hid (bstr_eqlE HS.out.old.ok HT.out.old.ok)
  have V2 : Hid (∀ W, Below w.heap.size w W → (convert 24 9 (.slice A2 n2 c2)).run Try.prog W = .ok (.string (bstr a.new)) W) := fun W hW => conv_slW (HS.out.new.below hW (Nat.le_refl _))
  have U2 : Hid (∀ W, Below w.heap.size w W → (convert 24 9 (.slice B2 m2 d2)).run Try.prog W = .ok (.string (bstr b.new)) W) := fun W hW => conv_slW (HT.out.new.below hW (Nat.le_refl _))
  have E2 := Lib.hid (bstr_eqlE HS.out.new.ok HT.out.new.ok)
  rcases hcase with q0 | ⟨q0, q1⟩ | ⟨q0, q1, q2⟩ | ⟨q0, q1, q2, q3⟩ | ⟨q0, q1, q2, q3, q4⟩
  · have HD := Lib.hid (sameE_nums (a := a) (b := b) (decide_eq_false (fun e => q0 (by have h := congrArg (fun l => l[0]?) e; simpa [numsE] using h))))
    have z0 : (a.kind == b.kind) = false := beq_eq_false_iff_ne.2 q0
    clear q0
    show Calls _ _ #[.agg #[.int .i64 a.kind, .int .i64 a.txn, .int .i64 a.unit, .int .i64 a.half, .int .i64 a.prev, .int .i64 a.next, .int .i64 a.ap, .int .i64 a.ac, .int .i64 a.tp, .int .i64 a.tc, _, _, _, _, _, _], .agg #[.int .i64 b.kind, .int .i64 b.txn, .int .i64 b.unit, .int .i64 b.half, .int .i64 b.prev, .int .i64 b.next, .int .i64 b.ap, .int .i64 b.ac, .int .i64 b.tp, .int .i64 b.tc, _, _, _, _, _, _]] _ _
    go_enter Try.func10, Try.ntmps10
    go_upto_region 1 with (fail)
    show Code.wp _ _ _ _ ((w.alloc (entO a (.slice A1 n1 c1) (.slice A2 n2 c2) (.slice A3 n3 c3) (.slice A4 n4 c4) (.slice A5 n5 c5) (.slice A6 n6 c6))).alloc (entO b (.slice B1 m1 d1) (.slice B2 m2 d2) (.slice B3 m3 d3) (.slice B4 m4 d4) (.slice B5 m5 d5) (.slice B6 m6 d6)))
    obtain ⟨W, hWW⟩ : ∃ W, W = (w.alloc (entO a (.slice A1 n1 c1) (.slice A2 n2 c2) (.slice A3 n3 c3) (.slice A4 n4 c4) (.slice A5 n5 c5) (.slice A6 n6 c6))).alloc (entO b (.slice B1 m1 d1) (.slice B2 m2 d2) (.slice B3 m3 d3) (.slice B4 m4 d4) (.slice B5 m5 d5) (.slice B6 m6 d6)) := ⟨_, rfl⟩
    have hW : Bx2 w W (entO a (.slice A1 n1 c1) (.slice A2 n2 c2) (.slice A3 n3 c3) (.slice A4 n4 c4) (.slice A5 n5 c5) (.slice A6 n6 c6)) (entO b (.slice B1 m1 d1) (.slice B2 m2 d2) (.slice B3 m3 d3) (.slice B4 m4 d4) (.slice B5 m5 d5) (.slice B6 m6 d6)) := by rw [hWW]; exact Bx2.new w _ _
    rw [← hWW]
    clear hWW
    have HW := Lib.hid hW
    have x0 : W.cell? ⟨w.heap.size, 0, none⟩ = some (.int .i64 a.kind) := (cell_of hW.2.1 0).1
    have y0 : W.cell? ⟨w.heap.size + 1, 0, none⟩ = some (.int .i64 b.kind) := (cell_of hW.2.2 0).1
    clear hW
    go_wp2
    go_ret
    rw [HD.out]
    exact ⟨rfl, HW.out.1⟩
  · have HD := Lib.hid (sameE_nums (a := a) (b := b) (decide_eq_false (fun e => q1 (by have h := congrArg (fun l => l[1]?) e; simpa [numsE] using h))))
    have z0 : (a.kind == b.kind) = true := beq_iff_eq.2 q0
    clear q0
    have z1 : (a.txn == b.txn) = false := beq_eq_false_iff_ne.2 q1
    clear q1
    show Calls _ _ #[.agg #[.int .i64 a.kind, .int .i64 a.txn, .int .i64 a.unit, .int .i64 a.half, .int .i64 a.prev, .int .i64 a.next, .int .i64 a.ap, .int .i64 a.ac, .int .i64 a.tp, .int .i64 a.tc, _, _, _, _, _, _], .agg #[.int .i64 b.kind, .int .i64 b.txn, .int .i64 b.unit, .int .i64 b.half, .int .i64 b.prev, .int .i64 b.next, .int .i64 b.ap, .int .i64 b.ac, .int .i64 b.tp, .int .i64 b.tc, _, _, _, _, _, _]] _ _
    go_enter Try.func10, Try.ntmps10
    go_upto_region 1 with (fail)
    show Code.wp _ _ _ _ ((w.alloc (entO a (.slice A1 n1 c1) (.slice A2 n2 c2) (.slice A3 n3 c3) (.slice A4 n4 c4) (.slice A5 n5 c5) (.slice A6 n6 c6))).alloc (entO b (.slice B1 m1 d1) (.slice B2 m2 d2) (.slice B3 m3 d3) (.slice B4 m4 d4) (.slice B5 m5 d5) (.slice B6 m6 d6)))
    obtain ⟨W, hWW⟩ : ∃ W, W = (w.alloc (entO a (.slice A1 n1 c1) (.slice A2 n2 c2) (.slice A3 n3 c3) (.slice A4 n4 c4) (.slice A5 n5 c5) (.slice A6 n6 c6))).alloc (entO b (.slice B1 m1 d1) (.slice B2 m2 d2) (.slice B3 m3 d3) (.slice B4 m4 d4) (.slice B5 m5 d5) (.slice B6 m6 d6)) := ⟨_, rfl⟩
    have hW : Bx2 w W (entO a (.slice A1 n1 c1) (.slice A2 n2 c2) (.slice A3 n3 c3) (.slice A4 n4 c4) (.slice A5 n5 c5) (.slice A6 n6 c6)) (entO b (.slice B1 m1 d1) (.slice B2 m2 d2) (.slice B3 m3 d3) (.slice B4 m4 d4) (.slice B5 m5 d5) (.slice B6 m6 d6)) := by rw [hWW]; exact Bx2.new w _ _
    rw [← hWW]
    clear hWW
    have HW := Lib.hid hW
    have x0 : W.cell? ⟨w.heap.size, 0, none⟩ = some (.int .i64 a.kind) := (cell_of hW.2.1 0).1
    have y0 : W.cell? ⟨w.heap.size + 1, 0, none⟩ = some (.int .i64 b.kind) := (cell_of hW.2.2 0).1
    have x1 : W.cell? ⟨w.heap.size, 1, none⟩ = some (.int .i64 a.txn) := (cell_of hW.2.1 1).1
    have y1 : W.cell? ⟨w.heap.size + 1, 1, none⟩ = some (.int .i64 b.txn) := (cell_of hW.2.2 1).1
    clear hW
    go_wp2
    go_ret
    rw [HD.out]
    exact ⟨rfl, HW.out.1⟩
  · have HD := Lib.hid (sameE_nums (a := a) (b := b) (decide_eq_false (fun e => q2 (by have h := congrArg (fun l => l[2]?) e; simpa [numsE] using h))))
    have z0 : (a.kind == b.kind) = true := beq_iff_eq.2 q0
    clear q0
    have z1 : (a.txn == b.txn) = true := beq_iff_eq.2 q1
    clear q1
    have z2 : (a.unit == b.unit) = false := beq_eq_false_iff_ne.2 q2
    clear q2
    show Calls _ _ #[.agg #[.int .i64 a.kind, .int .i64 a.txn, .int .i64 a.unit, .int .i64 a.half, .int .i64 a.prev, .int .i64 a.next, .int .i64 a.ap, .int .i64 a.ac, .int .i64 a.tp, .int .i64 a.tc, _, _, _, _, _, _], .agg #[.int .i64 b.kind, .int .i64 b.txn, .int .i64 b.unit, .int .i64 b.half, .int .i64 b.prev, .int .i64 b.next, .int .i64 b.ap, .int .i64 b.ac, .int .i64 b.tp, .int .i64 b.tc, _, _, _, _, _, _]] _ _
    go_enter Try.func10, Try.ntmps10
    go_upto_region 1 with (fail)
    show Code.wp _ _ _ _ ((w.alloc (entO a (.slice A1 n1 c1) (.slice A2 n2 c2) (.slice A3 n3 c3) (.slice A4 n4 c4) (.slice A5 n5 c5) (.slice A6 n6 c6))).alloc (entO b (.slice B1 m1 d1) (.slice B2 m2 d2) (.slice B3 m3 d3) (.slice B4 m4 d4) (.slice B5 m5 d5) (.slice B6 m6 d6)))
    obtain ⟨W, hWW⟩ : ∃ W, W = (w.alloc (entO a (.slice A1 n1 c1) (.slice A2 n2 c2) (.slice A3 n3 c3) (.slice A4 n4 c4) (.slice A5 n5 c5) (.slice A6 n6 c6))).alloc (entO b (.slice B1 m1 d1) (.slice B2 m2 d2) (.slice B3 m3 d3) (.slice B4 m4 d4) (.slice B5 m5 d5) (.slice B6 m6 d6)) := ⟨_, rfl⟩
    have hW : Bx2 w W (entO a (.slice A1 n1 c1) (.slice A2 n2 c2) (.slice A3 n3 c3) (.slice A4 n4 c4) (.slice A5 n5 c5) (.slice A6 n6 c6)) (entO b (.slice B1 m1 d1) (.slice B2 m2 d2) (.slice B3 m3 d3) (.slice B4 m4 d4) (.slice B5 m5 d5) (.slice B6 m6 d6)) := by rw [hWW]; exact Bx2.new w _ _
    rw [← hWW]
    clear hWW
    have HW := Lib.hid hW
    have x0 : W.cell? ⟨w.heap.size, 0, none⟩ = some (.int .i64 a.kind) := (cell_of hW.2.1 0).1
    have y0 : W.cell? ⟨w.heap.size + 1, 0, none⟩ = some (.int .i64 b.kind) := (cell_of hW.2.2 0).1
    have x1 : W.cell? ⟨w.heap.size, 1, none⟩ = some (.int .i64 a.txn) := (cell_of hW.2.1 1).1
    have y1 : W.cell? ⟨w.heap.size + 1, 1, none⟩ = some (.int .i64 b.txn) := (cell_of hW.2.2 1).1
    have x2 : W.cell? ⟨w.heap.size, 2, none⟩ = some (.int .i64 a.unit) := (cell_of hW.2.1 2).1
    have y2 : W.cell? ⟨w.heap.size + 1, 2, none⟩ = some (.int .i64 b.unit) := (cell_of hW.2.2 2).1
    clear hW
    go_wp2
    go_ret
    rw [HD.out]
    exact ⟨rfl, HW.out.1⟩
  · have HD := Lib.hid (sameE_nums (a := a) (b := b) (decide_eq_false (fun e => q3 (by have h := congrArg (fun l => l[3]?) e; simpa [numsE] using h))))
    have z0 : (a.kind == b.kind) = true := beq_iff_eq.2 q0
    clear q0
    have z1 : (a.txn == b.txn) = true := beq_iff_eq.2 q1
    clear q1
    have z2 : (a.unit == b.unit) = true := beq_iff_eq.2 q2
    clear q2
    have z3 : (a.half == b.half) = false := beq_eq_false_iff_ne.2 q3
    clear q3
    show Calls _ _ #[.agg #[.int .i64 a.kind, .int .i64 a.txn, .int .i64 a.unit, .int .i64 a.half, .int .i64 a.prev, .int .i64 a.next, .int .i64 a.ap, .int .i64 a.ac, .int .i64 a.tp, .int .i64 a.tc, _, _, _, _, _, _], .agg #[.int .i64 b.kind, .int .i64 b.txn, .int .i64 b.unit, .int .i64 b.half, .int .i64 b.prev, .int .i64 b.next, .int .i64 b.ap, .int .i64 b.ac, .int .i64 b.tp, .int .i64 b.tc, _, _, _, _, _, _]] _ _
    go_enter Try.func10, Try.ntmps10
    go_upto_region 1 with (fail)
    show Code.wp _ _ _ _ ((w.alloc (entO a (.slice A1 n1 c1) (.slice A2 n2 c2) (.slice A3 n3 c3) (.slice A4 n4 c4) (.slice A5 n5 c5) (.slice A6 n6 c6))).alloc (entO b (.slice B1 m1 d1) (.slice B2 m2 d2) (.slice B3 m3 d3) (.slice B4 m4 d4) (.slice B5 m5 d5) (.slice B6 m6 d6)))
    obtain ⟨W, hWW⟩ : ∃ W, W = (w.alloc (entO a (.slice A1 n1 c1) (.slice A2 n2 c2) (.slice A3 n3 c3) (.slice A4 n4 c4) (.slice A5 n5 c5) (.slice A6 n6 c6))).alloc (entO b (.slice B1 m1 d1) (.slice B2 m2 d2) (.slice B3 m3 d3) (.slice B4 m4 d4) (.slice B5 m5 d5) (.slice B6 m6 d6)) := ⟨_, rfl⟩
    have hW : Bx2 w W (entO a (.slice A1 n1 c1) (.slice A2 n2 c2) (.slice A3 n3 c3) (.slice A4 n4 c4) (.slice A5 n5 c5) (.slice A6 n6 c6)) (entO b (.slice B1 m1 d1) (.slice B2 m2 d2) (.slice B3 m3 d3) (.slice B4 m4 d4) (.slice B5 m5 d5) (.slice B6 m6 d6)) := by rw [hWW]; exact Bx2.new w _ _
    rw [← hWW]
    clear hWW
    have HW := Lib.hid hW
    have x0 : W.cell? ⟨w.heap.size, 0, none⟩ = some (.int .i64 a.kind) := (cell_of hW.2.1 0).1
    have y0 : W.cell? ⟨w.heap.size + 1, 0, none⟩ = some (.int .i64 b.kind) := (cell_of hW.2.2 0).1
    have x1 : W.cell? ⟨w.heap.size, 1, none⟩ = some (.int .i64 a.txn) := (cell_of hW.2.1 1).1
    have y1 : W.cell? ⟨w.heap.size + 1, 1, none⟩ = some (.int .i64 b.txn) := (cell_of hW.2.2 1).1
    have x2 : W.cell? ⟨w.heap.size, 2, none⟩ = some (.int .i64 a.unit) := (cell_of hW.2.1 2).1
    have y2 : W.cell? ⟨w.heap.size + 1, 2, none⟩ = some (.int .i64 b.unit) := (cell_of hW.2.2 2).1
    have x3 : W.cell? ⟨w.heap.size, 3, none⟩ = some (.int .i64 a.half) := (cell_of hW.2.1 3).1
    have y3 : W.cell? ⟨w.heap.size + 1, 3, none⟩ = some (.int .i64 b.half) := (cell_of hW.2.2 3).1
    clear hW
    go_wp2
    go_ret
    rw [HD.out]
    exact ⟨rfl, HW.out.1⟩
  · have HD := Lib.hid (sameE_nums (a := a) (b := b) (decide_eq_false (fun e => q4 (by have h := congrArg (fun l => l[4]?) e; simpa [numsE] using h))))
    have z0 : (a.kind == b.kind) = true := beq_iff_eq.2 q0
    clear q0
    have z1 : (a.txn == b.txn) = true := beq_iff_eq.2 q1
    clear q1
    have z2 : (a.unit == b.unit) = true := beq_iff_eq.2 q2
    clear q2
    have z3 : (a.half == b.half) = true := beq_iff_eq.2 q3
    clear q3
    have z4 : (a.prev == b.prev) = false := beq_eq_false_iff_ne.2 q4
    clear q4
    show Calls _ _ #[.agg #[.int .i64 a.kind, .int .i64 a.txn, .int .i64 a.unit, .int .i64 a.half, .int .i64 a.prev, .int .i64 a.next, .int .i64 a.ap, .int .i64 a.ac, .int .i64 a.tp, .int .i64 a.tc, _, _, _, _, _, _], .agg #[.int .i64 b.kind, .int .i64 b.txn, .int .i64 b.unit, .int .i64 b.half, .int .i64 b.prev, .int .i64 b.next, .int .i64 b.ap, .int .i64 b.ac, .int .i64 b.tp, .int .i64 b.tc, _, _, _, _, _, _]] _ _
    go_enter Try.func10, Try.ntmps10
    go_upto_region 1 with (fail)
    show Code.wp _ _ _ _ ((w.alloc (entO a (.slice A1 n1 c1) (.slice A2 n2 c2) (.slice A3 n3 c3) (.slice A4 n4 c4) (.slice A5 n5 c5) (.slice A6 n6 c6))).alloc (entO b (.slice B1 m1 d1) (.slice B2 m2 d2) (.slice B3 m3 d3) (.slice B4 m4 d4) (.slice B5 m5 d5) (.slice B6 m6 d6)))
    obtain ⟨W, hWW⟩ : ∃ W, W = (w.alloc (entO a (.slice A1 n1 c1) (.slice A2 n2 c2) (.slice A3 n3 c3) (.slice A4 n4 c4) (.slice A5 n5 c5) (.slice A6 n6 c6))).alloc (entO b (.slice B1 m1 d1) (.slice B2 m2 d2) (.slice B3 m3 d3) (.slice B4 m4 d4) (.slice B5 m5 d5) (.slice B6 m6 d6)) := ⟨_, rfl⟩
    have hW : Bx2 w W (entO a (.slice A1 n1 c1) (.slice A2 n2 c2) (.slice A3 n3 c3) (.slice A4 n4 c4) (.slice A5 n5 c5) (.slice A6 n6 c6)) (entO b (.slice B1 m1 d1) (.slice B2 m2 d2) (.slice B3 m3 d3) (.slice B4 m4 d4) (.slice B5 m5 d5) (.slice B6 m6 d6)) := by rw [hWW]; exact Bx2.new w _ _
    rw [← hWW]
    clear hWW
    have HW := Lib.hid hW
    have x0 : W.cell? ⟨w.heap.size, 0, none⟩ = some (.int .i64 a.kind) := (cell_of hW.2.1 0).1
    have y0 : W.cell? ⟨w.heap.size + 1, 0, none⟩ = some (.int .i64 b.kind) := (cell_of hW.2.2 0).1
    have x1 : W.cell? ⟨w.heap.size, 1, none⟩ = some (.int .i64 a.txn) := (cell_of hW.2.1 1).1
    have y1 : W.cell? ⟨w.heap.size + 1, 1, none⟩ = some (.int .i64 b.txn) := (cell_of hW.2.2 1).1
    have x2 : W.cell? ⟨w.heap.size, 2, none⟩ = some (.int .i64 a.unit) := (cell_of hW.2.1 2).1
    have y2 : W.cell? ⟨w.heap.size + 1, 2, none⟩ = some (.int .i64 b.unit) := (cell_of hW.2.2 2).1
    have x3 : W.cell? ⟨w.heap.size, 3, none⟩ = some (.int .i64 a.half) := (cell_of hW.2.1 3).1
    have y3 : W.cell? ⟨w.heap.size + 1, 3, none⟩ = some (.int .i64 b.half) := (cell_of hW.2.2 3).1
    have x4 : W.cell? ⟨w.heap.size, 4, none⟩ = some (.int .i64 a.prev) := (cell_of hW.2.1 4).1
    have y4 : W.cell? ⟨w.heap.size + 1, 4, none⟩ = some (.int .i64 b.prev) := (cell_of hW.2.2 4).1
    clear hW
    go_wp2
    go_ret
    rw [HD.out]
    exact ⟨rfl, HW.out.1⟩

end Go.Proofs.Ythcndifbegmbkaa
