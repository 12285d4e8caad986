/- TrailAll, a part. -/
import Derived.Test.YthmgafcnoedmjaaGreatQ34
namespace Go.Proofs.YthmgafcnoedmjaaGreat
set_option maxRecDepth 100000
open Go.RowKit
set_option maxHeartbeats 4000000 in
theorem rmay_4 (w : World) (e : Ent) {s1 s2 s3 s4 s5 s6 : Value} (hs : EntS w s1 s2 s3 s4 s5 s6 e) (hi : EntI e) (h1 : mayB1 e = true) (h2 : mayB2 e = true) :
  Calls Tryz.prog 63 #[.agg (entC e s1 s2 s3 s4 s5 s6)] w fun r w' => r = .returned (.bool (entB e)) ∧ Below w.heap.size w w' := by
 obtain ⟨A1, c1, A2, c2, A3, c3, A4, c4, A5, c5, A6, c6, rfl, rfl, rfl, rfl, rfl, rfl⟩ := hs.form
 obtain ⟨n1, hn1⟩ : ∃ n, n = e.old.length := ⟨_, rfl⟩
 rw [← hn1] at hs ⊢
 have HN1 := Lib.hid hn1
 obtain ⟨n2, hn2⟩ : ∃ n, n = e.new.length := ⟨_, rfl⟩
 rw [← hn2] at hs ⊢
 have HN2 := Lib.hid hn2
 obtain ⟨n3, hn3⟩ : ∃ n, n = e.moves.length := ⟨_, rfl⟩
 rw [← hn3] at hs ⊢
 have HN3 := Lib.hid hn3
 obtain ⟨n4, hn4⟩ : ∃ n, n = e.lives.length := ⟨_, rfl⟩
 rw [← hn4] at hs ⊢
 have HN4 := Lib.hid hn4
 obtain ⟨n5, hn5⟩ : ∃ n, n = e.dirty.length := ⟨_, rfl⟩
 rw [← hn5] at hs ⊢
 have HN5 := Lib.hid hn5
 obtain ⟨n6, hn6⟩ : ∃ n, n = e.opens.length := ⟨_, rfl⟩
 rw [← hn6] at hs ⊢
 have HN6 := Lib.hid hn6
 clear hn1 hn2 hn3 hn4 hn5 hn6
 have HI := Lib.hid hi
 obtain ⟨W, hW⟩ : ∃ W, W = w.alloc (entO e (.slice A1 n1 c1) (.slice A2 n2 c2) (.slice A3 n3 c3) (.slice A4 n4 c4) (.slice A5 n5 c5) (.slice A6 n6 c6)) := ⟨_, rfl⟩
 have hB0 : Below w.heap.size w W := by rw [hW]; exact (Below.refl _ _).alloc (Nat.le_refl _) _
 have hZ0 : Bz w.heap.size e (.slice A1 n1 c1) (.slice A2 n2 c2) (.slice A3 n3 c3) (.slice A4 n4 c4) (.slice A5 n5 c5) (.slice A6 n6 c6) W := ⟨by rw [hW]; exact heap_alloc_new w _, hs.below hB0 (Nat.le_refl _)⟩
 have HBW := Lib.hid hB0
 have HZW := Lib.hid hZ0
 have HB1 := Lib.hid h1
 have HH := Lib.hid h2
 clear h1 h2
 clear hs hi hB0 hZ0
 show Calls _ _ #[.agg #[.int .i64 e.kind, .int .i64 e.txn, .int .i64 e.unit, .int .i64 e.half, .int .i64 e.prev, .int .i64 e.next, .int .i64 e.ap, .int .i64 e.ac, .int .i64 e.tp, .int .i64 e.tc, _, _, _, _, _, _]] _ _
 go_enter Tryz.func63, Tryz.ntmps63
 go_upto_region 1 with (fail)
 show Code.wp _ _ _ _ (w.alloc (entO e (.slice A1 n1 c1) (.slice A2 n2 c2) (.slice A3 n3 c3) (.slice A4 n4 c4) (.slice A5 n5 c5) (.slice A6 n6 c6)))
 rw [← hW]
 clear hW
 go_cut [55] (fun u wx => u = .bool false ∧ Bz w.heap.size e (.slice A1 n1 c1) (.slice A2 n2 c2) (.slice A3 n3 c3) (.slice A4 n4 c4) (.slice A5 n5 c5) (.slice A6 n6 c6) wx ∧ Below w.heap.size w wx)
 case first =>
  have x0 : W.cell? ⟨w.heap.size, 0, none⟩ = some (.int .i64 e.kind) := (c_o HZW.out.bx 0).1
  have x1 : W.cell? ⟨w.heap.size, 1, none⟩ = some (.int .i64 e.txn) := (c_o HZW.out.bx 1).1
  have x2 : W.cell? ⟨w.heap.size, 2, none⟩ = some (.int .i64 e.unit) := (c_o HZW.out.bx 2).1
  have x3 : W.cell? ⟨w.heap.size, 3, none⟩ = some (.int .i64 e.half) := (c_o HZW.out.bx 3).1
  have x4 : W.cell? ⟨w.heap.size, 4, none⟩ = some (.int .i64 e.prev) := (c_o HZW.out.bx 4).1
  have x5 : W.cell? ⟨w.heap.size, 5, none⟩ = some (.int .i64 e.next) := (c_o HZW.out.bx 5).1
  have x6 : W.cell? ⟨w.heap.size, 6, none⟩ = some (.int .i64 e.ap) := (c_o HZW.out.bx 6).1
  have x7 : W.cell? ⟨w.heap.size, 7, none⟩ = some (.int .i64 e.ac) := (c_o HZW.out.bx 7).1
  have x8 : W.cell? ⟨w.heap.size, 8, none⟩ = some (.int .i64 e.tp) := (c_o HZW.out.bx 8).1
  have x9 : W.cell? ⟨w.heap.size, 9, none⟩ = some (.int .i64 e.tc) := (c_o HZW.out.bx 9).1
  have h1 := HB1.out
  simp only [mayB1, Bool.and_eq_true] at h1
  obtain ⟨hk, h2, h3, h4, h5, h6, h7, h8⟩ := h1
  unfold kindB at hk
  rw [decide_eq_true_eq] at hk
  have k1 : ¬ e.kind < 1 := by omega
  have k2 : ¬ 10 < e.kind := by omega
  clear hk
  have Htxn := Lib.hid (fits_any W e.txn HI.out.txn 1 (.inl rfl))
  rw [h2] at Htxn
  have Hunit := Lib.hid (fits_any W e.unit HI.out.unit 2 (.inr (.inl rfl)))
  rw [h3] at Hunit
  have Hhalf := Lib.hid (fits_any W e.half HI.out.half 1 (.inl rfl))
  rw [h4] at Hhalf
  have Hprev := Lib.hid (fits_any W e.prev HI.out.prev 3 (.inr (.inr rfl)))
  rw [h5] at Hprev
  have Hnext := Lib.hid (fits_any W e.next HI.out.next 3 (.inr (.inr rfl)))
  rw [h6] at Hnext
  have HAT := Lib.hid (fitsRID_any W e.ap e.ac HI.out.ap HI.out.ac)
  rw [h7] at HAT
  have HTO : Hid (∀ W, Calls Tryz.prog 85 #[.agg #[.int .i64 e.tp, .int .i64 e.tc]] W fun r w' => r = .returned (.bool true) ∧ Below W.heap.size W w') := fun W => by
   have := fitsRID_any W e.tp e.tc HI.out.tp HI.out.tc
   rw [h8] at this
   exact this
  clear h2 h3 h4 h5 h6 h7 h8
  go_wp2_with fail
  refine Htxn.out.mono ?_
  rintro r w1 ⟨rfl, rfl⟩
  clear Htxn
  go_wp2_with fail
  refine Hunit.out.mono ?_
  rintro r w1 ⟨rfl, rfl⟩
  clear Hunit
  go_wp2_with fail
  refine Hhalf.out.mono ?_
  rintro r w1 ⟨rfl, rfl⟩
  clear Hhalf
  go_wp2_with fail
  refine Hprev.out.mono ?_
  rintro r w1 ⟨rfl, rfl⟩
  clear Hprev
  go_wp2_with fail
  refine Hnext.out.mono ?_
  rintro r w1 ⟨rfl, rfl⟩
  clear Hnext
  go_wp2_with fail
  refine HAT.out.mono ?_
  rintro r w5 ⟨rfl, hb5⟩
  have HB5 := Lib.hid (below_on HBW.out hb5)
  have HZ5 := Lib.hid (HZW.out.on hb5)
  have y8 : w5.cell? ⟨w.heap.size, 8, none⟩ = some (.int .i64 e.tp) := (c_o HZ5.out.bx 8).1
  have y9 : w5.cell? ⟨w.heap.size, 9, none⟩ = some (.int .i64 e.tc) := (c_o HZ5.out.bx 9).1
  clear HAT hb5 x0 x1 x2 x3 x4 x5 x6 x7 x8 x9
  go_wp2_with fail
  refine (HTO.out _).mono ?_
  rintro r w6 ⟨rfl, hb6⟩
  have HB6 := Lib.hid (below_on HB5.out hb6)
  have HZ6 := Lib.hid (HZ5.out.on hb6)
  clear hb6 y8 y9
  go_wp2
  go_meet
  exact ⟨rfl, HZ6.out, HB6.out⟩
 case rest =>
  obtain ⟨rfl, hz3, hb3⟩ := hcut
  have HZ3 := Lib.hid hz3
  have HB3 := Lib.hid hb3
  clear hz3 hb3 HZW HBW
  generalize wc = w3 at *
  go_upto_region 3 with (fail)
  have x0 : w3.cell? ⟨w.heap.size, 10, none⟩ = some (.slice A1 n1 c1) := (c_o HZ3.out.bx 10).1
  have x1 : w3.cell? ⟨w.heap.size, 11, none⟩ = some (.slice A2 n2 c2) := (c_o HZ3.out.bx 11).1
  have x2 : w3.cell? ⟨w.heap.size, 12, none⟩ = some (.slice A3 n3 c3) := (c_o HZ3.out.bx 12).1
  have hx := HH.out
  simp only [mayB2, Bool.and_eq_true, decide_eq_true_eq] at hx
  obtain ⟨ho, hn, hm, l4, l5, l6⟩ := hx
  rw [← HN4.out] at l4
  rw [← HN5.out] at l5
  rw [← HN6.out] at l6
  go_cut [101] (fun u wx => u = .bool false ∧ Bz w.heap.size e (.slice A1 n1 c1) (.slice A2 n2 c2) (.slice A3 n3 c3) (.slice A4 n4 c4) (.slice A5 n5 c5) (.slice A6 n6 c6) wx ∧ Below w.heap.size w wx)
  case first =>
   have o0 : n1 = 0 ∨ n1 = 26 := by rw [HN1.out]; unfold celOk at ho; simpa using ho
   have p0 : n2 = 0 ∨ n2 = 26 := by rw [HN2.out]; unfold celOk at hn; simpa using hn
   have HFM := Lib.hid (fitsMoves_any HZ3.out.s.moves HI.out.moves)
   rw [hm] at HFM
   have z4 : ¬ (40 : Int) < (n4 : Int) := by omega
   have z5 : ¬ (40 : Int) < (n5 : Int) := by omega
   have z6 : ¬ (40 : Int) < (n6 : Int) := by omega
   clear ho hn hm l4 l5 l6
   rcases o0 with rfl | rfl <;> rcases p0 with rfl | rfl
   all_goals
    go_wp2_with fail
    refine HFM.out.mono ?_
    rintro r w5 ⟨rfl, hb5⟩
    have HB5 := Lib.hid (below_on HB3.out hb5)
    have HZ5 := Lib.hid (HZ3.out.on hb5)
    have y3 : w5.cell? ⟨w.heap.size, 13, none⟩ = some (.slice A4 n4 c4) := (c_o HZ5.out.bx 13).1
    have y4 : w5.cell? ⟨w.heap.size, 14, none⟩ = some (.slice A5 n5 c5) := (c_o HZ5.out.bx 14).1
    have y5 : w5.cell? ⟨w.heap.size, 15, none⟩ = some (.slice A6 n6 c6) := (c_o HZ5.out.bx 15).1
    clear hb5 HFM x0 x1 x2
    go_wp2
    go_meet
    exact ⟨by rw [decide_eq_false (by omega : ¬ (40 : Int) < (n4 : Int)), decide_eq_false (by omega : ¬ (40 : Int) < (n5 : Int)), decide_eq_false (by omega : ¬ (40 : Int) < (n6 : Int))]; rfl, HZ5.out, HB5.out⟩
  case rest =>
   obtain ⟨rfl, hz4, hb4⟩ := hcut
   have HZ4 := Lib.hid hz4
   have HB4 := Lib.hid hb4
   have i4 : (n4 : Int) ≤ 40 := by omega
   have i5 : (n5 : Int) ≤ 40 := by omega
   have i6 : (n6 : Int) ≤ 40 := by omega
   clear hz4 hb4 HZ3 HB3 x0 x1 x2 ho hn hm l4 l5 l6
   generalize wc = w4 at *
   go_wp2
   go_loopw [3] (fun i wr => ∃ k : Nat, k ≤ n4 ∧ i = .int .i64 k ∧ (e.lives.take k).all lvB = true ∧ w4 = wr) (fun i _ => n4 - (RowKit.intOf i).toNat)
   case atStart => exact ⟨0, Nat.zero_le _, rfl, rfl, rfl⟩
   case round =>
    obtain ⟨k, hk, rfl, ha, hww⟩ := hrel
    have HA := Lib.hid ha
    clear ha
    have HB : Hid (Below w.heap.size w wr) := by rw [← hww]; exact HB4
    have HZ : Hid (Bz w.heap.size e (.slice A1 n1 c1) (.slice A2 n2 c2) (.slice A3 n3 c3) (.slice A4 n4 c4) (.slice A5 n5 c5) (.slice A6 n6 c6) wr) := by rw [← hww]; exact HZ4
    have x0 : wr.cell? ⟨w.heap.size, 13, none⟩ = some (.slice A4 n4 c4) := (c_o HZ.out.bx 13).1
    by_cases hlt' : k < n4
    ·have hlt : k < e.lives.length := by rw [← HN4.out]; exact hlt'
     obtain ⟨b, off, rfl, hbl, hc⟩ := HZ.out.s.lives.one (i := k) (by simpa using hlt)
     have y0 : wr.cell? ⟨b, off + k * 4, none⟩ = some (.int .i64 e.lives[k].1) := by simpa [lvV] using hc 0 (by omega)
     have y1 : wr.cell? ⟨b, off + k * 4 + 1, none⟩ = some (.int .i64 e.lives[k].2.1) := by simpa [lvV] using hc 1 (by omega)
     have y2 : wr.cell? ⟨b, off + k * 4 + 2, none⟩ = some (.int .i64 e.lives[k].2.2.1) := by simpa [lvV] using hc 2 (by omega)
     have hm := HI.out.lives e.lives[k] (List.getElem_mem _)
     have HM := Lib.hid hm
     have z1 : (0 : Int) ≤ (k : Int) := by omega
     have z2 : (k : Int) < (n4 : Int) := by omega
     have HNO := Lib.hid (show lvB e.lives[k] = false → entB e = false from fun h => by
      rw [entB_parts]
      have : e.lives.all lvB = false := by
       rw [← Bool.not_eq_true, List.all_eq_true]
       intro hh
       rw [hh _ (List.getElem_mem _)] at h
       cases h
      simp only [this, Bool.false_and, Bool.and_false])
     clear hc hm
     subst hww
     have Ha0 := Lib.hid (fits_any w4 e.lives[k].1 HM.out.1 1 (.inl rfl))
     cases qa0 : fitB e.lives[k].1 1 with
     | false =>
      have HF := Lib.hid (HNO.out (by unfold lvB; rw [qa0]; simp))
      rw [qa0] at Ha0
      clear qa0
      go_wp2_with fail
      refine Ha0.out.mono ?_
      rintro r w1 ⟨rfl, rfl⟩
      go_wp2
      go_ret
      rw [HF.out]
      exact ⟨rfl, HB.out⟩
     | true =>
      rw [qa0] at Ha0
      go_wp2_with fail
      refine Ha0.out.mono ?_
      rintro r w1 ⟨rfl, rfl⟩
      clear Ha0
      have Ha1 := Lib.hid (fits_any w4 e.lives[k].2.1 HM.out.2.1 3 (.inr (.inr rfl)))
      cases qa1 : fitB e.lives[k].2.1 3 with
      | false =>
       have HF := Lib.hid (HNO.out (by unfold lvB; rw [qa0, qa1]; simp))
       rw [qa1] at Ha1
       clear qa1
       go_wp2_with fail
       refine Ha1.out.mono ?_
       rintro r w1 ⟨rfl, rfl⟩
       go_wp2
       go_ret
       rw [HF.out]
       exact ⟨rfl, HB.out⟩
      | true =>
       rw [qa1] at Ha1
       go_wp2_with fail
       refine Ha1.out.mono ?_
       rintro r w1 ⟨rfl, rfl⟩
       clear Ha1
       have Ha2 := Lib.hid (fits_any w4 e.lives[k].2.2.1 HM.out.2.2 3 (.inr (.inr rfl)))
       cases qa2 : fitB e.lives[k].2.2.1 3 with
       | false =>
        have HF := Lib.hid (HNO.out (by unfold lvB; rw [qa0, qa1, qa2]; simp))
        rw [qa2] at Ha2
        clear qa2
        go_wp2_with fail
        refine Ha2.out.mono ?_
        rintro r w1 ⟨rfl, rfl⟩
        go_wp2
        go_ret
        rw [HF.out]
        exact ⟨rfl, HB.out⟩
       | true =>
        rw [qa2] at Ha2
        go_wp2_with fail
        refine Ha2.out.mono ?_
        rintro r w1 ⟨rfl, rfl⟩
        clear Ha2
        have HT : Hid ((e.lives.take (k + 1)).all lvB = true) := Lib.hid (by rw [all_snoc _ _ _ hlt, HA.out]; unfold lvB; rw [qa0, qa1, qa2]; rfl)
        clear qa0 qa1 qa2
        go_wp2
        go_roundw
        all_goals first
         | exact ⟨k + 1, by omega, rfl, HT.out, by first | trivial | rfl⟩
         | (simp [RowKit.intOf]; omega)
    ·obtain rfl : n4 = k := by omega
     have HLa : Hid (e.lives.all lvB = true) := by
      have := HA.out
      rw [HN4.out, List.take_length] at this
      exact this
     clear HA HB HZ hlt' hk
     subst hww
     go_wp2
     go_loopw [4] (fun i wr => ∃ k : Nat, k ≤ n5 ∧ i = .int .i64 k ∧ (e.dirty.take k).all dtB = true ∧ w4 = wr) (fun i _ => n5 - (RowKit.intOf i).toNat)
     case atStart => exact ⟨0, Nat.zero_le _, rfl, rfl, rfl⟩
     case round =>
      obtain ⟨k, hk, rfl, ha, hww⟩ := hrel
      have HA := Lib.hid ha
      clear ha
      have HB : Hid (Below w.heap.size w wr) := by rw [← hww]; exact HB4
      have HZ : Hid (Bz w.heap.size e (.slice A1 n1 c1) (.slice A2 n2 c2) (.slice A3 n3 c3) (.slice A4 n4 c4) (.slice A5 n5 c5) (.slice A6 n6 c6) wr) := by rw [← hww]; exact HZ4
      have x0 : wr.cell? ⟨w.heap.size, 14, none⟩ = some (.slice A5 n5 c5) := (c_o HZ.out.bx 14).1
      by_cases hlt' : k < n5
      ·have hlt : k < e.dirty.length := by rw [← HN5.out]; exact hlt'
       obtain ⟨b, off, rfl, hbl, hc⟩ := HZ.out.s.dirty.one (i := k) (by simpa using hlt)
       have y0 : wr.cell? ⟨b, off + k * 2, none⟩ = some (.int .i64 e.dirty[k].1) := by simpa [dtV] using hc 0 (by omega)
       have y1 : wr.cell? ⟨b, off + k * 2 + 1, none⟩ = some (.int .i64 e.dirty[k].2) := by simpa [dtV] using hc 1 (by omega)
       have hm := HI.out.dirty e.dirty[k] (List.getElem_mem _)
       have HM := Lib.hid hm
       have z1 : (0 : Int) ≤ (k : Int) := by omega
       have z2 : (k : Int) < (n5 : Int) := by omega
       have HNO := Lib.hid (show dtB e.dirty[k] = false → entB e = false from fun h => by
        rw [entB_parts]
        have : e.dirty.all dtB = false := by
         rw [← Bool.not_eq_true, List.all_eq_true]
         intro hh
         rw [hh _ (List.getElem_mem _)] at h
         cases h
        simp only [this, Bool.false_and, Bool.and_false])
       clear hc hm
       subst hww
       have Hb0 := Lib.hid (fits_any w4 e.dirty[k].1 HM.out.1 1 (.inl rfl))
       cases qb0 : fitB e.dirty[k].1 1 with
       | false =>
        have HF := Lib.hid (HNO.out (by unfold dtB; rw [qb0]; simp))
        rw [qb0] at Hb0
        clear qb0
        go_wp2_with fail
        refine Hb0.out.mono ?_
        rintro r w1 ⟨rfl, rfl⟩
        go_wp2
        go_ret
        rw [HF.out]
        exact ⟨rfl, HB.out⟩
       | true =>
        rw [qb0] at Hb0
        go_wp2_with fail
        refine Hb0.out.mono ?_
        rintro r w1 ⟨rfl, rfl⟩
        clear Hb0
        have Hb1 := Lib.hid (fits_any w4 e.dirty[k].2 HM.out.2 3 (.inr (.inr rfl)))
        cases qb1 : fitB e.dirty[k].2 3 with
        | false =>
         have HF := Lib.hid (HNO.out (by unfold dtB; rw [qb0, qb1]; simp))
         rw [qb1] at Hb1
         clear qb1
         go_wp2_with fail
         refine Hb1.out.mono ?_
         rintro r w1 ⟨rfl, rfl⟩
         go_wp2
         go_ret
         rw [HF.out]
         exact ⟨rfl, HB.out⟩
        | true =>
         rw [qb1] at Hb1
         go_wp2_with fail
         refine Hb1.out.mono ?_
         rintro r w1 ⟨rfl, rfl⟩
         clear Hb1
         have HT : Hid ((e.dirty.take (k + 1)).all dtB = true) := Lib.hid (by rw [all_snoc _ _ _ hlt, HA.out]; unfold dtB; rw [qb0, qb1]; rfl)
         clear qb0 qb1
         go_wp2
         go_roundw
         all_goals first
          | exact ⟨k + 1, by omega, rfl, HT.out, by first | trivial | rfl⟩
          | (simp [RowKit.intOf]; omega)
      ·obtain rfl : n5 = k := by omega
       have HLb : Hid (e.dirty.all dtB = true) := by
        have := HA.out
        rw [HN5.out, List.take_length] at this
        exact this
       clear HA HB HZ hlt' hk
       subst hww
       go_wp2
       go_loopw [5] (fun i wr => ∃ k : Nat, k ≤ n6 ∧ i = .int .i64 k ∧ (e.opens.take k).all opB = true ∧ Bz w.heap.size e (.slice A1 n1 c1) (.slice A2 n2 c2) (.slice A3 n3 c3) (.slice A4 n4 c4) (.slice A5 n5 c5) (.slice A6 n6 c6) wr ∧ Below w.heap.size w wr) (fun i _ => n6 - (RowKit.intOf i).toNat)
       case atStart => exact ⟨0, Nat.zero_le _, rfl, rfl, HZ4.out, HB4.out⟩
       case round =>
        obtain ⟨k, hk, rfl, ha, hz, hb⟩ := hrel
        have HA := Lib.hid ha
        have HZ := Lib.hid hz
        have HB := Lib.hid hb
        clear ha hz hb
        have x0 : wr.cell? ⟨w.heap.size, 15, none⟩ = some (.slice A6 n6 c6) := (c_o HZ.out.bx 15).1
        by_cases hlt' : k < n6
        ·obtain ⟨os, hos, hE, hIn⟩ := HZ.out.s.opens
         have hlt : k < e.opens.length := by rw [← HN6.out]; exact hlt'
         have hlo : k < os.length := by rw [hos, List.length_map] at hlt; exact hlt
         obtain ⟨b, off, rfl, hbl, hc⟩ := hE.one (i := k) (by simpa using hlo)
         have hok : e.opens[k] = os[k].1 := by simp [hos]
         have y0 : wr.cell? ⟨b, off + k * 3, none⟩ = some (.int .i64 e.opens[k].1) := by rw [hok]; simpa [opV] using hc 0 (by omega)
         have y1 : wr.cell? ⟨b, off + k * 3 + 1, none⟩ = some os[k].2 := by simpa [opV] using hc 1 (by omega)
         have y2 : wr.cell? ⟨b, off + k * 3 + 2, none⟩ = some (.int .i64 e.opens[k].2.1) := by rw [hok]; simpa [opV] using hc 2 (by omega)
         have hms := hIn os[k] (List.getElem_mem _)
         have hm := HI.out.opens e.opens[k] (List.getElem_mem _)
         have HM := Lib.hid hm
         have HFM := Lib.hid (fitsMoves_any hms (by rw [← hok]; exact hm.2.2))
         rw [← hok] at HFM
         have z1 : (0 : Int) ≤ (k : Int) := by omega
         have z2 : (k : Int) < (n6 : Int) := by omega
         have HNO := Lib.hid (show opB e.opens[k] = false → entB e = false from fun h => by
          rw [entB_parts]
          have : e.opens.all opB = false := by
           rw [← Bool.not_eq_true, List.all_eq_true]
           intro hh
           rw [hh _ (List.getElem_mem _)] at h
           cases h
          simp only [this, Bool.and_false])
         generalize os[k].2 = sv at *
         clear hc hm hms hIn hE hok hlo hos
         have Hc0 := Lib.hid (fits_any wr e.opens[k].1 HM.out.1 2 (.inr (.inl rfl)))
         cases qc0 : fitB e.opens[k].1 2 with
         | false =>
          have HF := Lib.hid (HNO.out (by unfold opB; rw [qc0]; simp))
          rw [qc0] at Hc0
          clear qc0
          go_wp2_with fail
          refine Hc0.out.mono ?_
          rintro r w1 ⟨rfl, rfl⟩
          go_wp2
          go_ret
          rw [HF.out]
          exact ⟨rfl, HB.out⟩
         | true =>
          rw [qc0] at Hc0
          go_wp2_with fail
          refine Hc0.out.mono ?_
          rintro r w1 ⟨rfl, rfl⟩
          clear Hc0
          have Hc1 := Lib.hid (fits_any wr e.opens[k].2.1 HM.out.2.1 1 (.inl rfl))
          cases qc1 : fitB e.opens[k].2.1 1 with
          | false =>
           have HF := Lib.hid (HNO.out (by unfold opB; rw [qc0, qc1]; simp))
           rw [qc1] at Hc1
           clear qc1
           go_wp2_with fail
           refine Hc1.out.mono ?_
           rintro r w1 ⟨rfl, rfl⟩
           go_wp2
           go_ret
           rw [HF.out]
           exact ⟨rfl, HB.out⟩
          | true =>
           rw [qc1] at Hc1
           go_wp2_with fail
           refine Hc1.out.mono ?_
           rintro r w1 ⟨rfl, rfl⟩
           clear Hc1
           cases qm : lstB mvB e.opens[k].2.2 with
           | false =>
            have HF := Lib.hid (HNO.out (by unfold opB; rw [qc0, qc1, qm]; rfl))
            rw [qm] at HFM
            clear qm
            go_wp2_with fail
            refine HFM.out.mono ?_
            rintro r w5 ⟨rfl, hb5⟩
            have HB5 := Lib.hid (below_on HB.out hb5)
            clear hb5
            go_wp2
            go_ret
            rw [HF.out]
            exact ⟨rfl, HB5.out⟩
           | true =>
            have HT : Hid ((e.opens.take (k + 1)).all opB = true) := Lib.hid (by rw [all_snoc _ _ _ hlt, HA.out]; unfold opB; rw [qc0, qc1, qm]; rfl)
            rw [qm] at HFM
            clear qm qc0 qc1
            go_wp2_with fail
            refine HFM.out.mono ?_
            rintro r w5 ⟨rfl, hb5⟩
            have HB5 := Lib.hid (below_on HB.out hb5)
            have HZ5 := Lib.hid (HZ.out.on hb5)
            clear hb5
            go_wp2
            go_roundw
            all_goals first
             | exact ⟨k + 1, by omega, rfl, HT.out, HZ5.out, HB5.out⟩
             | (simp [RowKit.intOf]; omega)
        ·obtain rfl : n6 = k := by omega
         have HLc : Hid (e.opens.all opB = true) := by
          have := HA.out
          rw [HN6.out, List.take_length] at this
          exact this
         have HF := Lib.hid (show entB e = true by rw [entB_parts, HB1.out, HH.out, HLa.out, HLb.out, HLc.out]; rfl)
         clear HA hlt' hk
         go_wp2
         go_ret
         rw [HF.out]
         exact ⟨rfl, HB.out⟩
end Go.Proofs.YthmgafcnoedmjaaGreat
