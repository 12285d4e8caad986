/- TrailAll, a part. -/
import Derived.Test.YthmgafcnoedmjaaGreatQ34
namespace Go.Proofs.YthmgafcnoedmjaaGreat
set_option maxRecDepth 100000
open Go.RowKit
set_option maxHeartbeats 4000000 in
theorem rmay_1 (w : World) (e : Ent) {s1 s2 s3 s4 s5 s6 : Value} (hs : EntS w s1 s2 s3 s4 s5 s6 e) (hi : EntI e) (h1 : mayB1 e = false) :
  Calls Tryz.prog 63 #[.agg (entC e s1 s2 s3 s4 s5 s6)] w fun r w' => r = .returned (.bool (entB e)) ∧ Below w.heap.size w w' := by
 obtain ⟨A1, c1, A2, c2, A3, c3, A4, c4, A5, c5, A6, c6, rfl, rfl, rfl, rfl, rfl, rfl⟩ := hs.form
 obtain ⟨n1, hn1⟩ : ∃ n, n = e.old.length := ⟨_, rfl⟩
 rw [← hn1] at hs ⊢
 have HN1 := Lib.hid hn1
 obtain ⟨n2, hn2⟩ : ∃ n, n = e.new.length := ⟨_, rfl⟩
 rw [← hn2] at hs ⊢
 have HN2 := Lib.hid hn2
 obtain ⟨n3, hn3⟩ : ∃ n, n = e.moves.length := ⟨_, rfl⟩
 rw [← hn3] at hs ⊢
 have HN3 := Lib.hid hn3
 obtain ⟨n4, hn4⟩ : ∃ n, n = e.lives.length := ⟨_, rfl⟩
 rw [← hn4] at hs ⊢
 have HN4 := Lib.hid hn4
 obtain ⟨n5, hn5⟩ : ∃ n, n = e.dirty.length := ⟨_, rfl⟩
 rw [← hn5] at hs ⊢
 have HN5 := Lib.hid hn5
 obtain ⟨n6, hn6⟩ : ∃ n, n = e.opens.length := ⟨_, rfl⟩
 rw [← hn6] at hs ⊢
 have HN6 := Lib.hid hn6
 clear hn1 hn2 hn3 hn4 hn5 hn6
 have HI := Lib.hid hi
 obtain ⟨W, hW⟩ : ∃ W, W = w.alloc (entO e (.slice A1 n1 c1) (.slice A2 n2 c2) (.slice A3 n3 c3) (.slice A4 n4 c4) (.slice A5 n5 c5) (.slice A6 n6 c6)) := ⟨_, rfl⟩
 have hB0 : Below w.heap.size w W := by rw [hW]; exact (Below.refl _ _).alloc (Nat.le_refl _) _
 have hZ0 : Bz w.heap.size e (.slice A1 n1 c1) (.slice A2 n2 c2) (.slice A3 n3 c3) (.slice A4 n4 c4) (.slice A5 n5 c5) (.slice A6 n6 c6) W := ⟨by rw [hW]; exact heap_alloc_new w _, hs.below hB0 (Nat.le_refl _)⟩
 have HBW := Lib.hid hB0
 have HZW := Lib.hid hZ0
 have HH := Lib.hid h1
 have HF := Lib.hid (show entB e = false by rw [entB_parts, h1]; rfl)
 clear h1
 clear hs hi hB0 hZ0
 show Calls _ _ #[.agg #[.int .i64 e.kind, .int .i64 e.txn, .int .i64 e.unit, .int .i64 e.half, .int .i64 e.prev, .int .i64 e.next, .int .i64 e.ap, .int .i64 e.ac, .int .i64 e.tp, .int .i64 e.tc, _, _, _, _, _, _]] _ _
 go_enter Tryz.func63, Tryz.ntmps63
 go_upto_region 1 with (fail)
 show Code.wp _ _ _ _ (w.alloc (entO e (.slice A1 n1 c1) (.slice A2 n2 c2) (.slice A3 n3 c3) (.slice A4 n4 c4) (.slice A5 n5 c5) (.slice A6 n6 c6)))
 rw [← hW]
 clear hW
 have x0 : W.cell? ⟨w.heap.size, 0, none⟩ = some (.int .i64 e.kind) := (c_o HZW.out.bx 0).1
 have x1 : W.cell? ⟨w.heap.size, 1, none⟩ = some (.int .i64 e.txn) := (c_o HZW.out.bx 1).1
 have x2 : W.cell? ⟨w.heap.size, 2, none⟩ = some (.int .i64 e.unit) := (c_o HZW.out.bx 2).1
 have x3 : W.cell? ⟨w.heap.size, 3, none⟩ = some (.int .i64 e.half) := (c_o HZW.out.bx 3).1
 have x4 : W.cell? ⟨w.heap.size, 4, none⟩ = some (.int .i64 e.prev) := (c_o HZW.out.bx 4).1
 have x5 : W.cell? ⟨w.heap.size, 5, none⟩ = some (.int .i64 e.next) := (c_o HZW.out.bx 5).1
 have x6 : W.cell? ⟨w.heap.size, 6, none⟩ = some (.int .i64 e.ap) := (c_o HZW.out.bx 6).1
 have x7 : W.cell? ⟨w.heap.size, 7, none⟩ = some (.int .i64 e.ac) := (c_o HZW.out.bx 7).1
 have x8 : W.cell? ⟨w.heap.size, 8, none⟩ = some (.int .i64 e.tp) := (c_o HZW.out.bx 8).1
 have x9 : W.cell? ⟨w.heap.size, 9, none⟩ = some (.int .i64 e.tc) := (c_o HZW.out.bx 9).1
 by_cases k1 : e.kind < 1
 ·go_wp2
  go_ret
  rw [HF.out]
  exact ⟨rfl, HBW.out⟩
 by_cases k2 : 10 < e.kind
 ·go_wp2
  go_ret
  rw [HF.out]
  exact ⟨rfl, HBW.out⟩
 have hk : kindB e.kind = true := by unfold kindB; exact decide_eq_true (by omega)
 have Htxn := Lib.hid (fits_any W e.txn HI.out.txn 1 (.inl rfl))
 cases qtxn : fitB e.txn 1 with
 | false =>
  rw [qtxn] at Htxn
  clear qtxn
  go_wp2_with fail
  refine Htxn.out.mono ?_
  rintro r w1 ⟨rfl, rfl⟩
  go_wp2
  go_ret
  rw [HF.out]
  exact ⟨rfl, HBW.out⟩
 | true =>
  rw [qtxn] at Htxn
  go_wp2_with fail
  refine Htxn.out.mono ?_
  rintro r w1 ⟨rfl, rfl⟩
  clear Htxn
  have Hunit := Lib.hid (fits_any W e.unit HI.out.unit 2 (.inr (.inl rfl)))
  cases qunit : fitB e.unit 2 with
  | false =>
   rw [qunit] at Hunit
   clear qunit
   go_wp2_with fail
   refine Hunit.out.mono ?_
   rintro r w1 ⟨rfl, rfl⟩
   go_wp2
   go_ret
   rw [HF.out]
   exact ⟨rfl, HBW.out⟩
  | true =>
   rw [qunit] at Hunit
   go_wp2_with fail
   refine Hunit.out.mono ?_
   rintro r w1 ⟨rfl, rfl⟩
   clear Hunit
   have Hhalf := Lib.hid (fits_any W e.half HI.out.half 1 (.inl rfl))
   cases qhalf : fitB e.half 1 with
   | false =>
    rw [qhalf] at Hhalf
    clear qhalf
    go_wp2_with fail
    refine Hhalf.out.mono ?_
    rintro r w1 ⟨rfl, rfl⟩
    go_wp2
    go_ret
    rw [HF.out]
    exact ⟨rfl, HBW.out⟩
   | true =>
    rw [qhalf] at Hhalf
    go_wp2_with fail
    refine Hhalf.out.mono ?_
    rintro r w1 ⟨rfl, rfl⟩
    clear Hhalf
    have Hprev := Lib.hid (fits_any W e.prev HI.out.prev 3 (.inr (.inr rfl)))
    cases qprev : fitB e.prev 3 with
    | false =>
     rw [qprev] at Hprev
     clear qprev
     go_wp2_with fail
     refine Hprev.out.mono ?_
     rintro r w1 ⟨rfl, rfl⟩
     go_wp2
     go_ret
     rw [HF.out]
     exact ⟨rfl, HBW.out⟩
    | true =>
     rw [qprev] at Hprev
     go_wp2_with fail
     refine Hprev.out.mono ?_
     rintro r w1 ⟨rfl, rfl⟩
     clear Hprev
     have Hnext := Lib.hid (fits_any W e.next HI.out.next 3 (.inr (.inr rfl)))
     cases qnext : fitB e.next 3 with
     | false =>
      rw [qnext] at Hnext
      clear qnext
      go_wp2_with fail
      refine Hnext.out.mono ?_
      rintro r w1 ⟨rfl, rfl⟩
      go_wp2
      go_ret
      rw [HF.out]
      exact ⟨rfl, HBW.out⟩
     | true =>
      rw [qnext] at Hnext
      go_wp2_with fail
      refine Hnext.out.mono ?_
      rintro r w1 ⟨rfl, rfl⟩
      clear Hnext
      have Hat := Lib.hid (fitsRID_any W e.ap e.ac HI.out.ap HI.out.ac)
      cases qat : plB e.ap e.ac with
      | false =>
       rw [qat] at Hat
       clear qat
       go_wp2_with fail
       refine Hat.out.mono ?_
       rintro r w5 ⟨rfl, hb5⟩
       have HBw5 := Lib.hid (below_on HBW.out hb5)
       have HZw5 := Lib.hid (HZW.out.on hb5)
       clear hb5
       go_wp2
       go_ret
       rw [HF.out]
       exact ⟨rfl, HBw5.out⟩
      | true =>
       rw [qat] at Hat
       go_wp2_with fail
       refine Hat.out.mono ?_
       rintro r w5 ⟨rfl, hb5⟩
       have HBw5 := Lib.hid (below_on HBW.out hb5)
       have HZw5 := Lib.hid (HZW.out.on hb5)
       clear hb5
       clear Hat
       have y58 : w5.cell? ⟨w.heap.size, 8, none⟩ = some (.int .i64 e.tp) := (c_o HZw5.out.bx 8).1
       have y59 : w5.cell? ⟨w.heap.size, 9, none⟩ = some (.int .i64 e.tc) := (c_o HZw5.out.bx 9).1
       have Hto := Lib.hid (fitsRID_any w5 e.tp e.tc HI.out.tp HI.out.tc)
       cases qto : plB e.tp e.tc with
       | false =>
        rw [qto] at Hto
        clear qto
        go_wp2_with fail
        refine Hto.out.mono ?_
        rintro r w6 ⟨rfl, hb6⟩
        have HBw6 := Lib.hid (below_on HBw5.out hb6)
        have HZw6 := Lib.hid (HZw5.out.on hb6)
        clear hb6
        go_wp2
        go_ret
        rw [HF.out]
        exact ⟨rfl, HBw6.out⟩
       | true =>
        rw [qto] at Hto
        go_wp2_with fail
        refine Hto.out.mono ?_
        rintro r w6 ⟨rfl, hb6⟩
        have HBw6 := Lib.hid (below_on HBw5.out hb6)
        have HZw6 := Lib.hid (HZw5.out.on hb6)
        clear hb6
        clear Hto
        have hq : mayB1 e = true := by rw [b1_no e hk qtxn qunit qhalf qprev qnext qat qto]; rfl
        rw [HH.out] at hq
        cases hq
set_option maxRecDepth 100000
open Go.RowKit
set_option maxHeartbeats 4000000 in
theorem rmay_2 (w : World) (e : Ent) {s1 s2 s3 s4 s5 s6 : Value} (hs : EntS w s1 s2 s3 s4 s5 s6 e) (hi : EntI e) (h1 : mayB1 e = true) (h2 : mayB2 e = false) (h3 : (celOk e.old && (celOk e.new && lstB mvB e.moves)) = false) :
  Calls Tryz.prog 63 #[.agg (entC e s1 s2 s3 s4 s5 s6)] w fun r w' => r = .returned (.bool (entB e)) ∧ Below w.heap.size w w' := by
 obtain ⟨A1, c1, A2, c2, A3, c3, A4, c4, A5, c5, A6, c6, rfl, rfl, rfl, rfl, rfl, rfl⟩ := hs.form
 obtain ⟨n1, hn1⟩ : ∃ n, n = e.old.length := ⟨_, rfl⟩
 rw [← hn1] at hs ⊢
 have HN1 := Lib.hid hn1
 obtain ⟨n2, hn2⟩ : ∃ n, n = e.new.length := ⟨_, rfl⟩
 rw [← hn2] at hs ⊢
 have HN2 := Lib.hid hn2
 obtain ⟨n3, hn3⟩ : ∃ n, n = e.moves.length := ⟨_, rfl⟩
 rw [← hn3] at hs ⊢
 have HN3 := Lib.hid hn3
 obtain ⟨n4, hn4⟩ : ∃ n, n = e.lives.length := ⟨_, rfl⟩
 rw [← hn4] at hs ⊢
 have HN4 := Lib.hid hn4
 obtain ⟨n5, hn5⟩ : ∃ n, n = e.dirty.length := ⟨_, rfl⟩
 rw [← hn5] at hs ⊢
 have HN5 := Lib.hid hn5
 obtain ⟨n6, hn6⟩ : ∃ n, n = e.opens.length := ⟨_, rfl⟩
 rw [← hn6] at hs ⊢
 have HN6 := Lib.hid hn6
 clear hn1 hn2 hn3 hn4 hn5 hn6
 have HI := Lib.hid hi
 obtain ⟨W, hW⟩ : ∃ W, W = w.alloc (entO e (.slice A1 n1 c1) (.slice A2 n2 c2) (.slice A3 n3 c3) (.slice A4 n4 c4) (.slice A5 n5 c5) (.slice A6 n6 c6)) := ⟨_, rfl⟩
 have hB0 : Below w.heap.size w W := by rw [hW]; exact (Below.refl _ _).alloc (Nat.le_refl _) _
 have hZ0 : Bz w.heap.size e (.slice A1 n1 c1) (.slice A2 n2 c2) (.slice A3 n3 c3) (.slice A4 n4 c4) (.slice A5 n5 c5) (.slice A6 n6 c6) W := ⟨by rw [hW]; exact heap_alloc_new w _, hs.below hB0 (Nat.le_refl _)⟩
 have HBW := Lib.hid hB0
 have HZW := Lib.hid hZ0
 have HB1 := Lib.hid h1
 have HH := Lib.hid h2
 have HF := Lib.hid (show entB e = false by rw [entB_parts, h2, Bool.false_and, Bool.and_false])
 have HX := Lib.hid h3
 clear h1 h2 h3
 clear hs hi hB0 hZ0
 show Calls _ _ #[.agg #[.int .i64 e.kind, .int .i64 e.txn, .int .i64 e.unit, .int .i64 e.half, .int .i64 e.prev, .int .i64 e.next, .int .i64 e.ap, .int .i64 e.ac, .int .i64 e.tp, .int .i64 e.tc, _, _, _, _, _, _]] _ _
 go_enter Tryz.func63, Tryz.ntmps63
 go_upto_region 1 with (fail)
 show Code.wp _ _ _ _ (w.alloc (entO e (.slice A1 n1 c1) (.slice A2 n2 c2) (.slice A3 n3 c3) (.slice A4 n4 c4) (.slice A5 n5 c5) (.slice A6 n6 c6)))
 rw [← hW]
 clear hW
 go_cut [55] (fun u wx => u = .bool false ∧ Bz w.heap.size e (.slice A1 n1 c1) (.slice A2 n2 c2) (.slice A3 n3 c3) (.slice A4 n4 c4) (.slice A5 n5 c5) (.slice A6 n6 c6) wx ∧ Below w.heap.size w wx)
 case first =>
  have x0 : W.cell? ⟨w.heap.size, 0, none⟩ = some (.int .i64 e.kind) := (c_o HZW.out.bx 0).1
  have x1 : W.cell? ⟨w.heap.size, 1, none⟩ = some (.int .i64 e.txn) := (c_o HZW.out.bx 1).1
  have x2 : W.cell? ⟨w.heap.size, 2, none⟩ = some (.int .i64 e.unit) := (c_o HZW.out.bx 2).1
  have x3 : W.cell? ⟨w.heap.size, 3, none⟩ = some (.int .i64 e.half) := (c_o HZW.out.bx 3).1
  have x4 : W.cell? ⟨w.heap.size, 4, none⟩ = some (.int .i64 e.prev) := (c_o HZW.out.bx 4).1
  have x5 : W.cell? ⟨w.heap.size, 5, none⟩ = some (.int .i64 e.next) := (c_o HZW.out.bx 5).1
  have x6 : W.cell? ⟨w.heap.size, 6, none⟩ = some (.int .i64 e.ap) := (c_o HZW.out.bx 6).1
  have x7 : W.cell? ⟨w.heap.size, 7, none⟩ = some (.int .i64 e.ac) := (c_o HZW.out.bx 7).1
  have x8 : W.cell? ⟨w.heap.size, 8, none⟩ = some (.int .i64 e.tp) := (c_o HZW.out.bx 8).1
  have x9 : W.cell? ⟨w.heap.size, 9, none⟩ = some (.int .i64 e.tc) := (c_o HZW.out.bx 9).1
  have h1 := HB1.out
  simp only [mayB1, Bool.and_eq_true] at h1
  obtain ⟨hk, h2, h3, h4, h5, h6, h7, h8⟩ := h1
  unfold kindB at hk
  rw [decide_eq_true_eq] at hk
  have k1 : ¬ e.kind < 1 := by omega
  have k2 : ¬ 10 < e.kind := by omega
  clear hk
  have Htxn := Lib.hid (fits_any W e.txn HI.out.txn 1 (.inl rfl))
  rw [h2] at Htxn
  have Hunit := Lib.hid (fits_any W e.unit HI.out.unit 2 (.inr (.inl rfl)))
  rw [h3] at Hunit
  have Hhalf := Lib.hid (fits_any W e.half HI.out.half 1 (.inl rfl))
  rw [h4] at Hhalf
  have Hprev := Lib.hid (fits_any W e.prev HI.out.prev 3 (.inr (.inr rfl)))
  rw [h5] at Hprev
  have Hnext := Lib.hid (fits_any W e.next HI.out.next 3 (.inr (.inr rfl)))
  rw [h6] at Hnext
  have HAT := Lib.hid (fitsRID_any W e.ap e.ac HI.out.ap HI.out.ac)
  rw [h7] at HAT
  have HTO : Hid (∀ W, Calls Tryz.prog 85 #[.agg #[.int .i64 e.tp, .int .i64 e.tc]] W fun r w' => r = .returned (.bool true) ∧ Below W.heap.size W w') := fun W => by
   have := fitsRID_any W e.tp e.tc HI.out.tp HI.out.tc
   rw [h8] at this
   exact this
  clear h2 h3 h4 h5 h6 h7 h8
  go_wp2_with fail
  refine Htxn.out.mono ?_
  rintro r w1 ⟨rfl, rfl⟩
  clear Htxn
  go_wp2_with fail
  refine Hunit.out.mono ?_
  rintro r w1 ⟨rfl, rfl⟩
  clear Hunit
  go_wp2_with fail
  refine Hhalf.out.mono ?_
  rintro r w1 ⟨rfl, rfl⟩
  clear Hhalf
  go_wp2_with fail
  refine Hprev.out.mono ?_
  rintro r w1 ⟨rfl, rfl⟩
  clear Hprev
  go_wp2_with fail
  refine Hnext.out.mono ?_
  rintro r w1 ⟨rfl, rfl⟩
  clear Hnext
  go_wp2_with fail
  refine HAT.out.mono ?_
  rintro r w5 ⟨rfl, hb5⟩
  have HB5 := Lib.hid (below_on HBW.out hb5)
  have HZ5 := Lib.hid (HZW.out.on hb5)
  have y8 : w5.cell? ⟨w.heap.size, 8, none⟩ = some (.int .i64 e.tp) := (c_o HZ5.out.bx 8).1
  have y9 : w5.cell? ⟨w.heap.size, 9, none⟩ = some (.int .i64 e.tc) := (c_o HZ5.out.bx 9).1
  clear HAT hb5 x0 x1 x2 x3 x4 x5 x6 x7 x8 x9
  go_wp2_with fail
  refine (HTO.out _).mono ?_
  rintro r w6 ⟨rfl, hb6⟩
  have HB6 := Lib.hid (below_on HB5.out hb6)
  have HZ6 := Lib.hid (HZ5.out.on hb6)
  clear hb6 y8 y9
  go_wp2
  go_meet
  exact ⟨rfl, HZ6.out, HB6.out⟩
 case rest =>
  obtain ⟨rfl, hz3, hb3⟩ := hcut
  have HZ3 := Lib.hid hz3
  have HB3 := Lib.hid hb3
  clear hz3 hb3 HZW HBW
  generalize wc = w3 at *
  go_upto_region 3 with (fail)
  have x0 : w3.cell? ⟨w.heap.size, 10, none⟩ = some (.slice A1 n1 c1) := (c_o HZ3.out.bx 10).1
  have x1 : w3.cell? ⟨w.heap.size, 11, none⟩ = some (.slice A2 n2 c2) := (c_o HZ3.out.bx 11).1
  have x2 : w3.cell? ⟨w.heap.size, 12, none⟩ = some (.slice A3 n3 c3) := (c_o HZ3.out.bx 12).1
  by_cases o0 : n1 = 0 ∨ n1 = 26
  rotate_left
  ·have z1 : ¬ (n1 : Int) = 0 := by omega
   have z2 : ¬ (n1 : Int) = 26 := by omega
   clear o0
   go_wp2
   go_ret
   rw [HF.out]
   exact ⟨rfl, HB3.out⟩
  have HO : Hid (celOk e.old = true) := by show celOk e.old = true; unfold celOk; rw [← HN1.out]; rcases o0 with h | h <;> rw [h] <;> rfl
  by_cases p0 : n2 = 0 ∨ n2 = 26
  rotate_left
  ·have z1 : ¬ (n2 : Int) = 0 := by omega
   have z2 : ¬ (n2 : Int) = 26 := by omega
   clear p0 HO
   rcases o0 with rfl | rfl
   all_goals
    go_wp2
    go_ret
    rw [HF.out]
    exact ⟨rfl, HB3.out⟩
  have HN : Hid (celOk e.new = true) := by show celOk e.new = true; unfold celOk; rw [← HN2.out]; rcases p0 with h | h <;> rw [h] <;> rfl
  have HFM := Lib.hid (fitsMoves_any HZ3.out.s.moves HI.out.moves)
  cases qm : lstB mvB e.moves with
  | false =>
   rw [qm] at HFM
   clear qm HO HN
   rcases o0 with rfl | rfl <;> rcases p0 with rfl | rfl
   all_goals
    go_wp2_with fail
    refine HFM.out.mono ?_
    rintro r w5 ⟨rfl, hb5⟩
    have HB5 := Lib.hid (below_on HB3.out hb5)
    have HZ5 := Lib.hid (HZ3.out.on hb5)
    clear hb5
    go_wp2
    go_ret
    rw [HF.out]
    exact ⟨rfl, HB5.out⟩
  | true =>
   have hx := HX.out
   rw [HO.out, HN.out, qm] at hx
   cases hx
set_option maxRecDepth 100000
open Go.RowKit
set_option maxHeartbeats 4000000 in
theorem rmay_3 (w : World) (e : Ent) {s1 s2 s3 s4 s5 s6 : Value} (hs : EntS w s1 s2 s3 s4 s5 s6 e) (hi : EntI e) (h1 : mayB1 e = true) (h2 : mayB2 e = false) (h3 : (celOk e.old && (celOk e.new && lstB mvB e.moves)) = true) :
  Calls Tryz.prog 63 #[.agg (entC e s1 s2 s3 s4 s5 s6)] w fun r w' => r = .returned (.bool (entB e)) ∧ Below w.heap.size w w' := by
 obtain ⟨A1, c1, A2, c2, A3, c3, A4, c4, A5, c5, A6, c6, rfl, rfl, rfl, rfl, rfl, rfl⟩ := hs.form
 obtain ⟨n1, hn1⟩ : ∃ n, n = e.old.length := ⟨_, rfl⟩
 rw [← hn1] at hs ⊢
 have HN1 := Lib.hid hn1
 obtain ⟨n2, hn2⟩ : ∃ n, n = e.new.length := ⟨_, rfl⟩
 rw [← hn2] at hs ⊢
 have HN2 := Lib.hid hn2
 obtain ⟨n3, hn3⟩ : ∃ n, n = e.moves.length := ⟨_, rfl⟩
 rw [← hn3] at hs ⊢
 have HN3 := Lib.hid hn3
 obtain ⟨n4, hn4⟩ : ∃ n, n = e.lives.length := ⟨_, rfl⟩
 rw [← hn4] at hs ⊢
 have HN4 := Lib.hid hn4
 obtain ⟨n5, hn5⟩ : ∃ n, n = e.dirty.length := ⟨_, rfl⟩
 rw [← hn5] at hs ⊢
 have HN5 := Lib.hid hn5
 obtain ⟨n6, hn6⟩ : ∃ n, n = e.opens.length := ⟨_, rfl⟩
 rw [← hn6] at hs ⊢
 have HN6 := Lib.hid hn6
 clear hn1 hn2 hn3 hn4 hn5 hn6
 have HI := Lib.hid hi
 obtain ⟨W, hW⟩ : ∃ W, W = w.alloc (entO e (.slice A1 n1 c1) (.slice A2 n2 c2) (.slice A3 n3 c3) (.slice A4 n4 c4) (.slice A5 n5 c5) (.slice A6 n6 c6)) := ⟨_, rfl⟩
 have hB0 : Below w.heap.size w W := by rw [hW]; exact (Below.refl _ _).alloc (Nat.le_refl _) _
 have hZ0 : Bz w.heap.size e (.slice A1 n1 c1) (.slice A2 n2 c2) (.slice A3 n3 c3) (.slice A4 n4 c4) (.slice A5 n5 c5) (.slice A6 n6 c6) W := ⟨by rw [hW]; exact heap_alloc_new w _, hs.below hB0 (Nat.le_refl _)⟩
 have HBW := Lib.hid hB0
 have HZW := Lib.hid hZ0
 have HB1 := Lib.hid h1
 have HH := Lib.hid h2
 have HF := Lib.hid (show entB e = false by rw [entB_parts, h2, Bool.false_and, Bool.and_false])
 have HX := Lib.hid h3
 clear h1 h2 h3
 clear hs hi hB0 hZ0
 show Calls _ _ #[.agg #[.int .i64 e.kind, .int .i64 e.txn, .int .i64 e.unit, .int .i64 e.half, .int .i64 e.prev, .int .i64 e.next, .int .i64 e.ap, .int .i64 e.ac, .int .i64 e.tp, .int .i64 e.tc, _, _, _, _, _, _]] _ _
 go_enter Tryz.func63, Tryz.ntmps63
 go_upto_region 1 with (fail)
 show Code.wp _ _ _ _ (w.alloc (entO e (.slice A1 n1 c1) (.slice A2 n2 c2) (.slice A3 n3 c3) (.slice A4 n4 c4) (.slice A5 n5 c5) (.slice A6 n6 c6)))
 rw [← hW]
 clear hW
 go_cut [55] (fun u wx => u = .bool false ∧ Bz w.heap.size e (.slice A1 n1 c1) (.slice A2 n2 c2) (.slice A3 n3 c3) (.slice A4 n4 c4) (.slice A5 n5 c5) (.slice A6 n6 c6) wx ∧ Below w.heap.size w wx)
 case first =>
  have x0 : W.cell? ⟨w.heap.size, 0, none⟩ = some (.int .i64 e.kind) := (c_o HZW.out.bx 0).1
  have x1 : W.cell? ⟨w.heap.size, 1, none⟩ = some (.int .i64 e.txn) := (c_o HZW.out.bx 1).1
  have x2 : W.cell? ⟨w.heap.size, 2, none⟩ = some (.int .i64 e.unit) := (c_o HZW.out.bx 2).1
  have x3 : W.cell? ⟨w.heap.size, 3, none⟩ = some (.int .i64 e.half) := (c_o HZW.out.bx 3).1
  have x4 : W.cell? ⟨w.heap.size, 4, none⟩ = some (.int .i64 e.prev) := (c_o HZW.out.bx 4).1
  have x5 : W.cell? ⟨w.heap.size, 5, none⟩ = some (.int .i64 e.next) := (c_o HZW.out.bx 5).1
  have x6 : W.cell? ⟨w.heap.size, 6, none⟩ = some (.int .i64 e.ap) := (c_o HZW.out.bx 6).1
  have x7 : W.cell? ⟨w.heap.size, 7, none⟩ = some (.int .i64 e.ac) := (c_o HZW.out.bx 7).1
  have x8 : W.cell? ⟨w.heap.size, 8, none⟩ = some (.int .i64 e.tp) := (c_o HZW.out.bx 8).1
  have x9 : W.cell? ⟨w.heap.size, 9, none⟩ = some (.int .i64 e.tc) := (c_o HZW.out.bx 9).1
  have h1 := HB1.out
  simp only [mayB1, Bool.and_eq_true] at h1
  obtain ⟨hk, h2, h3, h4, h5, h6, h7, h8⟩ := h1
  unfold kindB at hk
  rw [decide_eq_true_eq] at hk
  have k1 : ¬ e.kind < 1 := by omega
  have k2 : ¬ 10 < e.kind := by omega
  clear hk
  have Htxn := Lib.hid (fits_any W e.txn HI.out.txn 1 (.inl rfl))
  rw [h2] at Htxn
  have Hunit := Lib.hid (fits_any W e.unit HI.out.unit 2 (.inr (.inl rfl)))
  rw [h3] at Hunit
  have Hhalf := Lib.hid (fits_any W e.half HI.out.half 1 (.inl rfl))
  rw [h4] at Hhalf
  have Hprev := Lib.hid (fits_any W e.prev HI.out.prev 3 (.inr (.inr rfl)))
  rw [h5] at Hprev
  have Hnext := Lib.hid (fits_any W e.next HI.out.next 3 (.inr (.inr rfl)))
  rw [h6] at Hnext
  have HAT := Lib.hid (fitsRID_any W e.ap e.ac HI.out.ap HI.out.ac)
  rw [h7] at HAT
  have HTO : Hid (∀ W, Calls Tryz.prog 85 #[.agg #[.int .i64 e.tp, .int .i64 e.tc]] W fun r w' => r = .returned (.bool true) ∧ Below W.heap.size W w') := fun W => by
   have := fitsRID_any W e.tp e.tc HI.out.tp HI.out.tc
   rw [h8] at this
   exact this
  clear h2 h3 h4 h5 h6 h7 h8
  go_wp2_with fail
  refine Htxn.out.mono ?_
  rintro r w1 ⟨rfl, rfl⟩
  clear Htxn
  go_wp2_with fail
  refine Hunit.out.mono ?_
  rintro r w1 ⟨rfl, rfl⟩
  clear Hunit
  go_wp2_with fail
  refine Hhalf.out.mono ?_
  rintro r w1 ⟨rfl, rfl⟩
  clear Hhalf
  go_wp2_with fail
  refine Hprev.out.mono ?_
  rintro r w1 ⟨rfl, rfl⟩
  clear Hprev
  go_wp2_with fail
  refine Hnext.out.mono ?_
  rintro r w1 ⟨rfl, rfl⟩
  clear Hnext
  go_wp2_with fail
  refine HAT.out.mono ?_
  rintro r w5 ⟨rfl, hb5⟩
  have HB5 := Lib.hid (below_on HBW.out hb5)
  have HZ5 := Lib.hid (HZW.out.on hb5)
  have y8 : w5.cell? ⟨w.heap.size, 8, none⟩ = some (.int .i64 e.tp) := (c_o HZ5.out.bx 8).1
  have y9 : w5.cell? ⟨w.heap.size, 9, none⟩ = some (.int .i64 e.tc) := (c_o HZ5.out.bx 9).1
  clear HAT hb5 x0 x1 x2 x3 x4 x5 x6 x7 x8 x9
  go_wp2_with fail
  refine (HTO.out _).mono ?_
  rintro r w6 ⟨rfl, hb6⟩
  have HB6 := Lib.hid (below_on HB5.out hb6)
  have HZ6 := Lib.hid (HZ5.out.on hb6)
  clear hb6 y8 y9
  go_wp2
  go_meet
  exact ⟨rfl, HZ6.out, HB6.out⟩
 case rest =>
  obtain ⟨rfl, hz3, hb3⟩ := hcut
  have HZ3 := Lib.hid hz3
  have HB3 := Lib.hid hb3
  clear hz3 hb3 HZW HBW
  generalize wc = w3 at *
  go_upto_region 3 with (fail)
  have x0 : w3.cell? ⟨w.heap.size, 10, none⟩ = some (.slice A1 n1 c1) := (c_o HZ3.out.bx 10).1
  have x1 : w3.cell? ⟨w.heap.size, 11, none⟩ = some (.slice A2 n2 c2) := (c_o HZ3.out.bx 11).1
  have x2 : w3.cell? ⟨w.heap.size, 12, none⟩ = some (.slice A3 n3 c3) := (c_o HZ3.out.bx 12).1
  have hx := HX.out
  simp only [Bool.and_eq_true] at hx
  obtain ⟨ho, hn, hm⟩ := hx
  have HO := Lib.hid ho
  have HN := Lib.hid hn
  have HM := Lib.hid hm
  have o0 : n1 = 0 ∨ n1 = 26 := by rw [HN1.out]; unfold celOk at ho; simpa using ho
  have p0 : n2 = 0 ∨ n2 = 26 := by rw [HN2.out]; unfold celOk at hn; simpa using hn
  have HFM := Lib.hid (fitsMoves_any HZ3.out.s.moves HI.out.moves)
  rw [hm] at HFM
  clear ho hn hm HX
  rcases o0 with rfl | rfl <;> rcases p0 with rfl | rfl
  all_goals
   go_wp2_with fail
   refine HFM.out.mono ?_
   rintro r w5 ⟨rfl, hb5⟩
   have HB5 := Lib.hid (below_on HB3.out hb5)
   have HZ5 := Lib.hid (HZ3.out.on hb5)
   have y3 : w5.cell? ⟨w.heap.size, 13, none⟩ = some (.slice A4 n4 c4) := (c_o HZ5.out.bx 13).1
   have y4 : w5.cell? ⟨w.heap.size, 14, none⟩ = some (.slice A5 n5 c5) := (c_o HZ5.out.bx 14).1
   have y5 : w5.cell? ⟨w.heap.size, 15, none⟩ = some (.slice A6 n6 c6) := (c_o HZ5.out.bx 15).1
   clear hb5 HFM x0 x1 x2
   by_cases l4 : 40 < n4
   ·have z1 : (40 : Int) < (n4 : Int) := by omega
    go_wp2
    go_ret
    rw [HF.out]
    exact ⟨rfl, HB5.out⟩
   ·have z4 : ¬ (40 : Int) < (n4 : Int) := by omega
    by_cases l5 : 40 < n5
    ·have z1 : (40 : Int) < (n5 : Int) := by omega
     go_wp2
     go_ret
     rw [HF.out]
     exact ⟨rfl, HB5.out⟩
    ·have z5 : ¬ (40 : Int) < (n5 : Int) := by omega
     by_cases l6 : 40 < n6
     ·have z1 : (40 : Int) < (n6 : Int) := by omega
      go_wp2
      go_ret
      rw [HF.out]
      exact ⟨rfl, HB5.out⟩
     ·have hq : mayB2 e = true := by unfold mayB2; rw [HO.out, HN.out, HM.out, ← HN4.out, ← HN5.out, ← HN6.out, decide_eq_true (by omega : n4 ≤ 40), decide_eq_true (by omega : n5 ≤ 40), decide_eq_true (by omega : n6 ≤ 40)]; rfl
      rw [HH.out] at hq
      cases hq
end Go.Proofs.YthmgafcnoedmjaaGreat
