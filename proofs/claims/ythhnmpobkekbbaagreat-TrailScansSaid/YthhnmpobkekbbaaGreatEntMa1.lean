/- The reference's MayEntry: rmay_1. -/
import Derived.Test.YthhnmpobkekbbaaGreatEntMa0
namespace Go.Proofs.YthhnmpobkekbbaaGreat
open Go.RowKit

set_option maxRecDepth 100000 in
set_option maxHeartbeats 4000000 in
theorem rmay_1 (w : World) (e : Ent) {s1 s2 s3 s4 s5 s6 : Value} (hs : EntS w s1 s2 s3 s4 s5 s6 e) (hi : EntI e) (h1 : mayB1 e = false) :
    Calls Tryz.prog 63 #[.agg (entC e s1 s2 s3 s4 s5 s6)] w fun r w' => r = .returned (.bool (entB e)) ∧ Below w.heap.size w w' := by
  obtain ⟨A1, c1, A2, c2, A3, c3, A4, c4, A5, c5, A6, c6, rfl, rfl, rfl, rfl, rfl, rfl⟩ := hs.form
  obtain ⟨n1, hn1⟩ : ∃ n, n = e.old.length := ⟨_, rfl⟩
  rw [← hn1] at hs ⊢
  have HN1 := Lib.hid hn1
  obtain ⟨n2, hn2⟩ : ∃ n, n = e.new.length := ⟨_, rfl⟩
  rw [← hn2] at hs ⊢
  have HN2 := Lib.hid hn2
  obtain ⟨n3, hn3⟩ : ∃ n, n = e.moves.length := ⟨_, rfl⟩
  rw [← hn3] at hs ⊢
  have HN3 := Lib.hid hn3
  obtain ⟨n4, hn4⟩ : ∃ n, n = e.lives.length := ⟨_, rfl⟩
  rw [← hn4] at hs ⊢
  have HN4 := Lib.hid hn4
  obtain ⟨n5, hn5⟩ : ∃ n, n = e.dirty.length := ⟨_, rfl⟩
  rw [← hn5] at hs ⊢
  have HN5 := Lib.hid hn5
  obtain ⟨n6, hn6⟩ : ∃ n, n = e.opens.length := ⟨_, rfl⟩
  rw [← hn6] at hs ⊢
  have HN6 := Lib.hid hn6
  clear hn1 hn2 hn3 hn4 hn5 hn6
  have HI := Lib.hid hi
  obtain ⟨W, hW⟩ : ∃ W, W = w.alloc (entO e (.slice A1 n1 c1) (.slice A2 n2 c2) (.slice A3 n3 c3) (.slice A4 n4 c4) (.slice A5 n5 c5) (.slice A6 n6 c6)) := ⟨_, rfl⟩
  have hB0 : Below w.heap.size w W := by rw [hW]; exact (Below.refl _ _).alloc (Nat.le_refl _) _
  have hZ0 : Bz w.heap.size e (.slice A1 n1 c1) (.slice A2 n2 c2) (.slice A3 n3 c3) (.slice A4 n4 c4) (.slice A5 n5 c5) (.slice A6 n6 c6) W := ⟨by rw [hW]; exact heap_alloc_new w _, hs.below hB0 (Nat.le_refl _)⟩
  have HBW := Lib.hid hB0
  have HZW := Lib.hid hZ0
  have HH := Lib.hid h1
  have HF := Lib.hid (show entB e = false by rw [entB_parts, h1]; rfl)
  clear h1
  clear hs hi hB0 hZ0
  show Calls _ _ #[.agg #[.int .i64 e.kind, .int .i64 e.txn, .int .i64 e.unit, .int .i64 e.half, .int .i64 e.prev, .int .i64 e.next, .int .i64 e.ap, .int .i64 e.ac, .int .i64 e.tp, .int .i64 e.tc, _, _, _, _, _, _]] _ _
  go_enter Tryz.func63, Tryz.ntmps63
  go_upto_region 1 with (fail)
  show Code.wp _ _ _ _ (w.alloc (entO e (.slice A1 n1 c1) (.slice A2 n2 c2) (.slice A3 n3 c3) (.slice A4 n4 c4) (.slice A5 n5 c5) (.slice A6 n6 c6)))
  rw [← hW]
  clear hW
  have x0 : W.cell? ⟨w.heap.size, 0, none⟩ = some (.int .i64 e.kind) := (cell_of HZW.out.bx 0).1
  have x1 : W.cell? ⟨w.heap.size, 1, none⟩ = some (.int .i64 e.txn) := (cell_of HZW.out.bx 1).1
  have x2 : W.cell? ⟨w.heap.size, 2, none⟩ = some (.int .i64 e.unit) := (cell_of HZW.out.bx 2).1
  have x3 : W.cell? ⟨w.heap.size, 3, none⟩ = some (.int .i64 e.half) := (cell_of HZW.out.bx 3).1
  have x4 : W.cell? ⟨w.heap.size, 4, none⟩ = some (.int .i64 e.prev) := (cell_of HZW.out.bx 4).1
  have x5 : W.cell? ⟨w.heap.size, 5, none⟩ = some (.int .i64 e.next) := (cell_of HZW.out.bx 5).1
  have x6 : W.cell? ⟨w.heap.size, 6, none⟩ = some (.int .i64 e.ap) := (cell_of HZW.out.bx 6).1
  have x7 : W.cell? ⟨w.heap.size, 7, none⟩ = some (.int .i64 e.ac) := (cell_of HZW.out.bx 7).1
  have x8 : W.cell? ⟨w.heap.size, 8, none⟩ = some (.int .i64 e.tp) := (cell_of HZW.out.bx 8).1
  have x9 : W.cell? ⟨w.heap.size, 9, none⟩ = some (.int .i64 e.tc) := (cell_of HZW.out.bx 9).1
  by_cases k1 : e.kind < 1
  · go_wp2
    go_ret
    rw [HF.out]
    exact ⟨rfl, HBW.out⟩
  by_cases k2 : 10 < e.kind
  · go_wp2
    go_ret
    rw [HF.out]
    exact ⟨rfl, HBW.out⟩
  have hk : kindB e.kind = true := by unfold kindB; exact decide_eq_true (by omega)
  have Htxn := Lib.hid (fits_any W e.txn HI.out.txn 1 (.inl rfl))
  cases qtxn : fitB e.txn 1 with
  | false =>
    rw [qtxn] at Htxn
    clear qtxn
    go_wp2_with fail
    refine Htxn.out.mono ?_
    rintro r w1 ⟨rfl, rfl⟩
    go_wp2
    go_ret
    rw [HF.out]
    exact ⟨rfl, HBW.out⟩
  | true =>
    rw [qtxn] at Htxn
    go_wp2_with fail
    refine Htxn.out.mono ?_
    rintro r w1 ⟨rfl, rfl⟩
    clear Htxn
    have Hunit := Lib.hid (fits_any W e.unit HI.out.unit 2 (.inr (.inl rfl)))
    cases qunit : fitB e.unit 2 with
    | false =>
      rw [qunit] at Hunit
      clear qunit
      go_wp2_with fail
      refine Hunit.out.mono ?_
      rintro r w1 ⟨rfl, rfl⟩
      go_wp2
      go_ret
      rw [HF.out]
      exact ⟨rfl, HBW.out⟩
    | true =>
      rw [qunit] at Hunit
      go_wp2_with fail
      refine Hunit.out.mono ?_
      rintro r w1 ⟨rfl, rfl⟩
      clear Hunit
      have Hhalf := Lib.hid (fits_any W e.half HI.out.half 1 (.inl rfl))
      cases qhalf : fitB e.half 1 with
      | false =>
        rw [qhalf] at Hhalf
        clear qhalf
        go_wp2_with fail
        refine Hhalf.out.mono ?_
        rintro r w1 ⟨rfl, rfl⟩
        go_wp2
        go_ret
        rw [HF.out]
        exact ⟨rfl, HBW.out⟩
      | true =>
        rw [qhalf] at Hhalf
        go_wp2_with fail
        refine Hhalf.out.mono ?_
        rintro r w1 ⟨rfl, rfl⟩
        clear Hhalf
        have Hprev := Lib.hid (fits_any W e.prev HI.out.prev 3 (.inr (.inr rfl)))
        cases qprev : fitB e.prev 3 with
        | false =>
          rw [qprev] at Hprev
          clear qprev
          go_wp2_with fail
          refine Hprev.out.mono ?_
          rintro r w1 ⟨rfl, rfl⟩
          go_wp2
          go_ret
          rw [HF.out]
          exact ⟨rfl, HBW.out⟩
        | true =>
          rw [qprev] at Hprev
          go_wp2_with fail
          refine Hprev.out.mono ?_
          rintro r w1 ⟨rfl, rfl⟩
          clear Hprev
          have Hnext := Lib.hid (fits_any W e.next HI.out.next 3 (.inr (.inr rfl)))
          cases qnext : fitB e.next 3 with
          | false =>
            rw [qnext] at Hnext
            clear qnext
            go_wp2_with fail
            refine Hnext.out.mono ?_
            rintro r w1 ⟨rfl, rfl⟩
            go_wp2
            go_ret
            rw [HF.out]
            exact ⟨rfl, HBW.out⟩
          | true =>
            rw [qnext] at Hnext
            go_wp2_with fail
            refine Hnext.out.mono ?_
            rintro r w1 ⟨rfl, rfl⟩
            clear Hnext
            have Hat := Lib.hid (fitsRID_any W e.ap e.ac HI.out.ap HI.out.ac)
            cases qat : plB e.ap e.ac with
            | false =>
              rw [qat] at Hat
              clear qat
              go_wp2_with fail
              refine Hat.out.mono ?_
              rintro r w5 ⟨rfl, hb5⟩
              have HBw5 := Lib.hid (below_on HBW.out hb5)
              have HZw5 := Lib.hid (HZW.out.on hb5)
              clear hb5
              go_wp2
              go_ret
              rw [HF.out]
              exact ⟨rfl, HBw5.out⟩
            | true =>
              rw [qat] at Hat
              go_wp2_with fail
              refine Hat.out.mono ?_
              rintro r w5 ⟨rfl, hb5⟩
              have HBw5 := Lib.hid (below_on HBW.out hb5)
              have HZw5 := Lib.hid (HZW.out.on hb5)
              clear hb5
              clear Hat
              have y58 : w5.cell? ⟨w.heap.size, 8, none⟩ = some (.int .i64 e.tp) := (cell_of HZw5.out.bx 8).1
              have y59 : w5.cell? ⟨w.heap.size, 9, none⟩ = some (.int .i64 e.tc) := (cell_of HZw5.out.bx 9).1
              have Hto := Lib.hid (fitsRID_any w5 e.tp e.tc HI.out.tp HI.out.tc)
              cases qto : plB e.tp e.tc with
              | false =>
                rw [qto] at Hto
                clear qto
                go_wp2_with fail
                refine Hto.out.mono ?_
                rintro r w6 ⟨rfl, hb6⟩
                have HBw6 := Lib.hid (below_on HBw5.out hb6)
                have HZw6 := Lib.hid (HZw5.out.on hb6)
                clear hb6
                go_wp2
                go_ret
                rw [HF.out]
                exact ⟨rfl, HBw6.out⟩
              | true =>
                rw [qto] at Hto
                go_wp2_with fail
                refine Hto.out.mono ?_
                rintro r w6 ⟨rfl, hb6⟩
                have HBw6 := Lib.hid (below_on HBw5.out hb6)
                have HZw6 := Lib.hid (HZw5.out.on hb6)
                clear hb6
                clear Hto
                have hq : mayB1 e = true := by rw [b1_no e hk qtxn qunit qhalf qprev qnext qat qto]; rfl
                rw [HH.out] at hq
                cases hq
end Go.Proofs.YthhnmpobkekbbaaGreat
