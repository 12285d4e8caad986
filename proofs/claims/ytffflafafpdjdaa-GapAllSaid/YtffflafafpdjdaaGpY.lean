/- The reference's Next. -/
import Derived.Test.YtffflafafpdjdaaGpT
namespace Go.Proofs.Ytffflafafpdjdaa
open Go.RowKit Go.Maps Go.WideMaps

theorem okX_at (s : St) (who : Int) {A i j : Nat} (hA : A + i < 32) (hj : j < 4) : okX s who (A + i, j) = s.free' who ((A : Int) + (i : Int)) (j : Int) := by
  unfold okX
  rw [show (A + i, j).1 % 32 = A + i from Nat.mod_eq_of_lt (by show A + i < 32; omega), show (A + i, j).2 % 4 = j from Nat.mod_eq_of_lt hj, Int.natCast_add]
theorem next_end_r {W : World} {tmps : Array Value} {g3 : Nat} {p c : Int} {b : Bool} (h3 : tmps.getD 10 undef = .pointer (some ⟨g3, 0, none⟩)) (h4 : tmps.getD 11 undef = .bool b)
    (k3 : BoxR W g3 p c) : (results Try.f16 tmps).run Try.prog W = .ok (.tuple #[.agg #[.int .i64 p, .int .i64 c], .bool b]) W := by
  rw [Array.getD_eq_getD_getElem?] at h3 h4
  have b0 := (cell_of (cs := #[.int .i64 p, .int .i64 c]) k3 0).1
  have b1 := (cell_of (cs := #[.int .i64 p, .int .i64 c]) k3 1).1
  simp [results, Try.results16, go_sem, h3, h4, b0, b1]
theorem set2 {W : World} {d : Nat} {p c : Int} (h : BoxR W d p c) (p' c' : Int) :
    ∃ W', ((W.setCell ⟨d, 0, none⟩ (.int .i64 p')).setCell ⟨d, 1, none⟩ (.int .i64 c')) = W' ∧ BoxR W' d p' c' ∧ Below d W W' :=
  ⟨_, rfl, h.set p' c', ((Below.refl d W).setCell (p := ⟨d, 0, none⟩) (Nat.le_refl _) _).setCell (p := ⟨d, 1, none⟩) (Nat.le_refl _) _⟩
theorem nxV_at {A i j : Nat} (hA : A + i < 32) (hj : j < 4) : nxV (some (A + i, j)) = .tuple #[.agg #[.int .i64 ((A : Int) + (i : Int)), .int .i64 (j : Int)], .bool true] := by
  unfold nxV
  show Value.tuple #[.agg #[.int .i64 (((A + i, j).1 % 32 : Nat) : Int), .int .i64 (((A + i, j).2 % 4 : Nat) : Int)], .bool true] = _
  rw [show (A + i, j).1 % 32 = A + i from Nat.mod_eq_of_lt (by show A + i < 32; omega), show (A + i, j).2 % 4 = j from Nat.mod_eq_of_lt hj, Int.natCast_add]

set_option maxRecDepth 100000 in
set_option maxHeartbeats 2000000 in
theorem next_r (w : World) {g b1 b2 n : Nat} {s : St} (h : RA w g b1 b2 n s) (from' to' cells who : Int) :
    Calls Try.prog 16 #[.pointer (some ⟨g, 0, none⟩), .int .i64 from', .int .i64 to', .int .i64 cells, .int .i64 who] w fun e w' => e = .returned (nxV ((All s.N from' to' cells).find? (okX s who))) ∧ Below w.heap.size w w' := by
  have HH := Lib.hid h
  have hN32 : (s.N : Int) ≤ 32 := by have := h.ok.le; omega
  obtain ⟨A, M, K, ha⟩ := cells_facts s.N from' to' cells
  have HA := Lib.hid ha
  have hK4 : K ≤ 4 := by omega
  have R0 : Hid (BoxR (w.alloc (.cells #[.int .i64 0, .int .i64 0] 29)) w.heap.size 0 0 ∧ Below w.heap.size w (w.alloc (.cells #[.int .i64 0, .int .i64 0] 29))) := ⟨heap_alloc_new_ _ _, (Below.refl _ _).alloc (Nat.le_refl _) _⟩
  clear h ha
  go_enter Try.func16, Try.ntmps16
  go_wp2
  all_goals
    go_loopw [12] (fun p wr => Hid (∃ i : Nat, i ≤ M ∧ p = .int .i64 ((A : Int) + (i : Int)) ∧ (∀ y ∈ Lp A K i 0, okX s who y = false) ∧ BoxR wr w.heap.size 0 0 ∧ Below w.heap.size w wr)) (fun p _ => A + M - (RowKit.intOf p).toNat)
    case atStart =>
      have := HA.out.2.1
      exact ⟨0, Nat.zero_le _, by congr 1; omega, (fun y hy => by rw [Lp_zero] at hy; simp [rows] at hy), R0.out.1, R0.out.2⟩
    case round =>
      obtain ⟨i, hi, rfl, hF, hX, hb⟩ := hrel.out
      have hR := HH.out.on_ hb
      obtain ⟨c0, _, _⟩ := hR.c
      have HB := Lib.hid hb
      have HF := Lib.hid hF
      have HX := Lib.hid hX
      clear hrel hR hb hF hX R0
      have hA0 : (0 : Int) ≤ (A : Int) + (i : Int) := by omega
      by_cases hlt : i < M
      · have h1 : (A : Int) + (i : Int) < to' := by have := HA.out; omega
        have h2 : (A : Int) + (i : Int) < (s.N : Int) := by have := HA.out; omega
        have h3 : (A : Int) + (i : Int) < 32 := by omega
        have HLT := Lib.hid hlt
        clear hi hlt
        go_wp2
        go_loopw [13] (fun q wr => Hid (∃ j : Nat, j ≤ K ∧ q = .int .i64 (j : Int) ∧ (∀ y ∈ Lp A K i j, okX s who y = false) ∧ BoxR wr w.heap.size 0 0 ∧ Below w.heap.size w wr)) (fun q _ => K - (RowKit.intOf q).toNat)
        case atStart => exact ⟨0, by omega, rfl, HF.out, HX.out, HB.out⟩
        case round =>
          obtain ⟨j, hj, rfl, hF, hX, hb⟩ := hrel.out
          by_cases hjK : j < K
          · have hj4 : j < 4 := by omega
            have hj4I : (j : Int) < 4 := by omega
            have hjc : (j : Int) < cells := by have := HA.out; omega
            have hwi : Wf ((A : Int) + (i : Int)) := wf_small (by omega)
            have hwj : Wf (j : Int) := wf_small (by omega)
            have hR := HH.out.on_ hb
            have HJ := Lib.hid (And.intro hjK hj4)
            have HO := Lib.hid (okX_at s who (A := A) (i := i) (by omega) hj4)
            have HNX := Lib.hid (nxV_at (A := A) (i := i) (by omega) hj4)
            have HPRE := Lib.hid (Lp_pre A (n := M) (i := i) (k := K) (j := j + 1) HLT.out hjK)
            have hx2 := hX.lt
            have HRR := Lib.hid hR
            have HB2 := Lib.hid hb
            have HX2 := Lib.hid hX
            have HF2 := Lib.hid hF
            have HW := Lib.hid (And.intro hwi hwj)
            clear hrel hb hj hj4 hjK hR hwi hwj c0 hX hF HF HX
            go_upto_region 8 with fail
            have hb3 := (Below.refl wr.heap.size wr).alloc (Nat.le_refl _) (.cells #[.int .i64 ((A : Int) + (i : Int)), .int .i64 (j : Int)] 29)
            have hR3 := HRR.out.on_ hb3
            obtain ⟨_, c1, c2⟩ := hR3.c
            have d0 := (al_new wr #[.int .i64 ((A : Int) + (i : Int)), .int .i64 (j : Int)] 29 0).1
            have d1 := (al_new wr #[.int .i64 ((A : Int) + (i : Int)), .int .i64 (j : Int)] 29 1).1
            have hzz : wr.heap.size < (wr.alloc (.cells #[.int .i64 ((A : Int) + (i : Int)), .int .i64 (j : Int)] 29)).heap.size := by simp
            have HB4 := Lib.hid (HB2.out.alloc HB2.out.size (.cells #[.int .i64 ((A : Int) + (i : Int)), .int .i64 (j : Int)] 29))
            have HX4 := Lib.hid (HX2.out.kept (hb3.block w.heap.size hx2))
            generalize (wr.alloc (.cells #[.int .i64 ((A : Int) + (i : Int)), .int .i64 (j : Int)] 29)) = w4 at *
            clear HB2 hb3 HRR HX2 hx2
            obtain ⟨v, f, hf, kH⟩ := oth_look hR3 HW.out.1 HW.out.2 who
            have HFO := Lib.hid hf
            have HR4 := Lib.hid hR3
            have HZ := Lib.hid hzz
            clear hR3 hf hzz c1
            go_quiet (fail)
            have hb5 := below_drewN (Below.refl w4.heap.size w4) nq
            have hR5 := HR4.out.on_ hb5
            obtain ⟨_, c1, _⟩ := hR5.c
            have d0' := (hb5.cell (p := ⟨wr.heap.size, 0, none⟩) HZ.out).trans d0
            have d1' := (hb5.cell (p := ⟨wr.heap.size, 1, none⟩) HZ.out).trans d1
            have HB5 := Lib.hid (below_drewN HB4.out nq)
            have HX5 := Lib.hid (HX4.out.kept (hb5.block w.heap.size HX4.out.lt))
            generalize w4.drewN nq = w5 at *
            have kU : ∀ m : Nat, (Instr.lookup 50 (.map (some b1)) (.agg #[.int .i64 ((A : Int) + (i : Int)), .int .i64 (j : Int)]) false).run Try.prog (w5.drewN m) = .ok (.bool (s.u ((A : Int) + (i : Int)) (j : Int))) (w5.drewN m) := fun m => (hR5.on_ (below_drewN (Below.refl _ _) m)).look HW.out.1 HW.out.2
            have stay : ∀ W6 : World, Below w.heap.size w W6 → BoxR W6 w.heap.size 0 0 → s.free' who ((A : Int) + (i : Int)) (j : Int) = false → Hid (∃ j' : Nat, j' ≤ K ∧ Value.int .i64 ((j : Int) + 1) = .int .i64 (j' : Int) ∧ (∀ y ∈ Lp A K i j', okX s who y = false) ∧ BoxR W6 w.heap.size 0 0 ∧ Below w.heap.size w W6) := by
              intro W6 hb6 hx6 hno
              refine ⟨j + 1, HJ.out.1, rfl, fun y hy => ?_, hx6, hb6⟩
              rw [Lp_succ] at hy
              rcases List.mem_append.1 hy with hy | hy
              · exact HF2.out y hy
              · rw [List.mem_singleton.1 hy, HO.out]; exact hno
            have HST := Lib.hid stay
            clear stay kH c2 d0 d1 hb5 hR5 HR4 HB4 HX4
            cases hu : s.u ((A : Int) + (i : Int)) (j : Int) with
            | true =>
              rw [hu] at kU
              have HNO := Lib.hid (show s.free' who ((A : Int) + (i : Int)) (j : Int) = false by unfold St.free'; rw [hu]; rfl)
              clear hu
              go_wp2
              go_quiet (fail)
              have HB6 := Lib.hid (below_drewN HB5.out nq)
              have HX6 : Hid (BoxR (w5.drewN nq) w.heap.size 0 0) := HX5.out
              clear kU d0' d1' c1
              go_wp2
              go_roundw
              case rel => exact HST.out _ HB6.out HX6.out HNO.out
              case measure => have := HJ.out; simp only [RowKit.intOf]; omega
            | false =>
              rw [hu] at kU
              cases f with
              | false =>
                have HYES := Lib.hid (show s.free' who ((A : Int) + (i : Int)) (j : Int) = true by unfold St.free'; rw [hu, ← HFO.out]; rfl)
                clear hu HFO
                go_wp2
                go_quiet (fail)
                have HB6 := Lib.hid (below_drewN HB5.out nq)
                have hx6 : BoxR (w5.drewN nq) w.heap.size 0 0 := HX5.out
                have d0'' : (w5.drewN nq).cell? ⟨wr.heap.size, 0, none⟩ = _ := d0'
                have d1'' : (w5.drewN nq).cell? ⟨wr.heap.size, 1, none⟩ = _ := d1'
                have e0 := cell_of hx6 0
                have e1 := cell_of hx6 1
                have HX6 := Lib.hid hx6
                generalize w5.drewN nq = w6 at *
                clear kU d0' d1' c1 hx6
                go_wp2
                obtain ⟨W7, hW7, hx7, hb7⟩ := set2 HX6.out ((A : Int) + (i : Int)) (j : Int)
                rw [hW7]
                refine bodyPost_ret (next_end_r (g3 := w.heap.size) rfl rfl hx7) rfl ?_
                exact ⟨by rw [find_pre HF2.out (x := (A + i, j)) (by rw [HO.out]; exact HYES.out) (by rw [← Lp_succ, HA.out.1]; exact HPRE.out), HNX.out], HB6.out.trans hb7⟩
              | true =>
                by_cases hv : v = who
                · have HYES := Lib.hid (show s.free' who ((A : Int) + (i : Int)) (j : Int) = true by unfold St.free'; rw [hu, ← HFO.out, hv]; simp)
                  subst hv
                  clear hu HFO
                  go_wp2
                  go_quiet (fail)
                  have HB6 := Lib.hid (below_drewN HB5.out nq)
                  have hx6 : BoxR (w5.drewN nq) w.heap.size 0 0 := HX5.out
                  have d0'' : (w5.drewN nq).cell? ⟨wr.heap.size, 0, none⟩ = _ := d0'
                  have d1'' : (w5.drewN nq).cell? ⟨wr.heap.size, 1, none⟩ = _ := d1'
                  have e0 := cell_of hx6 0
                  have e1 := cell_of hx6 1
                  have HX6 := Lib.hid hx6
                  generalize w5.drewN nq = w6 at *
                  clear kU d0' d1' c1 hx6
                  go_wp2
                  obtain ⟨W7, hW7, hx7, hb7⟩ := set2 HX6.out ((A : Int) + (i : Int)) (j : Int)
                  rw [hW7]
                  refine bodyPost_ret (next_end_r (g3 := w.heap.size) rfl rfl hx7) rfl ?_
                  exact ⟨by rw [find_pre HF2.out (x := (A + i, j)) (by rw [HO.out]; exact HYES.out) (by rw [← Lp_succ, HA.out.1]; exact HPRE.out), HNX.out], HB6.out.trans hb7⟩
                · have HNO := Lib.hid (show s.free' who ((A : Int) + (i : Int)) (j : Int) = false by unfold St.free'; rw [hu, ← HFO.out]; simp [hv])
                  clear hu HFO
                  go_wp2
                  go_quiet (fail)
                  have HB6 := Lib.hid (below_drewN HB5.out nq)
                  have HX6 : Hid (BoxR (w5.drewN nq) w.heap.size 0 0) := HX5.out
                  clear kU d0' d1' c1
                  go_wp2
                  go_roundw
                  case rel => exact HST.out _ HB6.out HX6.out HNO.out
                  case measure => have := HJ.out; simp only [RowKit.intOf]; omega
          · obtain rfl : j = K := by omega
            have HB7 := Lib.hid hb
            have HX7 := Lib.hid hX
            have HF7 := Lib.hid hF
            have hno : ¬ (j : Int) < cells ∨ ¬ (j : Int) < 4 := by have := HA.out; omega
            clear hrel hb hj hjK c0 hX hF
            rcases hno with hno | hno
            · go_wp2
              go_roundw
              case rel => exact ⟨i + 1, HLT.out, (by first | (congr 1; done) | (congr 1; omega)), by rw [← Lp_end]; exact HF7.out, HX7.out, HB7.out⟩
              case measure => have := HLT.out; simp only [RowKit.intOf]; omega
            · by_cases hcc : (j : Int) < cells
              · go_wp2
                go_roundw
                case rel => exact ⟨i + 1, HLT.out, (by first | (congr 1; done) | (congr 1; omega)), by rw [← Lp_end]; exact HF7.out, HX7.out, HB7.out⟩
                case measure => have := HLT.out; simp only [RowKit.intOf]; omega
              · go_wp2
                go_roundw
                case rel => exact ⟨i + 1, HLT.out, (by first | (congr 1; done) | (congr 1; omega)), by rw [← Lp_end]; exact HF7.out, HX7.out, HB7.out⟩
                case measure => have := HLT.out; simp only [RowKit.intOf]; omega
      · obtain rfl : i = M := by omega
        have HE : Hid (Lp A K i 0 = All s.N from' to' cells) := (Lp_zero A K i).trans HA.out.1.symm
        have e0 := cell_of HX.out 0
        have e1 := cell_of HX.out 1
        clear hi hlt
        by_cases hto : (A : Int) + (i : Int) < to'
        · have h1 : ¬ (A : Int) + (i : Int) < (s.N : Int) := by have := HA.out; omega
          go_wp2
          obtain ⟨W7, hW7, hx7, hb7⟩ := set2 HX.out 0 0
          rw [hW7]
          refine bodyPost_ret (next_end_r (g3 := w.heap.size) rfl rfl hx7) rfl ?_
          exact ⟨by rw [← HE.out, find_none' HF.out]; rfl, HB.out.trans hb7⟩
        · go_wp2
          obtain ⟨W7, hW7, hx7, hb7⟩ := set2 HX.out 0 0
          rw [hW7]
          refine bodyPost_ret (next_end_r (g3 := w.heap.size) rfl rfl hx7) rfl ?_
          exact ⟨by rw [← HE.out, find_none' HF.out]; rfl, HB.out.trans hb7⟩
end Go.Proofs.Ytffflafafpdjdaa
