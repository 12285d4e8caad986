/- The reference's Count. -/
import Derived.Test.YtffflafafpdjdaaGpS
import Derived.Test.YtffflafafpdjdaaGpW
namespace Go.Proofs.Ytffflafafpdjdaa
open Go.RowKit Go.Maps Go.WideMaps

theorem cells_facts (N : Nat) (from' to' cells : Int) : ∃ A M K : Nat, All N from' to' cells = rows A M K ∧ max from' 0 = (A : Int) ∧ (A + M ≤ N ∨ M = 0) ∧ (M : Int) = max 0 (min to' (N : Int) - (A : Int)) ∧ (K : Int) = max 0 (min cells 4) := by
  refine ⟨pA from', pM N from' to', pK cells, rfl, ?_, ?_, ?_, ?_⟩ <;> simp only [pA, pM, pK] <;> omega
theorem cnt_at (f : Int → Int → Bool) {A K i j : Nat} (hA : A + i < 32) (hj : j < 4) : cntB f (Lp A K i (j + 1)) = cntB f (Lp A K i j) + if f ((A : Int) + (i : Int)) (j : Int) = true then 1 else 0 := by
  rw [Lp_succ, cntB_snoc, show (A + i, j).1 % 32 = A + i from Nat.mod_eq_of_lt (by show A + i < 32; omega), show (A + i, j).2 % 4 = j from Nat.mod_eq_of_lt hj, Int.natCast_add]
theorem cnt_lt (f : Int → Int → Bool) {A K i j : Nat} (hi : i < 32) (hK : K ≤ 4) (hj : j ≤ 4) : cntB f (Lp A K i j) < 200 := by
  have h1 := cntB_le f (Lp A K i j)
  rw [Lp_len] at h1
  have h2 : i * K ≤ 32 * 4 := Nat.mul_le_mul (by omega) (by omega)
  omega

set_option maxRecDepth 100000 in
set_option maxHeartbeats 2000000 in
theorem count_r (w : World) {g b1 b2 n : Nat} {s : St} (h : RA w g b1 b2 n s) (from' to' : Int) :
    Calls Try.prog 17 #[.pointer (some ⟨g, 0, none⟩), .int .i64 from', .int .i64 to'] w fun e w' => e = .returned (.tuple #[.int .i64 (cntB s.u (All s.N from' to' 4) : Nat), .int .i64 (cntB s.isH (All s.N from' to' 4) : Nat)]) ∧ Below w.heap.size w w' := by
  have HH := Lib.hid h
  have hN32 : (s.N : Int) ≤ 32 := by have := h.ok.le; omega
  obtain ⟨A, M, K, ha⟩ := cells_facts s.N from' to' 4
  obtain rfl : K = 4 := by omega
  have HA := Lib.hid ha
  clear h ha
  go_enter Try.func17, Try.ntmps17
  go_wp2
  all_goals
    go_loopw [8, 9, 10] (fun u hh p wr => Hid (∃ i : Nat, i ≤ M ∧ p = .int .i64 ((A : Int) + (i : Int)) ∧ u = .int .i64 (cntB s.u (Lp A 4 i 0) : Nat) ∧ hh = .int .i64 (cntB s.isH (Lp A 4 i 0) : Nat) ∧ Below w.heap.size w wr)) (fun _ _ p _ => A + M - (RowKit.intOf p).toNat)
    case atStart =>
      have := HA.out.2.1
      exact ⟨0, Nat.zero_le _, by congr 1; omega, rfl, rfl, Below.refl _ _⟩
    case round =>
      obtain ⟨i, hi, rfl, rfl, rfl, hb⟩ := hrel.out
      have hR := HH.out.on_ hb
      obtain ⟨c0, _, _⟩ := hR.c
      have HB := Lib.hid hb
      clear hrel hR hb
      have hA0 : (0 : Int) ≤ (A : Int) + (i : Int) := by omega
      by_cases hlt : i < M
      · have h1 : (A : Int) + (i : Int) < to' := by have := HA.out; omega
        have h2 : (A : Int) + (i : Int) < (s.N : Int) := by have := HA.out; omega
        have h3 : (A : Int) + (i : Int) < 32 := by omega
        have HLT := Lib.hid hlt
        clear hi hlt
        go_wp2
        go_loopw [8, 9, 11] (fun u hh q wr => Hid (∃ j : Nat, j ≤ 4 ∧ q = .int .i64 (j : Int) ∧ u = .int .i64 (cntB s.u (Lp A 4 i j) : Nat) ∧ hh = .int .i64 (cntB s.isH (Lp A 4 i j) : Nat) ∧ Below w.heap.size w wr)) (fun _ _ q _ => 4 - (RowKit.intOf q).toNat)
        case atStart => exact ⟨0, by omega, rfl, rfl, rfl, HB.out⟩
        case round =>
          obtain ⟨j, hj, rfl, rfl, rfl, hb⟩ := hrel.out
          by_cases hj4 : j < 4
          · have hj4I : (j : Int) < 4 := by omega
            have hwi : Wf ((A : Int) + (i : Int)) := wf_small (by omega)
            have hwj : Wf (j : Int) := wf_small (by omega)
            have hR := HH.out.on_ hb
            have HJ := Lib.hid hj4
            have e1 := cnt_at s.u (A := A) (K := 4) (i := i) (by omega) hj4
            have e2 := cnt_at s.isH (A := A) (K := 4) (i := i) (by omega) hj4
            have u1 := cnt_lt s.u (A := A) (K := 4) (i := i) (j := j) (by omega) (by omega) (by omega)
            have u2 := cnt_lt s.isH (A := A) (K := 4) (i := i) (j := j) (by omega) (by omega) (by omega)
            obtain ⟨x1, hx1⟩ : ∃ x, x = cntB s.u (Lp A 4 i j) := ⟨_, rfl⟩
            obtain ⟨x2, hx2⟩ : ∃ x, x = cntB s.isH (Lp A 4 i j) := ⟨_, rfl⟩
            rw [← hx1] at e1 u1 ⊢
            rw [← hx2] at e2 u2 ⊢
            have E1 := Lib.hid e1
            have E2 := Lib.hid e2
            have HRR := Lib.hid hR
            have HB2 := Lib.hid hb
            have HW := Lib.hid (And.intro hwi hwj)
            clear hrel hb hj hj4 e1 e2 hx1 hx2 hR hwi hwj c0
            go_upto_region 9 with fail
            have hb3 := (Below.refl wr.heap.size wr).alloc (Nat.le_refl _) (.cells #[.int .i64 ((A : Int) + (i : Int)), .int .i64 (j : Int)] 29)
            have hR3 := HRR.out.on_ hb3
            obtain ⟨_, c1, c2⟩ := hR3.c
            have d0 := (al_new wr #[.int .i64 ((A : Int) + (i : Int)), .int .i64 (j : Int)] 29 0).1
            have d1 := (al_new wr #[.int .i64 ((A : Int) + (i : Int)), .int .i64 (j : Int)] 29 1).1
            have hzz : wr.heap.size < (wr.alloc (.cells #[.int .i64 ((A : Int) + (i : Int)), .int .i64 (j : Int)] 29)).heap.size := by simp
            have HB4 := Lib.hid (HB2.out.alloc HB2.out.size (.cells #[.int .i64 ((A : Int) + (i : Int)), .int .i64 (j : Int)] 29))
            generalize (wr.alloc (.cells #[.int .i64 ((A : Int) + (i : Int)), .int .i64 (j : Int)] 29)) = w4 at *
            clear HB2 hb3 HRR
            obtain ⟨v, f, hf, kH⟩ : ∃ v f, ((s.h ((A : Int) + (i : Int)) (j : Int)).isSome = f) ∧ ∀ m : Nat, (Instr.lookup 47 (.map (some b2)) (.agg #[.int .i64 ((A : Int) + (i : Int)), .int .i64 (j : Int)]) true).run Try.prog (w4.drewN m) = .ok (.tuple #[.int .i64 v, .bool f]) (w4.drewN m) := by
              cases e : s.h ((A : Int) + (i : Int)) (j : Int) with
              | none =>
                refine ⟨0, false, rfl, fun m => ?_⟩
                rcases hG_look (hR3.on_ (below_drewN (Below.refl _ _) m)).h HW.out.1 HW.out.2 with ⟨v, e2, _⟩ | ⟨_, k⟩
                · rw [e] at e2; cases e2
                · exact k
              | some v =>
                refine ⟨v, true, rfl, fun m => ?_⟩
                rcases hG_look (hR3.on_ (below_drewN (Below.refl _ _) m)).h HW.out.1 HW.out.2 with ⟨v', e2, k⟩ | ⟨e2, _⟩
                · rw [e] at e2; cases e2; exact k
                · rw [e] at e2; cases e2
            have HF := Lib.hid hf
            have HR4 := Lib.hid hR3
            have HZ := Lib.hid hzz
            clear hR3 hf hzz c1
            go_quiet (fail)
            have hb5 := below_drewN (Below.refl w4.heap.size w4) nq
            have hR5 := HR4.out.on_ hb5
            obtain ⟨_, c1, _⟩ := hR5.c
            have d0' := (hb5.cell (p := ⟨wr.heap.size, 0, none⟩) HZ.out).trans d0
            have d1' := (hb5.cell (p := ⟨wr.heap.size, 1, none⟩) HZ.out).trans d1
            have HB5 := Lib.hid (below_drewN HB4.out nq)
            generalize w4.drewN nq = w5 at *
            have kU : ∀ m : Nat, (Instr.lookup 50 (.map (some b1)) (.agg #[.int .i64 ((A : Int) + (i : Int)), .int .i64 (j : Int)]) false).run Try.prog (w5.drewN m) = .ok (.bool (s.u ((A : Int) + (i : Int)) (j : Int))) (w5.drewN m) := fun m => (hR5.on_ (below_drewN (Below.refl _ _) m)).look HW.out.1 HW.out.2
            obtain ⟨uu, hu⟩ : ∃ uu, s.u ((A : Int) + (i : Int)) (j : Int) = uu := ⟨_, rfl⟩
            rw [hu] at kU
            have HU := Lib.hid hu
            clear hu kH c2 d0 d1 hb5 hR5 HR4 HB4
            go_wp2
            go_quiet (fail)
            have HB6 := Lib.hid (below_drewN HB5.out nq)
            have hI : s.isH ((A : Int) + (i : Int)) (j : Int) = (f && !uu) := by unfold St.isH; rw [HF.out, HU.out]
            have E3 := E1.out
            have E4 := E2.out
            rw [HU.out] at E3
            rw [hI] at E4
            have HE3 := Lib.hid E3
            have HE4 := Lib.hid E4
            clear hI E3 E4 kU d0' d1' c1
            cases uu with
            | true =>
              go_wp2
              go_roundw
              case rel => exact ⟨j + 1, HJ.out, rfl, by rw [HE3.out]; rfl, by rw [HE4.out]; simp, HB6.out⟩
              case measure => have := HJ.out; simp only [RowKit.intOf]; omega
            | false =>
              cases f with
              | true =>
                go_wp2
                go_roundw
                case rel => exact ⟨j + 1, HJ.out, rfl, by rw [HE3.out]; simp, by rw [HE4.out]; simp, HB6.out⟩
                case measure => have := HJ.out; simp only [RowKit.intOf]; omega
              | false =>
                go_wp2
                go_roundw
                case rel => exact ⟨j + 1, HJ.out, rfl, by rw [HE3.out]; simp, by rw [HE4.out]; simp, HB6.out⟩
                case measure => have := HJ.out; simp only [RowKit.intOf]; omega
          · obtain rfl : j = 4 := by omega
            have HB7 := Lib.hid hb
            clear hrel hb hj hj4 c0
            rw [show ((4 : Nat) : Int) = 4 from rfl]
            go_wp2
            go_roundw
            case rel => exact ⟨i + 1, HLT.out, (by first | (congr 1; done) | (congr 1; omega)), by rw [Lp_end], by rw [Lp_end], HB7.out⟩
            case measure => have := HLT.out; simp only [RowKit.intOf]; omega
      · obtain rfl : i = M := by omega
        have HE : Hid (Lp A 4 i 0 = All s.N from' to' 4) := (Lp_zero A 4 i).trans HA.out.1.symm
        clear hi hlt
        by_cases hto : (A : Int) + (i : Int) < to'
        · have h1 : ¬ (A : Int) + (i : Int) < (s.N : Int) := by have := HA.out; omega
          go_wp2
          refine bodyPost_ret (results_tmp2 rfl _ _ _) rfl ?_
          exact ⟨by rw [← HE.out]; rfl, HB.out⟩
        · go_wp2
          refine bodyPost_ret (results_tmp2 rfl _ _ _) rfl ?_
          exact ⟨by rw [← HE.out]; rfl, HB.out⟩
end Go.Proofs.Ytffflafafpdjdaa
