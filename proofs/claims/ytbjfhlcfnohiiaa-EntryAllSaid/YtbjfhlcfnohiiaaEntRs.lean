/- The reference's SameMoves, SameLives, SameDirty. -/
import Derived.Test.YtbjfhlcfnohiiaaEntQo
namespace Go.Proofs.Ytbjfhlcfnohiiaa
open Go.RowKit

set_option maxRecDepth 100000 in
set_option maxHeartbeats 9223372036854775807 in
theorem rsMoves_any {w : World} {v u : Value} {xs ys : List Mv} (hx : Els w v 4 (xs.map mvV)) (hy : Els w u 4 (ys.map mvV)) (hm : xs.length ≤ 9223372036854775807) :
    Calls Try.prog 37 #[v, u] w fun e w' => e = .returned (.bool (decide (xs = ys))) ∧ Below w.heap.size w w' := by
  have HX := Lib.hid hx
  have HY := Lib.hid hy
  obtain ⟨A, c, rfl, q⟩ := hx.form
  obtain ⟨B, d, rfl, r⟩ := hy.form
  rw [List.length_map] at HX HY q r ⊢
  rw [List.length_map]
  clear hx hy
  by_cases hl : xs.length = ys.length
  · have hq : ((xs.length : Int) == (ys.length : Int)) = true := by rw [hl]; simp
    have hq2 : ((xs.length : Int) != (ys.length : Int)) = false := by rw [hl]; simp
    have HL := Lib.hid hl
    clear hl
    go_enter Try.func37, Try.ntmps37
    go_wp2
    go_loopw [5] (fun i wr => EqRel w xs ys i wr) (fun i _ => xs.length - (intOf i).toNat)
    case atStart => exact ⟨0, Nat.zero_le _, rfl, rfl, Below.refl _ _⟩
    case round =>
      obtain ⟨k, hk, rfl, he, hb⟩ := hrel
      have HE := Lib.hid he
      have HB := Lib.hid hb
      clear he hb
      by_cases hlt : k < xs.length
      · have hlt2 : k < ys.length := by rw [← HL.out]; exact hlt
        obtain ⟨b1, o1, rfl, l1, hc1⟩ := (HX.out.below HB.out (Nat.le_refl _)).one (i := k) (by simpa using hlt)
        obtain ⟨b2, o2, rfl, l2, hc2⟩ := (HY.out.below HB.out (Nat.le_refl _)).one (i := k) (by simpa using hlt2)
        have x0 : wr.cell? ⟨b1, o1 + k * 4, none⟩ = some (.int .i64 xs[k].1) := by simpa [mvV] using hc1 0 (by omega)
        have y0 : wr.cell? ⟨b2, o2 + k * 4, none⟩ = some (.int .i64 ys[k].1) := by simpa [mvV] using hc2 0 (by omega)
        have x1 : wr.cell? ⟨b1, o1 + k * 4 + 1, none⟩ = some (.int .i64 xs[k].2.1) := by simpa [mvV] using hc1 1 (by omega)
        have y1 : wr.cell? ⟨b2, o2 + k * 4 + 1, none⟩ = some (.int .i64 ys[k].2.1) := by simpa [mvV] using hc2 1 (by omega)
        have x2 : wr.cell? ⟨b1, o1 + k * 4 + 2, none⟩ = some (.int .i64 xs[k].2.2.1) := by simpa [mvV] using hc1 2 (by omega)
        have y2 : wr.cell? ⟨b2, o2 + k * 4 + 2, none⟩ = some (.int .i64 ys[k].2.2.1) := by simpa [mvV] using hc2 2 (by omega)
        have x3 : wr.cell? ⟨b1, o1 + k * 4 + 3, none⟩ = some (.int .i64 xs[k].2.2.2) := by simpa [mvV] using hc1 3 (by omega)
        have y3 : wr.cell? ⟨b2, o2 + k * 4 + 3, none⟩ = some (.int .i64 ys[k].2.2.2) := by simpa [mvV] using hc2 3 (by omega)
        clear hc1 hc2
        have z1 : (0 : Int) ≤ (k : Int) := by omega
        have z2 : (k : Int) < (xs.length : Int) := by omega
        have z3 : (k : Int) < (ys.length : Int) := by omega
        have hG : Try.prog.eqGuardType Try.prog.depth 52 = false := by kernel_rfl
        clear hq hq2
        obtain ⟨⟨a, b, c, d⟩, hX⟩ : ∃ X, X = xs[k] := ⟨_, rfl⟩
        obtain ⟨⟨a', b', c', d'⟩, hY⟩ : ∃ Y, Y = ys[k] := ⟨_, rfl⟩
        rw [← hX] at x0 x1 x2 x3
        rw [← hY] at y0 y1 y2 y3
        have HXK := Lib.hid hX
        have HYK := Lib.hid hY
        clear hX hY
        simp only at x0 y0 x1 y1 x2 y2 x3 y3
        have hcase : (a = a' ∧ b = b' ∧ c = c' ∧ d = d') ∨ (¬ a = a') ∨ (a = a' ∧ ¬ b = b') ∨ (a = a' ∧ b = b' ∧ ¬ c = c') ∨ (a = a' ∧ b = b' ∧ c = c' ∧ ¬ d = d') := by
          by_cases q0 : a = a' <;> by_cases q1 : b = b' <;> by_cases q2 : c = c' <;> by_cases q3 : d = d' <;> simp_all
        have HE2 : Hid (∀ u u' : Int × Int × Int × Int, u = xs[k] → u' = ys[k] → u ≠ u' → decide (xs = ys) = false) := fun u u' h1 h2 h3 => decide_eq_false fun e => h3 (by rw [h1, h2]; subst e; rfl)
        rcases hcase with ⟨rfl, rfl, rfl, rfl⟩ | hne | ⟨rfl, hne⟩ | ⟨rfl, rfl, hne⟩ | ⟨rfl, rfl, rfl, hne⟩
        · go_wp2
          go_quiet (fail)
          go_wp2
          go_roundw
          case rel => exact ⟨k + 1, hlt, rfl, by rw [List.take_succ_eq_append_getElem hlt, List.take_succ_eq_append_getElem hlt2, HE.out, ← HXK.out, ← HYK.out], HB.out.trans (below_drewN _ _ _)⟩
          case measure => simp [intOf]; omega
        all_goals
          have HNE := Lib.hid hne
          go_wp2
          go_quiet (fail)
          go_wp2
          go_ret
          rw [HE2.out _ _ HXK.out HYK.out (by intro e; have h := HNE.out; simp_all)]
          exact ⟨rfl, HB.out.trans (below_drewN _ _ _)⟩
      · obtain rfl : k = xs.length := by omega
        have hxy : xs = ys := by
          have h := HE.out
          rw [List.take_length, List.take_of_length_le (by have := HL.out; omega)] at h
          exact h
        have hne : decide (xs = ys) = true := decide_eq_true hxy
        have HN := Lib.hid hne
        clear hxy hne
        go_wp2
        go_ret
        rw [HN.out]
        exact ⟨rfl, HB.out⟩
  · have hq : ((xs.length : Int) == (ys.length : Int)) = false := beq_eq_false_iff_ne.2 (by omega)
    have hq2 : ((xs.length : Int) != (ys.length : Int)) = true := by rw [bne, hq]; rfl
    have hne : decide (xs = ys) = false := decide_eq_false fun e => hl (by rw [e])
    rw [hne]
    clear hl hne
    go_enter Try.func37, Try.ntmps37
    go_wp2
    go_ret
    exact ⟨rfl, Below.refl _ _⟩

set_option maxRecDepth 100000 in
set_option maxHeartbeats 9223372036854775807 in
theorem rsLives_any {w : World} {v u : Value} {xs ys : List Lv} (hx : Els w v 4 (xs.map lvV)) (hy : Els w u 4 (ys.map lvV)) (hm : xs.length ≤ 9223372036854775807) :
    Calls Try.prog 38 #[v, u] w fun e w' => e = .returned (.bool (decide (xs = ys))) ∧ Below w.heap.size w w' := by
  have HX := Lib.hid hx
  have HY := Lib.hid hy
  obtain ⟨A, c, rfl, q⟩ := hx.form
  obtain ⟨B, d, rfl, r⟩ := hy.form
  rw [List.length_map] at HX HY q r ⊢
  rw [List.length_map]
  clear hx hy
  by_cases hl : xs.length = ys.length
  · have hq : ((xs.length : Int) == (ys.length : Int)) = true := by rw [hl]; simp
    have hq2 : ((xs.length : Int) != (ys.length : Int)) = false := by rw [hl]; simp
    have HL := Lib.hid hl
    clear hl
    go_enter Try.func38, Try.ntmps38
    go_wp2
    go_loopw [5] (fun i wr => EqRel w xs ys i wr) (fun i _ => xs.length - (intOf i).toNat)
    case atStart => exact ⟨0, Nat.zero_le _, rfl, rfl, Below.refl _ _⟩
    case round =>
      obtain ⟨k, hk, rfl, he, hb⟩ := hrel
      have HE := Lib.hid he
      have HB := Lib.hid hb
      clear he hb
      by_cases hlt : k < xs.length
      · have hlt2 : k < ys.length := by rw [← HL.out]; exact hlt
        obtain ⟨b1, o1, rfl, l1, hc1⟩ := (HX.out.below HB.out (Nat.le_refl _)).one (i := k) (by simpa using hlt)
        obtain ⟨b2, o2, rfl, l2, hc2⟩ := (HY.out.below HB.out (Nat.le_refl _)).one (i := k) (by simpa using hlt2)
        have x0 : wr.cell? ⟨b1, o1 + k * 4, none⟩ = some (.int .i64 xs[k].1) := by simpa [lvV] using hc1 0 (by omega)
        have y0 : wr.cell? ⟨b2, o2 + k * 4, none⟩ = some (.int .i64 ys[k].1) := by simpa [lvV] using hc2 0 (by omega)
        have x1 : wr.cell? ⟨b1, o1 + k * 4 + 1, none⟩ = some (.int .i64 xs[k].2.1) := by simpa [lvV] using hc1 1 (by omega)
        have y1 : wr.cell? ⟨b2, o2 + k * 4 + 1, none⟩ = some (.int .i64 ys[k].2.1) := by simpa [lvV] using hc2 1 (by omega)
        have x2 : wr.cell? ⟨b1, o1 + k * 4 + 2, none⟩ = some (.int .i64 xs[k].2.2.1) := by simpa [lvV] using hc1 2 (by omega)
        have y2 : wr.cell? ⟨b2, o2 + k * 4 + 2, none⟩ = some (.int .i64 ys[k].2.2.1) := by simpa [lvV] using hc2 2 (by omega)
        have x3 : wr.cell? ⟨b1, o1 + k * 4 + 3, none⟩ = some (.bool xs[k].2.2.2) := by simpa [lvV] using hc1 3 (by omega)
        have y3 : wr.cell? ⟨b2, o2 + k * 4 + 3, none⟩ = some (.bool ys[k].2.2.2) := by simpa [lvV] using hc2 3 (by omega)
        clear hc1 hc2
        have z1 : (0 : Int) ≤ (k : Int) := by omega
        have z2 : (k : Int) < (xs.length : Int) := by omega
        have z3 : (k : Int) < (ys.length : Int) := by omega
        have hG : Try.prog.eqGuardType Try.prog.depth 46 = false := by kernel_rfl
        clear hq hq2
        obtain ⟨⟨a, b, c, d⟩, hX⟩ : ∃ X, X = xs[k] := ⟨_, rfl⟩
        obtain ⟨⟨a', b', c', d'⟩, hY⟩ : ∃ Y, Y = ys[k] := ⟨_, rfl⟩
        rw [← hX] at x0 x1 x2 x3
        rw [← hY] at y0 y1 y2 y3
        have HXK := Lib.hid hX
        have HYK := Lib.hid hY
        clear hX hY
        simp only at x0 y0 x1 y1 x2 y2 x3 y3
        have hcase : (a = a' ∧ b = b' ∧ c = c' ∧ d = d') ∨ (¬ a = a') ∨ (a = a' ∧ ¬ b = b') ∨ (a = a' ∧ b = b' ∧ ¬ c = c') ∨ (a = a' ∧ b = b' ∧ c = c' ∧ ¬ d = d') := by
          by_cases q0 : a = a' <;> by_cases q1 : b = b' <;> by_cases q2 : c = c' <;> by_cases q3 : d = d' <;> simp_all
        have HE2 : Hid (∀ u u' : Int × Int × Int × Bool, u = xs[k] → u' = ys[k] → u ≠ u' → decide (xs = ys) = false) := fun u u' h1 h2 h3 => decide_eq_false fun e => h3 (by rw [h1, h2]; subst e; rfl)
        rcases hcase with ⟨rfl, rfl, rfl, rfl⟩ | hne | ⟨rfl, hne⟩ | ⟨rfl, rfl, hne⟩ | ⟨rfl, rfl, rfl, hne⟩
        · go_wp2
          go_quiet (fail)
          go_wp2
          go_roundw
          case rel => exact ⟨k + 1, hlt, rfl, by rw [List.take_succ_eq_append_getElem hlt, List.take_succ_eq_append_getElem hlt2, HE.out, ← HXK.out, ← HYK.out], HB.out.trans (below_drewN _ _ _)⟩
          case measure => simp [intOf]; omega
        all_goals
          have HNE := Lib.hid hne
          go_wp2
          go_quiet (fail)
          go_wp2
          go_ret
          rw [HE2.out _ _ HXK.out HYK.out (by intro e; have h := HNE.out; simp_all)]
          exact ⟨rfl, HB.out.trans (below_drewN _ _ _)⟩
      · obtain rfl : k = xs.length := by omega
        have hxy : xs = ys := by
          have h := HE.out
          rw [List.take_length, List.take_of_length_le (by have := HL.out; omega)] at h
          exact h
        have hne : decide (xs = ys) = true := decide_eq_true hxy
        have HN := Lib.hid hne
        clear hxy hne
        go_wp2
        go_ret
        rw [HN.out]
        exact ⟨rfl, HB.out⟩
  · have hq : ((xs.length : Int) == (ys.length : Int)) = false := beq_eq_false_iff_ne.2 (by omega)
    have hq2 : ((xs.length : Int) != (ys.length : Int)) = true := by rw [bne, hq]; rfl
    have hne : decide (xs = ys) = false := decide_eq_false fun e => hl (by rw [e])
    rw [hne]
    clear hl hne
    go_enter Try.func38, Try.ntmps38
    go_wp2
    go_ret
    exact ⟨rfl, Below.refl _ _⟩

set_option maxRecDepth 100000 in
set_option maxHeartbeats 9223372036854775807 in
theorem rsDirty_any {w : World} {v u : Value} {xs ys : List Dt} (hx : Els w v 2 (xs.map dtV)) (hy : Els w u 2 (ys.map dtV)) (hm : xs.length ≤ 9223372036854775807) :
    Calls Try.prog 39 #[v, u] w fun e w' => e = .returned (.bool (decide (xs = ys))) ∧ Below w.heap.size w w' := by
  have HX := Lib.hid hx
  have HY := Lib.hid hy
  obtain ⟨A, c, rfl, q⟩ := hx.form
  obtain ⟨B, d, rfl, r⟩ := hy.form
  rw [List.length_map] at HX HY q r ⊢
  rw [List.length_map]
  clear hx hy
  by_cases hl : xs.length = ys.length
  · have hq : ((xs.length : Int) == (ys.length : Int)) = true := by rw [hl]; simp
    have hq2 : ((xs.length : Int) != (ys.length : Int)) = false := by rw [hl]; simp
    have HL := Lib.hid hl
    clear hl
    go_enter Try.func39, Try.ntmps39
    go_wp2
    go_loopw [5] (fun i wr => EqRel w xs ys i wr) (fun i _ => xs.length - (intOf i).toNat)
    case atStart => exact ⟨0, Nat.zero_le _, rfl, rfl, Below.refl _ _⟩
    case round =>
      obtain ⟨k, hk, rfl, he, hb⟩ := hrel
      have HE := Lib.hid he
      have HB := Lib.hid hb
      clear he hb
      by_cases hlt : k < xs.length
      · have hlt2 : k < ys.length := by rw [← HL.out]; exact hlt
        obtain ⟨b1, o1, rfl, l1, hc1⟩ := (HX.out.below HB.out (Nat.le_refl _)).one (i := k) (by simpa using hlt)
        obtain ⟨b2, o2, rfl, l2, hc2⟩ := (HY.out.below HB.out (Nat.le_refl _)).one (i := k) (by simpa using hlt2)
        have x0 : wr.cell? ⟨b1, o1 + k * 2, none⟩ = some (.int .i64 xs[k].1) := by simpa [dtV] using hc1 0 (by omega)
        have y0 : wr.cell? ⟨b2, o2 + k * 2, none⟩ = some (.int .i64 ys[k].1) := by simpa [dtV] using hc2 0 (by omega)
        have x1 : wr.cell? ⟨b1, o1 + k * 2 + 1, none⟩ = some (.int .i64 xs[k].2) := by simpa [dtV] using hc1 1 (by omega)
        have y1 : wr.cell? ⟨b2, o2 + k * 2 + 1, none⟩ = some (.int .i64 ys[k].2) := by simpa [dtV] using hc2 1 (by omega)
        clear hc1 hc2
        have z1 : (0 : Int) ≤ (k : Int) := by omega
        have z2 : (k : Int) < (xs.length : Int) := by omega
        have z3 : (k : Int) < (ys.length : Int) := by omega
        have hG : Try.prog.eqGuardType Try.prog.depth 48 = false := by kernel_rfl
        clear hq hq2
        obtain ⟨⟨a, b⟩, hX⟩ : ∃ X, X = xs[k] := ⟨_, rfl⟩
        obtain ⟨⟨a', b'⟩, hY⟩ : ∃ Y, Y = ys[k] := ⟨_, rfl⟩
        rw [← hX] at x0 x1
        rw [← hY] at y0 y1
        have HXK := Lib.hid hX
        have HYK := Lib.hid hY
        clear hX hY
        simp only at x0 y0 x1 y1
        have hcase : (a = a' ∧ b = b') ∨ (¬ a = a') ∨ (a = a' ∧ ¬ b = b') := by
          by_cases q0 : a = a' <;> by_cases q1 : b = b' <;> simp_all
        have HE2 : Hid (∀ u u' : Int × Int, u = xs[k] → u' = ys[k] → u ≠ u' → decide (xs = ys) = false) := fun u u' h1 h2 h3 => decide_eq_false fun e => h3 (by rw [h1, h2]; subst e; rfl)
        rcases hcase with ⟨rfl, rfl⟩ | hne | ⟨rfl, hne⟩
        · go_wp2
          go_quiet (fail)
          go_wp2
          go_roundw
          case rel => exact ⟨k + 1, hlt, rfl, by rw [List.take_succ_eq_append_getElem hlt, List.take_succ_eq_append_getElem hlt2, HE.out, ← HXK.out, ← HYK.out], HB.out.trans (below_drewN _ _ _)⟩
          case measure => simp [intOf]; omega
        all_goals
          have HNE := Lib.hid hne
          go_wp2
          go_quiet (fail)
          go_wp2
          go_ret
          rw [HE2.out _ _ HXK.out HYK.out (by intro e; have h := HNE.out; simp_all)]
          exact ⟨rfl, HB.out.trans (below_drewN _ _ _)⟩
      · obtain rfl : k = xs.length := by omega
        have hxy : xs = ys := by
          have h := HE.out
          rw [List.take_length, List.take_of_length_le (by have := HL.out; omega)] at h
          exact h
        have hne : decide (xs = ys) = true := decide_eq_true hxy
        have HN := Lib.hid hne
        clear hxy hne
        go_wp2
        go_ret
        rw [HN.out]
        exact ⟨rfl, HB.out⟩
  · have hq : ((xs.length : Int) == (ys.length : Int)) = false := beq_eq_false_iff_ne.2 (by omega)
    have hq2 : ((xs.length : Int) != (ys.length : Int)) = true := by rw [bne, hq]; rfl
    have hne : decide (xs = ys) = false := decide_eq_false fun e => hl (by rw [e])
    rw [hne]
    clear hl hne
    go_enter Try.func39, Try.ntmps39
    go_wp2
    go_ret
    exact ⟨rfl, Below.refl _ _⟩

end Go.Proofs.Ytbjfhlcfnohiiaa
