/- Structs compared; slices.Equal at moves, lives, dirty pages; Open units compared. -/
import Derived.Test.YtbjfhlcfnohiiaaEntT
import Derived.Laws.StructEq
import Derived.Deep.QuietTactic
import Derived.BigQuiet
namespace Go.Proofs.Ytbjfhlcfnohiiaa
open Go.RowKit

theorem infoRid2 : (Try.prog.info? 23).map (·.size) = some 2 := by kernel_rfl

theorem eqE_rid (W : World) (p c p' c' : Int) : (binOp .eql 23 (.agg #[.int .i64 p, .int .i64 c]) (.agg #[.int .i64 p', .int .i64 c'])).run Try.prog W = .ok (.bool (decide (p = p' ∧ c = c'))) W := by
  have hS : Try.prog.underlying 23 = some (.struct (Try.prog.fieldsOf 23)) := by kernel_rfl
  have hH : Try.prog.stoodInHeld 23 = false := by kernel_rfl
  have hu : Try.prog.underlying 3 = some (.int .i64) := Try.underlying3
  rw [run_eql_struct, show (10000 : Nat) = 9999 + 1 from rfl, run_equalIn_agg W 9999 _ _ _ hS hH]
  simp only [Program.fieldsOf, Try.underlying23]
  go_simp
  by_cases h1 : p = p' <;> by_cases h2 : c = c' <;> simp [h1, h2]

theorem neE_dirty (W : World) (m n : Dt) : (binOp .neq 48 (.agg #[.int .i64 m.1, .int .i64 m.2]) (.agg #[.int .i64 n.1, .int .i64 n.2])).run Try.prog W = .ok (.bool (!decide (m = n))) W := by
  obtain ⟨a, b⟩ := m
  obtain ⟨a', b'⟩ := n
  have hS : Try.prog.underlying 48 = some (.struct (Try.prog.fieldsOf 48)) := by kernel_rfl
  have hH : Try.prog.stoodInHeld 48 = false := by kernel_rfl
  have hu : Try.prog.underlying 3 = some (.int .i64) := Try.underlying3
  rw [run_neq_struct, show (10000 : Nat) = 9999 + 1 from rfl, run_equalIn_agg W 9999 _ _ _ hS hH]
  simp only [Program.fieldsOf, Try.underlying48]
  go_simp
  by_cases h1 : a = a' <;> by_cases h2 : b = b' <;> simp [h1, h2]

theorem neE_live (W : World) (m n : Lv) : (binOp .neq 46 (.agg #[.int .i64 m.1, .int .i64 m.2.1, .int .i64 m.2.2.1, .bool m.2.2.2]) (.agg #[.int .i64 n.1, .int .i64 n.2.1, .int .i64 n.2.2.1, .bool n.2.2.2])).run Try.prog W = .ok (.bool (!decide (m = n))) W := by
  obtain ⟨a, b, c, d⟩ := m
  obtain ⟨a', b', c', d'⟩ := n
  have hS : Try.prog.underlying 46 = some (.struct (Try.prog.fieldsOf 46)) := by kernel_rfl
  have hH : Try.prog.stoodInHeld 46 = false := by kernel_rfl
  have hu : Try.prog.underlying 3 = some (.int .i64) := Try.underlying3
  have hb : Try.prog.underlying 4 = some .bool := Try.underlying4
  rw [run_neq_struct, show (10000 : Nat) = 9999 + 1 from rfl, run_equalIn_agg W 9999 _ _ _ hS hH]
  simp only [Program.fieldsOf, Try.underlying46]
  go_simp
  by_cases h1 : a = a' <;> by_cases h2 : b = b' <;> by_cases h3 : c = c' <;> by_cases h4 : d = d' <;> simp [h1, h2, h3, h4]

theorem inE_rid (W : World) (d : Nat) (p c p' c' : Int) : (Op.equalIn (d + 2) 23 (.agg #[.int .i64 p, .int .i64 c]) (.agg #[.int .i64 p', .int .i64 c'])).run Try.prog W = .ok (decide (p = p' ∧ c = c')) W := by
  have hS : Try.prog.underlying 23 = some (.struct (Try.prog.fieldsOf 23)) := by kernel_rfl
  have hH : Try.prog.stoodInHeld 23 = false := by kernel_rfl
  have hu : Try.prog.underlying 3 = some (.int .i64) := Try.underlying3
  rw [run_equalIn_agg W (d + 1) _ _ _ hS hH]
  simp only [Program.fieldsOf, Try.underlying23]
  go_simp
  by_cases h1 : p = p' <;> by_cases h2 : c = c' <;> simp [h1, h2]

theorem neE_move (W : World) (m n : Mv) : (binOp .neq 52 (.agg #[.int .i64 m.1, .int .i64 m.2.1, .int .i64 m.2.2.1, .int .i64 m.2.2.2]) (.agg #[.int .i64 n.1, .int .i64 n.2.1, .int .i64 n.2.2.1, .int .i64 n.2.2.2])).run Try.prog W = .ok (.bool (!decide (m = n))) W := by
  obtain ⟨a, b, c, d⟩ := m
  obtain ⟨a', b', c', d'⟩ := n
  have hS : Try.prog.underlying 52 = some (.struct (Try.prog.fieldsOf 52)) := by kernel_rfl
  have hH : Try.prog.stoodInHeld 52 = false := by kernel_rfl
  rw [run_neq_struct, show (10000 : Nat) = 9999 + 1 from rfl, run_equalIn_agg W 9999 _ _ _ hS hH]
  simp only [Program.fieldsOf, Try.underlying52]
  have r1 := fun W => inE_rid W 9997 a b a' b'
  have r2 := fun W => inE_rid W 9997 c d c' d'
  have i1 := infoRid2
  clear hS hH
  go_simp
  by_cases h1 : a = a' <;> by_cases h2 : b = b' <;> by_cases h3 : c = c' <;> by_cases h4 : d = d' <;> simp [h1, h2, h3, h4]

theorem in_of_ne {t : TypeId} {W : World} {xs ys : Array Value} {b : Bool} (h : (binOp .neq t (.agg xs) (.agg ys)).run Try.prog W = .ok (.bool (!b)) W) : (Op.equalIn 10000 t (.agg xs) (.agg ys)).run Try.prog W = .ok b W := by
  rw [run_neq_struct] at h
  generalize (Op.equalIn 10000 t (.agg xs) (.agg ys)).run Try.prog W = r at h
  cases r with
  | ok c w' =>
    simp only [Result.andThen] at h
    injection h with h1 h2
    subst h2
    injection h1 with h3
    have : c = b := by cases c <;> cases b <;> simp_all
    rw [this]
  | _ => simp [Result.andThen] at h
end Go.Proofs.Ytbjfhlcfnohiiaa
namespace Go.Proofs.Ytbjfhlcfnohiiaa
open Go.RowKit

def EqRel {α : Type} (w : World) (xs ys : List α) (i : Value) (wr : World) : Prop := ∃ k : Nat, k ≤ xs.length ∧ i = .int .i64 k ∧ xs.take k = ys.take k ∧ Below w.heap.size w wr

set_option maxRecDepth 100000 in
set_option maxHeartbeats 9223372036854775807 in
theorem eqMoves_any {w : World} {v u : Value} {xs ys : List Mv} (hx : Els w v 4 (xs.map mvV)) (hy : Els w u 4 (ys.map mvV)) (hm : xs.length ≤ 9223372036854775807) :
    Calls Try.prog 42 #[v, u] w fun e w' => e = .returned (.bool (decide (xs = ys))) ∧ Below w.heap.size w w' := by
  have HX := Lib.hid hx
  have HY := Lib.hid hy
  obtain ⟨A, c, rfl, q⟩ := hx.form
  obtain ⟨B, d, rfl, r⟩ := hy.form
  rw [List.length_map] at HX HY q r ⊢
  rw [List.length_map]
  clear hx hy
  by_cases hl : xs.length = ys.length
  · have hq : ((xs.length : Int) == (ys.length : Int)) = true := by rw [hl]; simp
    have hq2 : ((xs.length : Int) != (ys.length : Int)) = false := by rw [hl]; simp
    have HL := Lib.hid hl
    clear hl
    go_enter Try.func42, Try.ntmps42
    go_wp2
    go_loopw [13] (fun i wr => EqRel w xs ys i wr) (fun i _ => xs.length - (intOf i).toNat)
    case atStart => exact ⟨0, Nat.zero_le _, rfl, rfl, Below.refl _ _⟩
    case round =>
      obtain ⟨k, hk, rfl, he, hb⟩ := hrel
      have HE := Lib.hid he
      have HB := Lib.hid hb
      clear he hb
      by_cases hlt : k < xs.length
      · have hlt2 : k < ys.length := by rw [← HL.out]; exact hlt
        obtain ⟨b1, o1, rfl, l1, hc1⟩ := (HX.out.below HB.out (Nat.le_refl _)).one (i := k) (by simpa using hlt)
        obtain ⟨b2, o2, rfl, l2, hc2⟩ := (HY.out.below HB.out (Nat.le_refl _)).one (i := k) (by simpa using hlt2)
        have x0 : wr.cell? ⟨b1, o1 + k * 4, none⟩ = some (.int .i64 xs[k].1) := by simpa [mvV] using hc1 0 (by omega)
        have y0 : wr.cell? ⟨b2, o2 + k * 4, none⟩ = some (.int .i64 ys[k].1) := by simpa [mvV] using hc2 0 (by omega)
        have x1 : wr.cell? ⟨b1, o1 + k * 4 + 1, none⟩ = some (.int .i64 xs[k].2.1) := by simpa [mvV] using hc1 1 (by omega)
        have y1 : wr.cell? ⟨b2, o2 + k * 4 + 1, none⟩ = some (.int .i64 ys[k].2.1) := by simpa [mvV] using hc2 1 (by omega)
        have x2 : wr.cell? ⟨b1, o1 + k * 4 + 2, none⟩ = some (.int .i64 xs[k].2.2.1) := by simpa [mvV] using hc1 2 (by omega)
        have y2 : wr.cell? ⟨b2, o2 + k * 4 + 2, none⟩ = some (.int .i64 ys[k].2.2.1) := by simpa [mvV] using hc2 2 (by omega)
        have x3 : wr.cell? ⟨b1, o1 + k * 4 + 3, none⟩ = some (.int .i64 xs[k].2.2.2) := by simpa [mvV] using hc1 3 (by omega)
        have y3 : wr.cell? ⟨b2, o2 + k * 4 + 3, none⟩ = some (.int .i64 ys[k].2.2.2) := by simpa [mvV] using hc2 3 (by omega)
        clear hc1 hc2
        have z1 : (0 : Int) ≤ (k : Int) := by omega
        have z2 : (k : Int) < (xs.length : Int) := by omega
        have z3 : (k : Int) < (ys.length : Int) := by omega
        have hG : Try.prog.eqGuardType Try.prog.depth 52 = false := by kernel_rfl
        clear hq hq2
        obtain ⟨⟨a, b, c, d⟩, hX⟩ : ∃ X, X = xs[k] := ⟨_, rfl⟩
        obtain ⟨⟨a', b', c', d'⟩, hY⟩ : ∃ Y, Y = ys[k] := ⟨_, rfl⟩
        rw [← hX] at x0 x1 x2 x3
        rw [← hY] at y0 y1 y2 y3
        have HXK := Lib.hid hX
        have HYK := Lib.hid hY
        clear hX hY
        simp only at x0 y0 x1 y1 x2 y2 x3 y3
        have hcase : (a = a' ∧ b = b' ∧ c = c' ∧ d = d') ∨ (¬ a = a') ∨ (a = a' ∧ ¬ b = b') ∨ (a = a' ∧ b = b' ∧ ¬ c = c') ∨ (a = a' ∧ b = b' ∧ c = c' ∧ ¬ d = d') := by
          by_cases q0 : a = a' <;> by_cases q1 : b = b' <;> by_cases q2 : c = c' <;> by_cases q3 : d = d' <;> simp_all
        have HE2 : Hid (∀ u u' : Int × Int × Int × Int, u = xs[k] → u' = ys[k] → u ≠ u' → decide (xs = ys) = false) := fun u u' h1 h2 h3 => decide_eq_false fun e => h3 (by rw [h1, h2]; subst e; rfl)
        rcases hcase with ⟨rfl, rfl, rfl, rfl⟩ | hne | ⟨rfl, hne⟩ | ⟨rfl, rfl, hne⟩ | ⟨rfl, rfl, rfl, hne⟩
        · go_wp2
          go_quiet (fail)
          go_wp2
          go_roundw
          case rel => exact ⟨k + 1, hlt, rfl, by rw [List.take_succ_eq_append_getElem hlt, List.take_succ_eq_append_getElem hlt2, HE.out, ← HXK.out, ← HYK.out], HB.out.trans (below_drewN _ _ _)⟩
          case measure => simp [intOf]; omega
        all_goals
          have HNE := Lib.hid hne
          go_wp2
          go_quiet (fail)
          go_wp2
          go_ret
          rw [HE2.out _ _ HXK.out HYK.out (by intro e; have h := HNE.out; simp_all)]
          exact ⟨rfl, HB.out.trans (below_drewN _ _ _)⟩
      · obtain rfl : k = xs.length := by omega
        have hxy : xs = ys := by
          have h := HE.out
          rw [List.take_length, List.take_of_length_le (by have := HL.out; omega)] at h
          exact h
        have hne : decide (xs = ys) = true := decide_eq_true hxy
        have HN := Lib.hid hne
        clear hxy hne
        go_wp2
        go_ret
        rw [HN.out]
        exact ⟨rfl, HB.out⟩
  · have hq : ((xs.length : Int) == (ys.length : Int)) = false := beq_eq_false_iff_ne.2 (by omega)
    have hq2 : ((xs.length : Int) != (ys.length : Int)) = true := by rw [bne, hq]; rfl
    have hne : decide (xs = ys) = false := decide_eq_false fun e => hl (by rw [e])
    rw [hne]
    clear hl hne
    go_enter Try.func42, Try.ntmps42
    go_wp2
    go_ret
    exact ⟨rfl, Below.refl _ _⟩

set_option maxRecDepth 100000 in
set_option maxHeartbeats 9223372036854775807 in
theorem eqLives_any {w : World} {v u : Value} {xs ys : List Lv} (hx : Els w v 4 (xs.map lvV)) (hy : Els w u 4 (ys.map lvV)) (hm : xs.length ≤ 9223372036854775807) :
    Calls Try.prog 43 #[v, u] w fun e w' => e = .returned (.bool (decide (xs = ys))) ∧ Below w.heap.size w w' := by
  have HX := Lib.hid hx
  have HY := Lib.hid hy
  obtain ⟨A, c, rfl, q⟩ := hx.form
  obtain ⟨B, d, rfl, r⟩ := hy.form
  rw [List.length_map] at HX HY q r ⊢
  rw [List.length_map]
  clear hx hy
  by_cases hl : xs.length = ys.length
  · have hq : ((xs.length : Int) == (ys.length : Int)) = true := by rw [hl]; simp
    have hq2 : ((xs.length : Int) != (ys.length : Int)) = false := by rw [hl]; simp
    have HL := Lib.hid hl
    clear hl
    go_enter Try.func43, Try.ntmps43
    go_wp2
    go_loopw [13] (fun i wr => EqRel w xs ys i wr) (fun i _ => xs.length - (intOf i).toNat)
    case atStart => exact ⟨0, Nat.zero_le _, rfl, rfl, Below.refl _ _⟩
    case round =>
      obtain ⟨k, hk, rfl, he, hb⟩ := hrel
      have HE := Lib.hid he
      have HB := Lib.hid hb
      clear he hb
      by_cases hlt : k < xs.length
      · have hlt2 : k < ys.length := by rw [← HL.out]; exact hlt
        obtain ⟨b1, o1, rfl, l1, hc1⟩ := (HX.out.below HB.out (Nat.le_refl _)).one (i := k) (by simpa using hlt)
        obtain ⟨b2, o2, rfl, l2, hc2⟩ := (HY.out.below HB.out (Nat.le_refl _)).one (i := k) (by simpa using hlt2)
        have x0 : wr.cell? ⟨b1, o1 + k * 4, none⟩ = some (.int .i64 xs[k].1) := by simpa [lvV] using hc1 0 (by omega)
        have y0 : wr.cell? ⟨b2, o2 + k * 4, none⟩ = some (.int .i64 ys[k].1) := by simpa [lvV] using hc2 0 (by omega)
        have x1 : wr.cell? ⟨b1, o1 + k * 4 + 1, none⟩ = some (.int .i64 xs[k].2.1) := by simpa [lvV] using hc1 1 (by omega)
        have y1 : wr.cell? ⟨b2, o2 + k * 4 + 1, none⟩ = some (.int .i64 ys[k].2.1) := by simpa [lvV] using hc2 1 (by omega)
        have x2 : wr.cell? ⟨b1, o1 + k * 4 + 2, none⟩ = some (.int .i64 xs[k].2.2.1) := by simpa [lvV] using hc1 2 (by omega)
        have y2 : wr.cell? ⟨b2, o2 + k * 4 + 2, none⟩ = some (.int .i64 ys[k].2.2.1) := by simpa [lvV] using hc2 2 (by omega)
        have x3 : wr.cell? ⟨b1, o1 + k * 4 + 3, none⟩ = some (.bool xs[k].2.2.2) := by simpa [lvV] using hc1 3 (by omega)
        have y3 : wr.cell? ⟨b2, o2 + k * 4 + 3, none⟩ = some (.bool ys[k].2.2.2) := by simpa [lvV] using hc2 3 (by omega)
        clear hc1 hc2
        have z1 : (0 : Int) ≤ (k : Int) := by omega
        have z2 : (k : Int) < (xs.length : Int) := by omega
        have z3 : (k : Int) < (ys.length : Int) := by omega
        have hG : Try.prog.eqGuardType Try.prog.depth 46 = false := by kernel_rfl
        clear hq hq2
        obtain ⟨⟨a, b, c, d⟩, hX⟩ : ∃ X, X = xs[k] := ⟨_, rfl⟩
        obtain ⟨⟨a', b', c', d'⟩, hY⟩ : ∃ Y, Y = ys[k] := ⟨_, rfl⟩
        rw [← hX] at x0 x1 x2 x3
        rw [← hY] at y0 y1 y2 y3
        have HXK := Lib.hid hX
        have HYK := Lib.hid hY
        clear hX hY
        simp only at x0 y0 x1 y1 x2 y2 x3 y3
        have hcase : (a = a' ∧ b = b' ∧ c = c' ∧ d = d') ∨ (¬ a = a') ∨ (a = a' ∧ ¬ b = b') ∨ (a = a' ∧ b = b' ∧ ¬ c = c') ∨ (a = a' ∧ b = b' ∧ c = c' ∧ ¬ d = d') := by
          by_cases q0 : a = a' <;> by_cases q1 : b = b' <;> by_cases q2 : c = c' <;> by_cases q3 : d = d' <;> simp_all
        have HE2 : Hid (∀ u u' : Int × Int × Int × Bool, u = xs[k] → u' = ys[k] → u ≠ u' → decide (xs = ys) = false) := fun u u' h1 h2 h3 => decide_eq_false fun e => h3 (by rw [h1, h2]; subst e; rfl)
        rcases hcase with ⟨rfl, rfl, rfl, rfl⟩ | hne | ⟨rfl, hne⟩ | ⟨rfl, rfl, hne⟩ | ⟨rfl, rfl, rfl, hne⟩
        · go_wp2
          go_quiet (fail)
          go_wp2
          go_roundw
          case rel => exact ⟨k + 1, hlt, rfl, by rw [List.take_succ_eq_append_getElem hlt, List.take_succ_eq_append_getElem hlt2, HE.out, ← HXK.out, ← HYK.out], HB.out.trans (below_drewN _ _ _)⟩
          case measure => simp [intOf]; omega
        all_goals
          have HNE := Lib.hid hne
          go_wp2
          go_quiet (fail)
          go_wp2
          go_ret
          rw [HE2.out _ _ HXK.out HYK.out (by intro e; have h := HNE.out; simp_all)]
          exact ⟨rfl, HB.out.trans (below_drewN _ _ _)⟩
      · obtain rfl : k = xs.length := by omega
        have hxy : xs = ys := by
          have h := HE.out
          rw [List.take_length, List.take_of_length_le (by have := HL.out; omega)] at h
          exact h
        have hne : decide (xs = ys) = true := decide_eq_true hxy
        have HN := Lib.hid hne
        clear hxy hne
        go_wp2
        go_ret
        rw [HN.out]
        exact ⟨rfl, HB.out⟩
  · have hq : ((xs.length : Int) == (ys.length : Int)) = false := beq_eq_false_iff_ne.2 (by omega)
    have hq2 : ((xs.length : Int) != (ys.length : Int)) = true := by rw [bne, hq]; rfl
    have hne : decide (xs = ys) = false := decide_eq_false fun e => hl (by rw [e])
    rw [hne]
    clear hl hne
    go_enter Try.func43, Try.ntmps43
    go_wp2
    go_ret
    exact ⟨rfl, Below.refl _ _⟩

set_option maxRecDepth 100000 in
set_option maxHeartbeats 9223372036854775807 in
theorem eqDirty_any {w : World} {v u : Value} {xs ys : List Dt} (hx : Els w v 2 (xs.map dtV)) (hy : Els w u 2 (ys.map dtV)) (hm : xs.length ≤ 9223372036854775807) :
    Calls Try.prog 44 #[v, u] w fun e w' => e = .returned (.bool (decide (xs = ys))) ∧ Below w.heap.size w w' := by
  have HX := Lib.hid hx
  have HY := Lib.hid hy
  obtain ⟨A, c, rfl, q⟩ := hx.form
  obtain ⟨B, d, rfl, r⟩ := hy.form
  rw [List.length_map] at HX HY q r ⊢
  rw [List.length_map]
  clear hx hy
  by_cases hl : xs.length = ys.length
  · have hq : ((xs.length : Int) == (ys.length : Int)) = true := by rw [hl]; simp
    have hq2 : ((xs.length : Int) != (ys.length : Int)) = false := by rw [hl]; simp
    have HL := Lib.hid hl
    clear hl
    go_enter Try.func44, Try.ntmps44
    go_wp2
    go_loopw [13] (fun i wr => EqRel w xs ys i wr) (fun i _ => xs.length - (intOf i).toNat)
    case atStart => exact ⟨0, Nat.zero_le _, rfl, rfl, Below.refl _ _⟩
    case round =>
      obtain ⟨k, hk, rfl, he, hb⟩ := hrel
      have HE := Lib.hid he
      have HB := Lib.hid hb
      clear he hb
      by_cases hlt : k < xs.length
      · have hlt2 : k < ys.length := by rw [← HL.out]; exact hlt
        obtain ⟨b1, o1, rfl, l1, hc1⟩ := (HX.out.below HB.out (Nat.le_refl _)).one (i := k) (by simpa using hlt)
        obtain ⟨b2, o2, rfl, l2, hc2⟩ := (HY.out.below HB.out (Nat.le_refl _)).one (i := k) (by simpa using hlt2)
        have x0 : wr.cell? ⟨b1, o1 + k * 2, none⟩ = some (.int .i64 xs[k].1) := by simpa [dtV] using hc1 0 (by omega)
        have y0 : wr.cell? ⟨b2, o2 + k * 2, none⟩ = some (.int .i64 ys[k].1) := by simpa [dtV] using hc2 0 (by omega)
        have x1 : wr.cell? ⟨b1, o1 + k * 2 + 1, none⟩ = some (.int .i64 xs[k].2) := by simpa [dtV] using hc1 1 (by omega)
        have y1 : wr.cell? ⟨b2, o2 + k * 2 + 1, none⟩ = some (.int .i64 ys[k].2) := by simpa [dtV] using hc2 1 (by omega)
        clear hc1 hc2
        have z1 : (0 : Int) ≤ (k : Int) := by omega
        have z2 : (k : Int) < (xs.length : Int) := by omega
        have z3 : (k : Int) < (ys.length : Int) := by omega
        have hG : Try.prog.eqGuardType Try.prog.depth 48 = false := by kernel_rfl
        clear hq hq2
        obtain ⟨⟨a, b⟩, hX⟩ : ∃ X, X = xs[k] := ⟨_, rfl⟩
        obtain ⟨⟨a', b'⟩, hY⟩ : ∃ Y, Y = ys[k] := ⟨_, rfl⟩
        rw [← hX] at x0 x1
        rw [← hY] at y0 y1
        have HXK := Lib.hid hX
        have HYK := Lib.hid hY
        clear hX hY
        simp only at x0 y0 x1 y1
        have hcase : (a = a' ∧ b = b') ∨ (¬ a = a') ∨ (a = a' ∧ ¬ b = b') := by
          by_cases q0 : a = a' <;> by_cases q1 : b = b' <;> simp_all
        have HE2 : Hid (∀ u u' : Int × Int, u = xs[k] → u' = ys[k] → u ≠ u' → decide (xs = ys) = false) := fun u u' h1 h2 h3 => decide_eq_false fun e => h3 (by rw [h1, h2]; subst e; rfl)
        rcases hcase with ⟨rfl, rfl⟩ | hne | ⟨rfl, hne⟩
        · go_wp2
          go_quiet (fail)
          go_wp2
          go_roundw
          case rel => exact ⟨k + 1, hlt, rfl, by rw [List.take_succ_eq_append_getElem hlt, List.take_succ_eq_append_getElem hlt2, HE.out, ← HXK.out, ← HYK.out], HB.out.trans (below_drewN _ _ _)⟩
          case measure => simp [intOf]; omega
        all_goals
          have HNE := Lib.hid hne
          go_wp2
          go_quiet (fail)
          go_wp2
          go_ret
          rw [HE2.out _ _ HXK.out HYK.out (by intro e; have h := HNE.out; simp_all)]
          exact ⟨rfl, HB.out.trans (below_drewN _ _ _)⟩
      · obtain rfl : k = xs.length := by omega
        have hxy : xs = ys := by
          have h := HE.out
          rw [List.take_length, List.take_of_length_le (by have := HL.out; omega)] at h
          exact h
        have hne : decide (xs = ys) = true := decide_eq_true hxy
        have HN := Lib.hid hne
        clear hxy hne
        go_wp2
        go_ret
        rw [HN.out]
        exact ⟨rfl, HB.out⟩
  · have hq : ((xs.length : Int) == (ys.length : Int)) = false := beq_eq_false_iff_ne.2 (by omega)
    have hq2 : ((xs.length : Int) != (ys.length : Int)) = true := by rw [bne, hq]; rfl
    have hne : decide (xs = ys) = false := decide_eq_false fun e => hl (by rw [e])
    rw [hne]
    clear hl hne
    go_enter Try.func44, Try.ntmps44
    go_wp2
    go_ret
    exact ⟨rfl, Below.refl _ _⟩

end Go.Proofs.Ytbjfhlcfnohiiaa
namespace Go.Proofs.Ytbjfhlcfnohiiaa
open Go.RowKit

instance mvDec : DecidableEq Mv := inferInstanceAs (DecidableEq (Int × Int × Int × Int))
instance opnDec : DecidableEq Opn := inferInstanceAs (DecidableEq (Int × Int × List Mv))

set_option maxRecDepth 100000 in
set_option maxHeartbeats 9223372036854775807 in
theorem sameOpen_any (w : World) (o o' : Opn) {v u : Value} (hx : Els w v 4 (o.2.2.map mvV)) (hy : Els w u 4 (o'.2.2.map mvV)) (hm : o.2.2.length ≤ 9223372036854775807) :
    Calls Try.prog 46 #[.agg #[.int .i64 o.1, v, .int .i64 o.2.1], .agg #[.int .i64 o'.1, u, .int .i64 o'.2.1]] w fun e w' => e = .returned (.bool (decide (o = o'))) ∧ Below w.heap.size w w' := by
  obtain ⟨a, b, c⟩ := o
  obtain ⟨a', b', c'⟩ := o'
  simp only at hx hy hm ⊢
  have hb : ∀ o1 o2, Below w.heap.size w ((w.alloc o1).alloc o2) := fun o1 o2 => ((Below.refl _ _).alloc (Nat.le_refl _) _).alloc (by simp) _
  have HX : Hid (∀ o1 o2, Els ((w.alloc o1).alloc o2) v 4 (c.map mvV)) := fun o1 o2 => hx.below (hb o1 o2) (Nat.le_refl _)
  have HY : Hid (∀ o1 o2, Els ((w.alloc o1).alloc o2) u 4 (c'.map mvV)) := fun o1 o2 => hy.below (hb o1 o2) (Nat.le_refl _)
  have HB := Lib.hid hb
  obtain ⟨A, d, rfl, q⟩ := hx.form
  obtain ⟨B, d', rfl, q'⟩ := hy.form
  rw [List.length_map] at HX HY ⊢
  rw [List.length_map]
  clear hx hy hb q q'
  by_cases h1 : a = a'
  · by_cases h2 : b = b'
    · subst h1 h2
      have hd : decide ((a, b, c) = (a, b, c')) = decide (c = c') := by simp
      rw [hd]
      clear hd
      go_enter Try.func46, Try.ntmps46
      go_wp2_with fail
      refine (eqMoves_any (HX.out _ _) (HY.out _ _) hm).mono ?_
      rintro e w1 ⟨rfl, hb1⟩
      have HB1 := Lib.hid hb1
      clear hb1
      go_wp2
      go_ret
      exact ⟨rfl, (HB.out _ _).trans (HB1.out.mono (by simp; omega))⟩
    · have hd : decide ((a, b, c) = (a', b', c')) = false := by simp [h2]
      rw [hd]
      have hq : (b == b') = false := beq_eq_false_iff_ne.2 h2
      subst h1
      clear h2 hd
      go_enter Try.func46, Try.ntmps46
      go_wp2
      go_ret
      exact ⟨rfl, HB.out _ _⟩
  · have hd : decide ((a, b, c) = (a', b', c')) = false := by simp [h1]
    rw [hd]
    have hq : (a == a') = false := beq_eq_false_iff_ne.2 h1
    clear h1 hd
    go_enter Try.func46, Try.ntmps46
    go_wp2
    go_ret
    exact ⟨rfl, HB.out _ _⟩

theorem Els.mv {w : World} {v : Value} {ms : List Mv} (h : Els w v 4 (ms.map mvV)) : ∃ A c, v = .slice A ms.length c := by
  obtain ⟨A, c, e, _⟩ := h.form
  rw [List.length_map] at e
  exact ⟨A, c, e⟩

set_option maxRecDepth 100000 in
set_option maxHeartbeats 9223372036854775807 in
theorem eqOpens_any {w : World} {v u : Value} {xs ys : List Opn} (hx : OpAt w v xs) (hy : OpAt w u ys) (hm : xs.length ≤ 9223372036854775807) (hmm : ∀ o ∈ xs, o.2.2.length ≤ 9223372036854775807) :
    Calls Try.prog 45 #[v, u, .func (.func 46) #[] #[]] w fun e w' => e = .returned (.bool (decide (xs = ys))) ∧ Below w.heap.size w w' := by
  obtain ⟨os, rfl, hx1, hx2⟩ := hx
  obtain ⟨ps, rfl, hy1, hy2⟩ := hy
  have HX := Lib.hid hx1
  have HY := Lib.hid hy1
  have HX2 := Lib.hid hx2
  have HY2 := Lib.hid hy2
  have HMM := Lib.hid hmm
  obtain ⟨A, c, rfl, q⟩ := hx1.form
  obtain ⟨B, d, rfl, r⟩ := hy1.form
  rw [List.length_map] at HX HY q r hm ⊢
  rw [List.length_map]
  clear hx1 hy1 hx2 hy2 hmm
  by_cases hl : os.length = ps.length
  · have hq : ((os.length : Int) == (ps.length : Int)) = true := by rw [hl]; simp
    have hq2 : ((os.length : Int) != (ps.length : Int)) = false := by rw [hl]; simp
    have HL := Lib.hid hl
    clear hl
    go_enter Try.func45, Try.ntmps45
    go_wp2
    go_loopw [17] (fun i wr => EqRel w (os.map Prod.fst) (ps.map Prod.fst) i wr) (fun i _ => os.length - (intOf i).toNat)
    case atStart => exact ⟨0, Nat.zero_le _, rfl, rfl, Below.refl _ _⟩
    case round =>
      obtain ⟨k, hk, rfl, he, hb⟩ := hrel
      rw [List.length_map] at hk
      have HE := Lib.hid he
      have HB := Lib.hid hb
      clear he hb
      by_cases hlt : k < os.length
      · have hlt2 : k < ps.length := by rw [← HL.out]; exact hlt
        obtain ⟨b1, o1, rfl, l1, hc1⟩ := (HX.out.below HB.out (Nat.le_refl _)).one (i := k) (by simpa using hlt)
        obtain ⟨b2, o2, rfl, l2, hc2⟩ := (HY.out.below HB.out (Nat.le_refl _)).one (i := k) (by simpa using hlt2)
        have hX2 := (HX2.out os[k] (List.getElem_mem _)).below HB.out (Nat.le_refl _)
        have hY2 := (HY2.out ps[k] (List.getElem_mem _)).below HB.out (Nat.le_refl _)
        have hmk := HMM.out os[k].1 (List.mem_map_of_mem (List.getElem_mem _))
        have HCON := Lib.hid (fun o1' o2' => sameOpen_any ((wr.alloc o1').alloc o2') os[k].1 ps[k].1 (hX2.below (((Below.refl wr.heap.size wr).alloc (Nat.le_refl _) o1').alloc (by simp) o2') (Nat.le_refl _)) (hY2.below (((Below.refl wr.heap.size wr).alloc (Nat.le_refl _) o1').alloc (by simp) o2') (Nat.le_refl _)) hmk)
        have x0 : wr.cell? ⟨b1, o1 + k * 3, none⟩ = some (.int .i64 os[k].1.1) := by simpa [opV] using hc1 0 (by omega)
        have x1 : wr.cell? ⟨b1, o1 + k * 3 + 1, none⟩ = some os[k].2 := by simpa [opV] using hc1 1 (by omega)
        have x2 : wr.cell? ⟨b1, o1 + k * 3 + 2, none⟩ = some (.int .i64 os[k].1.2.1) := by simpa [opV] using hc1 2 (by omega)
        have y0 : wr.cell? ⟨b2, o2 + k * 3, none⟩ = some (.int .i64 ps[k].1.1) := by simpa [opV] using hc2 0 (by omega)
        have y1 : wr.cell? ⟨b2, o2 + k * 3 + 1, none⟩ = some ps[k].2 := by simpa [opV] using hc2 1 (by omega)
        have y2 : wr.cell? ⟨b2, o2 + k * 3 + 2, none⟩ = some (.int .i64 ps[k].1.2.1) := by simpa [opV] using hc2 2 (by omega)
        obtain ⟨A1, c1, e1⟩ := hX2.mv
        obtain ⟨A2, c2, e2⟩ := hY2.mv
        rw [e1] at x1 HCON
        rw [e2] at y1 HCON
        clear hc1 hc2 hX2 hY2 e1 e2 hmk
        have z1 : (0 : Int) ≤ (k : Int) := by omega
        have z2 : (k : Int) < (os.length : Int) := by omega
        have z3 : (k : Int) < (ps.length : Int) := by omega
        have HN : Hid ((decide (os[k].1 = ps[k].1) = true ∧ os[k].1 = ps[k].1) ∨ (decide (os[k].1 = ps[k].1) = false ∧ decide (os.map Prod.fst = ps.map Prod.fst) = false)) := by
          show _ ∨ _
          by_cases h : os[k].1 = ps[k].1
          · exact .inl ⟨decide_eq_true h, h⟩
          · refine .inr ⟨decide_eq_false h, decide_eq_false fun e => h ?_⟩
            have := congrArg (fun l => l[k]?) e
            simp only [List.getElem?_map, List.getElem?_eq_getElem hlt, List.getElem?_eq_getElem hlt2, Option.map_some, Option.some.injEq] at this
            exact this
        clear hq hq2
        rcases HN.out with ⟨hd, heq⟩ | ⟨hd, hne⟩
        · rw [hd] at HCON
          have HEQ := Lib.hid heq
          clear hd heq HN
          go_wp2_with fail
          refine (HCON.out _ _).mono ?_
          rintro e w3 ⟨rfl, hb3⟩
          have HB3 := Lib.hid hb3
          clear hb3
          go_wp2
          go_roundw
          case rel => exact ⟨k + 1, by rw [List.length_map]; exact hlt, rfl, by rw [List.take_succ_eq_append_getElem (by rw [List.length_map]; exact hlt), List.take_succ_eq_append_getElem (by rw [List.length_map]; exact hlt2), HE.out, List.getElem_map, List.getElem_map, HEQ.out], HB.out.trans ((((Below.refl wr.heap.size wr).alloc (Nat.le_refl _) _).alloc (by simp) _).trans (HB3.out.mono (by simp; omega)) |>.mono HB.out.size)⟩
          case measure => simp [intOf]; omega
        · rw [hd] at HCON
          have HNE := Lib.hid hne
          clear hd hne HN
          go_wp2_with fail
          refine (HCON.out _ _).mono ?_
          rintro e w3 ⟨rfl, hb3⟩
          have HB3 := Lib.hid hb3
          clear hb3
          go_wp2
          go_ret
          rw [HNE.out]
          exact ⟨rfl, HB.out.trans ((((Below.refl wr.heap.size wr).alloc (Nat.le_refl _) _).alloc (by simp) _).trans (HB3.out.mono (by simp; omega)) |>.mono HB.out.size)⟩
      · obtain rfl : k = os.length := by omega
        have hxy : os.map Prod.fst = ps.map Prod.fst := by
          have h := HE.out
          rw [List.take_of_length_le (by rw [List.length_map]; exact Nat.le_refl _), List.take_of_length_le (by have := HL.out; rw [List.length_map]; omega)] at h
          exact h
        have hne : decide (os.map Prod.fst = ps.map Prod.fst) = true := decide_eq_true hxy
        have HN := Lib.hid hne
        clear hxy hne
        go_wp2
        go_ret
        rw [HN.out]
        exact ⟨rfl, HB.out⟩
  · have hq : ((os.length : Int) == (ps.length : Int)) = false := beq_eq_false_iff_ne.2 (by omega)
    have hq2 : ((os.length : Int) != (ps.length : Int)) = true := by rw [bne, hq]; rfl
    have hne : decide (os.map Prod.fst = ps.map Prod.fst) = false := decide_eq_false fun e => hl (by have h := congrArg List.length e; rw [List.length_map, List.length_map] at h; exact h)
    rw [hne]
    clear hl hne
    go_enter Try.func45, Try.ntmps45
    go_wp2
    go_ret
    exact ⟨rfl, Below.refl _ _⟩

end Go.Proofs.Ytbjfhlcfnohiiaa
