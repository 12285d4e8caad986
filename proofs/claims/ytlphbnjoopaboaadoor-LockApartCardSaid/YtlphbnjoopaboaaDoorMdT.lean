/- The modes: what the two tables hold, and each function's contract (the package's own). -/
import Derived.Test.YtlphbnjoopaboaaDoorRow
import Derived.HandedShaped
import Derived.Stop.Joined
import Derived.Lay
import Derived.Lib.LaidU8
namespace Go.Proofs.YtlphbnjoopaboaaDoor
open Go.ChangeShapes Go.WideShapes Go.ChangeAt Go.RowKit

/-- Two modes go together. -/
def gN : Nat → Nat → Bool
  | 0, b => decide (b < 5)
  | 1, b => decide (b < 4)
  | 2, b => decide (b < 3)
  | 3, b => decide (b = 0 ∨ b = 1 ∨ b = 3)
  | 4, b => decide (b = 0)
  | _, _ => false
/-- What two modes are together. -/
def jN : Nat → Nat → Nat
  | 2, 3 => 4
  | 3, 2 => 4
  | a, b => max a b

/-- The two tables as the program holds them. -/
structure Tb (W : World) : Prop where
  g : ∀ a b : Nat, a < 5 → b < 5 → W.cell? ⟨1, a * 5 + b, none⟩ = some (.bool (gN a b))
  j : ∀ a b : Nat, a < 5 → b < 5 → W.cell? ⟨0, a * 5 + b, none⟩ = some (.int .i64 (jN a b))
  lt : 2 ≤ W.heap.size

theorem Tb.below {W W' : World} {n : Nat} (h : Tb W) (hb : Below n W W') (hn : 2 ≤ n) : Tb W' := by
  refine ⟨fun a b ha hb' => ?_, fun a b ha hb' => ?_, Nat.le_trans h.lt hb.size⟩
  · rw [← h.g a b ha hb']
    exact hb.cell (by show 1 < n; omega)
  · rw [← h.j a b ha hb']
    exact hb.cell (by show 0 < n; omega)

def isM (x : Int) : Bool := decide (0 ≤ x ∧ x < 5)
def gZ (a b : Int) : Bool := isM a && isM b && gN a.toNat b.toNat
def jZ (a b : Int) : Int := bif isM a && isM b then (jN a.toNat b.toNat : Int) else -1

theorem isMode_any (x : Int) (w : World) : Calls Tryd.prog 30 #[.int .i64 x] w fun e w' => e = .returned (.bool (isM x)) ∧ w' = w := by
  go_enter Tryd.func30, Tryd.ntmps30
  by_cases h0 : 0 ≤ x
  · by_cases h5 : x < 5
    · have e : isM x = true := by simp [isM, h0, h5]
      rw [e]
      go_wp2
      go_ret
      exact ⟨rfl, rfl⟩
    · have e : isM x = false := by simp [isM, h5]
      rw [e]
      go_wp2
      go_ret
      exact ⟨rfl, rfl⟩
  · have e : isM x = false := by simp [isM, h0]
    rw [e]
    go_wp2
    go_ret
    exact ⟨rfl, rfl⟩

theorem cases5 {x : Int} (h0 : 0 ≤ x) (h5 : x < 5) : x = 0 ∨ x = 1 ∨ x = 2 ∨ x = 3 ∨ x = 4 := by omega

theorem goes_any (a b : Int) (w : World) (T : Tb w) : Calls Tryd.prog 20 #[.int .i64 a, .int .i64 b] w fun e w' => e = .returned (.bool (gZ a b)) ∧ w' = w := by
  go_enter Tryd.func20, Tryd.ntmps20
  by_cases ha : isM a = true
  · by_cases hb : isM b = true
    · have ha' := of_decide_eq_true ha
      have hb' := of_decide_eq_true hb
      have e : gZ a b = gN a.toNat b.toNat := by simp [gZ, ha, hb]
      obtain ⟨n, rfl⟩ : ∃ n : Nat, a = n := ⟨a.toNat, by omega⟩
      obtain ⟨m, rfl⟩ : ∃ m : Nat, b = m := ⟨b.toNat, by omega⟩
      have hc := T.g n m (by omega) (by omega)
      have hn5 : n < 5 := by omega
      have hm5 : m < 5 := by omega
      rw [e]
      simp only [Int.toNat_natCast]
      go_wp2_with fail
      refine (isMode_any n w).mono ?_
      rintro e' w1 ⟨rfl, rfl⟩
      rw [ha]
      go_wp2_with fail
      refine (isMode_any m w1).mono ?_
      rintro e' w2 ⟨rfl, rfl⟩
      rw [hb]
      go_wp2_with fail
      go_ret
      exact ⟨rfl, rfl⟩
    · have hb' : isM b = false := by simpa using hb
      have e : gZ a b = false := by simp [gZ, hb']
      rw [e]
      go_wp2_with fail
      refine (isMode_any a w).mono ?_
      rintro e' w1 ⟨rfl, rfl⟩
      rw [ha]
      go_wp2_with fail
      refine (isMode_any b w1).mono ?_
      rintro e' w2 ⟨rfl, rfl⟩
      rw [hb']
      go_wp2_with fail
      go_ret
      exact ⟨rfl, rfl⟩
  · have ha' : isM a = false := by simpa using ha
    have e : gZ a b = false := by simp [gZ, ha']
    rw [e]
    go_wp2_with fail
    refine (isMode_any a w).mono ?_
    rintro e' w1 ⟨rfl, rfl⟩
    rw [ha']
    go_wp2_with fail
    go_ret
    exact ⟨rfl, rfl⟩

theorem join_any (a b : Int) (w : World) (T : Tb w) : Calls Tryd.prog 19 #[.int .i64 a, .int .i64 b] w fun e w' => e = .returned (.int .i64 (jZ a b)) ∧ w' = w := by
  go_enter Tryd.func19, Tryd.ntmps19
  by_cases ha : isM a = true
  · by_cases hb : isM b = true
    · have ha' := of_decide_eq_true ha
      have hb' := of_decide_eq_true hb
      have e : jZ a b = jN a.toNat b.toNat := by simp [jZ, ha, hb]
      obtain ⟨n, rfl⟩ : ∃ n : Nat, a = n := ⟨a.toNat, by omega⟩
      obtain ⟨m, rfl⟩ : ∃ m : Nat, b = m := ⟨b.toNat, by omega⟩
      have hc := T.j n m (by omega) (by omega)
      have hn5 : n < 5 := by omega
      have hm5 : m < 5 := by omega
      rw [e]
      simp only [Int.toNat_natCast]
      go_wp2_with fail
      refine (isMode_any n w).mono ?_
      rintro e' w1 ⟨rfl, rfl⟩
      rw [ha]
      go_wp2_with fail
      refine (isMode_any m w1).mono ?_
      rintro e' w2 ⟨rfl, rfl⟩
      rw [hb]
      go_wp2_with fail
      go_ret
      exact ⟨rfl, rfl⟩
    · have hb' : isM b = false := by simpa using hb
      have e : jZ a b = -1 := by simp [jZ, hb']
      rw [e]
      go_wp2_with fail
      refine (isMode_any a w).mono ?_
      rintro e' w1 ⟨rfl, rfl⟩
      rw [ha]
      go_wp2_with fail
      refine (isMode_any b w1).mono ?_
      rintro e' w2 ⟨rfl, rfl⟩
      rw [hb']
      go_wp2_with fail
      go_ret
      exact ⟨rfl, rfl⟩
  · have ha' : isM a = false := by simpa using ha
    have e : jZ a b = -1 := by simp [jZ, ha']
    rw [e]
    go_wp2_with fail
    refine (isMode_any a w).mono ?_
    rintro e' w1 ⟨rfl, rfl⟩
    rw [ha']
    go_wp2_with fail
    go_ret
    exact ⟨rfl, rfl⟩

/-- What the modes' laws say, of five modes: closed. -/
theorem jN_lt : ∀ a : Fin 5, ∀ b : Fin 5, jN a b < 5 := by decide
theorem two_laws : ∀ a : Fin 5, ∀ b : Fin 5, gN a b = gN b a ∧ jN a b = jN b a ∧ jN a a = a ∧ jN (jN a b) a = jN a b ∧ jN a 0 = a := by decide
theorem three_laws : ∀ a : Fin 5, ∀ b : Fin 5, ∀ c : Fin 5, jN (jN a b) c = jN a (jN b c) ∧ (gN (jN a b) c = true → gN a c = true ∧ gN b c = true) := by decide
theorem gZ_nat {a b : Nat} (ha : a < 5) (hb : b < 5) : gZ a b = gN a b := by
  have e1 : isM (a : Int) = true := by simp [isM]; omega
  have e2 : isM (b : Int) = true := by simp [isM]; omega
  simp [gZ, e1, e2]
theorem jZ_nat {a b : Nat} (ha : a < 5) (hb : b < 5) : jZ a b = jN a b := by
  have e1 : isM (a : Int) = true := by simp [isM]; omega
  have e2 : isM (b : Int) = true := by simp [isM]; omega
  simp [jZ, e1, e2]

theorem goesN {a b : Nat} {w : World} (T : Tb w) (ha : a < 5) (hb : b < 5) {g : Bool} (hg : gN a b = g) : Calls Tryd.prog 20 #[.int .i64 a, .int .i64 b] w fun e w' => e = .returned (.bool g) ∧ w' = w := by
  have := goes_any a b w T
  rw [gZ_nat ha hb, hg] at this
  exact this
theorem joinN {a b : Nat} {w : World} (T : Tb w) (ha : a < 5) (hb : b < 5) {j : Nat} (hj : jN a b = j) : Calls Tryd.prog 19 #[.int .i64 a, .int .i64 b] w fun e w' => e = .returned (.int .i64 j) ∧ w' = w := by
  have := join_any a b w T
  rw [jZ_nat ha hb, hj] at this
  exact this
end Go.Proofs.YtlphbnjoopaboaaDoor
