/- Structs compared. -/
import Derived.Test.YtkfebibnpincpaaEntT
import Derived.Laws.StructEq
import Derived.Deep.QuietTactic
import Derived.BigQuiet
namespace Go.Proofs.Ytkfebibnpincpaa
open Go.RowKit

theorem infoRid2 : (Try.prog.info? 23).map (·.size) = some 2 := by kernel_rfl

theorem eqE_rid (W : World) (p c p' c' : Int) : (binOp .eql 23 (.agg #[.int .i64 p, .int .i64 c]) (.agg #[.int .i64 p', .int .i64 c'])).run Try.prog W = .ok (.bool (decide (p = p' ∧ c = c'))) W := by
  have hS : Try.prog.underlying 23 = some (.struct (Try.prog.fieldsOf 23)) := by kernel_rfl
  have hH : Try.prog.stoodInHeld 23 = false := by kernel_rfl
  have hu : Try.prog.underlying 3 = some (.int .i64) := Try.underlying3
  rw [run_eql_struct, show (10000 : Nat) = 9999 + 1 from rfl, run_equalIn_agg W 9999 _ _ _ hS hH]
  simp only [Program.fieldsOf, Try.underlying23]
  go_simp
  by_cases h1 : p = p' <;> by_cases h2 : c = c' <;> simp [h1, h2]

theorem neE_dirty (W : World) (m n : Dt) : (binOp .neq 48 (.agg #[.int .i64 m.1, .int .i64 m.2]) (.agg #[.int .i64 n.1, .int .i64 n.2])).run Try.prog W = .ok (.bool (!decide (m = n))) W := by
  obtain ⟨a, b⟩ := m
  obtain ⟨a', b'⟩ := n
  have hS : Try.prog.underlying 48 = some (.struct (Try.prog.fieldsOf 48)) := by kernel_rfl
  have hH : Try.prog.stoodInHeld 48 = false := by kernel_rfl
  have hu : Try.prog.underlying 3 = some (.int .i64) := Try.underlying3
  rw [run_neq_struct, show (10000 : Nat) = 9999 + 1 from rfl, run_equalIn_agg W 9999 _ _ _ hS hH]
  simp only [Program.fieldsOf, Try.underlying48]
  go_simp
  by_cases h1 : a = a' <;> by_cases h2 : b = b' <;> simp [h1, h2]

theorem neE_live (W : World) (m n : Lv) : (binOp .neq 46 (.agg #[.int .i64 m.1, .int .i64 m.2.1, .int .i64 m.2.2.1, .bool m.2.2.2]) (.agg #[.int .i64 n.1, .int .i64 n.2.1, .int .i64 n.2.2.1, .bool n.2.2.2])).run Try.prog W = .ok (.bool (!decide (m = n))) W := by
  obtain ⟨a, b, c, d⟩ := m
  obtain ⟨a', b', c', d'⟩ := n
  have hS : Try.prog.underlying 46 = some (.struct (Try.prog.fieldsOf 46)) := by kernel_rfl
  have hH : Try.prog.stoodInHeld 46 = false := by kernel_rfl
  have hu : Try.prog.underlying 3 = some (.int .i64) := Try.underlying3
  have hb : Try.prog.underlying 4 = some .bool := Try.underlying4
  rw [run_neq_struct, show (10000 : Nat) = 9999 + 1 from rfl, run_equalIn_agg W 9999 _ _ _ hS hH]
  simp only [Program.fieldsOf, Try.underlying46]
  go_simp
  by_cases h1 : a = a' <;> by_cases h2 : b = b' <;> by_cases h3 : c = c' <;> by_cases h4 : d = d' <;> simp [h1, h2, h3, h4]

theorem inE_rid (W : World) (d : Nat) (p c p' c' : Int) : (Op.equalIn (d + 2) 23 (.agg #[.int .i64 p, .int .i64 c]) (.agg #[.int .i64 p', .int .i64 c'])).run Try.prog W = .ok (decide (p = p' ∧ c = c')) W := by
  have hS : Try.prog.underlying 23 = some (.struct (Try.prog.fieldsOf 23)) := by kernel_rfl
  have hH : Try.prog.stoodInHeld 23 = false := by kernel_rfl
  have hu : Try.prog.underlying 3 = some (.int .i64) := Try.underlying3
  rw [run_equalIn_agg W (d + 1) _ _ _ hS hH]
  simp only [Program.fieldsOf, Try.underlying23]
  go_simp
  by_cases h1 : p = p' <;> by_cases h2 : c = c' <;> simp [h1, h2]

theorem neE_move (W : World) (m n : Mv) : (binOp .neq 52 (.agg #[.int .i64 m.1, .int .i64 m.2.1, .int .i64 m.2.2.1, .int .i64 m.2.2.2]) (.agg #[.int .i64 n.1, .int .i64 n.2.1, .int .i64 n.2.2.1, .int .i64 n.2.2.2])).run Try.prog W = .ok (.bool (!decide (m = n))) W := by
  obtain ⟨a, b, c, d⟩ := m
  obtain ⟨a', b', c', d'⟩ := n
  have hS : Try.prog.underlying 52 = some (.struct (Try.prog.fieldsOf 52)) := by kernel_rfl
  have hH : Try.prog.stoodInHeld 52 = false := by kernel_rfl
  rw [run_neq_struct, show (10000 : Nat) = 9999 + 1 from rfl, run_equalIn_agg W 9999 _ _ _ hS hH]
  simp only [Program.fieldsOf, Try.underlying52]
  have r1 := fun W => inE_rid W 9997 a b a' b'
  have r2 := fun W => inE_rid W 9997 c d c' d'
  have i1 := infoRid2
  clear hS hH
  go_simp
  by_cases h1 : a = a' <;> by_cases h2 : b = b' <;> by_cases h3 : c = c' <;> by_cases h4 : d = d' <;> simp [h1, h2, h3, h4]

theorem in_of_ne {t : TypeId} {W : World} {xs ys : Array Value} {b : Bool} (h : (binOp .neq t (.agg xs) (.agg ys)).run Try.prog W = .ok (.bool (!b)) W) : (Op.equalIn 10000 t (.agg xs) (.agg ys)).run Try.prog W = .ok b W := by
  rw [run_neq_struct] at h
  generalize (Op.equalIn 10000 t (.agg xs) (.agg ys)).run Try.prog W = r at h
  cases r with
  | ok c w' =>
    simp only [Result.andThen] at h
    injection h with h1 h2
    subst h2
    injection h1 with h3
    have : c = b := by cases c <;> cases b <;> simp_all
    rw [this]
  | _ => simp [Result.andThen] at h
end Go.Proofs.Ytkfebibnpincpaa
