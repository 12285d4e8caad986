/- hand: the comparison, and what a place is asked. -/
import Derived.Test.YtnpgiboapckgpaaHdB
namespace Go.Proofs.Ytnpgiboapckgpaa
open Go.RowKit

theorem hmf : ∀ (fn : Fn) (first cap : Array Value) (w : World), (Instr.makeFunc fn first cap).run Try.prog w = .ok (.func fn first cap) w := fun _ _ _ _ => rfl

theorem recov_idle (w : World) :
    CallsD Try.prog 35 #[] .returning w fun e u' w' => e = .returned (.tuple #[]) ∧ u' = .returning ∧ w' = w := by
  refine callsD_of_wpS Try.func35 rfl fun c₀ cs hu => ?_
  apply wpS_region
  simp [wpOpsS, go_sem, recoverD, hu, Try.ntmps35, bodyPostS, results, Try.results35]
  cases c₀
  simp_all

theorem same_any (w : World) (x y : Int) : Calls Try.prog 32 #[.int .i64 x, .int .i64 y] w fun e w' => e = .returned (.bool (decide (x = y))) ∧ w' = w := by
  have hmf := hmf
  have hd : (decide (x = y)) = (x == y) := by by_cases h : x = y <;> simp [h]
  rw [hd]
  go_enter_defers Try.func32, Try.ntmps32
  go_wp2
  refine leaves_cons (f := 35) (args := #[]) (by simp) (by simp [go_sem]) ?_
  refine (recov_idle _).mono ?_
  rintro e u' w'' ⟨rfl, rfl, rfl⟩
  simp [Leaves, settle, results, Try.results32, go_sem]

theorem isHit (w : World) {p g q : Nat} {s : St} {k : Int} {i : Nat} (h : HA w p g s) (hi : i < s.n) (hk : w.cell? ⟨q, 0, none⟩ = some (.int .i64 k)) :
    Calls Try.prog 31 #[.pointer (some ⟨g, i * 5, none⟩), .pointer (some ⟨q, 0, none⟩)] w fun e w' => e = .returned (.bool (hit s k i)) ∧ ∃ m, w' = w.drewN m := by
  have c0 := h.cell hi (j := 0) (by omega)
  rw [Nat.add_zero] at c0
  have c1 := h.cell hi (j := 1) (by omega)
  rw [show (s.P i).c[0]? = some (.bool (s.P i).u) from rfl] at c0
  rw [show (s.P i).c[1]? = some (.int .i64 (s.P i).k) from rfl] at c1
  cases hu : (s.P i).u with
  | false =>
    rw [hu] at c0
    rw [show hit s k i = false by simp [hit, hu]]
    clear c1
    go_enter Try.func31, Try.ntmps31
    go_wp2_with fail
    go_quiet (fail)
    go_wp2
    go_ret
    exact ⟨rfl, _, rfl⟩
  | true =>
    rw [hu] at c0
    rw [show hit s k i = decide ((s.P i).k = k) by simp [hit, hu]]
    go_enter Try.func31, Try.ntmps31
    go_wp2_with fail
    go_quiet ((first | (go_at_call 32; exact Calls.quiet_of_same (same_any _ _ _))))
    go_wp2
    go_ret
    exact ⟨rfl, _, rfl⟩
theorem isVac (w : World) {p g : Nat} {s : St} {i : Nat} (h : HA w p g s) (hi : i < s.n) :
    Calls Try.prog 33 #[.pointer (some ⟨g, i * 5, none⟩)] w fun e w' => e = .returned (.bool (vac s i)) ∧ w' = w := by
  have c0 := h.cell hi (j := 0) (by omega)
  rw [Nat.add_zero] at c0
  rw [show (s.P i).c[0]? = some (.bool (s.P i).u) from rfl] at c0
  have hnot : ∀ (x : Bool) (w : World), (Op.unary .not (.bool x)).run Try.prog w = .ok (.bool (!x)) w := fun _ _ => rfl
  unfold vac
  go_enter Try.func33, Try.ntmps33
  go_wp2
  go_ret
  exact ⟨rfl, rfl⟩
theorem isLoose (w : World) {p g : Nat} {s : St} {i : Nat} (h : HA w p g s) (hi : i < s.n) :
    Calls Try.prog 34 #[.pointer (some ⟨g, i * 5, none⟩)] w fun e w' => e = .returned (.bool (loose s i)) ∧ w' = w := by
  have c4 := h.cell hi (j := 4) (by omega)
  rw [show (s.P i).c[4]? = some (.int .i64 ((s.P i).n : Int)) from rfl] at c4
  have hd : loose s i = (((s.P i).n : Int) == 0) := by unfold loose; by_cases e : (s.P i).n = 0 <;> simp [e]
  rw [hd]
  go_enter Try.func34, Try.ntmps34
  go_wp2
  go_ret
  exact ⟨rfl, rfl⟩
end Go.Proofs.Ytnpgiboapckgpaa
