/- begun of layer 4. -/
import Derived.Test.YtmijdjlpfjfjoaaLeafB
import Derived.Test.YtmijdjlpfjfjoaaLeafTake
namespace Go.Proofs.Ytmijdjlpfjfjoaa
open Go.RowKit

theorem pg5 {w : World} {g : Nat} {P : Nat → Option Addr} {N K : Nat → Nat} {n : Int} (h : w.heap[g]? = some (pgO P N K n)) : w.cell? ⟨g, 0, none⟩ = some (.slice (P 0) (N 0) (K 0)) ∧ w.cell? ⟨g, 1, none⟩ = some (.slice (P 1) (N 1) (K 1)) ∧ w.cell? ⟨g, 2, none⟩ = some (.slice (P 2) (N 2) (K 2)) ∧ w.cell? ⟨g, 3, none⟩ = some (.slice (P 3) (N 3) (K 3)) ∧ w.cell? ⟨g, 4, none⟩ = some (.int .i64 n) := by
  have := pg_cell h
  exact ⟨this.1 0 (by decide), this.1 1 (by decide), this.1 2 (by decide), this.1 3 (by decide), this.2.1⟩

theorem infoA : (Try.prog.info? 33).map (·.size) = some 4 := by kernel_rfl
theorem field_any (w : World) (P : Nat → Option Addr) (N K : Nat → Nat) (n : Int) : (Instr.field 35 (.agg #[.slice (P 0) (N 0) (K 0), .slice (P 1) (N 1) (K 1), .slice (P 2) (N 2) (K 2), .slice (P 3) (N 3) (K 3), .int .i64 n]) 0).run Try.prog w = .ok (.agg #[.slice (P 0) (N 0) (K 0), .slice (P 1) (N 1) (K 1), .slice (P 2) (N 2) (K 2), .slice (P 3) (N 3) (K 3)]) w := by
  obtain ⟨i, hi, hz⟩ := Option.map_eq_some_iff.1 infoA
  simp [Instr.field, asAgg, isAgg, sizeOf, typeInfo, hi, hz, run_underlying Try.underlying35, run_underlying Try.underlying33, go_sem]

def bk : ByteArray := ⟨#[97]⟩
def bc : Nat → List Int := setC noC 0 2 5 (rowL ⟨#[97]⟩ ⟨#[]⟩ ⟨#[]⟩)
theorem bm : mayB ⟨#[97]⟩ ⟨#[]⟩ ⟨#[]⟩ = true := by decide
theorem bc_2 : bc 2 = rowL ⟨#[97]⟩ ⟨#[]⟩ ⟨#[]⟩ := rfl
theorem bc_ne {j : Nat} (h : j ≠ 2) : bc j = [] := by
  show (if setQ 0 2 5 = true then upd noC (Int.toNat 2) _ else noC) j = []
  rw [if_pos (by decide)]
  exact if_neg h
theorem rdOk_nil : rdOk [] := ⟨_, _, _, _, _, _, .empty (.inl rfl)⟩
theorem rdOk_z : rdOk z26 := ⟨_, _, _, _, _, _, .empty (.inr rfl)⟩
theorem rdOk_pd {l : List Int} (h : rdOk l) : rdOk (pd l) := by
  unfold pd
  by_cases h0 : l.length = 0
  · rw [if_pos h0]; exact rdOk_z
  · rw [if_neg h0]; exact h
theorem bc_ok : okC bc = true := by
  refine okC_all fun j hj => ?_
  by_cases e : j = 2
  · subst e; rw [bc_2]; decide
  · rw [bc_ne e]; rfl
theorem bc_rd (j : Nat) : rdOk (bc j) := by
  by_cases e : j = 2
  · subst e; rw [bc_2]; exact ⟨_, _, _, _, _, _, .row _ _ _ bm rfl⟩
  · rw [bc_ne e]; exact rdOk_nil
theorem bc_len (j : Nat) : (bc j).length ≤ 100000 := by
  by_cases e : j = 2
  · subst e; rw [bc_2]; decide
  · rw [bc_ne e]; decide
theorem sameB_nrm (l : List Int) : sameB l (nrm l) = true := by
  unfold sameB
  rw [decide_eq_true_eq]
  rcases nrm_or l with ⟨_, h⟩ | ⟨_, h, _⟩
  · rw [h]; decide
  · rw [h, h]


end Go.Proofs.Ytmijdjlpfjfjoaa
