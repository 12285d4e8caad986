/- append of a make onto one's own row; rows as slices that read. -/
import Derived.Test.YtmaamneebdejhaaLend
import Derived.Test.YtmaamneebdejhaaStr
namespace Go.Proofs.Ytmaamneebdejhaa
open Go.RowKit

theorem zero_cells (n : Nat) : Builtin.zeroCells (Value.int .u8 0).cells n = (byteV (List.replicate n 0)).toArray := by
  rw [← made_zeros]
  unfold Builtin.zeroCells madeCells
  rw [show n * (Value.int .u8 0).cells.size = n from Nat.mul_one n]

theorem zeros_own (w : World) (B g n cap : Nat) (l : List Int) (k : Nat) (hown : w.ownsRow B 5 1 (.slice (some ⟨g, 0, none⟩) n cap) n (byteV l)) (hk : n + k ≤ 100000) (hBw : B ≤ w.heap.size) :
    ∃ v' w', (∀ ty, (Builtin.append_ #[22, 3] ty #[.slice (some ⟨g, 0, none⟩) n cap, .int .i64 (k : Int)]).run Try.prog w = .ok v' w') ∧ w'.ownsRow B 5 1 v' (n + k) (byteV (l ++ List.replicate k 0)) ∧ w.grownBy w' (some g) := by
  obtain ⟨i, hi, hz0, hz1, hz2⟩ := info_parts infoU8
  obtain ⟨h1, ⟨e, _⟩ | ⟨g', cap', cur, e, hB, hg, hle, hm, hsz, htake⟩⟩ := hown
  · cases e
  cases e
  have hl : l.length = n := by simpa [byteV] using h1
  have hneg : ¬ ((k : Int) < 0) := by omega
  have hw : IntKind.i64.wrap (k : Int) = k := by rw [IntKind.wrap_i64]; omega
  by_cases hroom : n + k ≤ cap
  · have hst := run_storeCells_at Try.prog g (n * 1) 5 (byteV (List.replicate k 0)) 0 cur w hg (by simp [byteV]; omega) (byteV_one _)
    simp only [Nat.add_zero, Nat.mul_one] at hst
    refine ⟨.slice (some ⟨g, 0, none⟩) (n + k) cap, w.setRow g (cur.toList.take n ++ byteV (List.replicate k 0) ++ cur.toList.drop (n + (byteV (List.replicate k 0)).length)).toArray, fun ty => ?_, ⟨by simp [byteV, hl], .inr ⟨g, cap, _, rfl, hB, setRow_heap _ _ _ _ _ _ hg, hroom, hm, ?_, ?_⟩⟩, ⟨rfl, rfl, rfl, by simp, fun j _ hj => setRow_other _ _ _ _ (fun e => hj (by rw [e]))⟩⟩
    · rcases Nat.eq_zero_or_pos k with rfl | hpos
      · have hs := setRow_self w g cur 5 (0, 0) hg
        have w0 : IntKind.i64.wrap 0 = 0 := by decide
        simp [Builtin.append_, run_underlying Try.underlying22, run_underlying Try.underlying3, sizeOf, typeInfo, hi, asInt, asIntOf, w0, hle, byteV, hs, storeCells]
      · have h48i : ¬ (281474976710656 < (k : Int) * (i.bytes : Int)) := by rw [hz2]; omega
        simp only [Nat.mul_one] at htake
        simp [Builtin.append_, run_underlying Try.underlying22, run_underlying Try.underlying3, sizeOf, typeInfo, zeroValue, hi, hz0, asInt, asIntOf, hw, hneg, h48i, hroom, zero_cells, Addr.add_lit, hz1, hst]
        omega
    · simp [byteV, hsz]
      omega
    · have e1 : cur.toList.take (n * 1) = byteV l := htake
      simp only [Nat.mul_one] at e1 ⊢
      rw [e1, List.take_left' (by simp [byteV, hl])]
      simp [byteV]
  · have hcells : ∀ j u, (byteV l)[j]? = some u → w.drew.cell? ((⟨g, 0, none⟩ : Addr).add j) = some u := by
      intro j u hu
      have hadd : (⟨g, 0, none⟩ : Addr).add j = ⟨g, j, none⟩ := by unfold Addr.add; split <;> simp_all
      rw [hadd]
      show w.cell? _ = _
      rw [cell_of_row w g j cur 5 (0, 0) hg]
      rw [← htake, List.getElem?_take] at hu
      split at hu
      · simpa using hu
      · cases hu
    have hold : (Builtin.firstCells i.size n (.slice (some ⟨g, 0, none⟩) n cap)).run Try.prog w.drew = .ok (byteV l).toArray w.drew :=
      run_firstCells_some w.drew i.size n ⟨g, 0, none⟩ n cap (byteV l) (by rw [hz1]; simp [byteV, hl]) hcells
    have hr := fun ty => Lib.run_append_grow_zeros w 22 3 ty 5 i (.int .u8 0) .i64 .i64 Try.underlying22 Try.underlying3 hi hz0 (some ⟨g, 0, none⟩) n cap (byteV l) hold k (by omega) (by omega) (by omega) (by omega) (by rw [hz2]; omega) (growslice_fits (by omega) (by rw [hz2]; omega))
    have hG := grownCap_ge w (n + k) cap 5
    have hM := grownCap_le_maxLen w (n + k) cap 5 (by unfold maxLen; omega)
    refine ⟨_, _, hr, ⟨by simp [byteV, hl], .inr ⟨w.heap.size, _, _, rfl, hBw, heap_alloc_new w.drew _, hG, hM, ?_, ?_⟩⟩, ⟨rfl, rfl, rfl, by simp, fun j hj _ => Below.heap_alloc w.drew _ j hj⟩⟩
    · simp [size_zeroCells, Value.cells, byteV, hl]
      omega
    · rw [zero_cells, zero_cells]
      simp only [Array.toList_append, Nat.mul_one]
      rw [List.take_left' (by simp [byteV, hl])]
      simp [byteV]

theorem own_slK {w : World} {B n : Nat} {v : Value} {l : List Int} (h : w.ownsRow B 5 1 v n (byteV l)) (hok : bytesOk l) : SlK .u8 w v l := by
  by_cases hn : n = 0
  · obtain ⟨h1, h2⟩ := h
    subst hn
    have hl : l = [] := by simpa [byteV] using h1
    subst hl
    rcases h2 with ⟨rfl, _⟩ | ⟨g, cap, cur, rfl, hB, hg, _⟩
    · exact slK_nil w
    · exact Pt.slK ⟨g, 0, cap, rfl, Nat.zero_le _, (Array.getElem?_eq_some_iff.1 hg).1, fun j hj => by cases hj⟩ hok
  · obtain ⟨g, cap, rfl, a1, a2, a3, a4, a5, a6⟩ := own_pt h (by omega)
    exact Pt.slK ⟨g, 0, cap, by rw [a5], by omega, a2, fun j hj => by rw [Nat.zero_add]; exact a6 j hj⟩ hok
end Go.Proofs.Ytmaamneebdejhaa
