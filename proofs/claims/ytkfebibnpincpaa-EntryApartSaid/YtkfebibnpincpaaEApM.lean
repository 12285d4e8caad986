/- Moves are appended. -/
import Derived.Test.YtkfebibnpincpaaEApP
namespace Go.Proofs.Ytkfebibnpincpaa
open Go.RowKit

theorem mvV_len (m : Mv) : (mvV m).length = 4 := rfl
theorem append_none0 {w : World} {base : Nat} (t ty e : TypeId) (i : TypeInfo) (size : Nat) (ht : Try.prog.underlying t = some (.slice e)) (hi : Try.prog.info? e = some i)
    (v : Value) (n c : Nat) (xs : List Value) (hown : w.ownsRow base e size v n xs) :
    (Builtin.append_ #[t, t] ty #[v, .slice none 0 c]).run Try.prog w = .ok v w := by
  rcases hown.2 with ⟨rfl, rfl⟩ | ⟨g, cap, cur, rfl, _, _, hnc, _⟩
  · simp [Builtin.append_, run_underlying ht, sizeOf, typeInfo, hi, Builtin.lenOf, Builtin.firstCells]
  · simp [Builtin.append_, run_underlying ht, sizeOf, typeInfo, hi, Builtin.lenOf, Builtin.firstCells, hnc, storeCells]

set_option maxRecDepth 100000 in
theorem run_append_mv {W : World} {B n : Nat} {v sv : Value} {xs ms : List Mv} (hown : W.ownsRow B 52 4 v n (xs.flatMap mvV)) (hs : Els W sv 4 (ms.map mvV)) (hn : n + ms.length ≤ 1000) (hB : B ≤ W.heap.size) :
    ∃ v' w', (∀ ty, (Builtin.append_ #[25, 25] ty #[v, sv]).run Try.prog W = .ok v' w') ∧ w'.ownsRow B 52 4 v' (n + ms.length) ((xs ++ ms).flatMap mvV) ∧ W.grownBy w' v.ownBlock ∧ (v'.ownBlock = v.ownBlock ∨ ∀ k, v'.ownBlock = some k → W.heap.size ≤ k) := by
  obtain ⟨i, hi, hz0, hz1, hz2⟩ := info_parts informoves_any
  obtain ⟨p, cap, rfl, h1, h3, h4⟩ := hs
  rw [List.length_map] at h1 ⊢
  cases p with
  | none =>
    obtain rfl : ms = [] := List.map_eq_nil_iff.1 (h3 rfl)
    refine ⟨v, W, fun ty => append_none0 25 ty 52 i 4 Try.underlying25 hi v n _ _ hown, by simpa using hown, ⟨rfl, rfl, rfl, Nat.le_refl _, fun _ _ _ => rfl⟩, .inl rfl⟩
  | some a =>
    have hfl : (ms.flatMap mvV).length = ms.length * 4 := by
      clear hown hn h1 h3 h4
      induction ms with
      | nil => rfl
      | cons x t ih => rw [List.flatMap_cons, List.length_append, ih, mvV_len, List.length_cons]; omega
    have hnews : ∀ j u, (ms.flatMap mvV)[j]? = some u → W.cell? (a.add j) = some u := fun j u hu => by
      have hj : j < ms.length * 4 := by rw [← hfl]; exact (List.getElem?_eq_some_iff.1 hu).1
      have hne : ms.map mvV ≠ [] := by
        intro e
        rw [List.map_eq_nil_iff] at e
        subst e
        simp at hj
      obtain ⟨hsp, hbl, hc⟩ := h4 a rfl hne
      obtain ⟨ab, ao, asp⟩ := a
      cases hsp
      have e2 : (⟨ab, ao, none⟩ : Addr).add j = ⟨ab, ao + j / 4 * 4 + j % 4, none⟩ := by
        unfold Addr.add
        have := Nat.div_add_mod j 4
        split
        · simp_all
        · rw [show ao + j = ao + j / 4 * 4 + j % 4 by omega]
      have e3 := hc (j / 4) (j % 4) (by rw [List.length_map]; omega) (by omega)
      rw [e2, e3, ← flat_at mvV_len ms (j / 4) (j % 4) (by omega) (by omega), show j / 4 * 4 + j % 4 = j by omega, hu]
    have hone : ∀ u ∈ ms.flatMap mvV, u.oneCell' = true := fun u hu => by
      obtain ⟨m, _, hm⟩ := List.mem_flatMap.1 hu
      simp [mvV] at hm
      rcases hm with rfl | rfl | rfl | rfl <;> rfl
    have hR := fun ty => run_append_own_at (P := Try.prog) W B 25 ty 52 i (.agg #[.int .i64 0, .int .i64 0, .int .i64 0, .int .i64 0]) 4 32 Try.underlying25 hi hz0 hz1 hz2 rfl (by decide) v n (xs.flatMap mvV) hown a ms.length cap (ms.flatMap mvV) hfl hnews hone (by unfold maxLen; omega) (by omega) hB
    obtain ⟨v', w', hr, k2, k3, _, k5⟩ := hR 0
    refine ⟨v', w', fun ty => hr, by rw [List.flatMap_append]; exact k2, k3, ?_⟩
    rcases k5 with e | e
    · exact .inl e
    · refine .inr fun k hk => ?_
      rw [e] at hk; cases hk; exact Nat.le_refl _

set_option maxRecDepth 100000 in
/-- append(append([]api.Move{}, ms...), api.Move{}). -/
theorem app_mv (W : World) {sv : Value} {ms : List Mv} (h : Els W sv 4 (ms.map mvV)) (hl : ms.length ≤ 45) :
    ∃ A1 m1 c1 W1, (∀ ty, (Builtin.append_ #[25, 25] ty #[.slice (some ⟨W.heap.size, 0, none⟩) 0 0, sv]).run Try.prog (W.alloc (.cells #[] 52)) = .ok (.slice A1 m1 c1) W1) ∧
      ∃ A2 m2 c2 W2, (∀ ty, (Builtin.append_ #[25, 25] ty #[.slice A1 m1 c1, .slice (some ⟨W1.heap.size, 0, none⟩) 1 1]).run Try.prog (W1.alloc (.cells #[.int .i64 0, .int .i64 0, .int .i64 0, .int .i64 0] 52)) = .ok (.slice A2 m2 c2) W2) ∧ Els W2 (.slice A2 m2 c2) 4 ((ms ++ [mv0]).map mvV) ∧ (∀ b, (Value.slice A2 m2 c2).ownBlock = some b → W.heap.size ≤ b) ∧ Below W.heap.size W W2 := by
  have b0 : Below W.heap.size W (W.alloc (.cells #[] 52)) := (Below.refl _ _).alloc (Nat.le_refl _) _
  have ho : (W.alloc (.cells #[] 52)).ownsRow W.heap.size 52 4 (.slice (some ⟨W.heap.size, 0, none⟩) 0 0) 0 (([] : List Mv).flatMap mvV) :=
    World.ownsRow_made (e := 52) (size := 4) W #[] 0 (Nat.le_refl _) (by unfold maxLen; omega) rfl
  obtain ⟨v1, W1, hr1, ho1, hg1, hv1⟩ := run_append_mv ho (h.below b0 (Nat.le_refl _)) (by omega) b0.size
  obtain ⟨A1, m1, c1, rfl⟩ := own_shape ho1
  have b1 : Below W.heap.size W W1 := b0.trans ⟨hg1.os, hg1.tape, hg1.output, hg1.size, fun k hk => hg1.block k (by have := b0.size; omega) (by intro e2; simp [Value.ownBlock] at e2; omega)⟩
  have b2 : Below W1.heap.size W1 (W1.alloc (.cells #[.int .i64 0, .int .i64 0, .int .i64 0, .int .i64 0] 52)) := (Below.refl _ _).alloc (Nat.le_refl _) _
  have hz : (W1.alloc (.cells #[.int .i64 0, .int .i64 0, .int .i64 0, .int .i64 0] 52)).ownsRow W1.heap.size 52 4 (.slice (some ⟨W1.heap.size, 0, none⟩) 1 1) 1 ([mv0].flatMap mvV) :=
    World.ownsRow_lit W1 #[.int .i64 0, .int .i64 0, .int .i64 0, .int .i64 0] 1 (Nat.le_refl _) (by unfold maxLen; omega) rfl
  have hone := (own_els mvV_len hz rfl).1
  obtain ⟨v2, W2, hr2, ho2, hg2, hv2⟩ := run_append_mv (own_bel ho1 b2) hone (by simp; omega) (by have := b1.size; have := b2.size; omega)
  obtain ⟨A2, m2, c2, rfl⟩ := own_shape ho2
  have h2 := own_els mvV_len ho2 (by simp)
  refine ⟨A1, m1, c1, W1, hr1, A2, m2, c2, W2, hr2, h2.1, h2.2, b1.trans ((b2.mono b1.size).trans ⟨hg2.os, hg2.tape, hg2.output, hg2.size, fun k hk => hg2.block k (by have := b1.size; have := b2.size; omega) (fun e2 => ?_)⟩)⟩
  have := (ho1.lt k e2.symm).1
  omega
end Go.Proofs.Ytkfebibnpincpaa
