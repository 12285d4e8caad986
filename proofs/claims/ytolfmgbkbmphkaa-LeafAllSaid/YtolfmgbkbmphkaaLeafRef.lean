/- The reference's Leaf. -/
import Derived.Test.YtolfmgbkbmphkaaLeafPut
namespace Go.Proofs.Ytolfmgbkbmphkaa
open Go.RowKit

theorem zeros_grow (w : World) (B n : Nat) (v : Value) (l : List Int) (k : Nat) (hown : w.ownsRow B 5 1 v n (byteV l)) (h0 : 0 < k) (hk : n + k ≤ 100000) (hBw : B ≤ w.heap.size) :
    ∃ v' w', (∀ ty, (Builtin.append_ #[22, 3] ty #[v, .int .i64 (k : Int)]).run Try.prog w = .ok v' w') ∧ w'.ownsRow B 5 1 v' (n + k) (byteV (l ++ List.replicate k 0)) ∧ Below B w w' := by
  rcases id hown with ⟨h1, ⟨rfl, rfl⟩ | ⟨g, cap, cur, rfl, a, b, r⟩⟩
  · obtain ⟨i, hi, hz0, hz1, hz2⟩ := info_parts infoU8
    have hl : l = [] := by simpa [byteV] using h1
    subst hl
    have hrz := fun ty => Lib.run_append_nil_zeros w 22 3 ty 5 i (.int .u8 0) .i64 .i64 Try.underlying22 Try.underlying3 hi hz0 k h0 (by omega) (by omega) (by rw [hz2]; omega)
    have hG := grownCap_ge w k 0 5
    have hM := grownCap_le_maxLen w k 0 5 (by unfold maxLen; omega)
    refine ⟨_, _, hrz, ⟨by simp [byteV], .inr ⟨w.heap.size, _, _, by rw [Nat.zero_add], hBw, heap_alloc_new w.drew _, by rw [Nat.zero_add]; exact hG, hM, ?_, ?_⟩⟩, (Below.refl _ w).drew.alloc hBw _⟩
    · simp [size_zeroCells, Value.cells]; omega
    · rw [zero_cells, zero_cells, Nat.zero_add]
      simp only [Array.toList_append, Nat.mul_one, List.nil_append]
      exact List.take_left' (by simp [byteV])
  · obtain ⟨v', w', h2, h3, h4⟩ := zeros_own w B g n cap l k hown hk hBw
    exact ⟨v', w', h2, h3, (Below.refl _ w).grown h4 hBw (fun q hq => by cases hq; exact a)⟩

set_option maxRecDepth 100000 in
set_option maxHeartbeats 2000000 in
theorem rleaf_any (w : World) (P : Nat → Option Addr) (N K : Nat → Nat) (n : Int) (c : Nat → List Int) (h : Cs w P N K c) :
    Calls Try.prog 13 #[pgV P N K n] w (PutPost w c n) := by
  obtain ⟨i, hi, hz0, hz1, hz2⟩ := info_parts infoU8
  unfold pgV
  have hb1 : Below w.heap.size w (w.alloc (pgO P N K n)) := (Below.refl _ _).alloc (Nat.le_refl _) _
  have hk1 : (w.alloc (pgO P N K n)).heap[w.heap.size]? = some (pgO P N K n) := heap_alloc_new w _
  have HH := Lib.hid h
  have HB1 := Lib.hid hb1
  have HK1 := Lib.hid hk1
  have HZ1 : Hid (w.heap.size + 1 ≤ (w.alloc (pgO P N K n)).heap.size) := by show _ ≤ _; simp
  have HO1 : Hid ((w.alloc (pgO P N K n)).ownsRow (w.heap.size + 1) 5 1 (.slice none 0 0) (26 * 0) (byteV (cellsL c 0))) := World.ownsRow_nil _ _ _ _
  clear h hb1 hk1
  go_enter Try.func13, Try.ntmps13
  go_upto_region 1 with (fail)
  show Code.wp _ _ _ _ (w.alloc (pgO P N K n))
  generalize w.alloc (pgO P N K n) = w1 at *
  go_wp2
  go_loopw [5, 6] (fun b i wr => ∃ k : Nat, k ≤ 4 ∧ i = .int .i64 k ∧ Hid (∀ j, j < k → okL (c j) = true) ∧ Hid (wr.heap[w.heap.size]? = some (pgO P N K n)) ∧ Hid (wr.ownsRow (w.heap.size + 1) 5 1 b (26 * k) (byteV (cellsL c k))) ∧ Hid (Below w.heap.size w wr) ∧ Hid (w.heap.size + 1 ≤ wr.heap.size)) (fun _ i _ => 4 - (intOf i).toNat)
  case atStart => exact ⟨0, by omega, rfl, fun j hj => by omega, HK1, HO1, HB1, HZ1⟩
  case round =>
    obtain ⟨k, hk, rfl, HZ, HG, HO, HB, HS⟩ := hrel
    clear HB1 HK1 HO1 HZ1
    by_cases hlt : k < 4
    · have ck := (pg_cell HG.out).1 k hlt
      obtain ⟨hNk, hsl⟩ := HH.out k hlt
      have hsl2 := hsl.below HB.out (Nat.le_refl _)
      by_cases hok : okL (c k) = true
      · have HZ2 : Hid (∀ j, j < k + 1 → okL (c j) = true) := fun j hj => by
          by_cases e : j = k
          · subst e; exact hok
          · exact HZ.out j (by omega)
        have hor : N k = 0 ∨ N k = 26 := by rw [hNk]; exact of_decide_eq_true hok
        rcases hor with h0 | h0
        · have hl0 : (c k).length = 0 := by omega
          obtain ⟨v2, w2, hr, ho, hb⟩ := zeros_grow wr _ _ _ _ 26 HO.out (by decide) (by omega) HS.out
          have HO2 : Hid (w2.ownsRow (w.heap.size + 1) 5 1 v2 (26 * (k + 1)) (byteV (cellsL c (k + 1)))) := by
            rw [cellsL, pd, if_pos hl0, z26]; exact ho
          have HG2 := Lib.hid ((hb.block w.heap.size (Nat.lt_succ_self _)).trans HG.out)
          have HB2 := Lib.hid (HB.out.trans (hb.mono (Nat.le_succ _)))
          have HS2 := Lib.hid (Nat.le_trans HS.out hb.size)
          have HR := Lib.hid hr
          rw [h0] at ck
          clear hNk hsl hsl2 hok h0 hl0 ho hb hr
          go_wp2_with (at_builtin; refine Lib.wpList_append_run _ rfl _ _ _ _ rfl _ _ rfl rfl _ _ (HR.out _) ?_)
          go_roundw
          case rel => exact ⟨k + 1, by omega, by go_num, HZ2, HG2, HO2, HB2, HS2⟩
          case measure => simp [intOf]; omega
        · have hl0 : (c k).length = 26 := by omega
          have hne : c k ≠ [] := fun e => by rw [e] at hl0; cases hl0
          have hpt := hsl2.pt hne
          obtain ⟨b', o', cap', e, -⟩ := id hpt
          injection e with e1 e2 e3
          have HNe := Lib.hid hpt
          rw [e1] at ck HNe
          rw [h0] at ck HNe
          have HL := Lib.hid hl0
          clear hNk hsl hsl2 hok h0 hl0 hpt e1 e2 e3 hne
          go_wp2_with (at_builtin; refine wpList_append_own _ rfl _ _ 22 rfl (w.heap.size + 1) 5 i (.int .u8 0) 1 1 Try.underlying22 hi hz0 hz1 hz2 rfl (by decide) _ (26 * k) (byteV (cellsL c k)) rfl HO.out ⟨b', o', none⟩ 26 _ (byteV (c k)) rfl ?c2 HNe.out.news (byteV_one _) (by unfold maxLen; omega) (by omega) HS.out ?_)
          case c2 => rw [byteV, List.length_map, HL.out]
          intro v2 w2 ho hg _
          have hb : Below (w.heap.size + 1) wr w2 := (Below.refl _ wr).grown hg HS.out (fun q hq => (HO.out.lt q hq).1)
          have HO2 : Hid (w2.ownsRow (w.heap.size + 1) 5 1 v2 (26 * (k + 1)) (byteV (cellsL c (k + 1)))) := by
            rw [cellsL, pd, if_neg (by rw [HL.out]; decide), show byteV (cellsL c k ++ c k) = byteV (cellsL c k) ++ byteV (c k) by simp [byteV]]; exact ho
          have HG2 := Lib.hid ((hb.block w.heap.size (Nat.lt_succ_self _)).trans HG.out)
          have HB2 := Lib.hid (HB.out.trans (hb.mono (Nat.le_succ _)))
          have HS2 := Lib.hid (Nat.le_trans HS.out hb.size)
          clear ho hg hb ck
          go_wp2
          go_roundw
          case rel => exact ⟨k + 1, by omega, by go_num, HZ2, HG2, HO2, HB2, HS2⟩
          case measure => simp [intOf]; omega
      · have HNo : Hid (PutPost w c n (.returned (.tuple #[.slice none 0 0, .slice none 0 0, .int .i64 1])) wr) := by
          have e : okC c = false := okC_no hlt (by cases h : okL (c k) <;> simp_all)
          exact ⟨_, _, by rw [lfE, if_neg (by rw [e]; decide)], by rw [lfA, if_neg (by rw [e]; decide)]; exact slK_nil _, by rw [lfB, if_neg (by rw [e]; decide)]; exact slK_nil _, HB.out⟩
        have hn : ¬ (N k = 0 ∨ N k = 26) := by rw [hNk]; intro e; exact hok (by unfold okL; rw [decide_eq_true_eq]; exact e)
        have n2 : ¬ N k = 0 := by omega
        have n3 : ¬ N k = 26 := by omega
        have m0 : (((N k : Nat) : Int) == 0) = false := by simpa using n2
        have m1 : (((N k : Nat) : Int) == 26) = false := by simp; omega
        clear hn hNk hsl hsl2 hok
        go_wp2
        go_ret3
        exact HNo.out
    · obtain rfl : k = 4 := by omega
      have d4 := (pg_cell HG.out).2.1
      have hsl := own_slK HO.out (cellsL_ok (fun j hj => (HH.out j hj).2.ok))
      have HC : Hid (okC c = true) := okC_all HZ.out
      have HP := Lib.hid (ref_P wr n _ _ hsl)
      clear hsl HG HO
      go_wp2_with fail
      refine HP.out.mono ?_
      rintro e w5 ⟨va, vb, rfl, ka, kb, hb5⟩
      have HPo : Hid (PutPost w c n (.returned (.tuple #[va, vb, .int .i64 (pE n (cellsL c 4))])) w5) := ⟨va, vb, by rw [lfE, if_pos HC.out], by rw [lfA, if_pos HC.out]; exact ka, by rw [lfB, if_pos HC.out]; exact kb, HB.out.trans (hb5.mono HB.out.size)⟩
      clear ka kb hb5
      generalize pE n (cellsL c 4) = ee at *
      go_wp2
      go_ret3
      exact HPo.out

end Go.Proofs.Ytolfmgbkbmphkaa
