/- slices.Concat of slices of bytes. -/
import Derived.Test.YthhnmpobkekbbaaGreatByt
namespace Go.Proofs.YthhnmpobkekbbaaGreat
open Go.RowKit

set_option maxRecDepth 100000 in
set_option maxHeartbeats 400000 in
theorem grow_nil (w : World) (n : Nat) (hn : n ≤ 1000000) : Calls Tryz.prog 75 #[.slice none 0 0, .int .i64 n] w fun e w' => ∃ v, e = .returned v ∧ w'.ownsRow w.heap.size 5 1 v 0 [] ∧ Below w.heap.size w w' := by
  obtain ⟨i, hi, hz0, hz1, hz2⟩ := info_parts infoU8
  rcases Nat.eq_zero_or_pos n with rfl | h0
  · go_enter Tryz.func75, Tryz.ntmps75
    go_wp2
    go_ret
    exact ⟨_, rfl, World.ownsRow_nil _ _ _ _, Below.refl _ _⟩
  · have hrz : ∀ ty, (Builtin.append_ #[36, 3] ty #[.slice none 0 0, .int .i64 n]).run Tryz.prog w = _ := fun ty => Lib.run_append_nil_zeros w 36 3 ty 5 i (.int .u8 0) .i64 .i64 Tryz.underlying36 Tryz.underlying3 hi hz0 n h0 (by omega) (by omega) (by rw [hz2]; omega)
    have hG := grownCap_ge w n 0 5
    have hM := grownCap_le_maxLen w n 0 5 (by unfold maxLen; omega)
    obtain ⟨C, hC⟩ : ∃ C, C = Builtin.zeroCells (Value.int .u8 0).cells n ++ Builtin.zeroCells (Value.int .u8 0).cells (grownCap w n 0 5 - n) := ⟨_, rfl⟩
    have hs : C.size = grownCap w n 0 5 * 1 := by rw [hC]; simp [size_zeroCells, Value.cells]; omega
    rw [← hC] at hrz
    generalize grownCap w n 0 5 = G at *
    have hG63 : G ≤ 9223372036854775807 := by unfold maxLen at hM; omega
    clear hC
    go_enter Tryz.func75, Tryz.ntmps75
    go_wp2_with (at_builtin; refine Lib.wpList_append_run _ rfl _ _ _ _ rfl _ _ rfl rfl _ _ (hrz _) ?_)
    go_ret
    exact ⟨_, rfl, World.ownsRow_made w.drew C G (Nat.le_refl _) hM hs, ((Below.refl _ w).drew).alloc (Nat.le_refl _) _⟩

theorem take_flat {ls : List (List Int)} {k : Nat} (h : k < ls.length) : (ls.take (k + 1)).flatten = (ls.take k).flatten ++ ls[k] := by
  rw [← List.take_append_getElem h, List.flatten_append]; simp only [List.flatten_cons, List.flatten_nil, List.append_nil]
theorem flat_le {ls : List (List Int)} (k : Nat) : (ls.take k).flatten.length ≤ ls.flatten.length := by
  conv => rhs; rw [← List.take_append_drop k ls]
  rw [List.flatten_append, List.length_append]; omega

def fl (ls : List (List Int)) (k : Nat) : Nat := (ls.take k).flatten.length
def fb (ls : List (List Int)) (k : Nat) : List Value := byteV (ls.take k).flatten
theorem fl_succ {ls : List (List Int)} {k : Nat} (h : k < ls.length) : fl ls (k + 1) = fl ls k + ls[k].length := by unfold fl; rw [take_flat h, List.length_append]
theorem fb_succ {ls : List (List Int)} {k : Nat} (h : k < ls.length) : fb ls (k + 1) = fb ls k ++ byteV ls[k] := by unfold fb; rw [take_flat h]; simp [byteV]

set_option maxRecDepth 100000 in
set_option maxHeartbeats 1000000 in
theorem concat_any (w : World) (g : Nat) (t : TypeId) (vs : List Value) (ls : List (List Int)) (hg : w.heap[g]? = some (.cells vs.toArray t (0, 0))) (hlen : vs.length = ls.length) (hp : ∀ j (h : j < vs.length) (h' : j < ls.length), Pt w vs[j] ls[j])
    (hs : ls.flatten.length ≤ 1000000) (hn : vs.length ≤ 1000000) : Calls Tryz.prog 53 #[.slice (some ⟨g, 0, none⟩) vs.length vs.length] w fun e w' => ∃ v, e = .returned v ∧ w'.ownsRow w.heap.size 5 1 v ls.flatten.length (byteV ls.flatten) ∧ Below w.heap.size w w' := by
  obtain ⟨i, hi, hz0, hz1, hz2⟩ := info_parts infoU8
  have HP := Lib.hid hp
  have HL := Lib.hid hlen
  have hfl : ∀ k, fl ls k ≤ 1000000 := fun k => by have := flat_le (ls := ls) k; unfold fl; omega
  have HF := Lib.hid hfl
  have HG := Lib.hid hg
  have hgl : g < w.heap.size := (Array.getElem?_eq_some_iff.1 hg).1
  obtain ⟨n, hN⟩ : ∃ n, vs.length = n := ⟨_, rfl⟩
  rw [hN] at hn ⊢
  have e0 : ls.take n = ls := List.take_of_length_le (by omega)
  have f0 : fl ls n = ls.flatten.length := by unfold fl; rw [e0]
  have f1 : fb ls n = byteV ls.flatten := by unfold fb; rw [e0]
  rw [← f0, ← f1]
  have HN := Lib.hid hN
  clear hp hlen hs hg hN e0 f0 f1 hfl
  go_enter Tryz.func53, Tryz.ntmps53
  go_wp2
  go_loopw [3, 11] (fun s i wr => ∃ k : Nat, k ≤ n ∧ i = .int .i64 k ∧ s = .int .i64 (fl ls k) ∧ w = wr) (fun s i _ => n - (intOf i).toNat)
  case atStart => exact ⟨0, by omega, rfl, rfl, rfl⟩
  case round =>
    obtain ⟨k, hk, rfl, rfl, rfl⟩ := hrel
    by_cases hlt : k < n
    · have hkv : k < vs.length := by have := HN.out; omega
      have hkl : k < ls.length := by have := HL.out; omega
      obtain ⟨b, off, cap, hv, h1, h2, h3⟩ := HP.out k hkv hkl
      have c0 := (cell_of HG.out (0 + k)).1
      rw [show vs.toArray[0 + k]? = some (.slice (some ⟨b, off, none⟩) ls[k].length cap) by rw [← hv]; simp [hkv]] at c0
      simp only [Nat.zero_add] at c0
      have e1 := fl_succ hkl
      have e2 := HF.out (k + 1)
      obtain ⟨D, hD⟩ : ∃ D, ls[k].length = D := ⟨_, rfl⟩
      rw [hD] at c0 e1
      rw [e1] at e2
      clear h3 hv
      go_wp2
      go_roundw
      case rel => exact ⟨k + 1, by omega, by go_num, by rw [e1]; go_num, trivial⟩
      case measure => simp [intOf]; omega
    · obtain rfl : k = n := by omega
      have hfk := HF.out k
      go_wp2_with fail
      refine (grow_nil w _ hfk).mono ?_
      rintro e w1 ⟨v1, rfl, ho1, hb1⟩
      go_wp2
      go_loopw [6, 27] (fun s i wr => ∃ j : Nat, j ≤ k ∧ i = .int .i64 j ∧ wr.ownsRow w.heap.size 5 1 s (fl ls j) (fb ls j) ∧ Below w.heap.size w wr) (fun s i _ => k - (intOf i).toNat)
      case atStart => exact ⟨0, by omega, rfl, ho1, hb1⟩
      case round =>
        obtain ⟨j, hj, rfl, ho, hbl⟩ := hrel
        by_cases hjt : j < k
        · have hkv : j < vs.length := by have := HN.out; omega
          have hkl : j < ls.length := by have := HL.out; omega
          have hpt := (HP.out j hkv hkl).below hbl (Nat.le_refl _)
          obtain ⟨b, off, cap, hv, h1, h2, h3⟩ := hpt
          have hg2 := (hbl.block g hgl).trans HG.out
          have c0 := (cell_of hg2 (0 + j)).1
          rw [show vs.toArray[0 + j]? = some (.slice (some ⟨b, off, none⟩) ls[j].length cap) by rw [← hv]; simp [hkv]] at c0
          simp only [Nat.zero_add] at c0
          have e1 := fl_succ hkl
          have e2 := HF.out (j + 1)
          have E3 := Lib.hid (fb_succ hkl)
          rw [e1] at e2
          have HC := Lib.hid h3
          have HO := Lib.hid ho
          have hzs := hbl.size
          have E1 := Lib.hid e1
          clear h3 hv ho hg2 e1
          go_wp2_with (at_builtin; refine wpList_append_own _ rfl _ _ 36 rfl w.heap.size 5 i (.int .u8 0) 1 1 Tryz.underlying36 hi hz0 hz1 hz2 rfl (by decide) _ _ _ rfl HO.out ⟨b, off, none⟩ ls[j].length cap (byteV ls[j]) rfl ?c2 ?c3 ?c4 ?c5 ?c6 hzs ?_)
          case c2 => simp [byteV]
          case c3 =>
            intro q u hu
            have hj : q < ls[j].length := by have := (List.getElem?_eq_some_iff.1 hu).1; simpa [byteV] using this
            have h1 := HC.out q hj
            have h2 : (⟨b, off, none⟩ : Addr).add q = ⟨b, off + q, none⟩ := by unfold Addr.add; split <;> simp_all
            rw [h2, h1]
            simp [byteV] at hu
            obtain ⟨x, hx, rfl⟩ := hu
            rw [List.getElem?_eq_getElem hj] at hx
            cases hx
            rfl
          case c4 => exact byteV_one _
          case c5 => unfold maxLen; omega
          case c6 => omega
          intro v' w2 hown hgrow _
          have hb2 : Below w.heap.size w w2 := hbl.grown hgrow hzs (fun q hq => (HO.out.lt q hq).1)
          rw [← E1.out, ← E3.out] at hown
          go_wp2
          go_roundw
          case rel => exact ⟨j + 1, by omega, by go_num, hown, hb2⟩
          case measure => simp [intOf]; omega
        · obtain rfl : j = k := by omega
          go_wp2
          go_ret
          exact ⟨_, rfl, ho, hbl⟩
end Go.Proofs.YthhnmpobkekbbaaGreat
