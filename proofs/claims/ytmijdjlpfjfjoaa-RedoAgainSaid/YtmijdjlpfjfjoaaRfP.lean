/- Pages, by the reference. -/
import Derived.Test.YtmijdjlpfjfjoaaRfT
namespace Go.Proofs.Ytmijdjlpfjfjoaa.Rx
open Go.RowKit

theorem tl_max2 {e : En} (h : e.mv.length ≤ 100000) {xs : List Tx} (hx : tls xs = tl e) : xs.length ≤ 100002 := by
  have h1 : xs.length = (tl e).length := by rw [← hx]; simp [tls]
  rw [h1]
  unfold tl
  split
  · simp
  · split
    · simp
    · split
      · simp; omega
      · simp
theorem tch_at {l : List Gv} {t : Gv} (h : t ∈ l) : tch l t.1 = true := by
  unfold tch
  exact List.any_eq_true.2 ⟨t, h, by simp⟩

set_option maxRecDepth 100000 in
set_option maxHeartbeats 2000000 in
theorem rpages_any (w : World) (e : En) (x : Ex) (hE : EnIn w e x) :
    Calls Try.prog 13 #[.agg (enC e x)] w fun r w' => ∃ v, r = .returned v ∧ w'.ownsRow w.heap.size 3 1 v (pgs (tl e)).length (intV (pgs (tl e))) ∧ Below w.heap.size w w' := by
  have hb0 : Below w.heap.size w (w.alloc (.cells (enC e x) 31)) := (Below.refl _ _).alloc (Nat.le_refl _) _
  have hk0 : (w.alloc (.cells (enC e x) 31)).heap[w.heap.size]? = some (.cells (enC e x) 31 (0, 0)) := heap_alloc_new w _
  have HE := Lib.hid hE
  have HB0 := Lib.hid hb0
  have HX := Lib.hid hk0
  have HI := Lib.hid (infoE2 e x)
  have HT := Lib.hid (rtouches_any _ e x (hE.below hb0 (Nat.le_refl _)))
  clear hE hb0 hk0
  go_enter Try.func13, Try.ntmps13
  go_upto_region 1 with (fail)
  generalize w.alloc (.cells (enC e x) 31) = w1 at *
  go_wp2_with (first
    | ((with_reducible refine wpList_load_row rfl 31 (.tmp 1) rfl w.heap.size rfl 31 _ (0, 0) _ HX.out Try.underlying31 rfl HI.out ?_))
    | (go_at_call 21; refine HT.out.mono ?_; rintro r w2 ⟨v, xs, rfl, hxs, htc, hb2⟩; obtain ⟨A, cap, rfl, hcap, -⟩ := id htc.els; rw [List.length_map] at *; clear HT HX HI; have HTc := Lib.hid htc; have HXs := Lib.hid hxs; have HB2 := Lib.hid (HB0.out.trans (hb2.mono HB0.out.size)); clear hxs htc hb2))
  obtain ⟨ii, hii, hy0, hy1, hy2⟩ := info_parts infoInt
  have H0 : Hid (Below w2.heap.size w2 w2) := Below.refl _ _
  have hmx : xs.length ≤ 100002 := tl_max2 HE.out.len HXs.out
  go_loopw [3, 5] (fun v i wr => Hid (∃ k : Nat, k ≤ 32 ∧ i = .int .i64 (k : Int) ∧ wr.ownsRow w2.heap.size 3 1 v (pk (tl e) k).length (intV (pk (tl e) k)) ∧ Below w2.heap.size w2 wr)) (fun _ i _ => 32 - (RowKit.intOf i).toNat)
  case atStart => exact ⟨0, Nat.zero_le _, rfl, World.ownsRow_nil _ _ _ _, H0.out⟩
  case round =>
    obtain ⟨k, hk, rfl, ho, hb⟩ := hrel.out
    clear hrel
    by_cases hk32 : k < 32
    · have HO := Lib.hid (And.intro ho hb)
      have HK32 := Lib.hid hk32
      clear ho hb
      go_wp2
      go_loopw [3, 6] (fun v i wr => Hid (∃ j : Nat, j ≤ xs.length ∧ i = .int .i64 (j : Int) ∧ tch (tls (xs.take j)) (k : Int) = false ∧ wr.ownsRow w2.heap.size 3 1 v (pk (tl e) k).length (intV (pk (tl e) k)) ∧ Below w2.heap.size w2 wr)) (fun _ i _ => xs.length - (RowKit.intOf i).toNat)
      case atStart => exact ⟨0, Nat.zero_le _, rfl, rfl, HO.out⟩
      case round =>
        obtain ⟨j, hj, rfl, hno, ho, hb⟩ := hrel.out
        clear hrel
        by_cases hlt : j < xs.length
        · obtain ⟨tb, tof, rfl, htl, htc⟩ := (HTc.out.els.below hb (Nat.le_refl _)).one (i := j) (by simpa using hlt)
          have k0 : wr.cell? ⟨tb, tof + j * 3, none⟩ = some (.int .i64 (xs[j]).p) := by simpa [tcV] using htc 0 (by omega)
          obtain ⟨p, hp⟩ : ∃ p : Int, p = (xs[j]).p := ⟨_, rfl⟩
          rw [← hp] at k0
          have HSn : Hid (tch (tls (xs.take (j + 1))) (k : Int) = (tch (tls (xs.take j)) (k : Int) || decide (p = (k : Int)))) := by
            show tch (tls (xs.take (j + 1))) (k : Int) = _
            rw [List.take_succ_eq_append_getElem hlt, tls_snoc, tch_snoc, hp]; rfl
          have HNo := Lib.hid hno
          have HO2 := Lib.hid (And.intro ho hb)
          have HLT := Lib.hid hlt
          clear htc hno ho hb hp
          by_cases hpk : p = (k : Int)
          · subst hpk
            have HY : Hid (tch (tl e) (k : Int) = true) := by
              show tch (tl e) (k : Int) = true
              rw [← HXs.out]
              refine tch_pre (l := tls (xs.take (j + 1))) ((List.take_prefix _ _).map _) ?_
              rw [HSn.out]; simp
            have HT1 := Lib.hid (pk_t HY.out)
            have HLp := Lib.hid (pk_len (tl e) k)
            obtain ⟨A3, c3, rfl⟩ := own_slG HO2.out.1
            have hsz := HO2.out.2.size
            go_wp2_with (at_builtin; refine wpList_append_own _ rfl _ _ 40 rfl w2.heap.size 3 ii (.int .i64 0) 1 8 Try.underlying40 hii hy0 hy1 hy2 rfl (by decide) _ _ _ rfl (HO2.out.1.alloc _) ⟨wr.heap.size, 0, none⟩ 1 1 [.int .i64 (k : Int)] rfl rfl (cell_one_new _ _ _) (by simp [Value.oneCell']) (by have := HLp.out; unfold maxLen; omega) (by have := HLp.out; omega) (by simp; omega) ?_; intro v' w5 ho5 hg5 _; obtain ⟨A5, c5, rfl⟩ := own_slG ho5)
            have H5 : Hid (w5.ownsRow w2.heap.size 3 1 (.slice A5 ((pk (tl e) k).length + 1) c5) (pk (tl e) (k + 1)).length (intV (pk (tl e) (k + 1))) ∧ Below w2.heap.size w2 w5) := by
              have hal : Below wr.heap.size wr (wr.alloc (.cells #[.int .i64 (k : Int)] 3)) := (Below.refl _ _).alloc (Nat.le_refl _) _
              have hg6 : (wr.alloc (.cells #[.int .i64 (k : Int)] 3)).grownBy w5 (Value.slice A3 (pk (tl e) k).length c3).ownBlock := hg5
              have hb2 := (HO2.out.2.trans (hal.mono hsz)).grown hg6 (Nat.le_trans hsz hal.size) (fun b e => own_blk HO2.out.1 b e)
              refine ⟨?_, hb2⟩
              rw [HT1.out, List.length_append]
              show w5.ownsRow _ _ _ _ ((pk (tl e) k).length + 1) (intV (pk (tl e) k ++ [k]))
              rw [show intV (pk (tl e) k ++ [k]) = intV (pk (tl e) k) ++ [.int .i64 (k : Int)] by simp [intV]]
              exact ho5
            clear ho5 hg5 k0
            go_wp2
            go_roundw
            case rel => exact ⟨k + 1, HK32.out, by go_num, H5.out⟩
            case measure => have := HK32.out; simp [RowKit.intOf]; omega
          · have HN1 : Hid (tch (tls (xs.take (j + 1))) (k : Int) = false) := by show tch (tls (xs.take (j + 1))) (k : Int) = false; rw [HSn.out, HNo.out]; simp [hpk]
            go_wp2
            go_roundw
            case rel => exact ⟨j + 1, HLT.out, by go_num, HN1.out, HO2.out⟩
            case measure => have := HLT.out; simp [RowKit.intOf]; omega
        · obtain rfl : j = xs.length := by omega
          have HF : Hid (pk (tl e) (k + 1) = pk (tl e) k) := by
            refine pk_f ?_
            rw [List.take_length, HXs.out] at hno
            exact hno
          have HO2 := Lib.hid (And.intro ho hb)
          clear hno ho hb
          go_wp2
          go_roundw
          case rel => exact ⟨k + 1, HK32.out, by go_num, by rw [HF.out]; exact HO2.out.1, HO2.out.2⟩
          case measure => have := HK32.out; simp [RowKit.intOf]; omega
    · obtain rfl : k = 32 := by omega
      have HO := Lib.hid (And.intro ho hb)
      clear ho hb
      go_wp2
      go_ret
      exact ⟨_, rfl, own_baseG HO.out.1 HB2.out.size, HB2.out.trans (HO.out.2.mono HB2.out.size)⟩
end Go.Proofs.Ytmijdjlpfjfjoaa.Rx
