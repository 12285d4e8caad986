/- SheetBack: for all two numbers of 32 bits and all two slices of bytes the law answers true; no condition. -/
import Derived.Test.YtmaamneebdejhaaStr
import Derived.Test.YtmaamneebdejhaaRow
namespace Go.Proofs.Ytmaamneebdejhaa.sheetBack
open Go.BigFrame Go.ChangeShapes Go.WideShapes Go.ChangeAt Go.RowKit

theorem take_two (w : World) {ga gb : Nat} {n m : Int} {l1 l2 : List Int} (ka : Blk w ga (tileL n l1)) (kb : Blk w gb (tileL m l2)) (n0 : 0 ≤ n) (n1 : n < 2147483648) (m0 : 0 ≤ m) (m1 : m < 2147483648) (ok1 : bytesOk l1) (ok2 : bytesOk l2) (h1 : l1.length ≤ 60) (h2 : l2.length ≤ 60) : Calls Try.prog 12 #[.slice (some ⟨ga, 0, none⟩) 64 64, .slice (some ⟨gb, 0, none⟩) 64 64] w fun e w' => ∃ k v h, e = .returned (.tuple #[.int .i64 k, v, .int .i64 h]) ∧ (h = 3 ↔ n ≠ m) ∧ Below w.heap.size w w' := by
  by_cases hnm : n = m
  · refine (take_same w ka kb n0 n1 ok1 ok2 h1 h2 hnm).mono ?_
    rintro e w' ⟨g, cap, rfl, _, _, _, _, _, hb⟩
    exact ⟨_, _, _, rfl, by simp [hnm], hb⟩
  · refine (take_unlike w ka kb n0 n1 m0 m1 ok1 ok2 h1 h2 hnm).mono ?_
    rintro e w' ⟨rfl, rfl⟩
    exact ⟨_, _, _, rfl, by simp [hnm], Below.refl _ _⟩

set_option maxRecDepth 100000 in
set_option maxHeartbeats 2000000 in
theorem walk (w : World) (m n : Int) (m0 : 0 ≤ m) (m1 : m < 4294967296) (n0 : 0 ≤ n) (n1 : n < 4294967296) (va vb : Value) (la lb : List Int) (ha : SlK .u8 w va la) (hb : SlK .u8 w vb lb) : Calls Try.prog 4 #[.int .u32 m, .int .u32 n, va, vb] w fun e w' => e = .returned (.bool true) ∧ Below w.heap.size w w' := by
  have HA := Lib.hid ha
  have HB := Lib.hid hb
  have oka := ha.ok
  have okb := hb.ok
  obtain ⟨pa, ca, rfl, a1, _, _, _⟩ := ha
  obtain ⟨pb, cb, rfl, b1, _, _, _⟩ := hb
  go_enter Try.func4, Try.ntmps4
  go_wp2_with fail
  refine (begun_true w).mono ?_
  rintro e w1 ⟨rfl, hB1⟩
  by_cases hlen : 120 < la.length
  · go_wp2
    go_ret
    exact ⟨rfl, hB1⟩
  by_cases hlen2 : 120 < lb.length
  · have dl : decide (120 < (la.length : Int)) = false := by simp; omega
    go_wp2
    go_ret
    exact ⟨rfl, hB1⟩
  have dl : decide (120 < (la.length : Int)) = false := by simp; omega
  go_wp2_with fail
  have x0 : 0 ≤ m % 2147483648 := by omega
  have x1 : m % 2147483648 < 2147483648 := by omega
  have y0 : 0 ≤ n % 2147483648 := by omega
  have y1 : n % 2147483648 < 2147483648 := by omega
  generalize m % 2147483648 = x at *
  generalize n % 2147483648 = y at *
  refine (put_ok w1 x x0 x1 _ la (HA.out.below hB1 (Nat.le_refl _)) (by omega)).mono ?_
  rintro e w2 ⟨gp, gq, rfl, _, _, hb2, kp, kq⟩
  have hB2 := hB1.trans (hb2.mono hB1.size)
  clear hb2 hB1
  go_wp2_with fail
  refine (put_ok w2 y y0 y1 _ lb (HB.out.below hB2 (Nat.le_refl _)) (by omega)).mono ?_
  rintro e w3 ⟨gr, gs, rfl, _, _, hb3, kr, ks⟩
  have hB3 := hB2.trans (hb3.mono hB2.size)
  have kp3 := kp.old hb3 kp.lt
  have kq3 := kq.old hb3 kq.lt
  clear hb3 hB2 kp kq
  go_wp2_with fail
  have l1 : (la.take 60).length ≤ 60 := by simp; omega
  have l2 : (la.drop 60).length ≤ 60 := by simp; omega
  have l3 : (lb.take 60).length ≤ 60 := by simp; omega
  have l4 : (lb.drop 60).length ≤ 60 := by simp; omega
  refine (take_same w3 kp3 kq3 x0 x1 (ok_take oka _) (ok_drop oka _) l1 l2 rfl).mono ?_
  rintro e w4 ⟨g, cap, rfl, e1, e2, e3, e4, e5, hb4⟩
  have hB4 := hB3.trans (hb4.mono hB3.size)
  have kp4 := kp3.old hb4 kp3.lt
  have kq4 := kq3.old hb4 kq3.lt
  have kr4 := kr.old hb4 kr.lt
  have ks4 := ks.old hb4 ks.lt
  have E5 := Lib.hid e5
  clear hb4 hB3 kp3 kq3 kr ks e5 e1
  go_wp2_with fail
  refine (take_two w4 kp4 ks4 x0 x1 y0 y1 (ok_take oka _) (ok_drop okb _) l1 l4).mono ?_
  rintro e w5 ⟨k5, v5, h5, rfl, hh5, hb5⟩
  have hB5 := hB4.trans (hb5.mono hB4.size)
  have kq5 := kq4.old hb5 kq4.lt
  have kr5 := kr4.old hb5 kr4.lt
  go_wp2_with fail
  refine (take_two w5 kr5 kq5 y0 y1 x0 x1 (ok_take okb _) (ok_drop oka _) l3 l2).mono ?_
  rintro e w6 ⟨k6, v6, h6, rfl, hh6, hb6⟩
  have hB6 := hB5.trans (hb6.mono hB5.size)
  have hg6 : g < w6.heap.size := by have := hb5.size; have := hb6.size; omega
  have hc6 : ∀ j (h : j < (body la).length), w6.cell? ⟨g, j, none⟩ = some (.int .u8 (body la)[j]) := fun j hj => ((hb6.cell (p := ⟨g, j, none⟩) (show g < w5.heap.size by have := hb5.size; omega)).trans (hb5.cell (p := ⟨g, j, none⟩) e2)).trans (E5.out j hj)
  have q1 := pre_slK (n := la.length) (cap := cap) hg6 (body_ok oka) hc6 (by rw [body_len (by omega)]; omega) (by omega)
  rw [body_take (by omega)] at q1
  have q2 := HA.out.below hB6 (Nat.le_refl _)
  have v1 := conv_drewN q1
  have v2 := conv_drewN q2
  have H6 := Lib.hid hc6
  have HH5 := Lib.hid hh5
  have HH6 := Lib.hid hh6
  have hbl := body_len (l := la) (by omega)
  generalize bstr la = tx at *
  clear hc6 hb5 hb6 hB4 hB5 kp4 kq4 kr4 ks4 kq5 kr5 E5 hh5 hh6 q1 q2
  have c1 : la.length ≤ cap := by omega
  have c2 : (la.length : Int) ≤ (cap : Int) := by omega
  have c3 : 0 ≤ (la.length : Int) := by omega
  go_wp2
  go_quiet (fail)
  go_wp2
  go_loopw [26] (fun i wr => ∃ k : Nat, la.length ≤ k ∧ k ≤ 120 ∧ i = .int .i64 k ∧ w6.heap = wr.heap ∧ Below w.heap.size w wr) (fun i _ => 120 - (intOf i).toNat)
  case atStart => exact ⟨la.length, Nat.le_refl _, by omega, rfl, rfl, hB6.trans (below_drewN _ _ _)⟩
  case round =>
    obtain ⟨k, hk1, hk, rfl, hheap, hbw⟩ := hrel
    by_cases hlt : k < 120
    · have hc := H6.out k (by omega)
      rw [body_rest (by omega) hk1] at hc
      have hc2 : wr.cell? ⟨g, k, none⟩ = some (.int .u8 0) := (World.cell?_of_block (by rw [hheap])).trans hc
      clear hc
      go_wp2
      go_roundw
      case rel => exact ⟨k + 1, by omega, by omega, by go_num, hheap, hbw⟩
      case measure => simp [intOf]; omega
    · obtain rfl : k = 120 := by omega
      by_cases hxy : x = y
      · have f5 : ¬ h5 = 3 := fun e => HH5.out.1 e hxy
        have f6 : ¬ h6 = 3 := fun e => HH6.out.1 e hxy.symm
        subst hxy
        have g5 : (h5 == 3) = false := by simpa using f5
        have g6 : (h6 == 3) = false := by simpa using f6
        go_wp2
        go_ret
        exact ⟨rfl, hbw⟩
      · obtain rfl := HH5.out.2 hxy
        obtain rfl := HH6.out.2 (fun e => hxy e.symm)
        have gx : (x != y) = true := by simpa using hxy
        go_wp2
        go_ret
        exact ⟨rfl, hbw⟩

theorem own : ownKnob Try.prog.godebug = none := by kernel_rfl
theorem laidOut : laidOutB Try.prog = true := by kernel_rfl

set_option maxRecDepth 100000 in
theorem lifted (os : Os) (started : os.Started) (H : Type) (enc : TypeId × Value → H) :
    ReturnsInHanded {} Try.checked os 4 .any (Rows.sheetBackSpec.pre6 enc Try.prog Try.f4 Rows.sheetBackRow.domain false) (Rows.sheetBackSpec.post enc Try.prog Try.f4 false true false false) := by
  refine returnsInHanded_of_change (C := Try.checked) own started (by kernel_rfl) Try.func4
    (ChangeSpec.witness6 (enc := enc) (C := Try.checked) false ⟨#[], #[.int .u32 0, .int .u32 0, .slice none 0 0, .slice none 0 0], []⟩ 8 (by kernel_rfl) (by kernel_rfl) (by kernel_rfl) (by kernel_rfl)) ?_
  intro W base args ds gs before hval0 hW hcnd _
  have hval : ∀ (j : Nat) t v, Try.f4.params[j]? = some t → args[j]? = some v → Value.okWide Try.prog W .any base t v := hval0
  have hW' := hW
  obtain ⟨p, q, hA0, hV, rfl, hfz, hnd⟩ := hW
  obtain ⟨rfl, rfl⟩ := trodVars_none hV
  have hA : DataW.TrodAll enc Try.prog W 0 (fun _ => true) true Try.f4.params.toList args.toList ds p := hA0
  rw [Try.params4] at hA hval
  obtain ⟨v0, vs0, d0, ds0, p0, q0, hargs, rfl, rfl, h0, r0⟩ := trodAll_cons hA
  obtain ⟨v1, vs1, d1, ds1, p1, q1, rfl, rfl, rfl, h1, r1⟩ := trodAll_cons r0
  obtain ⟨v2, vs2, d2, ds2, p2, q2, rfl, rfl, rfl, h2, r2⟩ := trodAll_cons r1
  obtain ⟨v3, vs3, d3, ds3, p3, q3, rfl, rfl, rfl, h3, r3⟩ := trodAll_cons r2
  obtain ⟨rfl, rfl, rfl⟩ := trodAll_nil r3
  obtain rfl : args = #[v0, v1, v2, v3] := by cases args; simp_all
  obtain ⟨a0, rfl, rfl, rfl, w0⟩ := open_int Try.underlying32 (hval 0 32 v0 rfl rfl) h0
  obtain ⟨a1, rfl, rfl, rfl, w1⟩ := open_int Try.underlying32 (hval 1 32 v1 rfl rfl) h1
  have ok2 := hval 2 22 v2 rfl rfl
  have ok3 := hval 3 22 v3 rfl rfl
  have b0 := bounds_u32 w0
  have b1 := bounds_u32 w1
  obtain ⟨l, hl⟩ := open_sl Try.underlying22 Try.underlying5 (by kernel_rfl) ok2 h2
  obtain ⟨l', hl'⟩ := open_sl Try.underlying22 Try.underlying5 (by kernel_rfl) ok3 h3
  refine (walk W a0 a1 b0.1 (by omega) b1.1 (by omega) v2 v3 l l' hl hl').mono fun e W' ⟨he, hg⟩ => ?_
  subst he
  exact ⟨_, rfl, law_post laidOut Try.underlying4 rfl (by rw [Try.params4]; intro t ht; simp at ht; rcases ht with rfl | rfl <;> exact ⟨by kernel_rfl, of_decide_eq_true (by kernel_rfl)⟩) rfl hW' rfl hg⟩

theorem proved : Rows.SheetBackSaid :=
  OpenClaim.holds_of_wide 4 Try.f4 rfl rfl rfl rfl rfl rfl rfl ⟨rfl, rfl, rfl, rfl, rfl⟩ rfl rfl rfl rfl rfl (by kernel_rfl) Try.func4 (by kernel_rfl)
    (of_decide_eq_true (by kernel_rfl)) (by unfold Func.isWrapper; first | (rw [if_pos (by decide +kernel)]; kernel_rfl) | (rw [if_neg (by decide +kernel)]; exact ⟨rfl, rfl⟩))
    (fun os started H enc _ => lifted os started H enc)
#print axioms proved

end Go.Proofs.Ytmaamneebdejhaa.sheetBack
