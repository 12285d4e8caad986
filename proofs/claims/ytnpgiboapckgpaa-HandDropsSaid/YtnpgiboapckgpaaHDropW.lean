/- HandDrops: the walk. -/
import Derived.Test.YtnpgiboapckgpaaHdL
import Derived.Test.YtnpgiboapckgpaaHdM
namespace Go.Proofs.Ytnpgiboapckgpaa
open Go.RowKit

def chV : ByteArray := ⟨#[118]⟩

def chW : ByteArray := ⟨#[119]⟩
theorem cntU_but (P : Nat → Pl) (t : Nat) (h0 : (P t).u = false) : ∀ n, t < n → (∀ j, j < n → j ≠ t → (P j).u = true) → cntU P n + 1 = n
  | 0, h, _ => by omega
  | n + 1, h, h1 => by
    unfold cntU
    by_cases e : n = t
    · subst e
      rw [cntU_all P n fun j hj => h1 j (by omega) (by omega), if_neg (by rw [h0]; decide)]
    · rw [if_pos (h1 n (by omega) e)]
      have := cntU_but P t h0 n (by omega) fun j hj hne => h1 j (by omega) hne
      omega
section
variable {n t : Nat}
def QP (n t m : Nat) : Nat → Pl := up (fillP chV n) t ⟨true, (t : Int), chV, true, m⟩
def ZP (n t : Nat) : Nat → Pl := up (fillP chV n) t Pl.zero
def YP (n t : Nat) : Nat → Pl := up (fillP chV n) t ⟨true, 99, chW, true, 0⟩
theorem QP_own (m : Nat) {j : Nat} (h : j < n) : (QP n t m j).u = true ∧ (QP n t m j).k = (j : Int) := by
  unfold QP
  by_cases e : j = t
  · subst e; rw [up_same]; exact ⟨rfl, rfl⟩
  · rw [up_other _ e, fillP_lt _ h]; exact ⟨rfl, rfl⟩
theorem QP_at (m : Nat) : QP n t m t = ⟨true, (t : Int), chV, true, m⟩ := up_same ..
theorem ZP_no {j : Nat} (h : j < n) (hu : (ZP n t j).u = true) : (ZP n t j).k ≠ (t : Int) ∧ j ≠ t ∧ (ZP n t j).k < n := by
  unfold ZP at *
  by_cases e : j = t
  · subst e; rw [up_same] at hu; cases hu
  · rw [up_other _ e, fillP_lt _ h] at *
    refine ⟨?_, e, ?_⟩
    · show (j : Int) ≠ (t : Int); omega
    · show (j : Int) < (n : Int); omega
theorem fill_Q (ht : t < n) : fillP chV n = QP n t 0 := by
  funext j
  unfold QP
  by_cases e : j = t
  · subst e; rw [up_same, fillP_lt _ ht]
  · rw [up_other _ e]
theorem z_pin : PinR ⟨n, ZP n t, 0⟩ (t : Int) ⟨n, ZP n t, 0⟩ false := .none (hit_none fun _ h hu => (ZP_no h hu).1)
theorem z_drop : DropR ⟨n, ZP n t, 0⟩ (t : Int) ⟨n, ZP n t, 0⟩ false := .none (hit_none fun _ h hu => (ZP_no h hu).1)
variable (ht : t < n)
include ht
theorem q_pin : PinR ⟨n, QP n t 0, 0⟩ (t : Int) ⟨n, QP n t 1, 0⟩ true := by
  have r := PinR.hit (s := ⟨n, QP n t 0, 0⟩) t (hit_own ht fun j h => QP_own 0 h) ht (by show (QP n t 0 t).n < 1000000; rw [QP_at]; show (0 : Nat) < 1000000; decide)
  simp only [QP_at] at r
  rw [show up (QP n t 0) t ⟨true, (t : Int), chV, true, 0 + 1⟩ = QP n t 1 from up_up _ _ _ _] at r
  exact r
theorem q_stay : DropR ⟨n, QP n t 1, 0⟩ (t : Int) ⟨n, QP n t 1, 0⟩ false := .no t (hit_own ht fun j h => QP_own 1 h) ht (by show 0 < (QP n t 1 t).n; rw [QP_at]; show 0 < (1 : Nat); decide)
theorem q_unpin : UnpinR ⟨n, QP n t 1, 0⟩ (t : Int) ⟨n, QP n t 0, 0⟩ true := by
  have r := UnpinR.hit (s := ⟨n, QP n t 1, 0⟩) t (hit_own ht fun j h => QP_own 1 h) ht (by show 0 < (QP n t 1 t).n; rw [QP_at]; show 0 < (1 : Nat); decide) (by show (QP n t 1 t).n < 1000000; rw [QP_at]; show (1 : Nat) < 1000000; decide)
  simp only [QP_at] at r
  rw [show up (QP n t 1) t ⟨true, (t : Int), chV, true, 1 - 1⟩ = QP n t 0 from up_up _ _ _ _] at r
  exact r
theorem q_unpin2 : UnpinR ⟨n, QP n t 0, 0⟩ (t : Int) ⟨n, QP n t 0, 0⟩ false := .no t (hit_own ht fun j h => QP_own 0 h) ht (by show (QP n t 0 t).n = 0; rw [QP_at])
theorem q_drop : DropR ⟨n, QP n t 0, 0⟩ (t : Int) ⟨n, ZP n t, 0⟩ true := by
  have r := DropR.hit (s := ⟨n, QP n t 0, 0⟩) t (hit_own ht fun j h => QP_own 0 h) ht (by show (QP n t 0 t).n = 0; rw [QP_at])
  rw [show up (QP n t 0) t Pl.zero = ZP n t from up_up _ _ _ _] at r
  exact r
theorem z_len : (keysTo (ZP n t) n).length = n - 1 := by
  have := cntU_but (ZP n t) t (by unfold ZP; rw [up_same]; rfl) n ht fun j h e => by unfold ZP; rw [up_other _ e, fillP_lt _ h]
  rw [keysTo_cnt]; omega
theorem z_put (h99 : n ≤ 99) : PutR ⟨n, ZP n t, 0⟩ 99 chW ⟨n, YP n t, 0⟩ (tup4 0 emp false 0) := by
  have r := PutR.vac (s := ⟨n, ZP n t, 0⟩) (k := 99) (v := chW) t (hit_none fun j h hu => by have := (ZP_no (n := n) h hu).2.2; show (ZP n t j).k ≠ 99; omega) (first_at (Nat.le_of_lt ht) (fun j hj => by
    show (!(ZP n t j).u) = false
    unfold ZP; rw [up_other _ (by omega), fillP_lt _ (by omega)]; rfl) (fun _ => by show (!(ZP n t t).u) = true; unfold ZP; rw [up_same]; rfl)) ht
  have e : ZP n t t = Pl.zero := up_same ..
  simp only [e] at r
  rw [show up (ZP n t) t ⟨true, 99, chW, true, 0⟩ = YP n t from up_up _ _ _ _] at r
  exact r
theorem y_keys : (keysTo (YP n t) n).length = n ∧ (keysTo (YP n t) n)[t]? = some 99 := by
  obtain ⟨h1, h2⟩ := keysTo_all (YP n t) n fun j h => by
    unfold YP
    by_cases e : j = t
    · subst e; rw [up_same]
    · rw [up_other _ e, fillP_lt _ h]
  refine ⟨h1, ?_⟩
  rw [h2 t ht]
  unfold YP; rw [up_same]
end

set_option maxRecDepth 100000 in
set_option maxHeartbeats 4000000 in
theorem drops_walk (w : World) (x y : Nat) (b : Bool) (hx : x < 256) (hy : y < 256) : Calls Try.prog 8 #[.int .u8 (x : Int), .int .u8 (y : Int), .bool b] w fun e w' => e = .returned (.bool true) ∧ Below w.heap.size w w' := by
  go_enter Try.func8, Try.ntmps8
  go_upto_region 4 with (first | (go_at_call 9; refine (begun_any _).mono ?_; rintro e w1 ⟨rfl, b1⟩))
  have B1 := Lib.hid b1
  have hn : (2 : Int) + (x : Int) % 10 = ((2 + x % 10 : Nat) : Int) := by omega
  rw [hn]
  have h2 : 2 ≤ 2 + x % 10 := by omega
  have h64 : 2 + x % 10 ≤ 12 := by omega
  generalize 2 + x % 10 = n at *
  clear hn hx b1
  go_upto_region 5 with (first | (go_at_call 10; refine (new_mine w w1 (n : Int) B1.out B1.out.size).mono ?_; rintro e w2 ⟨p, g, rfl, m2⟩))
  rw [room_of n (by omega) (by omega), new_fill chV n] at m2
  have M2 := Lib.hid m2
  clear m2 B1
  go_wp2_with fail
  go_loopw [9] (fun v wr => ∃ i : Nat, i ≤ n ∧ v = .int .i64 (i : Int) ∧ Mine w.heap.size w wr p g ⟨n, fillP chV i, 0⟩) (fun v _ => n - lvN v)
  case atStart => exact ⟨0, Nat.zero_le _, rfl, M2.out⟩
  case round =>
    obtain ⟨i, hi, rfl, m⟩ := hrel
    by_cases hlt : i < n
    · have HM := Lib.hid m
      have HR := Lib.hid (fill_put chV hlt)
      clear m hi
      go_wp2_with (first | (go_at_call 12; refine (put_any _ HM.out.ha HR.out).mono ?_; rintro e w3 ⟨rfl, h3, f3⟩; unfold tup4))
      have M3 := Lib.hid (HM.out.step h3 f3)
      clear h3 f3
      go_roundw
      case rel => exact ⟨i + 1, hlt, by go_num, M3.out⟩
      case measure => simp [lvN]; omega
    · obtain rfl : i = n := by omega
      have HM := Lib.hid m
      clear m hi hlt
      have ht : y % i < i := Nat.mod_lt _ (by omega)
      have HMd : Hid ((y : Int) % (i : Int) = ((y % i : Nat) : Int)) := by show (y : Int) % (i : Int) = ((y % i : Nat) : Int); simp
      rw [fill_Q ht] at HM
      have H99 : Hid (i ≤ 99) := Lib.hid (by omega)
      have HT := Lib.hid ht
      clear M2
      go_upto_region 10 with (fail)
      rw [HMd.out]
      clear HMd ht
      generalize y % i = t at *
      cases b with
      | true =>
        go_wp2_with (first | (go_at_call 16; first | (refine (pin_any _ HM.out.ha (q_pin HT.out)).mono ?_; rintro e w3 ⟨rfl, h3, f3⟩) | (refine (pin_any _ h7 z_pin).mono ?_; rintro e w8 ⟨rfl, h8, f8⟩)) | (go_at_call 19; first | (refine (drop_any _ h3 (q_stay HT.out)).mono ?_; rintro e w4 ⟨rfl, h4, f4⟩) | (refine (drop_any _ h6 (q_drop HT.out)).mono ?_; rintro e w7 ⟨rfl, h7, f7⟩)) | (go_at_call 18; first | (refine (unpin_any _ h4 (q_unpin HT.out)).mono ?_; rintro e w5 ⟨rfl, h5, f5⟩) | (refine (unpin_any _ h5 (q_unpin2 HT.out)).mono ?_; rintro e w6 ⟨rfl, h6, f6⟩)))
        go_ret
        exact ⟨rfl, ((((((HM.out.step h3 f3).step h4 f4).step h5 f5).step h6 f6).step h7 f7).step h8 f8).be⟩
      | false =>
        go_upto_region 14 with (first | (go_at_call 19; first | (refine (drop_any _ HM.out.ha (q_drop HT.out)).mono ?_; rintro e w4 ⟨rfl, h4, f4⟩) | (refine (drop_any _ h4 z_drop).mono ?_; rintro e w5 ⟨rfl, h5, f5⟩)) | (go_at_call 23; refine (len_any _ h5).mono ?_; rintro e w6 ⟨rfl, b6⟩; rw [z_len HT.out]))
        have hm1 : (i : Int) - 1 = ((i - 1 : Nat) : Int) := by omega
        have M6 := Lib.hid (((HM.out.step h4 f4).step h5 f5).on b6)
        clear h4 f4 h5 f5 b6 hm1
        go_upto_region 15 with (first | (go_at_call 12; refine (put_any _ M6.out.ha (z_put HT.out H99.out)).mono ?_; rintro e w7 ⟨rfl, h7, f7⟩; unfold tup4))
        have M7 := Lib.hid (M6.out.step h7 f7)
        clear h7 f7 M6
        go_upto_region 16 with (first | (go_at_call 21; refine (keys_any _ M7.out.ha).mono ?_; rintro e w8 ⟨v, rfl, ho, b8⟩))
        obtain ⟨k1, k2⟩ := y_keys HT.out
        simp only [k1] at ho
        obtain ⟨gk, cap, rfl, hk⟩ := owns_int ho (Nat.lt_of_le_of_lt (Nat.zero_le _) HT.out)
        have c1 := hk _ _ k2
        have M8 := Lib.hid (M7.out.on b8)
        have ht := HT.out
        have hti : (t : Int) < (i : Int) := by omega
        clear hk ho b8 M7 k1 k2
        go_wp2
        go_ret
        exact ⟨rfl, M8.out.be⟩
end Go.Proofs.Ytnpgiboapckgpaa
