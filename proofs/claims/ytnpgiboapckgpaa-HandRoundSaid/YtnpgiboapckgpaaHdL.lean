/- hand: begun answers true. -/
import Derived.Test.YtnpgiboapckgpaaHdR
namespace Go.Proofs.Ytnpgiboapckgpaa
open Go.RowKit

def chA : ByteArray := ⟨#[97]⟩
def chB : ByteArray := ⟨#[98]⟩
def P1 : Nat → Pl := up (fun _ => Pl.zero) 0 ⟨true, 1, chA, true, 0⟩
def P2 : Nat → Pl := up (up P1 0 { P1 0 with b := false }) 0 ⟨true, 2, chB, true, 0⟩
def P3 : Nat → Pl := up P2 0 { P2 0 with b := true }
def P4 : Nat → Pl := up P3 0 { P3 0 with n := (P3 0).n + 1 }
def P5 : Nat → Pl := up P4 0 { P4 0 with n := (P4 0).n - 1 }
theorem t1 : turnF 1 2 P1 0 = some (up P1 0 { P1 0 with b := false }, 0, 0) := by
  simp [turnF, P1, up]
theorem r1 : PutR (newS (roomOf 1)) 1 chA ⟨1, P1, 0⟩ (tup4 0 emp false 0) :=
  .vac 0 (first_at (Nat.le_refl _) (fun j _ => rfl) (fun h => absurd h (Nat.lt_irrefl _))) (first_at (Nat.zero_le _) (fun j h => absurd h (Nat.not_lt_zero _)) (fun _ => rfl)) (by decide)
theorem lt1 {i : Nat} (h : i < 1) : i = 0 := by omega
theorem r2 : PutR ⟨1, P1, 0⟩ 2 chB ⟨1, P2, 0⟩ (tup4 1 chA true 0) :=
  .turn 0 0 0 2 _ (first_at (Nat.le_refl _) (fun j h => by obtain rfl := lt1 h; simp [hit, P1, up]) (fun h => absurd h (Nat.lt_irrefl _))) (first_at (Nat.le_refl _) (fun j h => by obtain rfl := lt1 h; simp [vac, P1, up]) (fun h => absurd h (Nat.lt_irrefl _)))
    (first_at (Nat.zero_le _) (fun j h => absurd h (Nat.not_lt_zero _)) (fun _ => by simp [loose, P1, up])) Nat.one_pos t1
theorem hit0 (P : Nat → Pl) (h1 : (P 0).u = true) (h2 : (P 0).k = 2) : First 1 (hit ⟨1, P, 0⟩ 2) 0 := first_at (Nat.zero_le _) (fun j h => absurd h (Nat.not_lt_zero _)) (fun _ => by simp [hit, h1, h2])
theorem r3 : GetR ⟨1, P2, 0⟩ 2 ⟨1, P3, 0⟩ (.returned (.tuple #[.string chB, .bool true])) := .hit 0 (hit0 P2 rfl rfl) Nat.one_pos
theorem r4 : PinR ⟨1, P3, 0⟩ 2 ⟨1, P4, 0⟩ true := .hit 0 (hit0 P3 rfl rfl) Nat.one_pos (by decide)
theorem r5 : DropR ⟨1, P4, 0⟩ 2 ⟨1, P4, 0⟩ false := .no 0 (hit0 P4 rfl rfl) Nat.one_pos (by decide)
theorem r6 : UnpinR ⟨1, P4, 0⟩ 2 ⟨1, P5, 0⟩ true := .hit 0 (hit0 P4 rfl rfl) Nat.one_pos (by decide) (by decide)

set_option maxRecDepth 100000 in
set_option maxHeartbeats 2000000 in
theorem begun_any (w : World) : Calls Try.prog 9 #[] w fun e w' => e = .returned (.bool true) ∧ Below w.heap.size w w' := by
  have R1 := Lib.hid r1
  have R2 := Lib.hid r2
  have R3 := Lib.hid r3
  have R4 := Lib.hid r4
  have R5 := Lib.hid r5
  have R6 := Lib.hid r6
  go_enter Try.func9, Try.ntmps9
  go_upto_region 4 with (first | (go_at_call 10; refine (new_mine w w 1 (Below.refl _ _) (Nat.le_refl _)).mono ?_; rintro e w1 ⟨p, g, rfl, m1⟩))
  have M1 := Lib.hid m1
  clear m1
  go_upto_region 5 with (first | (go_at_call 12; refine (put_any _ M1.out.ha R1.out).mono ?_; rintro e w2 ⟨rfl, h2, f2⟩; unfold tup4 emp))
  have M2 := Lib.hid (M1.out.step h2 f2)
  clear h2 f2 M1
  go_upto_region 6 with (first | (go_at_call 12; refine (put_any _ M2.out.ha R2.out).mono ?_; rintro e w3 ⟨rfl, h2, f2⟩; unfold tup4))
  have M3 := Lib.hid (M2.out.step h2 f2)
  clear h2 f2 M2
  go_upto_region 7 with (first | (go_at_call 14; refine (get_any _ M3.out.ha R3.out).mono ?_; rintro e w4 ⟨rfl, h2, f2⟩))
  have M4 := Lib.hid (M3.out.step h2 f2)
  clear h2 f2 M3
  unfold chA chB
  go_wp2_with (first | (go_at_call 23; refine (len_any _ M4.out.ha).mono ?_; rintro e w5 ⟨rfl, b5⟩; rw [show (keysTo P3 1).length = 1 from rfl]) | (go_at_call 16; refine (pin_any _ (M4.out.on b5).ha R4.out).mono ?_; rintro e w6 ⟨rfl, h6, f6⟩) | (go_at_call 19; refine (drop_any _ h6 R5.out).mono ?_; rintro e w7 ⟨rfl, h7, f7⟩) | (go_at_call 18; refine (unpin_any _ h7 R6.out).mono ?_; rintro e w8 ⟨rfl, h8, f8⟩) | (go_at_call 21; refine (keys_any _ h8).mono ?_; rintro e w9 ⟨v, rfl, ho, b9⟩; obtain ⟨pt, cp, rfl⟩ := owns_slice ho; rw [show (keysTo P5 1).length = 1 from rfl]))
  go_ret
  exact ⟨rfl, (((((M4.out.on b5).step h6 f6).step h7 f7).step h8 f8).on b9).be⟩
end Go.Proofs.Ytnpgiboapckgpaa
