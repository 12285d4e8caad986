/- The log: sums, frames and streams plainly; sums of bytes. -/
import Derived.Test.YticcadbkpolmiaaEntT
namespace Go.Proofs.Yticcadbkpolmiaa
open Go.RowKit

def sumS : List Int → Int × Int → Int × Int
  | [], s => s
  | c :: l, s => sumS l ((s.1 + c) % 255, (s.2 + (s.1 + c) % 255) % 255)
theorem sumS_app (a b : List Int) : ∀ s, sumS (a ++ b) s = sumS b (sumS a s) := by
  induction a with
  | nil => exact fun s => rfl
  | cons c a ih => exact fun s => ih _
def sumP (l : List Int) : Int × Int := sumS l (0, 0)
theorem sumS_bd : ∀ (l : List Int) (s : Int × Int), 0 ≤ s.1 ∧ s.1 < 255 → 0 ≤ s.2 ∧ s.2 < 255 → (0 ≤ (sumS l s).1 ∧ (sumS l s).1 < 255) ∧ 0 ≤ (sumS l s).2 ∧ (sumS l s).2 < 255
  | [], s, h1, h2 => ⟨h1, h2⟩
  | c :: l, s, _, _ => sumS_bd l _ ⟨Int.emod_nonneg _ (by decide), Int.emod_lt_of_pos _ (by decide)⟩ ⟨Int.emod_nonneg _ (by decide), Int.emod_lt_of_pos _ (by decide)⟩
theorem sumP_bd (l : List Int) : (0 ≤ (sumP l).1 ∧ (sumP l).1 < 255) ∧ 0 ≤ (sumP l).2 ∧ (sumP l).2 < 255 := sumS_bd l _ ⟨by decide, by decide⟩ ⟨by decide, by decide⟩
theorem sumP_take {l : List Int} {k : Nat} (h : k < l.length) : sumP (l.take (k + 1)) = (((sumP (l.take k)).1 + l[k]) % 255, ((sumP (l.take k)).2 + ((sumP (l.take k)).1 + l[k]) % 255) % 255) := by
  unfold sumP
  rw [List.take_succ_eq_append_getElem h, sumS_app]
  rfl

set_option maxRecDepth 100000 in
set_option maxHeartbeats 1000000 in
theorem sums_any (w : World) {sv : Value} {l : List Int} (h : SlK .u8 w sv l) (hl : l.length ≤ 1000000) : Calls Try.prog 38 #[sv] w fun e w' => e = .returned (.tuple #[.int .u8 (sumP l).1, .int .u8 (sumP l).2]) ∧ w' = w := by
  obtain ⟨A, c, rfl, q⟩ := h.form
  have HH := Lib.hid h
  clear h
  go_enter Try.func38, Try.ntmps38
  go_wp2
  go_loop [4, 5, 10] (fun x y i => ∃ k : Nat, k ≤ l.length ∧ i = .int .i64 k ∧ x = .int .i64 (sumP (l.take k)).1 ∧ y = .int .i64 (sumP (l.take k)).2) (fun _ _ i => l.length - (intOf i).toNat)
  case atStart => exact ⟨0, Nat.zero_le _, rfl, rfl, rfl⟩
  case round =>
    obtain ⟨k, hk, rfl, rfl, rfl⟩ := hrel
    by_cases hlt : k < l.length
    · have hpt := HH.out.pt (fun e => by rw [e] at hlt; cases hlt)
      obtain ⟨b, o, c', e, _, _, h3⟩ := id hpt
      injection e with e1 e2 e3
      subst e1 e3
      have c1 := h3 k hlt
      have hx := HH.out.ok l[k] (List.getElem_mem hlt)
      have HT := Lib.hid (sumP_take hlt)
      obtain ⟨z, hz⟩ : ∃ z, z = l[k] := ⟨_, rfl⟩
      rw [← hz] at c1 hx HT
      obtain ⟨⟨b1, b2⟩, b3, b4⟩ := sumP_bd (l.take k)
      obtain ⟨P, hP⟩ : ∃ P, P = (sumP (l.take k)).1 := ⟨_, rfl⟩
      obtain ⟨Q, hQ⟩ : ∃ Q, Q = (sumP (l.take k)).2 := ⟨_, rfl⟩
      rw [← hP] at b1 b2 HT ⊢
      rw [← hQ] at b3 b4 HT ⊢
      have hlt2 : (k : Int) < (l.length : Int) := by omega
      have t1 : IntKind.i64.wrap z = z := IntWalk.i64_in _ (by omega)
      have t2 : IntKind.i64.wrap (P + z) = P + z := IntWalk.i64_in _ (by omega)
      have m1 := Int.emod_nonneg (P + z) (show (255 : Int) ≠ 0 by decide)
      have m2 := Int.emod_lt_of_pos (P + z) (show (0 : Int) < 255 by decide)
      have t3 : (P + z).tmod 255 = (P + z) % 255 := Int.tmod_eq_emod_of_nonneg (by omega)
      obtain ⟨R, hR⟩ : ∃ R, R = (P + z) % 255 := ⟨_, rfl⟩
      rw [← hR] at t3 m1 m2 HT
      have t4 : IntKind.i64.wrap R = R := IntWalk.i64_in _ (by omega)
      have t5 : IntKind.i64.wrap (Q + R) = Q + R := IntWalk.i64_in _ (by omega)
      have t6 : (Q + R).tmod 255 = (Q + R) % 255 := Int.tmod_eq_emod_of_nonneg (by omega)
      have m3 := Int.emod_nonneg (Q + R) (show (255 : Int) ≠ 0 by decide)
      have m4 := Int.emod_lt_of_pos (Q + R) (show (0 : Int) < 255 by decide)
      obtain ⟨S, hS⟩ : ∃ S, S = (Q + R) % 255 := ⟨_, rfl⟩
      rw [← hS] at t6 m3 m4 HT
      have t7 : IntKind.i64.wrap S = S := IntWalk.i64_in _ (by omega)
      have hk2 : (k : Int) ≤ 1000000 := by omega
      clear hP hQ hR hS hz hpt h3
      go_wp2
      go_round
      all_goals first
        | (refine ⟨k + 1, hlt, ?_, ?_, ?_⟩
           · go_num
           · rw [HT.out]
           · rw [HT.out])
        | (simp [intOf]; omega)
    · obtain rfl : k = l.length := by omega
      rw [List.take_length]
      obtain ⟨⟨b1, b2⟩, b3, b4⟩ := sumP_bd l
      have t1 : IntKind.u8.wrap (sumP l).1 = (sumP l).1 := IntWalk.u8_in _ (by omega)
      have t2 : IntKind.u8.wrap (sumP l).2 = (sumP l).2 := IntWalk.u8_in _ (by omega)
      go_wp2
      go_ret2
      exact ⟨rfl, rfl⟩
end Go.Proofs.Yticcadbkpolmiaa
