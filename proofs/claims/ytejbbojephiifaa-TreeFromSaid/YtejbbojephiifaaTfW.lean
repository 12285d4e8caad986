/- TreeFrom: the walk. -/
import Derived.Test.YtejbbojephiifaaTfD
namespace Go.Proofs.Ytejbbojephiifaa
open Go.RowKit

theorem cutM_len (most : Int) (l : List KV) : (cutM most l).length ≤ l.length := by
  unfold cutM
  split
  · exact Nat.le_refl _
  · rw [List.length_take]; exact Nat.min_le_right _ _

set_option maxRecDepth 100000 in
set_option maxHeartbeats 8000000 in
theorem from_walk (w : World) (v : Value) (l : List Int) (k : ByteArray) (most : Int) (hl : SlK .u8 w v l) :
    Calls Try.prog 4 #[v, .string k, .int .i64 most] w fun e w' => e = .returned (.bool true) ∧ Below w.heap.size w w' := by
  obtain ⟨pv, cap, rfl, _⟩ := id hl
  have HL := Lib.hid hl
  clear hl
  go_enter Try.func4, Try.ntmps4
  go_wp2_with fail
  refine (begun_any w).mono ?_
  rintro e w1 ⟨rfl, b1⟩
  by_cases hll : l.length ≤ 60
  · by_cases hkk : k.size ≤ 5
    · go_wp2_with fail
      refine tnew.mono ?_
      rintro e w2 ⟨p, rfl, t2, b2⟩
      have HB2 := Lib.hid (b1.trans (b2.mono b1.size))
      generalize hM : w1.heap.size = M at *
      have HM : Hid (w.heap.size ≤ M) := hM ▸ b1.size
      have HT2 := Lib.hid t2
      clear b1 b2 hM t2
      obtain ⟨n, hn⟩ : ∃ n, l.length = n := ⟨_, rfl⟩
      have HLN := Lib.hid hn
      have hn60 : n ≤ 60 := by omega
      rw [hn]
      clear hll hn
      go_wp2_with fail
      have hal := (Below.refl w2.heap.size w2).alloc (Nat.le_refl _) (.cells #[.slice none 0 0, .slice none 0 0] 30)
      have HBO := Lib.hid (both_new HT2.out hal (heap_alloc_new w2 (.cells #[.slice none 0 0, .slice none 0 0] 30)))
      have HBW := Lib.hid (HB2.out.trans (hal.mono HB2.out.size))
      generalize w2.alloc (.cells #[.slice none 0 0, .slice none 0 0] 30) = w3 at *
      generalize w2.heap.size = r at *
      clear hal HB2 HT2
      go_loopw [9] (fun i wr => ∃ j : Nat, j ≤ n ∧ i = .int .i64 j ∧ Hid (∃ xs, xs.length ≤ j ∧ Bo M wr p xs r xs ∧ Below w.heap.size w wr)) (fun i _ => n - intN i)
      case atStart => exact ⟨0, Nat.zero_le _, rfl, [], Nat.le_refl _, HBO.out, HBW.out⟩
      case round =>
        obtain ⟨j, hj, rfl, HR⟩ := hrel
        clear HBO HBW
        by_cases hlt : j < n
        · obtain ⟨xs, hx, bo, br⟩ := HR.out
          obtain ⟨ab, ao, x0, rfl, hx8, hab, hcell⟩ := sl_at (i := j) HL.out br (by have := HLN.out; omega)
          obtain ⟨x, rfl, hx9⟩ := u8_nat hx8
          have HO := Lib.hid bo
          have HB := Lib.hid br
          have HC := Lib.hid ((World.cell?_of_block (br.block ab hab)).symm.trans hcell)
          clear bo br HR hx8
          go_wp2_with fail
          refine (key_any wr x hx9).mono ?_
          rintro e w4 ⟨rfl, b4⟩
          have HB4 := Lib.hid (HB.out.trans (b4.mono HB.out.size))
          have HO4 := Lib.hid (HO.out.below b4)
          clear HB HO b4
          go_wp2_with fail
          refine (both_put HO4.out (by omega) ⟨keyN x, (j : Int), 0⟩).mono ?_
          rintro e w5 ⟨rfl, o5, b5⟩
          have HB5 := Lib.hid (HB4.out.trans (b5.mono HM.out))
          have HO5 := Lib.hid o5
          have HL5 : Hid ((ins ⟨keyN x, (j : Int), 0⟩ xs).length ≤ j + 1) := by
            show _ ≤ _
            rw [ins_len]; split <;> omega
          clear HO4 o5 b5 HB4 hcell
          have hcell := (World.cell?_of_block (HB5.out.block ab hab)).trans HC.out
          go_wp2_with fail
          refine (key_any w5 x hx9).mono ?_
          rintro e w6 ⟨rfl, b6⟩
          have HB6 := Lib.hid (HB5.out.trans (b6.mono HB5.out.size))
          have HO6 := Lib.hid (HO5.out.below b6)
          clear HB5 HO5 b6
          go_wp2_with fail
          refine (both_rput HO6.out (by omega) ⟨keyN x, (j : Int), 0⟩).mono ?_
          rintro e w7 ⟨rfl, o7, b7⟩
          have HB7 := Lib.hid (HB6.out.trans (b7.mono HM.out))
          have HF : Hid (∃ xs, xs.length ≤ j + 1 ∧ Bo M w7 p xs r xs ∧ Below w.heap.size w w7) := ⟨_, HL5.out, o7, HB7.out⟩
          clear HO6 o7 b7 HB6 HB7 HL5 HC hcell
          go_wp2_with fail
          go_roundw
          case rel => exact ⟨j + 1, by omega, by go_num, HF.out⟩
          case measure => simp [intN]; omega
        · obtain ⟨xs, hx, bo, br⟩ := HR.out
          have HO := Lib.hid bo
          have HB := Lib.hid br
          have hx60 : xs.length ≤ 60 := by omega
          clear HR bo br hx
          go_wp2_with fail
          refine (tfrom HO.out.tt (by omega) k most).mono ?_
          rintro e w6 ⟨sk, sv, rfl, _, b6, o1, o2⟩
          have HO6 := Lib.hid (HO.out.below b6)
          have HB6 := Lib.hid (HB.out.trans (b6.mono HB.out.size))
          have H12 := Lib.hid (And.intro o1 o2)
          clear HO HB o1 o2 b6
          go_wp2_with fail
          refine (rfrom_any w6 HO6.out.rtr (by omega) k most).mono ?_
          rintro e w7 ⟨sk', sv', rfl, b7, o3, o4⟩
          have HB7 := Lib.hid (HB6.out.trans (b7.mono HB6.out.size))
          have HAL := Lib.hid (alike_any w7 (own_up H12.out.1 b7) (own_up H12.out.2 b7) (own_base o3 (Nat.zero_le _)) (own_base o4 (Nat.zero_le _)) (Nat.le_trans (cutM_len most _) (Nat.le_trans (frm_le k xs) (by omega))))
          clear H12 o3 o4 b7 HO6 HB6
          go_wp2_with fail
          refine HAL.out.mono ?_
          rintro e w8 ⟨rfl, b8⟩
          have HB8 := Lib.hid (HB7.out.trans (b8.mono HB7.out.size))
          clear b8 HB7
          go_wp2_with fail
          go_ret
          exact ⟨rfl, HB8.out⟩
    · go_wp2_with fail
      go_ret
      exact ⟨rfl, b1⟩
  · go_wp2_with fail
    go_ret
    exact ⟨rfl, b1⟩
end Go.Proofs.Ytejbbojephiifaa
