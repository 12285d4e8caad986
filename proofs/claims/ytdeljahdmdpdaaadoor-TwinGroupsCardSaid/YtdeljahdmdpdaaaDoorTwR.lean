/- The document's answer: Join and Split by loops over the bytes. -/
import Derived.Test.YtdeljahdmdpdaaaDoorTwC
import Derived.LoopTactic
import Derived.BigQuiet
namespace Go.Proofs.YtdeljahdmdpdaaaDoor
open Go.RowKit Go.Lib

theorem esc_app : ∀ a b : List UInt8, esc (a ++ b) = esc a ++ esc b
  | [], b => rfl
  | x :: a, b => by
    rw [List.cons_append, esc, esc]
    split <;> simp [esc_app a b]
theorem B_ext (s : List UInt8) {i j : Nat} (_ : i ≤ j) (_ : j ≤ s.length) : (B s).extract i j = B ((s.drop i).take (j - i)) := by
  apply ByteArray.ext
  apply Array.toList_inj.1
  simp [B, ByteArray.data_extract]
theorem take_one {s : List UInt8} {k : Nat} (h : k < s.length) : (s.drop k).take 1 = [s[k]] := by
  rw [List.drop_eq_getElem_cons h]; rfl
theorem B_get (s : List UInt8) {k : Nat} (h : k < s.length) : (B s).data.toList[k]? = some s[k] := by rw [B_data]; exact List.getElem?_eq_getElem h

theorem B_at (s : List UInt8) {k : Nat} (_ : k < s.length) (h' : k < (B s).size) : (B s)[k]'h' = s[k] := by
  simp [B, ByteArray.getElem_eq_getElem_data]
  rfl

theorem run_cut1 (s : List UInt8) {j : Nat} (h : j < s.length) (w : World) :
    (Instr.slice 9 (.string (B s)) (some (.int .i64 (j : Int))) (some (.int .i64 ((j : Int) + 1))) none).run Tryd.prog w = .ok (.string (B [s[j]])) w := by
  have hz := B_size s
  rw [run_slice_string w 9 (B s) .i64 .i64 j ((j : Int) + 1) Tryd.underlying9 (by omega) (by omega) (by omega)]
  have : (B s).extract (j : Int).toNat ((j : Int) + 1).toNat = B [s[j]] := by
    rw [show (j : Int).toNat = j by omega, show ((j : Int) + 1).toNat = j + 1 by omega, B_ext s (by omega) (by omega), show j + 1 - j = 1 by omega, take_one h]
  rw [this]
theorem run_at (s : List UInt8) {j : Nat} (h : j < s.length) (w : World) :
    (Instr.index 9 (.string (B s)) (.int .i64 (j : Int))).run Tryd.prog w = .ok (.int .u8 (s[j].toNat : Int)) w := by
  have hz := B_size s
  rw [run_index_string w 9 (B s) .i64 j Tryd.underlying9, dif_pos ⟨by omega, by omega⟩]
  have : (B s)[(j : Int).toNat]'(by omega) = s[j] := by
    have e : (j : Int).toNat = j := by omega
    simp only [e]
    exact B_at s h (by omega)
  rw [this]

set_option maxHeartbeats 4000000 in
theorem rjoin_any (s k : List UInt8) (w : World) (hs : s.length ≤ 1000) (hk : k.length ≤ 1000) :
    Calls Tryd.prog 11 #[.string (B s), .string (B k)] w fun e w' => e = .returned (.string (B (jn s k))) ∧ w' = w := by
  have hz : (B s).size = s.length := B_size s
  have e2 : B (esc s) ++ (⟨#[0, 1]⟩ : ByteArray) ++ B k = B (jn s k) := by
    have : (⟨#[0, 1]⟩ : ByteArray) = B [0, 1] := rfl
    rw [this, B_app, B_app]; simp [jn]
  go_enter Tryd.func11, Tryd.ntmps11
  go_wp2_with fail
  go_loop [5, 6] (fun x i => ∃ j : Nat, j ≤ s.length ∧ i = .int .i64 j ∧ x = .string (B (esc (s.take j)))) (fun _ i => s.length - (RowKit.intOf i).toNat)
  case atStart => exact ⟨0, Nat.zero_le _, rfl, rfl⟩
  case round =>
    obtain ⟨j, hj, rfl, rfl⟩ := hrel
    have he := esc_len (s.take j)
    have hl : (s.take j).length ≤ 1000 := by simp; omega
    by_cases hlt : j < s.length
    · have hcut := run_cut1 s hlt w
      have hat := run_at s hlt w
      have n1 : ¬ 9223372036854775807 < (B (esc (s.take j))).size + (B [s[j]]).size := by rw [B_size, B_size]; simp; omega
      have a1 : B (esc (s.take j)) ++ B [s[j]] = B (esc (s.take j) ++ [s[j]]) := B_app _ _
      have n2 : ¬ 9223372036854775807 < (B (esc (s.take j) ++ [s[j]])).size + 1 := by rw [B_size]; simp; omega
      have a2 : B (esc (s.take j) ++ [s[j]]) ++ (⟨#[255]⟩ : ByteArray) = B (esc (s.take j) ++ [s[j], 255]) := by rw [show (⟨#[255]⟩ : ByteArray) = B [255] from rfl, B_app]; simp
      have ht : s.take (j + 1) = s.take j ++ [s[j]] := List.take_succ_eq_append_getElem hlt
      clear he hl
      by_cases h0 : s[j] = 0
      · have e0 : ((s[j].toNat : Int) == 0) = true := by rw [h0]; rfl
        have het : esc (s.take (j + 1)) = esc (s.take j) ++ [s[j], 255] := by rw [ht, esc_app, h0]; simp [esc]
        clear h0 ht
        go_wp2_with fail
        go_round
        case rel => exact ⟨j + 1, by omega, by go_num, by rw [het]⟩
        case measure => simp [RowKit.intOf]; omega
      · have e0 : ((s[j].toNat : Int) == 0) = false := by
          apply beq_eq_false_iff_ne.2
          intro e
          exact h0 (UInt8.toNat_inj.1 (by simpa using e))
        have het : esc (s.take (j + 1)) = esc (s.take j) ++ [s[j]] := by rw [ht, esc_app]; simp [esc, h0]
        clear h0 ht
        go_wp2_with fail
        go_round
        case rel => exact ⟨j + 1, by omega, by go_num, by rw [het]⟩
        case measure => simp [RowKit.intOf]; omega
    · have hjj : j = s.length := by omega
      subst hjj
      rw [List.take_length] at *
      have n1 : ¬ 9223372036854775807 < (B (esc s)).size + 2 := by rw [B_size]; omega
      have n2 : ¬ 9223372036854775807 < (B (esc s)).size + 2 + (B k).size := by rw [B_size, B_size]; omega
      go_wp2_with fail
      go_ret
      exact ⟨rfl, rfl⟩

theorem hidI {p : Prop} (h : p) : Hid p := h
theorem spl_no {b : UInt8} (h : b ≠ 0) (l : List UInt8) : spl (b :: l) = (spl l).map fun x => (b :: x.1, x.2) := by
  cases l with
  | nil => simp [spl]
  | cons c r => rw [spl, if_neg h]

theorem run_tail (s : List UInt8) {j : Nat} (h : j + 2 ≤ s.length) (w : World) :
    (Instr.slice 9 (.string (B s)) (some (.int .i64 ((j : Int) + 2))) none none).run Tryd.prog w = .ok (.string (B (s.drop (j + 2)))) w := by
  have hz := B_size s
  rw [run_slice_string_from_if w 9 (B s) .i64 ((j : Int) + 2) Tryd.underlying9, if_pos ⟨by omega, by omega⟩]
  have : (B s).extract ((j : Int) + 2).toNat (B s).size = B (s.drop (j + 2)) := by
    rw [show ((j : Int) + 2).toNat = j + 2 by omega, hz, B_ext s (by omega) (by omega), List.take_of_length_le (by simp)]
  rw [this]
theorem run_next (s : List UInt8) {j : Nat} (h : j + 1 < s.length) (w : World) :
    (Instr.index 9 (.string (B s)) (.int .i64 ((j : Int) + 1))).run Tryd.prog w = .ok (.int .u8 (s[j + 1].toNat : Int)) w := run_at s h w

theorem u8_ne {a : UInt8} {k : Nat} (hk : k < 256) (h : a ≠ UInt8.ofNat k) : ((a.toNat : Int) == (k : Int)) = false := by
  apply beq_eq_false_iff_ne.2
  intro e
  apply h
  apply UInt8.toNat_inj.1
  have : a.toNat = k := by omega
  rw [this]; simp; omega

theorem splA_none {s : List UInt8} (h : spl s = none) : splA s = .tuple #[.string ⟨#[]⟩, .string ⟨#[]⟩, .bool false] := by unfold splA; rw [h]
theorem splA_some {s : List UInt8} {x : List UInt8 × List UInt8} (h : spl s = some x) : splA s = .tuple #[.string (B x.1), .string (B x.2), .bool true] := by unfold splA; rw [h]

set_option maxHeartbeats 8000000 in
theorem rsplit_any (s : List UInt8) (w : World) (hs : s.length ≤ 1000) :
    Calls Tryd.prog 9 #[.string (B s)] w fun e w' => e = .returned (splA s) ∧ Below w.heap.size w w' := by
  have hz : (B s).size = s.length := B_size s
  go_enter Tryd.func9, Tryd.ntmps9
  go_wp2_with fail
  go_loop [5, 6] (fun x i => ∃ (j : Nat) (acc : List UInt8), j ≤ s.length ∧ acc.length ≤ j ∧ i = .int .i64 j ∧ x = .string (B acc) ∧ Hid (spl s = (spl (s.drop j)).map fun y => (acc ++ y.1, y.2))) (fun _ i => s.length - (RowKit.intOf i).toNat)
  case atStart =>
    refine ⟨0, [], Nat.zero_le _, Nat.zero_le _, rfl, rfl, hidI ?_⟩
    simp
  case round =>
    obtain ⟨j, acc, hj, ha, rfl, rfl, hR⟩ := hrel
    by_cases hlt : j < s.length
    · have hcut := run_cut1 s hlt w
      have hat := run_at s hlt w
      have hd : s.drop j = s[j] :: s.drop (j + 1) := List.drop_eq_getElem_cons hlt
      have hsp := hR.out
      rw [hd] at hsp
      clear hR hd
      by_cases h0 : s[j] = 0
      · have e0 : ((s[j].toNat : Int) == 0) = true := by rw [h0]; rfl
        rw [h0] at hsp
        clear h0 hcut
        by_cases hl : j + 1 = s.length
        · have e1 : ((j : Int) + 1 == (s.length : Int)) = true := beq_iff_eq.2 (by omega)
          have hn : spl s = none := by
            rw [hsp, List.drop_of_length_le (by omega)]; rfl
          have hS := splA_none hn
          clear hsp hn
          go_wp2_with fail
          go_ret3
          exact ⟨rfl, Below.refl _ _⟩
        · have e1 : ((j : Int) + 1 == (s.length : Int)) = false := beq_eq_false_iff_ne.2 (by omega)
          have hl2 : j + 1 < s.length := by omega
          have hat1 := run_next s hl2 w
          have hd : s.drop (j + 1) = s[j + 1] :: s.drop (j + 2) := List.drop_eq_getElem_cons hl2
          rw [hd] at hsp
          clear hd
          by_cases h1 : s[j + 1] = 1
          · have e2 : ((s[j + 1].toNat : Int) == 1) = true := by rw [h1]; rfl
            have htl := fun w => run_tail s (j := j) (by omega) w
            have hn : spl s = some (acc, s.drop (j + 2)) := by rw [hsp, h1]; simp [spl]
            have hS := splA_some hn
            dsimp only at hS
            clear hsp hn h1
            go_wp2_with fail
            go_quiet (fail)
            go_wp2_with fail
            go_ret3
            exact ⟨by rw [hS]; rfl, below_drew0 w _⟩
          · have e2 : ((s[j + 1].toNat : Int) == 1) = false := u8_ne (k := 1) (by decide) h1
            by_cases h2 : s[j + 1] = 255
            · have e3 : ((s[j + 1].toNat : Int) == 255) = true := by rw [h2]; rfl
              have a1 : B acc ++ (⟨#[0]⟩ : ByteArray) = B (acc ++ [0]) := B_app acc [0]
              have n1 : ¬ 9223372036854775807 < (B acc).size + 1 := by rw [B_size]; omega
              have hR2 : Hid (spl s = (spl (s.drop (j + 2))).map fun y => (acc ++ [0] ++ y.1, y.2)) := hidI (by
                rw [hsp, h2]
                rw [spl, if_pos rfl, if_neg (show ¬ ((255 : UInt8) = 1) by decide), if_pos rfl]
                cases spl (s.drop (j + 2)) <;> simp)
              clear hsp h2 h1
              go_wp2_with fail
              go_round
              case rel => exact ⟨j + 2, acc ++ [0], by omega, by simp; omega, by go_num, rfl, hR2⟩
              case measure => simp [RowKit.intOf]; omega
            · have e3 : ((s[j + 1].toNat : Int) == 255) = false := u8_ne (k := 255) (by decide) h2
              have hn : spl s = none := by rw [hsp]; simp [spl, h1, h2]
              have hS := splA_none hn
              clear hsp hn h1 h2
              go_wp2_with fail
              go_ret3
              exact ⟨rfl, Below.refl _ _⟩
      · have e0 : ((s[j].toNat : Int) == 0) = false := u8_ne (k := 0) (by decide) h0
        have a1 : B acc ++ B [s[j]] = B (acc ++ [s[j]]) := B_app _ _
        have n1 : ¬ 9223372036854775807 < (B acc).size + (B [s[j]]).size := by rw [B_size, B_size]; simp; omega
        have hR2 : Hid (spl s = (spl (s.drop (j + 1))).map fun y => (acc ++ [s[j]] ++ y.1, y.2)) := hidI (by
          rw [hsp, spl_no h0]
          cases spl (s.drop (j + 1)) <;> simp)
        clear hsp h0
        go_wp2_with fail
        go_round
        case rel => exact ⟨j + 1, acc ++ [s[j]], by omega, by simp; omega, by go_num, rfl, hR2⟩
        case measure => simp [RowKit.intOf]; omega
    · have hjj : j = s.length := by omega
      subst hjj
      have hn : spl s = none := by rw [hR.out, List.drop_length]; rfl
      have hS := splA_none hn
      clear hn hR
      go_wp2_with fail
      go_ret3
      exact ⟨rfl, Below.refl _ _⟩
end Go.Proofs.YtdeljahdmdpdaaaDoor
