/- The reference's text; a row's parts as they are read. -/
import Derived.Test.YtmijdjlpfjfjoaaCut
namespace Go.Proofs.Ytmijdjlpfjfjoaa
open Go.RowKit

set_option maxRecDepth 100000 in
set_option maxHeartbeats 1000000 in
theorem text_any (w : World) (v : Value) (c : Int) (t : List Int) (m : Nat) (hm1 : 1 ≤ m) (hm : m ≤ 100) (h : Pt w v (c :: t)) (hok : bytesOk (c :: t)) (hl : m ≤ t.length) (hl2 : t.length ≤ 1000) :
    Calls Try.prog 26 #[v, .int .i64 m] w fun e w' => e = .returned (.tuple #[.string (partR c t m), .bool (partB c t m)]) ∧ w' = w := by
  have hc := hok c (by simp)
  obtain ⟨n, rfl⟩ := Int.eq_ofNat_of_zero_le hc.1
  obtain ⟨b, off, cap, rfl, h1, h2, h3⟩ := id h
  obtain ⟨T, hT⟩ : ∃ T, t.length = T := ⟨_, rfl⟩
  simp only [List.length_cons, hT] at h h1 ⊢
  rw [hT] at hl hl2
  have x0 := h3 0 (by simp)
  simp only [List.getElem_cons_zero, Nat.add_zero] at x0
  have hcell : ∀ j (hj : j < t.length), w.cell? ⟨b, off + (j + 1), none⟩ = some (.int .u8 t[j]) := fun j hj => by
    have := h3 (j + 1) (by simp; omega)
    simpa using this
  have H3 := Lib.hid hcell
  have HT := Lib.hid hT
  by_cases hn : n ≤ m
  · have hs : Pt w (.slice (some ⟨b, off + 1, none⟩) n (cap - 1)) (t.take n) := (h.cut (k := 1) (m := T) (off' := off + 1) (c' := cap - 1) (by omega) (fun _ => rfl) (by omega) (by omega)).first (by omega) (by omega)
    have hv := conv_slK (hs.slK (ok_take (ok_drop hok 1) n))
    have hv2 : (convert 22 9 (.slice (some ⟨b, off + 1, none⟩) n (cap - 1))).run Try.prog w = .ok (.string (partS (n : Int) t)) w := hv
    clear hcell hT h h3 hs hok hv
    have j1 : (n : Int) ≤ m := by omega
    have i1 : (n : Int) + 1 ≤ (cap : Int) := by omega
    have i3 : ¬ cap = 1 := by omega
    go_enter Try.func26, Try.ntmps26
    go_wp2
    go_loopw [7] (fun i wr => ∃ k : Nat, n ≤ k ∧ k ≤ m ∧ (∀ j (hj : j < t.length), n ≤ j → j < k → t[j] = 0) ∧ i = .int .i64 ((k : Int) + 1) ∧ w = wr) (fun i _ => m + 1 - (intOf i).toNat)
    case atStart => exact ⟨n, by omega, by omega, fun j _ h1 h2 => by omega, by go_num, rfl⟩
    case round =>
      obtain ⟨k, hk1, hk, hz, rfl, rfl⟩ := hrel
      have HZ := Lib.hid hz
      clear hz
      by_cases hlt : k < m
      · have hkl : k < t.length := by have := HT.out; omega
        have c0 := H3.out k hkl
        by_cases h0 : t[k] = 0
        · have HZ2 : Hid (∀ j (hj : j < t.length), n ≤ j → j < k + 1 → t[j] = 0) := fun j hj h1 hlt => by
            by_cases e : j = k
            · subst e; exact h0
            · exact HZ.out j hj h1 (by omega)
          rw [h0] at c0
          clear h0
          go_wp2
          go_roundw
          case rel => exact ⟨k + 1, by omega, by omega, HZ2.out, by go_num, trivial⟩
          case measure => simp [intOf]; omega
        · have hpb : Hid (partB (n : Int) t m = false) := by
            have hlen : k - n < ((t.take m).drop n).length := by have := HT.out; rw [List.length_drop, List.length_take]; omega
            have hzf := zerosB_false (l := (t.take m).drop n) (k := k - n) hlen (by
              rw [List.getElem_drop, List.getElem_take]
              have e : n + (k - n) = k := by omega
              simp only [e]
              exact h0)
            simp [Hid, partB, hzf]
          have hx : (t[k] != 0) = true := by simpa using h0
          go_wp2
          go_ret2
          exact ⟨by rw [partR, hpb.out]; rfl, rfl⟩
      · obtain rfl : k = m := by omega
        have hpb : Hid (partB (n : Int) t k = true) := by
          have hzt := zerosB_true (l := (t.take k).drop n) (fun j hj => by
            rw [List.length_drop, List.length_take] at hj
            rw [List.getElem_drop, List.getElem_take]
            exact HZ.out _ (by omega) (by omega) (by omega))
          simp [Hid, partB, hzt]; omega
        go_wp2
        go_ret2
        exact ⟨by rw [partR, if_pos hpb.out, hpb.out]; rfl, rfl⟩
  · have hpb : Hid (partB (n : Int) t m = false) := by simp [Hid, partB]; intro h; omega
    clear hcell hT h h3 hok
    go_enter Try.func26, Try.ntmps26
    go_wp2
    go_ret2
    exact ⟨by rw [partR, hpb.out]; rfl, rfl⟩
end Go.Proofs.Ytmijdjlpfjfjoaa
