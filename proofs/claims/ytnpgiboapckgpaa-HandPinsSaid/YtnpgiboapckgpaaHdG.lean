/- hand: places, and the first of which something holds. -/
import Derived.Test.YtnpgiboapckgpaaHdF
namespace Go.Proofs.Ytnpgiboapckgpaa
open Go.RowKit

theorem all_any (w : World) {p g : Nat} {s : St} (h : HA w p g s) : Calls Try.prog 29 #[.pointer (some ⟨p, 0, none⟩)] w fun e w' => e = .returned (.slice (some ⟨g, 0, none⟩) s.n 64) ∧ ∃ m, w' = w.drewN m := by
  have c0 := h.c0
  have hn := h.ln
  have hnI : (s.n : Int) ≤ 64 := by omega
  obtain rfl := h.eq
  clear h
  go_enter Try.func29, Try.ntmps29
  go_wp2_with fail
  go_quiet (fail)
  go_wp2_with fail
  go_ret
  exact ⟨rfl, _, rfl⟩

theorem drewN_heap (w : World) (m : Nat) : (w.drewN m).heap = w.heap := rfl
theorem HA.drewN {w : World} {p g : Nat} {s : St} (h : HA w p g s) (m : Nat) : HA (w.drewN m) p g s := h.same rfl rfl

set_option maxHeartbeats 1000000 in
theorem firstHit (w : World) {p g : Nat} {s : St} {q : Nat} {k : Int} {i : Nat} (hh : HA w p g s) (hq : w.cell? ⟨q, 0, none⟩ = some (.int .i64 k)) (hf : First s.n (hit s k) i) :
    Calls Try.prog 30 #[.pointer (some ⟨p, 0, none⟩), .func (.func 31) #[] #[.pointer (some ⟨q, 0, none⟩)]] w fun e w' => e = .returned (ptr g s.n i) ∧ ∃ m, w' = w.drewN m := by
  have hN := hh.ln
  have HH := Lib.hid hh
  have HF := Lib.hid hf
  have hi := hf.le
  have HQ := Lib.hid hq
  clear hq
  clear hh hf
  go_enter Try.func30, Try.ntmps30
  go_wp2_with (first | (go_at_call 29; refine (all_any _ HH.out).mono ?_; rintro e w' ⟨rfl, m0, hw⟩; obtain rfl := hw.symm; clear hw))
  go_loopw [11] (fun v wr => ∃ t m : Nat, t ≤ i ∧ v = .int .i64 (t : Int) ∧ wr = w.drewN m) (fun v _ => s.n - (intOf v).toNat)
  case atStart => exact ⟨0, m0, Nat.zero_le _, rfl, rfl⟩
  case round =>
    obtain ⟨t, m, ht, rfl, rfl⟩ := hrel
    by_cases hlt : t < s.n
    · have HLT := Lib.hid hlt
      by_cases he : t = i
      · have hfi := HF.out.yes (he ▸ hlt)
        subst he
        clear hi ht
        go_wp2_with (first | (go_at_call 31; refine (isHit _ (HH.out.drewN m) (i := t) HLT.out HQ.out).mono ?_; rintro e w2 ⟨rfl, m2, hw2⟩; obtain rfl := hw2.symm; clear hw2; rw [hfi]))
        go_ret
        exact ⟨by rw [ptr_some HLT.out]; rfl, _, rfl⟩
      · have hfi := HF.out.no t (by omega)
        have HT : Hid (t + 1 ≤ i) := Lib.hid (by omega)
        clear he hi ht
        go_wp2_with (first | (go_at_call 31; refine (isHit _ (HH.out.drewN m) (i := t) HLT.out HQ.out).mono ?_; rintro e w2 ⟨rfl, m2, hw2⟩; obtain rfl := hw2.symm; clear hw2; rw [hfi]))
        go_roundw
        case rel => exact ⟨t + 1, m + m2, HT.out, by go_num, rfl⟩
        case measure => simp [intOf]; omega
    · have he : t = i := by omega
      subst he
      obtain rfl : t = s.n := by omega
      go_wp2_with fail
      go_ret
      exact ⟨by rw [ptr_none]; rfl, _, rfl⟩
set_option maxHeartbeats 1000000 in
theorem firstVac (w : World) {p g : Nat} {s : St} {i : Nat} (hh : HA w p g s) (hf : First s.n (vac s) i) :
    Calls Try.prog 30 #[.pointer (some ⟨p, 0, none⟩), .func (.func 33) #[] #[]] w fun e w' => e = .returned (ptr g s.n i) ∧ ∃ m, w' = w.drewN m := by
  have hN := hh.ln
  have HH := Lib.hid hh
  have HF := Lib.hid hf
  have hi := hf.le
  clear hh hf
  go_enter Try.func30, Try.ntmps30
  go_wp2_with (first | (go_at_call 29; refine (all_any _ HH.out).mono ?_; rintro e w' ⟨rfl, m0, hw⟩; obtain rfl := hw.symm; clear hw))
  go_loopw [11] (fun v wr => ∃ t m : Nat, t ≤ i ∧ v = .int .i64 (t : Int) ∧ wr = w.drewN m) (fun v _ => s.n - (intOf v).toNat)
  case atStart => exact ⟨0, m0, Nat.zero_le _, rfl, rfl⟩
  case round =>
    obtain ⟨t, m, ht, rfl, rfl⟩ := hrel
    by_cases hlt : t < s.n
    · have HLT := Lib.hid hlt
      by_cases he : t = i
      · have hfi := HF.out.yes (he ▸ hlt)
        subst he
        clear hi ht
        go_wp2_with (first | (go_at_call 33; refine (isVac _ (HH.out.drewN m) (i := t) HLT.out).mono ?_; rintro e w2 ⟨rfl, hw2⟩; obtain rfl := hw2.symm; clear hw2; rw [hfi]))
        go_ret
        exact ⟨by rw [ptr_some HLT.out]; rfl, _, rfl⟩
      · have hfi := HF.out.no t (by omega)
        have HT : Hid (t + 1 ≤ i) := Lib.hid (by omega)
        clear he hi ht
        go_wp2_with (first | (go_at_call 33; refine (isVac _ (HH.out.drewN m) (i := t) HLT.out).mono ?_; rintro e w2 ⟨rfl, hw2⟩; obtain rfl := hw2.symm; clear hw2; rw [hfi]))
        go_roundw
        case rel => exact ⟨t + 1, m, HT.out, by go_num, rfl⟩
        case measure => simp [intOf]; omega
    · have he : t = i := by omega
      subst he
      obtain rfl : t = s.n := by omega
      go_wp2_with fail
      go_ret
      exact ⟨by rw [ptr_none]; rfl, _, rfl⟩
set_option maxHeartbeats 1000000 in
theorem firstLoose (w : World) {p g : Nat} {s : St} {i : Nat} (hh : HA w p g s) (hf : First s.n (loose s) i) :
    Calls Try.prog 30 #[.pointer (some ⟨p, 0, none⟩), .func (.func 34) #[] #[]] w fun e w' => e = .returned (ptr g s.n i) ∧ ∃ m, w' = w.drewN m := by
  have hN := hh.ln
  have HH := Lib.hid hh
  have HF := Lib.hid hf
  have hi := hf.le
  clear hh hf
  go_enter Try.func30, Try.ntmps30
  go_wp2_with (first | (go_at_call 29; refine (all_any _ HH.out).mono ?_; rintro e w' ⟨rfl, m0, hw⟩; obtain rfl := hw.symm; clear hw))
  go_loopw [11] (fun v wr => ∃ t m : Nat, t ≤ i ∧ v = .int .i64 (t : Int) ∧ wr = w.drewN m) (fun v _ => s.n - (intOf v).toNat)
  case atStart => exact ⟨0, m0, Nat.zero_le _, rfl, rfl⟩
  case round =>
    obtain ⟨t, m, ht, rfl, rfl⟩ := hrel
    by_cases hlt : t < s.n
    · have HLT := Lib.hid hlt
      by_cases he : t = i
      · have hfi := HF.out.yes (he ▸ hlt)
        subst he
        clear hi ht
        go_wp2_with (first | (go_at_call 34; refine (isLoose _ (HH.out.drewN m) (i := t) HLT.out).mono ?_; rintro e w2 ⟨rfl, hw2⟩; obtain rfl := hw2.symm; clear hw2; rw [hfi]))
        go_ret
        exact ⟨by rw [ptr_some HLT.out]; rfl, _, rfl⟩
      · have hfi := HF.out.no t (by omega)
        have HT : Hid (t + 1 ≤ i) := Lib.hid (by omega)
        clear he hi ht
        go_wp2_with (first | (go_at_call 34; refine (isLoose _ (HH.out.drewN m) (i := t) HLT.out).mono ?_; rintro e w2 ⟨rfl, hw2⟩; obtain rfl := hw2.symm; clear hw2; rw [hfi]))
        go_roundw
        case rel => exact ⟨t + 1, m, HT.out, by go_num, rfl⟩
        case measure => simp [intOf]; omega
    · have he : t = i := by omega
      subst he
      obtain rfl : t = s.n := by omega
      go_wp2_with fail
      go_ret
      exact ⟨by rw [ptr_none]; rfl, _, rfl⟩
end Go.Proofs.Ytnpgiboapckgpaa
