/- The log: Force, of a disk that is not armed; Force with nothing new. -/
import Derived.Test.YtemmhligohebfaaTrOp
namespace Go.Proofs.Ytemmhligohebfaa
open Go.RowKit Go.Maps

theorem tr_same (t : Tr) (h : t.stable = t.count) : ({ t with stable := t.count } : Tr) = t := by
  cases t
  simp_all

set_option maxRecDepth 100000 in
theorem force_no (w : World) {p bm : Nat} {t : Tr} (h : TrAt w p bm t) (hc : t.stable = t.count) : Calls Try.prog 11 #[.pointer (some ⟨p, 0, none⟩)] w fun e w' => e = .returned (.int .i64 0) ∧ Below w.heap.size w w' := by
  have x5 : w.drew.cell? ⟨p, 5, none⟩ = some (.int .i64 t.count) := h.c 5
  have x6 : w.drew.cell? ⟨p, 6, none⟩ = some (.int .i64 t.count) := by rw [← hc]; exact h.c 6
  obtain ⟨k, hk⟩ : ∃ k, k = t.count := ⟨_, rfl⟩
  rw [← hk] at x5 x6
  clear hc hk h
  go_enter Try.func11, Try.ntmps11
  go_wp2
  go_region
  all_goals go_wp2
  all_goals go_ret
  all_goals exact ⟨rfl, (Below.refl _ _).drew⟩

set_option maxRecDepth 100000 in
theorem force_any (w : World) {p bm bn bo g : Nat} {t : Tr} {d : Dk} (h : LogAt w p bm t bn bo g d) : Calls Try.prog 11 #[.pointer (some ⟨p, 0, none⟩)] w fun e w' => e = .returned (.int .i64 0) ∧ ∃ d', LogAt w' p bm { t with stable := t.count } bn bo g d' ∧ (t.stable ≠ t.count → Done t d d' t.tiles.toNat) ∧ Fr w.heap.size (Five p bm t.dp bn bo) w w' := by
  by_cases hc : t.stable = t.count
  · refine (force_no w h.tr hc).mono fun e w' ⟨h1, h2⟩ => ⟨h1, d, ?_, fun h => absurd hc h, below_fr h2⟩
    rw [tr_same t hc]
    exact h.kept fun k hk => h2.block k hk
  · have x5 : w.drew.cell? ⟨p, 5, none⟩ = some (.int .i64 t.count) := h.tr.c 5
    have x6 : w.drew.cell? ⟨p, 6, none⟩ = some (.int .i64 t.stable) := h.tr.c 6
    obtain ⟨k, hk⟩ : ∃ k, k = t.count := ⟨_, rfl⟩
    obtain ⟨j, hj⟩ : ∃ j, j = t.stable := ⟨_, rfl⟩
    rw [← hk] at x5
    rw [← hj] at x6
    have hjk : ¬ j = k := by rw [hj, hk]; exact hc
    have HST := Lib.hid (settle_any w.drew (h.kept (w' := w.drew) fun _ _ => rfl))
    clear hc hk hj h
    go_enter Try.func11, Try.ntmps11
    go_wp2
    go_region
    all_goals
      go_wp2_with fail
      refine HST.out.mono ?_
      rintro r9 w6 ⟨rfl, d', hl6, hd6, hf6⟩
      have HQ := Lib.hid (show LogAt w6 p bm { t with stable := t.count } bn bo g d' ∧ Done t d d' t.tiles.toNat ∧ Fr w.heap.size (Five p bm t.dp bn bo) w w6 from ⟨hl6, hd6, ⟨hf6.os, hf6.tape, hf6.output, hf6.size, hf6.block⟩⟩)
      clear hl6 hd6 hf6 HST
      go_wp2
      go_ret
      exact ⟨rfl, d', HQ.out.1, fun _ => HQ.out.2.1, HQ.out.2.2⟩
end Go.Proofs.Ytemmhligohebfaa
