/- The reference's Arm with no mask. -/
import Derived.Test.YtliakndgbfbicaaLikes
namespace Go.Proofs.Ytliakndgbfbicaa
open Go.RowKit Go.Maps

section
variable {w : World} {r gn gw gt gm : Nat} {vn vw vt : Value} {d : Rf}
set_option maxRecDepth 100000 in
set_option maxHeartbeats 2000000 in
theorem rarm_nil (h : RfAt w r gn gw gt gm vn vw vt d) (n : Int) (n1 : n ≤ 9223372036854775807) :
    Calls Try.prog 14 #[.pointer (some ⟨r, 0, none⟩), .int .i64 n, .slice none 0 0] w fun e w' => ∃ mv a b c g', e = .returned (.tuple #[]) ∧ RfAt w' r a b c g' vn vw vt (d.armed n mv []) ∧ (a = gn ∨ w.heap.size ≤ a) ∧ (b = gw ∨ w.heap.size ≤ b) ∧ (c = gt ∨ w.heap.size ≤ c) ∧ w.heap.size ≤ g' ∧ Fr w.heap.size (Four r gn gw gt) w w' := by
  have hrl := (Array.getElem?_eq_some_iff.1 h.cells).1
  have HR := Lib.hid h
  have b1 : Below w.heap.size w (w.alloc (.cells #[] 5)) := (Below.refl _ _).alloc (Nat.le_refl _) _
  have hR2 := h.grow b1.block
  obtain ⟨p0, c0, q0, k6, -⟩ : ∃ p0 c0 q0, w.cell? ⟨r, 6, none⟩ = some (.slice p0 c0 q0) ∧ True := by
    obtain ⟨p0, l0, c0, e, -⟩ := h.mask
    exact ⟨p0, l0, c0, by rw [h.c6, e], trivial⟩
  have k4 := h.c4
  have k5 := h.c5
  have e4 := h.fz 4
  have e5 := h.fz 5
  have e6 := h.fz 6
  have H2 := Lib.hid hR2
  have HB := Lib.hid b1
  have hg : w.heap.size < (w.alloc (.cells #[] 5)).heap.size := by simp
  clear h hR2 b1
  go_enter Try.func14, Try.ntmps14
  have e : (((w.alloc (.cells #[] 5)).setCell ⟨r, 4, none⟩ (.bool (decide (0 ≤ n)))).setCell ⟨r, 5, none⟩ (.int .i64 n)).setCell ⟨r, 6, none⟩ (.slice (some ⟨w.heap.size, 0, none⟩) 0 0) = (((w.setCell ⟨r, 4, none⟩ (.bool (decide (0 ≤ n)))).setCell ⟨r, 5, none⟩ (.int .i64 n)).setCell ⟨r, 6, none⟩ (.slice (some ⟨w.heap.size, 0, none⟩) 0 0)).alloc (.cells #[] 5) := by
    rw [World.setCell_alloc_past _ _ _ _ hrl, World.setCell_alloc_past _ _ _ _ (by simpa using hrl), World.setCell_alloc_past _ _ _ _ (by simpa using hrl)]
  have E := Lib.hid e
  clear e
  go_wp2
  go_end0
  rw [← E.out]
  clear E k4 k5 k6 e4 e5 e6
  generalize w.alloc (.cells #[] 5) = w2 at *
  have hs : SlB w2 (.slice (some ⟨w.heap.size, 0, none⟩) 0 0) [] w.heap.size := ⟨_, 0, 0, rfl, rfl, Nat.le_refl _, by omega, fun _ => rfl, fun _ _ hne => absurd rfl hne⟩
  have hmok : bytesOk [] := fun x hx => by cases hx
  have hf : Fr w.heap.size (Four r gn gw gt) w (((w2.setCell ⟨r, 4, none⟩ (.bool (decide (0 ≤ n)))).setCell ⟨r, 5, none⟩ (.int .i64 n)).setCell ⟨r, 6, none⟩ (.slice (some ⟨w.heap.size, 0, none⟩) 0 0)) :=
    (((⟨HB.out.os, HB.out.tape, HB.out.output, HB.out.size, fun k hk _ => HB.out.block k hk⟩ : Fr w.heap.size (Four r gn gw gt) w w2).setCell (Or.inl (Or.inl rfl)) _).setCell (Or.inl (Or.inl rfl)) _).setCell (Or.inl (Or.inl rfl)) _
  rcases Nat.eq_zero_or_pos d.k with hk | hk
  · have n7 := HR.out.ne.2.2.2.2.2.2.1
    have h0 := H2.out.anew hk (a := w.heap.size + gm + r + 1) (b := w.heap.size + gm + r + 2) (c := w.heap.size + gm + r + 3) H2.out.mask ⟨by omega, by omega, by omega, by omega, by omega, by omega, n7, by omega, by omega, by omega⟩
    exact ⟨_, _, _, _, w.heap.size, rfl, rarm_end h0 n1 hs hmok ⟨by omega, by omega, by omega, by omega⟩, Or.inr (by omega), Or.inr (by omega), Or.inr (by omega), Nat.le_refl _, hf⟩
  · have z1 := (HR.out.now hk).lt
    have z2 := (HR.out.was hk).lt
    have z3 := (HR.out.wet hk).lt
    exact ⟨_, gn, gw, gt, w.heap.size, rfl, rarm_end H2.out n1 hs hmok ⟨by omega, by omega, by omega, by omega⟩, Or.inl rfl, Or.inl rfl, Or.inl rfl, Nat.le_refl _, hf⟩
end
end Go.Proofs.Ytliakndgbfbicaa
