/- An argument that is a slice of deeds: their cells. -/
import Derived.Test.YtliakndgbfbicaaDisk
import Derived.Test.YtliakndgbfbicaaRow
import Derived.Deep.Slices
import Derived.Deep.Fields
import Derived.ChangeSame
import Derived.ChangeSlices
namespace Go.Proofs.Ytliakndgbfbicaa
open Go.ChangeShapes Go.WideShapes Go.Deep Go.RowKit

theorem add_at (ab ao n : Nat) : (⟨ab, ao, none⟩ : Addr).add n = ⟨ab, ao + n, none⟩ := by
  unfold Addr.add; split <;> simp_all

theorem add_any {a : Addr} (hs : a.spot = none) (n : Nat) : a.add n = ⟨a.block, a.off + n, none⟩ := by
  obtain ⟨ab, ao, asp⟩ := a
  cases hs
  exact add_at ab ao n

section
variable {H : Type} {enc : TypeId × Value → H} {w : World} {base : Nat} {sp : Nat → Bool} {held : Bool}

/-- A mask within the argument. -/
theorem open_mask {fuel : Nat} {v : Value} {x : DataW H × List MemPlace} (B : Nat) (hB : B < w.heap.size) (h : DataW.trod enc Try.prog w base sp held fuel 28 [v] = some x) :
    ∃ p0 ln cp, v = .slice p0 ln cp ∧ ln ≤ cp ∧ (cp : Int) ≤ 9223372036854775807 ∧ (ln ≤ 10 → ∃ ms gx, SlB w (.slice p0 ln cp) ms gx ∧ bytesOk ms ∧ gx < w.heap.size ∧ (p0 = none → ln = 0 ∧ cp = 0)) := by
  rcases open_ints Try.underlying28 Try.underlying5 (by kernel_rfl) h with ⟨hcs, _⟩ | ⟨a, len, cap, zs, hcs, _, hl, hm, hz, _, hcell, hwz⟩
  · injection hcs with e _
    exact ⟨none, 0, 0, e, Nat.le_refl _, by omega, fun _ => ⟨[], B, ⟨none, 0, 0, rfl, rfl, Nat.le_refl _, by omega, fun _ => rfl, fun _ _ hne => absurd rfl hne⟩, (fun x hx => by cases hx), hB, fun _ => ⟨rfl, rfl⟩⟩⟩
  · injection hcs with e _
    refine ⟨some a, len, cap, e, hl, by unfold maxLen at hm; omega, fun h10 => ?_⟩
    by_cases h0 : len = 0
    · subst h0
      exact ⟨[], B, ⟨some a, 0, cap, rfl, rfl, Nat.zero_le _, by omega, (fun e => by cases e), fun _ _ hne => absurd rfl hne⟩, (fun x hx => by cases hx), hB, fun e => by cases e⟩
    · have hle : len ≤ zs.length := by rw [hz]; split <;> omega
      have c0 := hcell 0 (by omega)
      have hs : a.spot = none := by
        have e1 : a.add 0 = a := rfl
        rw [e1] at c0
        unfold World.cell? at c0
        split at c0
        · split at c0
          · cases c0
          · rename_i hn; cases hsp : a.spot with
            | none => rfl
            | some y => rw [hsp] at hn; exact absurd rfl hn
        · cases c0
      have hc2 : ∀ j, j < len → w.cell? ⟨a.block, a.off + j, none⟩ = some (.int .u8 (zs.getD j 0)) := fun j hj => by
        rw [← add_any hs j]; exact hcell j (by omega)
      have hlen : (zs.take len).length = len := by simp; omega
      refine ⟨zs.take len, a.block, ⟨some a, len, cap, rfl, hlen.symm, hl, by omega, (fun e => by cases e), fun b e _ => ?_⟩, fun x hx => ?_, (show (a.add 0).block < w.heap.size from block_lt_of_cell (hcell 0 (by omega))), fun e => by cases e⟩
      · cases e
        refine ⟨rfl, hs, fun j hj => ?_⟩
        rw [hc2 j (by omega)]
        simp [List.getD_eq_getElem?_getD, show j < zs.length by omega]
      · have := bounds_u8 (hwz x (List.mem_of_mem_take hx))
        omega

theorem open_deeds {b0 : Nat} {v : Value} {d : DataW H} {ps : List MemPlace} (hok : Value.okWide Try.prog w .any b0 22 v) (h : DataW.Trod enc Try.prog w base sp held 22 v d ps) :
    ∃ A len cap b off, v = .slice A len cap ∧ (0 < len → A = some ⟨b, off, none⟩) ∧ (0 < len → b < w.heap.size) ∧ ∀ i, i < len → ∃ (kd at_ fl : Int) (sh : Bool) (p0 : Option Addr) (ln cp : Nat),
      w.cell? ⟨b, off + i * 5, none⟩ = some (.int .i64 kd) ∧ w.cell? ⟨b, off + i * 5 + 1, none⟩ = some (.int .i64 at_) ∧ w.cell? ⟨b, off + i * 5 + 2, none⟩ = some (.int .u8 fl) ∧ w.cell? ⟨b, off + i * 5 + 3, none⟩ = some (.bool sh) ∧ w.cell? ⟨b, off + i * 5 + 4, none⟩ = some (.slice p0 ln cp) ∧
      (-9223372036854775808 ≤ kd ∧ kd ≤ 9223372036854775807) ∧ (at_ ≤ 9223372036854775807) ∧ (0 ≤ fl ∧ fl < 256) ∧ ln ≤ cp ∧ (cp : Int) ≤ 9223372036854775807 ∧ (ln ≤ 10 → ∃ ms gx, SlB w (.slice p0 ln cp) ms gx ∧ bytesOk ms ∧ gx < w.heap.size ∧ (p0 = none → ln = 0 ∧ cp = 0)) := by
  obtain ⟨a0, len, cap, rfl⟩ := okWide_slice Try.underlying22 hok
  obtain ⟨fuel, hf⟩ := h
  have hC : Try.prog.cellsOf 30 = 5 := by kernel_rfl
  rcases open_slice Try.underlying22 hf with ⟨hcs, _⟩ | ⟨a, len', cap', m, n, D, Pl, hcs, _, _, _, hm, _, hi⟩
  · simp [Value.cells] at hcs
    obtain ⟨rfl, rfl, rfl⟩ := hcs
    exact ⟨none, 0, 0, 0, 0, rfl, fun e => absurd e (Nat.lt_irrefl 0), fun e => absurd e (Nat.lt_irrefl 0), fun i hi => absurd hi (Nat.not_lt_zero i)⟩
  · simp [Value.cells] at hcs
    obtain ⟨rfl, rfl, rfl⟩ := hcs
    obtain ⟨hs, hbl⟩ := slice_ok Try.underlying22 hok
    obtain ⟨ab, ao, asp⟩ := a
    cases hs
    refine ⟨_, len, cap, ab, ao, rfl, fun _ => rfl, fun _ => hbl, fun i hil => ?_⟩
    obtain ⟨cs, hc, ht⟩ := hi i (by rw [hm]; split <;> omega)
    rw [hC] at hc
    obtain ⟨_, hcl, hat⟩ := World.cells?_some hc
    obtain ⟨xs, n', _, _, _, hxl, hfs⟩ := DataW.trod_struct Try.underlying30 ht
    have hfs' : ∀ (i : Nat) (f : Field), _ → ∀ (t : TypeId) (o k : Nat), f.type = t → f.offset = o → Try.prog.cellsOf t = k → DataW.trod enc Try.prog w base sp held n' t ((cs.drop o).take k) = xs[i]? := fun i f hf t o k e1 e2 e3 => by
      have h := hfs i f hf
      rw [e1, e2, e3] at h
      exact h
    match cs, hcl with
    | [c0, c1, c2, c3, c4], _ =>
      have k0 := hat 0 (by omega)
      have k1 := hat 1 (by omega)
      have k2 := hat 2 (by omega)
      have k3 := hat 3 (by omega)
      have k4 := hat 4 (by omega)
      simp only [add_at] at k0 k1 k2 k3 k4
      have u3 : Try.prog.cellsOf 3 = 1 := by kernel_rfl
      have u5 : Try.prog.cellsOf 5 = 1 := by kernel_rfl
      have u4 : Try.prog.cellsOf 4 = 1 := by kernel_rfl
      have u28 : Try.prog.cellsOf 28 = 1 := by kernel_rfl
      have q0 : DataW.trod enc Try.prog w base sp held n' 3 [c0] = xs[0]? := hfs' 0 _ rfl _ 0 1 rfl rfl u3
      have q1 : DataW.trod enc Try.prog w base sp held n' 3 [c1] = xs[1]? := hfs' 1 _ rfl _ 1 1 rfl rfl u3
      have q2 : DataW.trod enc Try.prog w base sp held n' 5 [c2] = xs[2]? := hfs' 2 _ rfl _ 2 1 rfl rfl u5
      have q3 : DataW.trod enc Try.prog w base sp held n' 4 [c3] = xs[3]? := hfs' 3 _ rfl _ 3 1 rfl rfl u4
      have q4 : DataW.trod enc Try.prog w base sp held n' 28 [c4] = xs[4]? := hfs' 4 _ rfl _ 4 1 rfl rfl u28
      have hx5 : xs.length = 5 := hxl
      rw [List.getElem?_eq_getElem (by omega)] at q0 q1 q2 q3 q4
      obtain ⟨kd, e0, _, g0⟩ := DataW.trod_int Try.underlying3 q0
      obtain ⟨at_, e1, _, g1⟩ := DataW.trod_int Try.underlying3 q1
      obtain ⟨fl, e2, _, g2⟩ := DataW.trod_int Try.underlying5 q2
      obtain ⟨sh, e3, _⟩ := DataW.trod_bool Try.underlying4 q3
      obtain ⟨p0, ln, cp, e4, z1, z2, z3⟩ := open_mask ab hbl q4
      injection e0 with e0 _
      injection e1 with e1 _
      injection e2 with e2 _
      injection e3 with e3 _
      subst e0 e1 e2 e3 e4
      have b2 := bounds_u8 g2
      exact ⟨kd, at_, fl, sh, p0, ln, cp, k0, k1, k2, k3, k4, bounds_i64 g0, (bounds_i64 g1).2, ⟨b2.1, by omega⟩, z1, z2, z3⟩
end
end Go.Proofs.Ytliakndgbfbicaa
