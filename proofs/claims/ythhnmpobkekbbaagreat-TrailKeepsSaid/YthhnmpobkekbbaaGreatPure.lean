/- Plain facts on disks. -/
import Derived.Test.YthhnmpobkekbbaaGreatWrite
namespace Go.Proofs.YthhnmpobkekbbaaGreat
open Go.RowKit Go.Maps

theorem sorted_ext {a b : List Int} (ha : a.Pairwise (· < ·)) (hb : b.Pairwise (· < ·)) (h : ∀ x, x ∈ a ↔ x ∈ b) : a = b := by
  have na : a.Nodup := ha.imp (fun {x y} h => by omega)
  have nb : b.Nodup := hb.imp (fun {x y} h => by omega)
  refine List.Perm.eq_of_pairwise (le := (· < ·)) (fun x y _ _ h1 h2 => by omega) ha hb ((List.perm_ext_iff_of_nodup na nb).2 h)

def nine : List Int := 9 :: List.replicate 63 0

theorem nine_ok : nine.length = 64 ∧ bytesOk nine := ⟨rfl, by unfold bytesOk; simp [nine]⟩

def dA : Dk := (Dk.fresh 3).store 0 (blkOf nine)
def dB : Dk := dA.store 2 (blkOf nine)

theorem store_old_at (d : Dk) (i : Int) (v : Value) (j : Int) : (d.store i v).old j = if (d.old j).isSome = true then d.old j else if j = i then some ((d.now i).getD zb) else none := by
  unfold Dk.store
  by_cases hs : (d.old i).isSome = true
  · rw [if_pos hs]
    by_cases hj : (d.old j).isSome = true
    · rw [if_pos hj]
    · rw [if_neg hj, if_neg (by rintro rfl; exact hj hs)]
      simpa using hj
  · rw [if_neg hs]
    by_cases hj : (d.old j).isSome = true
    · rw [if_pos hj]
      exact upd_other _ (by rintro rfl; exact hs hj) _
    · rw [if_neg hj]
      by_cases e : j = i
      · subst e; rw [if_pos rfl]; exact upd_same _ _ _
      · rw [if_neg e]
        show upd d.old i _ j = none
        rw [upd_other _ e]
        simpa using hj

theorem store_old_some (d : Dk) (i : Int) (v : Value) (j : Int) : ((d.store i v).old j).isSome = (decide (j = i) || (d.old j).isSome) := by
  rw [store_old_at]
  by_cases hj : (d.old j).isSome = true
  · rw [if_pos hj, hj]; simp
  · rw [if_neg hj]
    by_cases e : j = i
    · simp [e]
    · simp [e, hj]

theorem store_now (d : Dk) (i : Int) (v : Value) : (d.store i v).now = upd d.now i (some v) := rfl

theorem loose_B {ls : List Int} (h : IsLoose dB ls) : ls = [0, 2] := by
  refine sorted_ext h.1 (by simp) fun x => ?_
  rw [h.2 x]
  simp only [dB, dA, store_old_some]
  simp [Dk.fresh]
  omega

theorem crashed_B {d' : Dk} (h : Crashes dB [2] d') : d' = dB.crashed (upd dB.now 0 (some zb)) := by
  obtain ⟨ls, hl, rfl⟩ := h
  obtain rfl := loose_B hl
  have b0 : bitOf [2] 0 = false := by decide
  have b1 : bitOf [2] 1 = true := by decide
  have e : dB.old 0 = some zb := by
    simp only [dB, dA, store_old_at]
    simp [Dk.fresh]
  simp [crashNow, b0, b1, e]

def dC : Dk := { dB.crashed (upd dB.now 0 (some zb)) with dead := false }

theorem zb_of : zb = blkOf (List.replicate 64 0) := by
  unfold zb blkOf byteV
  rw [List.map_replicate]
  rfl

theorem readC_0 : (dC.now 0).getD zb = blkOf (List.replicate 64 0) := by
  rw [← zb_of]
  rfl

theorem readC_2 : (dC.now 2).getD zb = blkOf nine := by
  have e : dC.now 2 = some (blkOf nine) := by
    show upd dB.now 0 (some zb) 2 = _
    rw [upd_other _ (by decide)]
    rfl
  rw [e]
  rfl
end Go.Proofs.YthhnmpobkekbbaaGreat
