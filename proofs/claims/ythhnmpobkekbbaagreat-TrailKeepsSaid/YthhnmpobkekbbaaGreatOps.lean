/- New, Read, Sync, Write, Arm and the masks' bits. -/
import Derived.Test.YthhnmpobkekbbaaGreatStore
namespace Go.Proofs.YthhnmpobkekbbaaGreat
open Go.RowKit Go.Maps

def Dk.fresh (n : Int) : Dk := { tiles := n, now := fun _ => none, old := fun _ => none, dead := false, set := false, left := 0, mv := .slice none 0 0, mask := [] }

def clampT (n : Int) : Int := if n < 0 then 0 else if 2000 < n then 2000 else n

theorem fresh_at (w : World) (t : Int) (h0 : 0 ≤ t) (h1 : t ≤ 2000) : DiskAt (((w.alloc (.map #[] 0)).alloc (.map #[] 0)).alloc (.cells #[.int .i64 t, .map (some w.heap.size), .map (some (w.heap.size + 1)), .bool false, .bool false, .int .i64 0, .slice none 0 0] 75)) (w.heap.size + 1 + 1) w.heap.size (w.heap.size + 1) 0 (.fresh t) := by
  have e2 : ((w.alloc (.map #[] 0)).alloc (.map #[] 0)).heap.size = w.heap.size + 1 + 1 := by simp
  have e1 : (w.alloc (.map #[] 0)).heap.size = w.heap.size + 1 := by simp
  refine ⟨?_, ?_, ?_, ?_, ⟨by omega, by omega, by omega, by omega⟩, ⟨h0, h1, ?_, ?_, by simp [Dk.fresh], by simp [Dk.fresh], by simp [Dk.fresh, bytesOk]⟩⟩
  · rw [← e2]; exact heap_alloc_new _ _
  · exact (fm_made w _ _).of_block ((Below.heap_alloc _ _ _ (by omega)).trans (Below.heap_alloc _ _ _ (by omega)))
  · have := fm_made (w.alloc (.map #[] 0)) Tryz.prog 3
    rw [e1] at this
    exact this.of_block (Below.heap_alloc _ _ _ (by omega))
  · exact ⟨_, _, _, rfl, rfl, Nat.le_refl _, by omega, fun _ => rfl, fun a e => by cases e⟩
  · intro i v e; cases e
  · intro i v e; cases e

theorem fresh_below (w : World) (o1 o2 o3 : Obj) : Below w.heap.size w (((w.alloc o1).alloc o2).alloc o3) :=
  (((Below.refl _ w).alloc (Nat.le_refl _) o1).alloc (by simp) o2).alloc (by simp; omega) o3

theorem new_any (w : World) (n : Int) : Calls Tryz.prog 7 #[.int .i64 n] w fun e w' => e = .returned (.pointer (some ⟨w.heap.size + 1 + 1, 0, none⟩)) ∧ DiskAt w' (w.heap.size + 1 + 1) w.heap.size (w.heap.size + 1) 0 (.fresh (clampT n)) ∧ Below w.heap.size w w' := by
  have hmm := @run_makeMap Tryz.prog
  rcases Int.lt_or_le n 0 with h | h
  · have e0 : clampT n = 0 := by unfold clampT; rw [if_pos h]
    rw [e0]
    go_enter Tryz.func7, Tryz.ntmps7
    go_wp2
    go_ret
    exact ⟨rfl, fresh_at w 0 (by omega) (by omega), fresh_below w _ _ _⟩
  · rcases Int.lt_or_le 2000 n with h2 | h2
    · have e0 : clampT n = 2000 := by unfold clampT; rw [if_neg (by omega), if_pos h2]
      rw [e0]
      go_enter Tryz.func7, Tryz.ntmps7
      go_wp2
      go_ret
      exact ⟨rfl, fresh_at w 2000 (by omega) (by omega), fresh_below w _ _ _⟩
    · have e0 : clampT n = n := by unfold clampT; rw [if_neg (by omega), if_neg (by omega)]
      rw [e0]
      go_enter Tryz.func7, Tryz.ntmps7
      go_wp2
      go_ret
      exact ⟨rfl, fresh_at w n (by omega) (by omega), fresh_below w _ _ _⟩

theorem read_dead (w : World) {p bn bo g : Nat} {d : Dk} (h : DiskAt w p bn bo g d) (hd : d.dead = true) (i : Int) : Calls Tryz.prog 58 #[.pointer (some ⟨p, 0, none⟩), .int .i64 i] w fun e w' => e = .returned (.tuple #[.slice none 0 0, .int .i64 2]) ∧ w' = w := by
  have hr := ready_any w h
  rw [hd] at hr
  have HR := Lib.hid hr
  clear hr
  go_enter Tryz.func58, Tryz.ntmps58
  go_wp2_with (go_at_call 44; refine HR.out.mono ?_; rintro e w' ⟨rfl, rfl⟩)
  go_ret2
  exact ⟨rfl, rfl⟩

theorem read_nil (w : World) (i : Int) : Calls Tryz.prog 58 #[.pointer none, .int .i64 i] w fun e w' => e = .returned (.tuple #[.slice none 0 0, .int .i64 1]) ∧ w' = w := by
  have HR := Lib.hid (ready_nil w)
  go_enter Tryz.func58, Tryz.ntmps58
  go_wp2_with (go_at_call 44; refine HR.out.mono ?_; rintro e w' ⟨rfl, rfl⟩)
  go_ret2
  exact ⟨rfl, rfl⟩

theorem read_bad (w : World) {p bn bo g : Nat} {d : Dk} (h : DiskAt w p bn bo g d) (hd : d.dead = false) (i : Int) (hi : ¬ (0 ≤ i ∧ i < d.tiles)) : Calls Tryz.prog 58 #[.pointer (some ⟨p, 0, none⟩), .int .i64 i] w fun e w' => e = .returned (.tuple #[.slice none 0 0, .int .i64 1]) ∧ w' = w := by
  have hr := ready_any w h
  rw [hd] at hr
  have HR := Lib.hid hr
  have hh := has_any w h i
  rw [decide_eq_false hi] at hh
  have HH := Lib.hid hh
  clear hr hh hi
  go_enter Tryz.func58, Tryz.ntmps58
  go_wp2_with (first | (go_at_call 44; refine HR.out.mono ?_; rintro e w' ⟨rfl, rfl⟩) | (go_at_call 45; refine HH.out.mono ?_; rintro e w' ⟨rfl, rfl⟩))
  go_ret2
  exact ⟨rfl, rfl⟩

set_option maxRecDepth 100000 in
theorem read_ok (w : World) {p bn bo g : Nat} {d : Dk} (h : DiskAt w p bn bo g d) (hd : d.dead = false) (i : Int) (h0 : 0 ≤ i) (h1 : i < d.tiles) (l : List Int) (hl : (d.now i).getD zb = blkOf l) (hl2 : l.length = 64) : Calls Tryz.prog 58 #[.pointer (some ⟨p, 0, none⟩), .int .i64 i] w fun e w' => e = .returned (.tuple #[.slice (some ⟨w.heap.size, 0, none⟩) 64 64, .int .i64 0]) ∧ w' = w.alloc (.cells (byteV l).toArray 86) := by
  have hr := ready_any w h
  rw [hd] at hr
  have HR := Lib.hid hr
  have hh := has_any w h i
  rw [decide_eq_true ⟨h0, h1⟩] at hh
  have HH := Lib.hid hh
  clear hr hh
  have c1 := h.c1
  have wi : (Lit.int .i64 i).wf = true := by have := h.ok.hi; exact WalkArith.wf_i64 (by omega)
  have k4 := h.now.look law3 Tryz.underlying71 Tryz.underlying3 (zeroB _) wi
  rw [hl] at k4
  unfold blkOf at k4
  have hsz : (byteV l).toArray.size = 64 := by simp [byteV, hl2]
  have k2 := st_new w (byteV l).toArray hsz (by simpa using byteV_one l)
  generalize (byteV l).toArray = co at k2 k4 hsz
  clear hl hl2
  go_enter Tryz.func58, Tryz.ntmps58
  go_wp2_with (first | (go_at_call 44; refine HR.out.mono ?_; rintro e w' ⟨rfl, rfl⟩) | (go_at_call 45; refine HH.out.mono ?_; rintro e w' ⟨rfl, rfl⟩))
  go_ret2
  exact ⟨rfl, rfl⟩
end Go.Proofs.YthhnmpobkekbbaaGreat
