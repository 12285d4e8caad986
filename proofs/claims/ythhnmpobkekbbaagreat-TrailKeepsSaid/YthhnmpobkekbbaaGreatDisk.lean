/- The disk: what its block and its two maps hold, and the small methods' contracts. -/
import Derived.Test.YthhnmpobkekbbaaGreatRows
import Derived.Test.YthhnmpobkekbbaaGreatGen
import Derived.Test.YthhnmpobkekbbaaGreatByt
import Derived.WalkKit
import Derived.WalkSpells
import Derived.WalkLawsBesides
import Derived.Deep.QuietTactic
import Derived.BigQuiet
import Derived.Deep.WholeRow
namespace Go.Proofs.YthhnmpobkekbbaaGreat
open Go.RowKit Go.Maps

/-- What a disk is, plainly. -/
structure Dk where
  tiles : Int
  now : Int → Option Value
  old : Int → Option Value
  dead : Bool
  set : Bool
  left : Int
  mv : Value
  mask : List Int

/-- A slice value that reads as bytes, out of block g, or none. -/
def SlB (w : World) (v : Value) (l : List Int) (g : Nat) : Prop := ∃ p len cap, v = .slice p len cap ∧ len = l.length ∧ len ≤ cap ∧ len ≤ 1000000 ∧ (p = none → l = []) ∧ ∀ a, p = some a → l ≠ [] → a.block = g ∧ a.spot = none ∧ ∀ j (h : j < l.length), w.cell? ⟨g, a.off + j, none⟩ = some (.int .u8 l[j])

def IsBlk (v : Value) : Prop := ∃ l : List Int, l.length = 64 ∧ (∀ x ∈ l, 0 ≤ x ∧ x < 256) ∧ v = .agg (l.map (Value.int .u8)).toArray


structure Dk.Ok (d : Dk) : Prop where
  lo : 0 ≤ d.tiles
  hi : d.tiles ≤ 2000
  now : ∀ i v, d.now i = some v → 0 ≤ i ∧ i < d.tiles ∧ IsBlk v
  old : ∀ i v, d.old i = some v → 0 ≤ i ∧ i < d.tiles ∧ IsBlk v
  llo : 0 ≤ d.left
  lhi : d.left ≤ 9223372036854775807
  mok : bytesOk d.mask

/-- The disk d lies in block p; its maps in bn and bo; its mask in g. -/
structure DiskAt (w : World) (p bn bo g : Nat) (d : Dk) : Prop where
  cells : w.heap[p]? = some (.cells #[.int .i64 d.tiles, .map (some bn), .map (some bo), .bool d.dead, .bool d.set, .int .i64 d.left, d.mv] 75 (0, 0))
  now : fm w Tryz.prog 3 bn d.now
  old : fm w Tryz.prog 3 bo d.old
  mask : SlB w d.mv d.mask g
  ne : bn ≠ bo ∧ p ≠ bn ∧ p ≠ bo ∧ g ≠ p
  ok : d.Ok


section
variable {w : World} {p bn bo g : Nat} {d : Dk}
theorem DiskAt.c0 (h : DiskAt w p bn bo g d) : w.cell? ⟨p, 0, none⟩ = some (.int .i64 d.tiles) := (cell_of h.cells 0).1
theorem DiskAt.c1 (h : DiskAt w p bn bo g d) : w.cell? ⟨p, 1, none⟩ = some (.map (some bn)) := (cell_of h.cells 1).1
theorem DiskAt.c2 (h : DiskAt w p bn bo g d) : w.cell? ⟨p, 2, none⟩ = some (.map (some bo)) := (cell_of h.cells 2).1
theorem DiskAt.c3 (h : DiskAt w p bn bo g d) : w.cell? ⟨p, 3, none⟩ = some (.bool d.dead) := (cell_of h.cells 3).1
theorem DiskAt.c4 (h : DiskAt w p bn bo g d) : w.cell? ⟨p, 4, none⟩ = some (.bool d.set) := (cell_of h.cells 4).1
theorem DiskAt.c5 (h : DiskAt w p bn bo g d) : w.cell? ⟨p, 5, none⟩ = some (.int .i64 d.left) := (cell_of h.cells 5).1
theorem DiskAt.c6 (h : DiskAt w p bn bo g d) : w.cell? ⟨p, 6, none⟩ = some d.mv := (cell_of h.cells 6).1
theorem DiskAt.fz (h : DiskAt w p bn bo g d) (i : Nat) : w.frozen? ⟨p, i, none⟩ = false := (cell_of h.cells i).2
end

theorem dead_any (w : World) {p bn bo g : Nat} {d : Dk} (h : DiskAt w p bn bo g d) : Calls Tryz.prog 22 #[.pointer (some ⟨p, 0, none⟩)] w fun e w' => e = .returned (.bool d.dead) ∧ w' = w := by
  have c3 := h.c3
  go_enter Tryz.func22, Tryz.ntmps22
  go_wp2
  go_ret
  exact ⟨rfl, rfl⟩

theorem tiles_any (w : World) {p bn bo g : Nat} {d : Dk} (h : DiskAt w p bn bo g d) : Calls Tryz.prog 35 #[.pointer (some ⟨p, 0, none⟩)] w fun e w' => e = .returned (.int .i64 d.tiles) ∧ w' = w := by
  have c0 := h.c0
  go_enter Tryz.func35, Tryz.ntmps35
  go_wp2
  go_ret
  exact ⟨rfl, rfl⟩

theorem ready_any (w : World) {p bn bo g : Nat} {d : Dk} (h : DiskAt w p bn bo g d) : Calls Tryz.prog 44 #[.pointer (some ⟨p, 0, none⟩)] w fun e w' => e = .returned (.int .i64 (if d.dead then 2 else 0)) ∧ w' = w := by
  have c3 := h.c3
  cases hd : d.dead
  all_goals
    rw [hd] at c3
    go_enter Tryz.func44, Tryz.ntmps44
    go_wp2
    go_ret
    exact ⟨rfl, rfl⟩

theorem ready_nil (w : World) : Calls Tryz.prog 44 #[.pointer none] w fun e w' => e = .returned (.int .i64 1) ∧ w' = w := by
  go_enter Tryz.func44, Tryz.ntmps44
  go_wp2
  go_ret
  exact ⟨rfl, rfl⟩

theorem has_any (w : World) {p bn bo g : Nat} {d : Dk} (h : DiskAt w p bn bo g d) (at_ : Int) : Calls Tryz.prog 45 #[.pointer (some ⟨p, 0, none⟩), .int .i64 at_] w fun e w' => e = .returned (.bool (decide (0 ≤ at_ ∧ at_ < d.tiles))) ∧ w' = w := by
  have c0 := h.c0
  by_cases h0 : 0 ≤ at_
  · by_cases h1 : at_ < d.tiles
    · have e1 : decide (0 ≤ at_ ∧ at_ < d.tiles) = true := by simp; omega
      rw [e1]
      go_enter Tryz.func45, Tryz.ntmps45
      go_wp2
      go_ret
      exact ⟨rfl, rfl⟩
    · have e1 : decide (0 ≤ at_ ∧ at_ < d.tiles) = false := by simp; omega
      rw [e1]
      go_enter Tryz.func45, Tryz.ntmps45
      go_wp2
      go_ret
      exact ⟨rfl, rfl⟩
  · have e1 : decide (0 ≤ at_ ∧ at_ < d.tiles) = false := by simp; omega
    rw [e1]
    go_enter Tryz.func45, Tryz.ntmps45
    go_wp2
    go_ret
    exact ⟨rfl, rfl⟩

/-- What is the same but for the disk's three blocks. -/
structure Fr (B : Nat) (S : Nat → Prop) (w w' : World) : Prop where
  os : w'.os = w.os
  tape : w'.tape = w.tape
  output : w'.output = w.output
  size : w.heap.size ≤ w'.heap.size
  block : ∀ k, k < B → ¬ S k → w'.heap[k]? = w.heap[k]?

def Three (p bn bo : Nat) : Nat → Prop := fun k => k = p ∨ k = bn ∨ k = bo

section
variable {B : Nat} {S : Nat → Prop} {a w w' : World}
theorem Fr.refl (B : Nat) (S : Nat → Prop) (w : World) : Fr B S w w := ⟨rfl, rfl, rfl, Nat.le_refl _, fun _ _ _ => rfl⟩
theorem Fr.trans {b c : World} {B' : Nat} {S' : Nat → Prop} (h : Fr B S a b) (k : Fr B' S' b c) (hB : B ≤ B') (hS : ∀ x, x < B → S' x → S x) : Fr B S a c :=
  ⟨k.os.trans h.os, k.tape.trans h.tape, k.output.trans h.output, Nat.le_trans h.size k.size, fun i hi hn => (k.block i (by omega) (fun e => hn (hS i hi e))).trans (h.block i hi hn)⟩
theorem Fr.drew (h : Fr B S a w) : Fr B S a w.drew := ⟨h.os, h.tape, h.output, h.size, h.block⟩
theorem Fr.alloc (h : Fr B S a w) (hB : B ≤ w.heap.size) (o : Obj) : Fr B S a (w.alloc o) :=
  ⟨h.os, h.tape, h.output, by have := h.size; simp; omega, fun k hk hn => (Below.heap_alloc _ _ _ (by omega)).trans (h.block k hk hn)⟩
theorem Fr.setCell (h : Fr B S a w) {p : Addr} (hp : S p.block ∨ B ≤ p.block) (u : Value) : Fr B S a (w.setCell p u) :=
  ⟨h.os, h.tape, h.output, by have := h.size; simpa [World.setCell] using this, fun k hk hn => (Below.heap_setCell _ _ _ _ (by rintro rfl; rcases hp with hp | hp; exact hn hp; omega)).trans (h.block k hk hn)⟩
theorem Fr.turned (h : Fr B S a w) {b : Nat} (hb : S b ∨ B ≤ b) (ht : w.mapTurned w' b) : Fr B S a w' := by
  have hg := ht.grown
  refine ⟨hg.os.trans h.os, hg.tape.trans h.tape, hg.output.trans h.output, Nat.le_trans h.size hg.size, fun k hk hn => ?_⟩
  obtain ⟨es, clock, es', clock', hb2, rfl⟩ := ht
  exact (ChangeMaps.heap_setBlock_other hb2 _ (by rintro rfl; rcases hb with hb | hb; exact hn hb; omega)).trans (h.block k hk hn)
end

theorem cutNow_un (w : World) {p bn bo g : Nat} {d : Dk} (h : DiskAt w p bn bo g d) (hs : d.set = false) : Calls Tryz.prog 47 #[.pointer (some ⟨p, 0, none⟩)] w fun e w' => e = .returned (.bool false) ∧ w' = w := by
  have c4 := h.c4
  rw [hs] at c4
  go_enter Tryz.func47, Tryz.ntmps47
  go_wp2
  go_ret
  exact ⟨rfl, rfl⟩

theorem cutNow_now (w : World) {p bn bo g : Nat} {d : Dk} (h : DiskAt w p bn bo g d) (hs : d.set = true) (hl : d.left = 0) : Calls Tryz.prog 47 #[.pointer (some ⟨p, 0, none⟩)] w fun e w' => e = .returned (.bool true) ∧ w' = w := by
  have c4 := h.c4
  have c5 := h.c5
  rw [hs] at c4
  rw [hl] at c5
  go_enter Tryz.func47, Tryz.ntmps47
  go_wp2
  go_ret
  exact ⟨rfl, rfl⟩

theorem cutNow_later (w : World) {p bn bo g : Nat} {d : Dk} (h : DiskAt w p bn bo g d) (hs : d.set = true) (hl : d.left ≠ 0) : Calls Tryz.prog 47 #[.pointer (some ⟨p, 0, none⟩)] w fun e w' => e = .returned (.bool false) ∧ w' = w.setCell ⟨p, 5, none⟩ (.int .i64 (d.left - 1)) := by
  have c4 := h.c4
  have c5 := h.c5
  have f5 := h.fz 5
  rw [hs] at c4
  have l1 := h.ok.llo
  have l2 := h.ok.lhi
  have hb : (d.left == 0) = false := by simpa using hl
  go_enter Tryz.func47, Tryz.ntmps47
  go_wp2
  go_ret
  exact ⟨rfl, rfl⟩

theorem power_any (w : World) {p bn bo g : Nat} {d : Dk} (h : DiskAt w p bn bo g d) : Calls Tryz.prog 23 #[.pointer (some ⟨p, 0, none⟩)] w fun e w' => e = .returned (.tuple #[]) ∧ w' = w.setCell ⟨p, 3, none⟩ (.bool false) := by
  have c3 := h.c3
  have f3 := h.fz 3
  go_enter Tryz.func23, Tryz.ntmps23
  go_wp2
  go_end0
  exact ⟨rfl, rfl⟩

end Go.Proofs.YthhnmpobkekbbaaGreat
