/- Write and Sync of any disk, as relations; what a tile has. -/
import Derived.Test.YthhnmpobkekbbaaGreatWrite
namespace Go.Proofs.YthhnmpobkekbbaaGreat
open Go.RowKit Go.Maps

/-- Write of 64 bytes to a tile that there is: what it answers, and the disk behind it. -/
def Wrote (d : Dk) (i : Int) (l : List Int) (e : Int) (d' : Dk) : Prop :=
  (d.dead = true ∧ e = 2 ∧ d' = d) ∨ (d.dead = false ∧ d.set = false ∧ e = 0 ∧ d' = d.store i (blkOf l)) ∨
  (d.dead = false ∧ d.set = true ∧ d.left ≠ 0 ∧ e = 0 ∧ d' = (d.store i (blkOf l)).later) ∨
  (d.dead = false ∧ d.set = true ∧ d.left = 0 ∧ e = 2 ∧ Crashes (d.store i (blkOf l)) d.mask d')
/-- Sync. -/
def Synced (d : Dk) (e : Int) (d' : Dk) : Prop :=
  (d.dead = true ∧ e = 2 ∧ d' = d) ∨ (d.dead = false ∧ d.set = false ∧ e = 0 ∧ d' = d.synced) ∨
  (d.dead = false ∧ d.set = true ∧ d.left ≠ 0 ∧ e = 0 ∧ d' = d.later.synced) ∨
  (d.dead = false ∧ d.set = true ∧ d.left = 0 ∧ e = 2 ∧ Crashes d d.mask d')

theorem write_rel (w : World) {p bn bo g gb : Nat} {d : Dk} (h : DiskAt w p bn bo g d) (i : Int) (h0 : 0 ≤ i) (h1 : i < d.tiles) (sv : Value) (l : List Int) (hs : SlB w sv l gb) (hl : l.length = 64) (hbl : bytesOk l) :
    Calls Tryz.prog 20 #[.pointer (some ⟨p, 0, none⟩), .int .i64 i, sv] w fun r w' => ∃ e d', r = .returned (.int .i64 e) ∧ Wrote d i l e d' ∧ DiskAt w' p bn bo g d' ∧ Fr w.heap.size (Three p bn bo) w w' := by
  cases hd : d.dead with
  | true =>
    refine (write_dead w h hd i sv).mono ?_
    rintro r w' ⟨rfl, rfl⟩
    exact ⟨2, d, rfl, Or.inl ⟨hd, rfl, rfl⟩, h, Fr.refl _ _ _⟩
  | false =>
    cases hs2 : d.set with
    | false =>
      refine (write_plain w h hd i h0 h1 sv l hs hl hbl hs2).mono ?_
      rintro r w' ⟨rfl, q1, q2⟩
      exact ⟨0, _, rfl, Or.inr (Or.inl ⟨hd, hs2, rfl, rfl⟩), q1, q2⟩
    | true =>
      by_cases hz : d.left = 0
      · refine (write_cut w h hd i h0 h1 sv l hs hl hbl hs2 hz).mono ?_
        rintro r w' ⟨rfl, d', q0, q1, q2⟩
        exact ⟨2, d', rfl, Or.inr (Or.inr (Or.inr ⟨hd, hs2, hz, rfl, q0⟩)), q1, q2⟩
      · refine (write_later w h hd i h0 h1 sv l hs hl hbl hs2 hz).mono ?_
        rintro r w' ⟨rfl, q1, q2⟩
        exact ⟨0, _, rfl, Or.inr (Or.inr (Or.inl ⟨hd, hs2, hz, rfl, rfl⟩)), q1, q2⟩

theorem sync_rel (w : World) {p bn bo g : Nat} {d : Dk} (h : DiskAt w p bn bo g d) :
    Calls Tryz.prog 60 #[.pointer (some ⟨p, 0, none⟩)] w fun r w' => ∃ e d', r = .returned (.int .i64 e) ∧ Synced d e d' ∧ DiskAt w' p bn bo g d' ∧ Fr w.heap.size (Three p bn bo) w w' := by
  cases hd : d.dead with
  | true =>
    refine (sync_dead w h hd).mono ?_
    rintro r w' ⟨rfl, rfl⟩
    exact ⟨2, d, rfl, Or.inl ⟨hd, rfl, rfl⟩, h, Fr.refl _ _ _⟩
  | false =>
    cases hs2 : d.set with
    | false =>
      refine (sync_plain w h hd hs2).mono ?_
      rintro r w' ⟨rfl, q1, q2⟩
      exact ⟨0, _, rfl, Or.inr (Or.inl ⟨hd, hs2, rfl, rfl⟩), q1, q2⟩
    | true =>
      by_cases hz : d.left = 0
      · refine (sync_cut w h hd hs2 hz).mono ?_
        rintro r w' ⟨rfl, d', q0, q1, q2⟩
        exact ⟨2, d', rfl, Or.inr (Or.inr (Or.inr ⟨hd, hs2, hz, rfl, q0⟩)), q1, q2⟩
      · refine (sync_later w h hd hs2 hz).mono ?_
        rintro r w' ⟨rfl, q1, q2⟩
        exact ⟨0, _, rfl, Or.inr (Or.inr (Or.inl ⟨hd, hs2, hz, rfl, rfl⟩)), q1, q2⟩

theorem Wrote.tiles {d d' : Dk} {i e : Int} {l : List Int} (h : Wrote d i l e d') : d'.tiles = d.tiles := by
  rcases h with ⟨_, _, rfl⟩ | ⟨_, _, _, rfl⟩ | ⟨_, _, _, _, rfl⟩ | ⟨_, _, _, _, _, _, rfl⟩ <;> rfl
theorem Synced.tiles {d d' : Dk} {e : Int} (h : Synced d e d') : d'.tiles = d.tiles := by
  rcases h with ⟨_, _, rfl⟩ | ⟨_, _, _, rfl⟩ | ⟨_, _, _, _, rfl⟩ | ⟨_, _, _, _, _, _, rfl⟩ <;> rfl
theorem Wrote.err {d d' : Dk} {i e : Int} {l : List Int} (h : Wrote d i l e d') : e = 0 ∧ d'.dead = false ∨ e = 2 ∧ d'.dead = true := by
  rcases h with ⟨h, rfl, rfl⟩ | ⟨h, _, rfl, rfl⟩ | ⟨h, _, _, rfl, rfl⟩ | ⟨_, _, _, rfl, _, _, rfl⟩
  · exact Or.inr ⟨rfl, h⟩
  · exact Or.inl ⟨rfl, h⟩
  · exact Or.inl ⟨rfl, h⟩
  · exact Or.inr ⟨rfl, rfl⟩
theorem Synced.err {d d' : Dk} {e : Int} (h : Synced d e d') : e = 0 ∧ d'.dead = false ∨ e = 2 ∧ d'.dead = true := by
  rcases h with ⟨h, rfl, rfl⟩ | ⟨h, _, rfl, rfl⟩ | ⟨h, _, _, rfl, rfl⟩ | ⟨_, _, _, rfl, _, _, rfl⟩
  · exact Or.inr ⟨rfl, h⟩
  · exact Or.inl ⟨rfl, h⟩
  · exact Or.inl ⟨rfl, h⟩
  · exact Or.inr ⟨rfl, rfl⟩
end Go.Proofs.YthhnmpobkekbbaaGreat
