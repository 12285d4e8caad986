/- Write and Sync of a disk that is not armed. -/
import Derived.Test.YthhnmpobkekbbaaGreatOps
namespace Go.Proofs.YthhnmpobkekbbaaGreat
open Go.RowKit Go.Maps

theorem SlB.poke {w : World} {v : Value} {l : List Int} {g p i : Nat} {u : Value} (h : SlB w v l g) (hg : g ≠ p) : SlB (w.setCell ⟨p, i, none⟩ u) v l g := by
  obtain ⟨p0, len, cap, e, e2, hle, hcap, hn, ha⟩ := h
  refine ⟨p0, len, cap, e, e2, hle, hcap, hn, fun a hpa hne => ?_⟩
  obtain ⟨h1, h2, h3⟩ := ha a hpa hne
  exact ⟨h1, h2, fun j hj => (World.cell?_of_block (Below.heap_setCell _ _ _ _ hg)).trans (h3 j hj)⟩
theorem DiskAt.poke {w : World} {p bn bo g : Nat} {d d' : Dk} (h : DiskAt w p bn bo g d) (i : Nat) (u : Value)
    (hc : #[.int .i64 d'.tiles, .map (some bn), .map (some bo), .bool d'.dead, .bool d'.set, .int .i64 d'.left, d'.mv] = (#[.int .i64 d.tiles, .map (some bn), .map (some bo), .bool d.dead, .bool d.set, .int .i64 d.left, d.mv] : Array Value).setIfInBounds i u)
    (hn : d'.now = d.now) (ho : d'.old = d.old) (hm : SlB w d'.mv d'.mask g) (hok : d'.Ok) : DiskAt (w.setCell ⟨p, i, none⟩ u) p bn bo g d' := by
  refine ⟨?_, ?_, ?_, hm.poke h.ne.2.2.2, h.ne, hok⟩
  · rw [heap_setCell_same w p i _ _ u h.cells, hc]
  · rw [hn]; exact h.now.of_block (Below.heap_setCell _ _ _ _ h.ne.2.1.symm)
  · rw [ho]; exact h.old.of_block (Below.heap_setCell _ _ _ _ h.ne.2.2.1.symm)
theorem nil_SlB (w : World) (g : Nat) : SlB w (.slice none 0 0) [] g := ⟨_, _, _, rfl, rfl, Nat.le_refl _, by omega, fun _ => rfl, fun a e => by cases e⟩
/-- A Write that is carried out, up to the count. -/
theorem write_plain (w : World) {p bn bo g gb : Nat} {d : Dk} (h : DiskAt w p bn bo g d) (hd : d.dead = false) (i : Int) (h0 : 0 ≤ i) (h1 : i < d.tiles) (sv : Value) (l : List Int) (hs : SlB w sv l gb) (hl : l.length = 64) (hbl : bytesOk l) (hset : d.set = false) :
    Calls Tryz.prog 20 #[.pointer (some ⟨p, 0, none⟩), .int .i64 i, sv] w fun e w' => e = .returned (.int .i64 0) ∧ DiskAt w' p bn bo g (d.store i (blkOf l)) ∧ Fr w.heap.size (Three p bn bo) w w' := by
  have hr := ready_any w h
  rw [hd] at hr
  have HR := Lib.hid hr
  have hh := has_any w h i
  rw [decide_eq_true ⟨h0, h1⟩] at hh
  have HH := Lib.hid hh
  have HS := Lib.hid (store_any w h i h0 h1 sv l hs hl hbl)
  have HC := Lib.hid (fun W (hW : DiskAt W p bn bo g (d.store i (blkOf l))) => cutNow_un W hW hset)
  obtain ⟨p0, len, cap, rfl, rfl, _⟩ := hs
  rw [hl] at HS ⊢
  clear hr hh hl
  go_enter Tryz.func20, Tryz.ntmps20
  go_wp2_with (first
    | (go_at_call 44; refine HR.out.mono ?_; rintro e w' ⟨rfl, rfl⟩)
    | (go_at_call 45; refine HH.out.mono ?_; rintro e w' ⟨rfl, rfl⟩)
    | (go_at_call 46; refine HS.out.mono ?_; rintro e w2 ⟨rfl, hD, hF⟩)
    | (go_at_call 47; refine (HC.out _ hD).mono ?_; rintro e w' ⟨rfl, rfl⟩))
  go_ret
  exact ⟨rfl, hD, hF⟩
def Dk.synced (d : Dk) : Dk := { d with old := fun _ => none }
theorem sync_plain (w : World) {p bn bo g : Nat} {d : Dk} (h : DiskAt w p bn bo g d) (hd : d.dead = false) (hset : d.set = false) :
    Calls Tryz.prog 60 #[.pointer (some ⟨p, 0, none⟩)] w fun e w' => e = .returned (.int .i64 0) ∧ DiskAt w' p bn bo g d.synced ∧ Fr w.heap.size (Three p bn bo) w w' := by
  have hr := ready_any w h
  rw [hd] at hr
  have HR := Lib.hid hr
  have HC := Lib.hid (cutNow_un w h hset)
  have c2 := h.c2
  have ho := h.old
  clear hr
  go_enter Tryz.func60, Tryz.ntmps60
  go_wp2_with (first
    | (go_at_call 44; refine HR.out.mono ?_; rintro e w' ⟨rfl, rfl⟩)
    | (go_at_call 47; refine HC.out.mono ?_; rintro e w' ⟨rfl, rfl⟩)
    | (with_reducible refine wpList_clear rfl (.tmp 21) 71 rfl 3 86 bo _ Tryz.underlying71 rfl ho ?_; intro w2 hf2 ht2))
  go_ret
  exact ⟨rfl, h.putOld ht2 hf2 (fun i v e => by cases e), (Fr.refl _ _ _).turned (Or.inl (Or.inr (Or.inr rfl))) ht2⟩
end Go.Proofs.YthhnmpobkekbbaaGreat
