/- PoolNone, a part. -/
import Derived.Test.YtljbhdldfffpfaaGreatQn15
namespace Go.Proofs.YtljbhdldfffpfaaGreat
open Go.RowKit Go.Maps

theorem nil_SlB (w : World) (g : Nat) : SlB w (.slice none 0 0) [] g := ⟨_, _, _, rfl, rfl, Nat.le_refl _, by omega, fun _ => rfl, fun a e => by cases e⟩
/-- A Write that is carried out, up to the count. -/
theorem write_plain (w : World) {p bn bo g gb : Nat} {d : Dk} (h : DiskAt w p bn bo g d) (hd : d.dead = false) (i : Int) (h0 : 0 ≤ i) (h1 : i < d.tiles) (sv : Value) (l : List Int) (hs : SlB w sv l gb) (hl : l.length = 64) (hbl : bytesOk l) (hset : d.set = false) :
    Calls Tryz.prog 30 #[.pointer (some ⟨p, 0, none⟩), .int .i64 i, sv] w fun e w' => e = .returned (.int .i64 0) ∧ DiskAt w' p bn bo g (d.store i (blkOf l)) ∧ Fr w.heap.size (Three p bn bo) w w' := by
  have hr := ready_any w h
  rw [hd] at hr
  have HR := Lib.hid hr
  have hh := has_any w h i
  rw [decide_eq_true ⟨h0, h1⟩] at hh
  have HH := Lib.hid hh
  have HS := Lib.hid (store_any w h i h0 h1 sv l hs hl hbl)
  have HC := Lib.hid (fun W (hW : DiskAt W p bn bo g (d.store i (blkOf l))) => cutNow_un W hW hset)
  obtain ⟨p0, len, cap, rfl, rfl, _⟩ := hs
  rw [hl] at HS ⊢
  clear hr hh hl
  go_enter Tryz.func30, Tryz.ntmps30
  go_wp2_with (first
    | (go_at_call 60; refine HR.out.mono ?_; rintro e w' ⟨rfl, rfl⟩)
    | (go_at_call 61; refine HH.out.mono ?_; rintro e w' ⟨rfl, rfl⟩)
    | (go_at_call 66; refine HS.out.mono ?_; rintro e w2 ⟨rfl, hD, hF⟩)
    | (go_at_call 67; refine (HC.out _ hD).mono ?_; rintro e w' ⟨rfl, rfl⟩))
  go_ret
  exact ⟨rfl, hD, hF⟩
def Dk.synced (d : Dk) : Dk := { d with old := fun _ => none }
theorem sync_plain (w : World) {p bn bo g : Nat} {d : Dk} (h : DiskAt w p bn bo g d) (hd : d.dead = false) (hset : d.set = false) :
    Calls Tryz.prog 72 #[.pointer (some ⟨p, 0, none⟩)] w fun e w' => e = .returned (.int .i64 0) ∧ DiskAt w' p bn bo g d.synced ∧ Fr w.heap.size (Three p bn bo) w w' := by
  have hr := ready_any w h
  rw [hd] at hr
  have HR := Lib.hid hr
  have HC := Lib.hid (cutNow_un w h hset)
  have c2 := h.c2
  have ho := h.old
  clear hr
  go_enter Tryz.func72, Tryz.ntmps72
  go_wp2_with (first
    | (go_at_call 60; refine HR.out.mono ?_; rintro e w' ⟨rfl, rfl⟩)
    | (go_at_call 67; refine HC.out.mono ?_; rintro e w' ⟨rfl, rfl⟩)
    | (with_reducible refine wpList_clear rfl (.tmp 21) 80 rfl 3 124 bo _ Tryz.underlying80 rfl ho ?_; intro w2 hf2 ht2))
  go_ret
  exact ⟨rfl, h.putOld ht2 hf2 (fun i v e => by cases e), (Fr.refl _ _ _).turned (Or.inl (Or.inr (Or.inr rfl))) ht2⟩
end Go.Proofs.YtljbhdldfffpfaaGreat
