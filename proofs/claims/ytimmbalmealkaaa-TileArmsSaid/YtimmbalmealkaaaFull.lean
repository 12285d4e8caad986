/- full, and bytes as text. -/
import Derived.Test.YtimmbalmealkaaaBegun
import Derived.Deep.LoopGhost
import Derived.Laws.BytesString
import Derived.Deep.DeepCutAuto
import Derived.Deep.RegionWith
namespace Go.Proofs.Ytimmbalmealkaaa
open Go.RowKit Go.Maps

def fulL (c : Int) (k : Nat) : List Int := List.replicate k c ++ List.replicate (64 - k) 0
def fulV (c : Int) (k : Nat) : Array Value := (byteV (fulL c k)).toArray
theorem fulV_0 (c : Int) : fulV c 0 = zcs := by
  unfold fulV fulL byteV
  simp
  rfl
def rep (c : Int) : List Int := List.replicate 64 c
theorem rep_len (c : Int) : (rep c).length = 64 := List.length_replicate
theorem rep_ok (c : Int) (h0 : 0 ≤ c) (h1 : c < 256) : bytesOk (rep c) := by
  intro x hx
  rw [rep, List.mem_replicate] at hx
  obtain ⟨_, rfl⟩ := hx
  exact ⟨h0, h1⟩
theorem fulL_64 (c : Int) : fulL c 64 = rep c := by simp [fulL, rep]
theorem fulV_size (c : Int) {k : Nat} (h : k ≤ 64) : (fulV c k).size = 64 := by simp [fulV, fulL, byteV]; omega
theorem fulV_get (c : Int) {k : Nat} (h : k < 64) : (fulV c k)[k]? = some (.int .u8 0) := by
  simp only [fulV, fulL, byteV, List.map_append, List.map_replicate, List.getElem?_toArray]
  rw [List.getElem?_append_right (by simp), List.getElem?_replicate]
  simp; omega
theorem fulV_set (c : Int) {k : Nat} (h : k < 64) : (fulV c k).setIfInBounds k (.int .u8 c) = fulV c (k + 1) := by
  simp only [fulV, fulL, byteV, List.map_append, List.map_replicate, List.setIfInBounds_toArray]
  congr 1
  obtain ⟨m, hm⟩ : ∃ m, 64 - k = m + 1 := ⟨63 - k, by omega⟩
  rw [hm, show 64 - (k + 1) = m by omega, List.set_append, if_neg (by simp), List.length_replicate, Nat.sub_self, List.replicate_succ, List.set_cons_zero, List.replicate_succ']
  simp

set_option maxRecDepth 100000 in
set_option maxHeartbeats 400000 in
theorem full_any (w : World) (c : Int) : Calls Try.prog 24 #[.int .u8 c] w fun e w' => e = .returned (.slice (some ⟨w.heap.size, 0, none⟩) 64 64) ∧ w' = w.alloc (.cells (byteV (rep c)).toArray 5) := by
  have hmk : ∀ W, (Instr.makeSlice 28 (.int .i64 64) (.int .i64 64)).run Try.prog W = .ok (.slice (some ⟨W.heap.size, 0, none⟩) 64 64) (W.alloc (.cells (fulV c 0) 5)) := fun _ => by rw [fulV_0]; kernel_rfl
  go_enter Try.func24, Try.ntmps24
  go_wp2
  go_loopw [4] (fun i wr => ∃ k : Nat, k ≤ 64 ∧ i = .int .i64 k ∧ wr = w.alloc (.cells (fulV c k) 5)) (fun i _ => 64 - (intOf i).toNat)
  case atStart => exact ⟨0, by omega, rfl, rfl⟩
  case round =>
    obtain ⟨k, hk, rfl, rfl⟩ := hrel
    by_cases hlt : k < 64
    · have h0 := (cell_of (heap_alloc_new w (.cells (fulV c k) 5)) k).1
      rw [fulV_get c hlt] at h0
      have hf := (cell_of (heap_alloc_new w (.cells (fulV c k) 5)) k).2
      have HS := Lib.hid (fulV_set c hlt)
      go_wp2
      go_roundw
      case rel => exact ⟨k + 1, by omega, by go_num, by rw [HS.out]⟩
      case measure => simp [intOf]; omega
    · obtain rfl : k = 64 := by omega
      go_wp2
      go_ret
      exact ⟨rfl, by unfold fulV; rw [fulL_64]⟩

def bstr (l : List Int) : ByteArray := l.foldl (fun r n => r.push (UInt8.ofNat n.toNat)) ByteArray.empty

theorem conv_at {W : World} {g : Nat} {l : List Int} {t : TypeId} (hg : W.heap[g]? = some (.cells (byteV l).toArray t (0, 0))) (hl : l.length = 64) :
    (convert 28 9 (.slice (some ⟨g, 0, none⟩) 64 64)).run Try.prog W = .ok (.string (bstr l)) W := by
  rw [run_convert_bytes_string W 28 9 5 _ _ _ Try.underlying28 Try.underlying5 Try.underlying9]
  refine run_bytesToString W _ _ _ l ?_
  have h1 := ld_row hg (by simp [byteV, hl])
  exact h1

theorem rep_get (c : Int) {j : Nat} (h : j < 64) : (byteV (rep c)).toArray[j]? = some (.int .u8 c) := by
  unfold byteV rep
  rw [List.map_replicate, List.getElem?_toArray, List.getElem?_replicate, if_pos h]

/-- What does not touch the disk's blocks leaves it. -/
theorem DiskAt.away {w w' : World} {p bn bo g : Nat} {d : Dk} (h : DiskAt w p bn bo g d) (hb : ∀ k, Three p bn bo k → w'.heap[k]? = w.heap[k]?) (hm : SlB w' d.mv d.mask g) : DiskAt w' p bn bo g d :=
  ⟨(hb p (Or.inl rfl)).trans h.cells, h.now.of_block (hb _ (Or.inr (Or.inl rfl))), h.old.of_block (hb _ (Or.inr (Or.inr rfl))), hm, h.ne, h.ok⟩

/-- full, of a world of which only what it holds is known. -/
theorem full_b (w : World) (c : Int) : Calls Try.prog 24 #[.int .u8 c] w fun e w' => ∃ gn, e = .returned (.slice (some ⟨gn, 0, none⟩) 64 64) ∧ Below w.heap.size w w' ∧ w'.heap[gn]? = some (.cells (byteV (rep c)).toArray 5 (0, 0)) :=
  (full_any w c).mono fun e w' ⟨he, hw⟩ => ⟨w.heap.size, he, by rw [hw]; exact (Below.refl _ _).alloc (Nat.le_refl _) _, by rw [hw]; exact heap_alloc_new _ _⟩

theorem conv_all {g : Nat} {l : List Int} {t : TypeId} (hl : l.length = 64) {tx : ByteArray} (ht : bstr l = tx) : ∀ W : World, W.heap[g]? = some (.cells (byteV l).toArray t (0, 0)) →
    (convert 28 9 (.slice (some ⟨g, 0, none⟩) 64 64)).run Try.prog W = .ok (.string tx) W := by
  intro W hg
  rw [conv_at hg hl, ht]

theorem slB_of {w : World} {g : Nat} {l : List Int} {t : TypeId} (hg : w.heap[g]? = some (.cells (byteV l).toArray t (0, 0))) (hl : l.length = 64) : SlB w (.slice (some ⟨g, 0, none⟩) 64 64) l g :=
  ⟨_, _, _, rfl, hl.symm, Nat.le_refl _, by omega, (fun e => by cases e), fun a e => by
    cases e
    refine ⟨rfl, rfl, fun j hj => ?_⟩
    rw [(cell_of hg (0 + j)).1]
    simp [byteV, hj]⟩

/-- Alive, nothing armed. -/
structure Calm (d : Dk) (T : Int) : Prop where
  tiles : d.tiles = T
  dead : d.dead = false
  set : d.set = false
  mv : d.mv = .slice none 0 0
  mask : d.mask = []
theorem Calm.store {d : Dk} {T : Int} (h : Calm d T) (i : Int) (v : Value) : Calm (d.store i v) T := ⟨h.tiles, h.dead, h.set, h.mv, h.mask⟩
theorem Calm.synced {d : Dk} {T : Int} (h : Calm d T) : Calm d.synced T := ⟨h.tiles, h.dead, h.set, h.mv, h.mask⟩
theorem Calm.slB {d : Dk} {T : Int} (h : Calm d T) (w : World) (g : Nat) : SlB w d.mv d.mask g := by rw [h.mv, h.mask]; exact nil_SlB _ _
theorem calm_fresh (T : Int) : Calm (.fresh T) T := ⟨rfl, rfl, rfl, rfl, rfl⟩

theorem below_undrew {B : Nat} {w w' : World} (h : Below B w.drew w') : Below B w w' := ⟨h.os, h.tape, h.output, h.size, h.block⟩

theorem below_old {B : Nat} {w w' : World} (h : Below B w w') {g : Nat} {o : Obj} (hg : w.heap[g]? = some o) (hB : w.heap.size ≤ B) : w'.heap[g]? = some o :=
  (h.block g (by have := (Array.getElem?_eq_some_iff.1 hg).1; omega)).trans hg
end Go.Proofs.Ytimmbalmealkaaa
