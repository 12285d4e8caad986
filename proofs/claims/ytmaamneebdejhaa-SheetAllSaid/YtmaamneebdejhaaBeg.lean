/- What is put is taken; begun. -/
import Derived.Test.YtmaamneebdejhaaTake
namespace Go.Proofs.Ytmaamneebdejhaa
open Go.RowKit

def pad (l : List Int) : List Int := l ++ List.replicate (60 - l.length) 0
theorem pad_ok {l : List Int} (h : bytesOk l) : bytesOk (pad l) := by
  intro x hx
  rcases List.mem_append.1 hx with h1 | h1
  · exact h x h1
  · rw [List.mem_replicate] at h1; omega
theorem pad_len {l : List Int} (h : l.length ≤ 60) : (pad l).length = 60 := by simp [pad]; omega
theorem tile_len (n : Int) {l : List Int} (h : l.length ≤ 60) : (tileL n l).length = 64 := by simp [tileL, head]; omega
theorem tile_drop (n : Int) (l : List Int) : (tileL n l).drop 4 = pad l := rfl
theorem tile_num {n : Int} (_ : 0 ≤ n) (_ : n < 2147483648) (l : List Int) : numL (tileL n l) = n := by
  show ((n / 16777216 * 256 + n / 65536 % 256) * 256 + n / 256 % 256) * 256 + n % 256 = n
  omega
theorem tile_ok {n : Int} (n0 : 0 ≤ n) (n1 : n < 2147483648) {l : List Int} (h : bytesOk l) : bytesOk (tileL n l) := by
  intro x hx
  rcases List.mem_append.1 hx with h1 | h1
  · simp only [head, List.mem_cons, List.not_mem_nil, or_false] at h1
    omega
  · exact pad_ok h x h1

theorem ok_take {l : List Int} (h : bytesOk l) (k : Nat) : bytesOk (l.take k) := fun x hx => h x (List.mem_of_mem_take hx)
theorem ok_drop {l : List Int} (h : bytesOk l) (k : Nat) : bytesOk (l.drop k) := fun x hx => h x (List.mem_of_mem_drop hx)

theorem own_pt {w : World} {B n : Nat} {v : Value} {l : List Int} (h : w.ownsRow B 5 1 v n (byteV l)) (hn : 0 < n) : ∃ g cap, v = .slice (some ⟨g, 0, none⟩) n cap ∧ B ≤ g ∧ g < w.heap.size ∧ n ≤ cap ∧ cap ≤ maxLen ∧ l.length = n ∧ ∀ j (h : j < l.length), w.cell? ⟨g, j, none⟩ = some (.int .u8 l[j]) := by
  obtain ⟨h1, ⟨rfl, h0⟩ | ⟨g, cap, cur, rfl, hB, hg, hle, hm, _, htake⟩⟩ := h
  · omega
  · have hl : l.length = n := by simpa [byteV] using h1
    refine ⟨g, cap, rfl, hB, (Array.getElem?_eq_some_iff.1 hg).1, hle, hm, hl, fun j hj => ?_⟩
    have h2 := (cell_of hg j).1
    rw [h2]
    have e1 : (cur.toList.take (n * 1))[j]? = some (.int .u8 l[j]) := by rw [htake]; simp [byteV, hj]
    rw [List.getElem?_take, if_pos (by omega)] at e1
    simpa using e1

theorem Blk.set {w : World} {g : Nat} {l : List Int} (h : Blk w g l) (i : Nat) (x : Int) : Blk (w.setCell ⟨g, i, none⟩ (.int .u8 x)) g (l.set i x) := by
  unfold Blk
  rw [heap_setCell_same w g i _ _ _ h]
  simp [byteV, List.map_set]

theorem Blk.other {w : World} {g k i : Nat} {l : List Int} {v : Value} (h : Blk w k l) (hk : k ≠ g) : Blk (w.setCell ⟨g, i, none⟩ v) k l := (Below.heap_setCell _ _ _ _ hk).trans h

theorem blk_new2 (w : World) (o : Obj) (l : List Int) : Blk ((w.alloc o).alloc (.cells (byteV l).toArray 5)).drew (w.heap.size + 1) l := by
  have := heap_alloc_new (w.alloc o) (.cells (byteV l).toArray 5)
  rw [show (w.alloc o).heap.size = w.heap.size + 1 by simp] at this
  exact this

/-- A variable that is an array of bytes. -/
def BlkT (t : TypeId) (w : World) (g : Nat) (l : List Int) : Prop := w.heap[g]? = some (.cells (byteV l).toArray t (0, 0))
section
variable {t : TypeId} {w : World} {g : Nat} {l : List Int}
theorem BlkT.lt (h : BlkT t w g l) : g < w.heap.size := (Array.getElem?_eq_some_iff.1 h).1
theorem BlkT.cell (h : BlkT t w g l) {j : Nat} (hj : j < l.length) : w.cell? ⟨g, j, none⟩ = some (.int .u8 l[j]) := by
  rw [(cell_of h j).1]; simp [byteV, hj]
theorem BlkT.old {B : Nat} {w' : World} (h : BlkT t w g l) (hb : Below B w w') (hB : g < B) : BlkT t w' g l := (hb.block g hB).trans h
theorem BlkT.pt (h : BlkT t w g l) {n c : Nat} (hn : n = l.length) (hc : n ≤ c) : Pt w (.slice (some ⟨g, 0, none⟩) n c) l :=
  ⟨g, 0, c, by rw [hn], by omega, h.lt, fun j hj => by rw [Nat.zero_add]; exact h.cell hj⟩
theorem BlkT.set (h : BlkT t w g l) (i : Nat) (x : Int) : BlkT t (w.setCell ⟨g, i, none⟩ (.int .u8 x)) g (l.set i x) := by
  unfold BlkT
  rw [heap_setCell_same w g i _ _ _ h]
  simp [byteV, List.map_set]
theorem BlkT.other {k i : Nat} {v : Value} (h : BlkT t w k l) (hk : k ≠ g) : BlkT t (w.setCell ⟨g, i, none⟩ v) k l := (Below.heap_setCell _ _ _ _ hk).trans h
end

/-- k places filled. -/
def fil (n : Nat) (c : Int) (k : Nat) : List Int := List.replicate k c ++ List.replicate (n - k) 0
theorem fil_len {n k : Nat} (c : Int) (h : k ≤ n) : (fil n c k).length = n := by simp [fil]; omega
theorem fil_set {n k : Nat} (c : Int) (h : k < n) : (fil n c k).set k c = fil n c (k + 1) := by
  obtain ⟨m, hm⟩ : ∃ m, n - k = m + 1 := ⟨n - k - 1, by omega⟩
  unfold fil
  rw [hm, show n - (k + 1) = m by omega, List.set_append, if_neg (by simp), List.length_replicate, Nat.sub_self, List.replicate_succ, List.set_cons_zero, List.replicate_succ']
  simp
theorem fil_get {n k : Nat} (c : Int) (_ : k < n) (hh : k < (fil n c k).length) : (fil n c k)[k] = 0 := by
  simp only [fil] at hh ⊢
  rw [List.getElem_append_right (by simp)]; simp
theorem fil_all (n : Nat) (c : Int) : fil n c n = List.replicate n c := by simp [fil]

theorem zero_tile : tileL 0 [] = List.replicate 64 0 := rfl

section
variable (w : World) {ga gb : Nat} {n m : Int} {l1 l2 : List Int} (ka : Blk w ga (tileL n l1)) (kb : Blk w gb (tileL m l2)) (n0 : 0 ≤ n) (n1 : n < 2147483648) (m0 : 0 ≤ m) (m1 : m < 2147483648) (ok1 : bytesOk l1) (ok2 : bytesOk l2) (h1 : l1.length ≤ 60) (h2 : l2.length ≤ 60)
include ka kb n0 n1 ok1 ok2 h1 h2

theorem take_same (hnm : n = m) : Calls Try.prog 12 #[.slice (some ⟨ga, 0, none⟩) 64 64, .slice (some ⟨gb, 0, none⟩) 64 64] w fun e w' => ∃ g cap, e = .returned (.tuple #[.int .i64 n, .slice (some ⟨g, 0, none⟩) 120 cap, .int .i64 0]) ∧ w.heap.size ≤ g ∧ g < w'.heap.size ∧ 120 ≤ cap ∧ cap ≤ maxLen ∧ (∀ j (h : j < (pad l1 ++ pad l2).length), w'.cell? ⟨g, j, none⟩ = some (.int .u8 (pad l1 ++ pad l2)[j])) ∧ Below w.heap.size w w' := by
  subst hnm
  refine (take_ok w _ _ _ _ (ka.pt (by rw [tile_len _ h1]) (by omega)) (kb.pt (by rw [tile_len _ h2]) (by omega)) (tile_len _ h1) (tile_len _ h2) (tile_ok n0 n1 ok1) (tile_ok n0 n1 ok2) (by rw [tile_num n0 n1, tile_num n0 n1]) (by rw [tile_num n0 n1]; exact n1)).mono ?_
  rintro e w' ⟨v, rfl, ho, hb⟩
  rw [tile_drop, tile_drop] at ho
  obtain ⟨g, cap, rfl, a1, a2, a3, a4, _, a5⟩ := own_pt ho (by omega)
  rw [tile_num n0 n1]
  exact ⟨g, cap, rfl, a1, a2, a3, a4, a5, hb⟩

include m0 m1 in
theorem take_unlike (hnm : n ≠ m) : Calls Try.prog 12 #[.slice (some ⟨ga, 0, none⟩) 64 64, .slice (some ⟨gb, 0, none⟩) 64 64] w fun e w' => e = .returned (.tuple #[.int .i64 0, .slice none 0 0, .int .i64 3]) ∧ w' = w :=
  take_torn w _ _ _ _ (ka.pt (by rw [tile_len _ h1]) (by omega)) (kb.pt (by rw [tile_len _ h2]) (by omega)) (tile_len _ h1) (tile_len _ h2) (tile_ok n0 n1 ok1) (tile_ok m0 m1 ok2) (by rw [tile_num n0 n1, tile_num m0 m1]; exact hnm)
end

set_option maxRecDepth 100000 in
set_option maxHeartbeats 400000 in
theorem begun_true (w : World) : Calls Try.prog 8 #[] w fun e w' => e = .returned (.bool true) ∧ Below w.heap.size w w' := by
  have hmk : ∀ W, (Instr.makeSlice 22 (.int .i64 1) (.int .i64 1)).run Try.prog W = .ok (.slice (some ⟨W.heap.size, 0, none⟩) 1 1) (W.alloc (.cells #[.int .u8 0] 5)) := fun _ => by kernel_rfl
  go_enter Try.func8, Try.ntmps8
  go_wp2_with fail
  have k0 : Blk (w.alloc (.cells #[.int .u8 7] 5)) w.heap.size [7] := heap_alloc_new w _
  have o7 : bytesOk [7] := by intro x hx; simp at hx; omega
  have b0 : Below w.heap.size w (w.alloc (.cells #[.int .u8 7] 5)) := (Below.refl _ _).alloc (Nat.le_refl _) _
  generalize w.alloc (.cells #[.int .u8 7] 5) = wa at *
  refine (put_ok wa 5 (by omega) (by omega) _ [7] ((k0.pt rfl (Nat.le_refl _)).slK o7) (by simp)).mono ?_
  rintro e w1 ⟨ga, gb, rfl, hga, hgb, hb1, ka, kb⟩
  have b1 := b0.trans (hb1.mono b0.size)
  clear hb1 k0
  go_wp2_with fail
  refine (take_same w1 ka kb (by omega) (by omega) (ok_take o7 _) (ok_drop o7 _) (by simp) (by simp) rfl).mono ?_
  rintro e w2 ⟨g, cap, rfl, a1, a2, a3, a4, a5, hb2⟩
  have b2 := b1.trans (hb2.mono b1.size)
  have kb2 := kb.old hb2 kb.lt
  clear ka kb
  go_wp2_with fail
  have k3 : Blk (w2.alloc (.cells #[.int .u8 0] 5)) w2.heap.size [0] := heap_alloc_new w2 _
  have b3 : Below w2.heap.size w2 (w2.alloc (.cells #[.int .u8 0] 5)) := (Below.refl _ _).alloc (Nat.le_refl _) _
  have o0 : bytesOk [0] := by intro x hx; simp at hx; omega
  have b4 := b2.trans (b3.mono b2.size)
  have c0 := a5 0 (by decide)
  rw [← b3.cell (p := ⟨g, 0, none⟩) a2] at c0
  have f0 := tile_ok (n := 5) (by omega) (by omega) (ok_drop o7 60)
  have k4 := ((kb2.old b3 kb2.lt).pt (n := 64) (c := 64) rfl (by omega)).slK f0
  generalize w2.alloc (.cells #[.int .u8 0] 5) = w3 at *
  refine (take_bad w3 _ _ [0] _ ((k3.pt rfl (Nat.le_refl _)).slK o0) k4 (Or.inl (by simp))).mono ?_
  rintro e w4 ⟨rfl, rfl⟩
  rw [show (pad (List.take 60 [7]) ++ pad (List.drop 60 [7]))[0]'(by decide) = 7 from rfl] at c0
  clear a5 k3 k4 kb2
  go_wp2
  go_ret
  exact ⟨rfl, b4⟩
end Go.Proofs.Ytmaamneebdejhaa
