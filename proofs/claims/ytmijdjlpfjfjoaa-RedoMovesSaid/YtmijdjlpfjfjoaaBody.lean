/- Bodies of pages by place. -/
import Derived.Test.YtmijdjlpfjfjoaaTake
namespace Go.Proofs.Ytmijdjlpfjfjoaa
open Go.RowKit

def pad (l : List Int) : List Int := l ++ List.replicate (60 - l.length) 0

theorem pad_ok {l : List Int} (h : bytesOk l) : bytesOk (pad l) := by
  intro x hx
  rcases List.mem_append.1 hx with h1 | h1
  · exact h x h1
  · rw [List.mem_replicate] at h1; omega

theorem pad_len {l : List Int} (h : l.length ≤ 60) : (pad l).length = 60 := by simp [pad]; omega

theorem tile_len (n : Int) {l : List Int} (h : l.length ≤ 60) : (tileL n l).length = 64 := by simp [tileL, head]; omega

theorem tile_drop (n : Int) (l : List Int) : (tileL n l).drop 4 = pad l := rfl

theorem tile_num {n : Int} (_ : 0 ≤ n) (_ : n < 2147483648) (l : List Int) : numL (tileL n l) = n := by
  show ((n / 16777216 * 256 + n / 65536 % 256) * 256 + n / 256 % 256) * 256 + n % 256 = n
  omega

theorem tile_ok {n : Int} (n0 : 0 ≤ n) (n1 : n < 2147483648) {l : List Int} (h : bytesOk l) : bytesOk (tileL n l) := by
  intro x hx
  rcases List.mem_append.1 hx with h1 | h1
  · simp only [head, List.mem_cons, List.not_mem_nil, or_false] at h1
    omega
  · exact pad_ok h x h1

/-- The body of a page. -/
def body (l : List Int) : List Int := pad (l.take 60) ++ pad (l.drop 60)

theorem body_len {l : List Int} (h : l.length ≤ 120) : (body l).length = 120 := by
  unfold body
  rw [List.length_append, pad_len (by simp; omega), pad_len (by simp; omega)]

theorem body_ok {l : List Int} (h : bytesOk l) : bytesOk (body l) := by
  intro x hx
  rcases List.mem_append.1 hx with h1 | h1
  · exact pad_ok (ok_take h _) x h1
  · exact pad_ok (ok_drop h _) x h1

theorem body_eq {l : List Int} (h : l.length ≤ 120) : body l = l ++ List.replicate (120 - l.length) 0 := by
  unfold body pad
  by_cases hl : l.length ≤ 60
  · rw [List.take_of_length_le hl, List.drop_eq_nil_of_le hl, List.append_assoc]
    congr 1
    simp only [List.length_nil, List.nil_append, Nat.sub_zero, List.replicate_append_replicate]
    congr 1; omega
  · have e1 : (l.take 60).length = 60 := by simp; omega
    rw [e1, Nat.sub_self, List.replicate_zero, List.append_nil, ← List.append_assoc, List.take_append_drop, List.length_drop]
    congr 2; omega

theorem body_take {l : List Int} (h : l.length ≤ 120) : (body l).take l.length = l := by rw [body_eq h, List.take_left']; rfl

theorem body_rest {l : List Int} (h : l.length ≤ 120) {j : Nat} (hj : l.length ≤ j) (hh : j < (body l).length) : (body l)[j] = 0 := by
  have e : ∀ L : List Int, L = l ++ List.replicate (120 - l.length) 0 → ∀ hL : j < L.length, L[j] = 0 := by
    intro L hL hh
    subst hL
    rw [List.getElem_append_right hj, List.getElem_replicate]
  exact e _ (body_eq h) hh

theorem blk_new2 (w : World) (o : Obj) (l : List Int) : Blk ((w.alloc o).alloc (.cells (byteV l).toArray 5)).drew (w.heap.size + 1) l := by
  have := heap_alloc_new (w.alloc o) (.cells (byteV l).toArray 5)
  rw [show (w.alloc o).heap.size = w.heap.size + 1 by simp] at this
  exact this

/-- A variable that is an array of bytes. -/
def BlkT (t : TypeId) (w : World) (g : Nat) (l : List Int) : Prop := w.heap[g]? = some (.cells (byteV l).toArray t (0, 0))
section
variable {t : TypeId} {w : World} {g : Nat} {l : List Int}
theorem BlkT.lt (h : BlkT t w g l) : g < w.heap.size := (Array.getElem?_eq_some_iff.1 h).1
theorem BlkT.cell (h : BlkT t w g l) {j : Nat} (hj : j < l.length) : w.cell? ⟨g, j, none⟩ = some (.int .u8 l[j]) := by
  rw [(cell_of h j).1]; simp [byteV, hj]
theorem BlkT.old {B : Nat} {w' : World} (h : BlkT t w g l) (hb : Below B w w') (hB : g < B) : BlkT t w' g l := (hb.block g hB).trans h
theorem BlkT.pt (h : BlkT t w g l) {n c : Nat} (hn : n = l.length) (hc : n ≤ c) : Pt w (.slice (some ⟨g, 0, none⟩) n c) l :=
  ⟨g, 0, c, by rw [hn], by omega, h.lt, fun j hj => by rw [Nat.zero_add]; exact h.cell hj⟩
theorem BlkT.set (h : BlkT t w g l) (i : Nat) (x : Int) : BlkT t (w.setCell ⟨g, i, none⟩ (.int .u8 x)) g (l.set i x) := by
  unfold BlkT
  rw [heap_setCell_same w g i _ _ _ h]
  simp [byteV, List.map_set]
theorem BlkT.other {k i : Nat} {v : Value} (h : BlkT t w k l) (hk : k ≠ g) : BlkT t (w.setCell ⟨g, i, none⟩ v) k l := (Below.heap_setCell _ _ _ _ hk).trans h
end


end Go.Proofs.Ytmijdjlpfjfjoaa
