/- Take. -/
import Derived.Test.YtmijdjlpfjfjoaaPage
namespace Go.Proofs.Ytmijdjlpfjfjoaa
open Go.RowKit

theorem numL_bounds {l : List Int} (h : bytesOk l) : 0 ≤ numL l ∧ numL l < 4294967296 := by
  unfold numL
  split
  · rename_i a b c d r
    have := h a (by simp); have := h b (by simp); have := h c (by simp); have := h d (by simp)
    omega
  · omega


section




theorem Pt.tail4 {w : World} {g off cap n : Nat} {l : List Int} (h : Pt w (.slice (some ⟨g, off, none⟩) n cap) l) (hl : l.length = 64) : Pt w (.slice (some ⟨g, off + 4, none⟩) 60 (cap - 4)) (l.drop 4) := by
  obtain ⟨b, o, c, e, h1, h2, h3⟩ := h
  cases e
  refine ⟨g, off + 4, cap - 4, by rw [List.length_drop, hl], by rw [List.length_drop]; omega, h2, fun j hj => ?_⟩
  rw [List.length_drop] at hj
  rw [List.getElem_drop]
  have e2 := h3 (4 + j) (by omega)
  have e3 : off + 4 + j = off + (4 + j) := by omega
  rw [e3]; exact e2


end

end Go.Proofs.Ytmijdjlpfjfjoaa
