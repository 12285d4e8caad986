/- The reference's Sheet. -/
import Derived.Test.YtmijdjlpfjfjoaaBody
import Derived.Test.YtmijdjlpfjfjoaaRefN
import Derived.Laws.AppendOwnNone
import Derived.Deep.AppendLies
import Derived.Deep.RegionLaw
namespace Go.Proofs.Ytmijdjlpfjfjoaa
open Go.RowKit

/-- In W lies what the region reads. -/
def Sees (w W : World) (g : Nat) (L : List Int) : Prop := Below w.heap.size w W ∧ g < W.heap.size ∧ ∀ j (_ : j < L.length), W.cell? ⟨g, j, none⟩ = some (.int .u8 L[j])

theorem Sees.drew {w W : World} {g : Nat} {L : List Int} (h : Sees w W g L) : Sees w W.drew g L := ⟨h.1.drew, h.2.1, h.2.2⟩

theorem Sees.on {w W W' : World} {g : Nat} {L : List Int} (h : Sees w W g L) (hb : Below w.heap.size w W') (hs : W.heap.size ≤ W'.heap.size) (hk : W'.heap[g]? = W.heap[g]?) : Sees w W' g L :=
  ⟨hb, by have := h.2.1; omega, fun j hj => (World.cell?_of_block hk).trans (h.2.2 j hj)⟩


theorem Sees.news {w W : World} {g : Nat} {L : List Int} (h : Sees w W g L) (o m : Nat) (hm : o + m ≤ L.length) : ∀ j u, (byteV ((L.drop o).take m))[j]? = some u → W.cell? ((⟨g, o, none⟩ : Addr).add j) = some u := by
  intro q u hu
  have hj : q < m := by have := (List.getElem?_eq_some_iff.1 hu).1; simp [byteV] at this; omega
  have h2 : (⟨g, o, none⟩ : Addr).add q = ⟨g, o + q, none⟩ := by unfold Addr.add; split <;> simp_all
  rw [h2, h.2.2 (o + q) (by omega)]
  simp only [byteV, List.getElem?_map, List.getElem?_take, List.getElem?_drop, if_pos hj] at hu
  rw [List.getElem?_eq_getElem (by omega)] at hu
  exact hu

theorem half_1 (n : Int) {l : List Int} (hl : l.length ≤ 120) : byteV (head n) ++ byteV (((body l).drop 0).take 60) = byteV (tileL n (l.take 60)) := by
  have e : ((body l).drop 0).take 60 = pad (l.take 60) := by
    unfold body
    rw [List.drop_zero, List.take_left' (pad_len (by simp; omega))]
  rw [e]
  show _ = byteV (head n ++ pad (l.take 60))
  simp [byteV]

theorem half_2 (n : Int) {l : List Int} (hl : l.length ≤ 120) : byteV (head n) ++ byteV (((body l).drop 60).take 60) = byteV (tileL n (l.drop 60)) := by
  have e : ((body l).drop 60).take 60 = pad (l.drop 60) := by
    unfold body
    rw [List.drop_left' (pad_len (by simp; omega)), List.take_of_length_le (by rw [pad_len (by simp; omega)]; omega)]
  rw [e]
  show _ = byteV (head n ++ pad (l.drop 60))
  simp [byteV]

theorem own_on {w W : World} {B n q : Nat} {v : Value} {xs : List Value} {c : Nat} (h : w.ownsRow B 5 1 v n xs) (hv : v = .slice (some ⟨q, 0, none⟩) n c) (hk : W.heap[q]? = w.heap[q]?) : W.ownsRow B 5 1 v n xs := by
  subst hv
  obtain ⟨h1, ⟨e, _⟩ | ⟨g, cap, cur, e, a, b, r⟩⟩ := h
  · cases e
  · have e1 : q = g ∧ c = cap := by simpa using e
    obtain ⟨rfl, rfl⟩ := e1
    exact ⟨h1, .inr ⟨_, _, cur, rfl, a, hk.trans b, r⟩⟩


end Go.Proofs.Ytmijdjlpfjfjoaa
