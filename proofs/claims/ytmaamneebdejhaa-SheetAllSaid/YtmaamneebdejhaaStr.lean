/- Bytes as text; bodies of pages by place. -/
import Derived.Test.YtmaamneebdejhaaBeg
namespace Go.Proofs.Ytmaamneebdejhaa
open Go.RowKit

def bstr (l : List Int) : ByteArray := l.foldl (fun r n => r.push (UInt8.ofNat n.toNat)) ByteArray.empty

theorem conv_slK {W : World} {v : Value} {l : List Int} (h : SlK .u8 W v l) : (convert 22 9 v).run Try.prog W = .ok (.string (bstr l)) W := by
  obtain ⟨p, cap, rfl, h1, h2, h3, h4⟩ := h
  rw [run_convert_bytes_string W 22 9 5 _ _ _ Try.underlying22 Try.underlying5 Try.underlying9]
  cases p with
  | none =>
    obtain ⟨rfl, rfl⟩ := h3 rfl
    rfl
  | some a =>
    obtain ⟨hs, hbl, hc⟩ := h4 a rfl
    refine run_bytesToString W _ _ _ l ?_
    have := run_loadCells_list (P := Try.prog) W a (byteV l) (fun j v hv => by
      obtain ⟨ab, ao, asp⟩ := a
      cases hs
      have hj : j < l.length := by have := (List.getElem?_eq_some_iff.1 hv).1; simpa [byteV] using this
      have h2 : (⟨ab, ao, none⟩ : Addr).add j = ⟨ab, ao + j, none⟩ := by unfold Addr.add; split <;> simp_all
      rw [h2, hc j hj]
      simp [byteV] at hv
      obtain ⟨x, hx, rfl⟩ := hv
      rw [List.getElem?_eq_getElem hj] at hx
      cases hx
      rfl)
    simpa [byteV] using this

theorem below_drewN (B : Nat) (W : World) (n : Nat) : Below B W (W.drewN n) := ⟨rfl, rfl, rfl, Nat.le_refl _, fun _ _ => rfl⟩
theorem conv_drewN {W : World} {v : Value} {l : List Int} (h : SlK .u8 W v l) (n : Nat) : (convert 22 9 v).run Try.prog (W.drewN n) = .ok (.string (bstr l)) (W.drewN n) := conv_slK (h.below (below_drewN W.heap.size W n) (Nat.le_refl _))

/-- The body of a page. -/
def body (l : List Int) : List Int := pad (l.take 60) ++ pad (l.drop 60)
theorem body_len {l : List Int} (h : l.length ≤ 120) : (body l).length = 120 := by
  unfold body
  rw [List.length_append, pad_len (by simp; omega), pad_len (by simp; omega)]
theorem body_ok {l : List Int} (h : bytesOk l) : bytesOk (body l) := by
  intro x hx
  rcases List.mem_append.1 hx with h1 | h1
  · exact pad_ok (ok_take h _) x h1
  · exact pad_ok (ok_drop h _) x h1
theorem body_eq {l : List Int} (h : l.length ≤ 120) : body l = l ++ List.replicate (120 - l.length) 0 := by
  unfold body pad
  by_cases hl : l.length ≤ 60
  · rw [List.take_of_length_le hl, List.drop_eq_nil_of_le hl, List.append_assoc]
    congr 1
    simp only [List.length_nil, List.nil_append, Nat.sub_zero, List.replicate_append_replicate]
    congr 1; omega
  · have e1 : (l.take 60).length = 60 := by simp; omega
    rw [e1, Nat.sub_self, List.replicate_zero, List.append_nil, ← List.append_assoc, List.take_append_drop, List.length_drop]
    congr 2; omega
theorem body_take {l : List Int} (h : l.length ≤ 120) : (body l).take l.length = l := by rw [body_eq h, List.take_left']; rfl
theorem body_rest {l : List Int} (h : l.length ≤ 120) {j : Nat} (hj : l.length ≤ j) (hh : j < (body l).length) : (body l)[j] = 0 := by
  have e : ∀ L : List Int, L = l ++ List.replicate (120 - l.length) 0 → ∀ hL : j < L.length, L[j] = 0 := by
    intro L hL hh
    subst hL
    rw [List.getElem_append_right hj, List.getElem_replicate]
  exact e _ (body_eq h) hh

/-- The first bytes of a slice. -/
theorem pre_slK {w : World} {g n cap : Nat} {L : List Int} (hg : g < w.heap.size) (hok : bytesOk L) (hc : ∀ j (h : j < L.length), w.cell? ⟨g, j, none⟩ = some (.int .u8 L[j])) (hn : n ≤ L.length) (hcap : n ≤ cap) : SlK .u8 w (.slice (some ⟨g, 0, none⟩) n cap) (L.take n) := by
  have hl : (L.take n).length = n := by simp; omega
  refine Pt.slK ⟨g, 0, cap, by rw [hl], by omega, hg, fun j hj => ?_⟩ (ok_take hok n)
  rw [hl] at hj
  rw [Nat.zero_add, hc j (by omega), List.getElem_take]
end Go.Proofs.Ytmaamneebdejhaa
