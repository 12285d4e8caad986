/- hand's laws: arrays as functions; bytes that come in; Get, whatever is there. -/
import Derived.Test.YtnpgiboapckgpaaHdL
import Derived.Test.YtnpgiboapckgpaaHdM
import Derived.Test.YtnpgiboapckgpaaRow
namespace Go.Proofs.Ytnpgiboapckgpaa
open Go.RowKit

def arrV (m : Nat) (f : Nat → Value) : Array Value := Array.ofFn (n := m) fun i => f i.1
theorem arrV_size (m : Nat) (f : Nat → Value) : (arrV m f).size = m := by simp [arrV]
theorem arrV_at {m t : Nat} (f : Nat → Value) (h : t < m) : (arrV m f)[t]? = some (f t) := by
  unfold arrV
  rw [Array.getElem?_ofFn, dif_pos h]
theorem arrV_set {m t : Nat} (f : Nat → Value) (v : Value) (h : t < m) : (arrV m f).setIfInBounds t v = arrV m fun i => if i = t then v else f i := by
  apply Array.ext_getElem?
  intro i
  rw [Array.getElem?_setIfInBounds]
  by_cases hi : i < m
  · rw [arrV_at (fun i => if i = t then v else f i) hi]
    by_cases e : t = i
    · subst e; rw [if_pos rfl, if_pos (by rw [arrV_size]; exact h)]; simp
    · rw [if_neg e, arrV_at _ hi]; simp [Ne.symm e]
  · rw [Array.getElem?_eq_none (xs := arrV m fun i => if i = t then v else f i) (by rw [arrV_size]; omega), if_neg (by omega), Array.getElem?_eq_none (by rw [arrV_size]; omega)]

theorem u8_nat {y : Int} (h : (Lit.int .u8 y).wf = true) : ∃ x : Nat, y = (x : Int) ∧ x < 256 := by
  simp only [Lit.wf, Bool.and_eq_true, decide_eq_true_eq] at h
  have hmin : IntKind.u8.min = 0 := rfl
  have hmax : IntKind.u8.max = 255 := rfl
  exact ⟨y.toNat, by omega, by omega⟩
/-- A slice of bytes that comes in, in a world of the call's own. -/
theorem sl_at {w W : World} {pv : Option Addr} {l : List Int} {cap i : Nat} (h : SlK .u8 w (.slice pv l.length cap) l) (hb : Below w.heap.size w W) (hi : i < l.length) :
    ∃ (ab ao x : Nat), pv = some ⟨ab, ao, none⟩ ∧ x < 256 ∧ W.cell? ⟨ab, ao + i, none⟩ = some (.int .u8 (x : Int)) := by
  obtain ⟨pv', cap', e, _, hwf, hnil, hcell⟩ := h
  injection e with e1 e2 e3
  subst e1 e3
  cases pv with
  | none => have := (hnil rfl).1; rw [this] at hi; exact absurd hi (Nat.not_lt_zero _)
  | some a =>
    obtain ⟨h1, h2, h3⟩ := hcell a rfl
    obtain ⟨ab, ao, asp⟩ := a
    obtain rfl : asp = none := h1
    obtain ⟨x, hx, hx8⟩ := u8_nat (hwf _ (List.getElem_mem hi))
    refine ⟨ab, ao, x, rfl, hx8, ?_⟩
    rw [hb.cell (p := ⟨ab, ao + i, none⟩) h2, h3 i hi, hx]
theorem block_fr {w w' : World} {q p g : Nat} {o : Obj} (h : w.heap[q]? = some o) (hf : Fr w.heap.size (Two p g) w w') (hp : p ≠ q) (hg : g ≠ q) : w'.heap[q]? = some o :=
  (hf.block q (Array.getElem?_eq_some_iff.1 h).1 (by rintro (e | e); exact hp e.symm; exact hg e.symm)).trans h
theorem Mine.set {B : Nat} {w W : World} {p g q : Nat} {s : St} (h : Mine B w W p g s) (hp : p ≠ q) (hg : g ≠ q) (hB : B ≤ q) (t : Nat) (v : Value) : Mine B w (W.setCell ⟨q, t, none⟩ v) p g s :=
  ⟨h.ha.same (Below.heap_setCell _ _ _ _ hp) (Below.heap_setCell _ _ _ _ hg), h.be.setCell (p := ⟨q, t, none⟩) hB _, h.bp, h.bg⟩
theorem block_set {W : World} {q m t : Nat} {f : Nat → Value} {ty : TypeId} (h : W.heap[q]? = some (.cells (arrV m f) ty (0, 0))) (ht : t < m) (v : Value) : (W.setCell ⟨q, t, none⟩ v).heap[q]? = some (.cells (arrV m fun i => if i = t then v else f i) ty (0, 0)) := by
  rw [setCell_eq_setRow W q t _ _ (0, 0) _ h, setRow_heap W q _ _ _ _ h, arrV_set f v ht]

theorem get_total (s : St) (k : Int) : ∃ (s' : St) (x : ByteArray) (b : Bool), GetR s k s' (.returned (.tuple #[.string x, .bool b])) ∧ s'.n = s.n ∧ s'.a = s.a ∧ Sim s.P s'.P ∧ (b = true → ∃ i, i < s.n ∧ hit s k i = true ∧ x = (s.P i).v) ∧ (b = false → ∀ i, i < s.n → hit s k i = false) := by
  obtain ⟨i, hf⟩ := First.some s.n (hit s k)
  by_cases hi : i < s.n
  · exact ⟨_, _, _, .hit i hf hi, rfl, rfl, Sim.bit s.P i true, fun _ => ⟨i, hi, hf.yes hi, rfl⟩, fun e => by cases e⟩
  · have e : i = s.n := by have := hf.le; omega
    rw [e] at hf
    exact ⟨_, _, _, .none hf, rfl, rfl, Sim.refl _, fun e => (by cases e), fun _ j hj => hf.no j hj⟩
/-- Put where no place is vacant: the key is there; or all have pins; or one goes out. -/
theorem put_total (s : St) (k : Int) (v : ByteArray) (ha : s.a < s.n) (hall : ∀ i, i < s.n → (s.P i).u = true) :
    (∃ i, i < s.n ∧ First s.n (hit s k) i ∧ PutR s k v { s with P := up s.P i { s.P i with v := v, b := true } } (tup4 0 emp false 0)) ∨
    ((∀ i, i < s.n → hit s k i = false) ∧ (∀ i, i < s.n → 0 < (s.P i).n) ∧ PutR s k v s (tup4 0 emp false 5)) ∨
    (∃ j a' P', (∀ i, i < s.n → hit s k i = false) ∧ j < s.n ∧ a' < s.n ∧ (s.P j).n = 0 ∧ Sim s.P P' ∧ PutR s k v ⟨s.n, up P' j ⟨true, k, v, true, 0⟩, a'⟩ (tup4 (s.P j).k (s.P j).v true 0)) := by
  obtain ⟨i, hf⟩ := First.some s.n (hit s k)
  by_cases hi : i < s.n
  · exact .inl ⟨i, hi, hf, .hit i hf hi⟩
  · have e : i = s.n := by have := hf.le; omega
    rw [e] at hf
    have hv : First s.n (vac s) s.n := first_at (Nat.le_refl _) (fun j hj => by show (!(s.P j).u) = false; rw [hall j hj]; rfl) (fun e => absurd e (Nat.lt_irrefl _))
    obtain ⟨l, hl⟩ := First.some s.n (loose s)
    by_cases hls : l < s.n
    · have h0 : (s.P l).n = 0 := by have := hl.yes hls; simpa [loose] using this
      obtain ⟨f, P', a', j, ht⟩ := turn_ends (n := s.n) _ s.P s.a rfl ha ⟨l, hls, h0⟩
      obtain ⟨hj, ha', hn⟩ := turnF_lt f s.P s.a ha ht
      have hs := turnF_sim f s.P s.a ht
      have r := PutR.turn (s := s) (k := k) (v := v) l j a' f P' hf hv hl hls ht
      rw [(hs j).1, (hs j).2.1, (hs j).2.2.1, hall j hj] at r
      exact .inr (.inr ⟨j, a', P', hf.no, hj, ha', by rw [← (hs j).2.2.2]; exact hn, hs, r⟩)
    · have e2 : l = s.n := by have := hl.le; omega
      rw [e2] at hl
      refine .inr (.inl ⟨hf.no, fun i hi => ?_, .full hf hv hl⟩)
      have := hl.no i hi
      simp only [loose, decide_eq_false_iff_not] at this
      omega
end Go.Proofs.Ytnpgiboapckgpaa
