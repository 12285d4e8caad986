/- The tree's laws: names out of bytes; arrays as functions; bytes that come in; keys found again. -/
import Derived.Test.YtejbbojephiifaaTlS
import Derived.Laws.BytesString
namespace Go.Proofs.Ytejbbojephiifaa
open Go.RowKit

/-- A text of one byte, of two. -/
def ch (m : Nat) : ByteArray := ⟨#[UInt8.ofNat m]⟩
def ch2 (m n : Nat) : ByteArray := ⟨#[UInt8.ofNat m, UInt8.ofNat n]⟩
theorem add_at (g j : Nat) : (⟨g, 0, none⟩ : Addr).add j = ⟨g, j, none⟩ := by unfold Addr.add; split <;> simp_all
theorem conv_one (w : World) (m : Nat) : (convert 47 9 (.slice (some ⟨w.heap.size, 0, none⟩) 1 1)).run Try.prog (w.alloc (.cells #[.int .u8 (m : Int)] 5)) = .ok (.string (ch m)) (w.alloc (.cells #[.int .u8 (m : Int)] 5)) := by
  rw [run_convert_bytes_string _ 47 9 5 _ _ _ Try.underlying47 Try.underlying5 Try.underlying9]
  have h := run_bytesToString (P := Try.prog) (w.alloc (.cells #[.int .u8 (m : Int)] 5)) ⟨w.heap.size, 0, none⟩ 1 1 [(m : Int)] (by
    have := run_loadCells_list (P := Try.prog) (w.alloc (.cells #[.int .u8 (m : Int)] 5)) ⟨w.heap.size, 0, none⟩ [.int .u8 (m : Int)] (fun j v hv => by
      cases j with
      | zero =>
        simp only [List.getElem?_cons_zero, Option.some.injEq] at hv
        subst hv
        rw [add_at]
        exact (cell_of (heap_alloc_new w (.cells #[.int .u8 (m : Int)] 5)) 0).1
      | succ j => simp at hv)
    simpa using this)
  rw [h]
  rfl
theorem conv_two (w : World) (m n : Nat) : (convert 47 9 (.slice (some ⟨w.heap.size, 0, none⟩) 2 2)).run Try.prog (w.alloc (.cells #[.int .u8 (m : Int), .int .u8 (n : Int)] 5)) = .ok (.string (ch2 m n)) (w.alloc (.cells #[.int .u8 (m : Int), .int .u8 (n : Int)] 5)) := by
  rw [run_convert_bytes_string _ 47 9 5 _ _ _ Try.underlying47 Try.underlying5 Try.underlying9]
  have h := run_bytesToString (P := Try.prog) (w.alloc (.cells #[.int .u8 (m : Int), .int .u8 (n : Int)] 5)) ⟨w.heap.size, 0, none⟩ 2 2 [(m : Int), (n : Int)] (by
    have := run_loadCells_list (P := Try.prog) (w.alloc (.cells #[.int .u8 (m : Int), .int .u8 (n : Int)] 5)) ⟨w.heap.size, 0, none⟩ [.int .u8 (m : Int), .int .u8 (n : Int)] (fun j v hv => by
      rw [add_at, (cell_of (heap_alloc_new w (.cells #[.int .u8 (m : Int), .int .u8 (n : Int)] 5)) j).1]
      match j, hv with
      | 0, hv => exact hv
      | 1, hv => exact hv
      | j + 2, hv => simp at hv)
    simpa using this)
  rw [h]
  rfl

def arrV (m : Nat) (f : Nat → Value) : Array Value := Array.ofFn (n := m) fun i => f i.1
theorem arrV_size (m : Nat) (f : Nat → Value) : (arrV m f).size = m := by simp [arrV]
theorem arrV_at {m t : Nat} (f : Nat → Value) (h : t < m) : (arrV m f)[t]? = some (f t) := by
  unfold arrV
  rw [Array.getElem?_ofFn, dif_pos h]
theorem arrV_set {m t : Nat} (f : Nat → Value) (v : Value) (h : t < m) : (arrV m f).setIfInBounds t v = arrV m fun i => if i = t then v else f i := by
  apply Array.ext_getElem?
  intro i
  rw [Array.getElem?_setIfInBounds]
  by_cases hi : i < m
  · rw [arrV_at (fun i => if i = t then v else f i) hi]
    by_cases e : t = i
    · subst e; rw [if_pos rfl, if_pos (by rw [arrV_size]; exact h)]; simp
    · rw [if_neg e, arrV_at _ hi]; simp [Ne.symm e]
  · rw [Array.getElem?_eq_none (xs := arrV m fun i => if i = t then v else f i) (by rw [arrV_size]; omega), if_neg (by omega), Array.getElem?_eq_none (by rw [arrV_size]; omega)]
theorem u8_nat {y : Int} (h : (Lit.int .u8 y).wf = true) : ∃ x : Nat, y = (x : Int) ∧ x < 256 := by
  simp only [Lit.wf, Bool.and_eq_true, decide_eq_true_eq] at h
  have hmin : IntKind.u8.min = 0 := rfl
  have hmax : IntKind.u8.max = 255 := rfl
  exact ⟨y.toNat, by omega, by omega⟩
theorem u16_nat {y : Int} (h : (Lit.int .u16 y).wf = true) : ∃ x : Nat, y = (x : Int) ∧ x < 65536 := by
  simp only [Lit.wf, Bool.and_eq_true, decide_eq_true_eq] at h
  have hmin : IntKind.u16.min = 0 := rfl
  have hmax : IntKind.u16.max = 65535 := rfl
  exact ⟨y.toNat, by omega, by omega⟩
/-- A slice of numbers that comes in, in a world of the call's own. -/
theorem sl_at {q : IntKind} {w W : World} {pv : Option Addr} {l : List Int} {cap i : Nat} (h : SlK q w (.slice pv l.length cap) l) (hb : Below w.heap.size w W) (hi : i < l.length) :
    ∃ (ab ao : Nat) (x : Int), pv = some ⟨ab, ao, none⟩ ∧ (Lit.int q x).wf = true ∧ ab < w.heap.size ∧ W.cell? ⟨ab, ao + i, none⟩ = some (.int q x) := by
  obtain ⟨pv', cap', e, _, hwf, hnil, hcell⟩ := h
  injection e with e1 e2 e3
  subst e1 e3
  cases pv with
  | none => have := (hnil rfl).1; rw [this] at hi; exact absurd hi (Nat.not_lt_zero _)
  | some a =>
    obtain ⟨h1, h2, h3⟩ := hcell a rfl
    obtain ⟨ab, ao, asp⟩ := a
    obtain rfl : asp = none := h1
    refine ⟨ab, ao, l[i], rfl, hwf _ (List.getElem_mem hi), h2, ?_⟩
    rw [hb.cell (p := ⟨ab, ao + i, none⟩) h2, h3 i hi]

theorem bL_nil (a : ByteArray) : bL a ⟨#[]⟩ = false := by
  unfold bL
  rw [Lib.toList_data, Lib.toList_data]
  cases a.data.toList <;> rfl
theorem frm_nil (xs : List KV) : cutM (-1) (frm ⟨#[]⟩ xs) = xs := by
  have : frm ⟨#[]⟩ xs = xs := by
    cases xs with
    | nil => rfl
    | cons y r => rw [frm, bL_nil]; rfl
  rw [this]
  rfl
theorem has_mem {xs : List KV} (hr : Rise KV.k xs) {y : KV} (hy : y ∈ xs) : has y.k xs = true := by
  obtain ⟨A, B, is, hs⟩ := stand_ex y.k hr
  cases is with
  | true =>
    obtain ⟨_, _, _, _, _, h, _⟩ := Stand.ins_yes (x := ⟨y.k, 0, 0⟩) hs
    exact h
  | false =>
    exfalso
    rw [hs.eq] at hy
    rcases List.mem_append.1 hy with hy | hy
    · have := hs.lo y hy; rw [bL_irr] at this; cases this
    · rcases hs.hi with ⟨e, _⟩ | ⟨_, hB⟩
      · cases e
      · have := hB y hy; rw [bL_irr] at this; cases this
end Go.Proofs.Ytejbbojephiifaa
