/- Free cells in memory: the reference's Free. -/
import Derived.Test.YtffflafafpdjdaaGpR
namespace Go.Proofs.Ytffflafafpdjdaa
open Go.RowKit Go.Maps Go.WideMaps

/-- Who holds what, of the places ahead of one. -/
def pH (h : Int → Int → Option Int) (who : Int) (i j : Nat) : Int → Int → Option Int := fun p c => if p < (i : Int) ∨ (p = (i : Int) ∧ c < (j : Int)) then freeH h who p c else none
theorem free_none {h : Int → Int → Option Int} {who p c : Int} (e : h p c = none) : freeH h who p c = none := by unfold freeH; rw [e]; rfl
theorem St.Ok.none_of {s : St} (h : s.Ok) {p c : Int} (hi : ¬ (0 ≤ p ∧ p < (s.N : Int) ∧ 0 ≤ c ∧ c < 4)) : s.h p c = none := by
  cases e : s.h p c with
  | none => rfl
  | some v => exact absurd (inB_iff.1 (h.hb p c v e).1) hi
theorem pH_start {s : St} (h : s.Ok) (who p c : Int) : pH s.h who 0 0 p c = none := by
  unfold pH
  split
  · rename_i e
    exact free_none (h.none_of (by omega))
  · rfl
theorem pH_row {s : St} (h : s.Ok) (who : Int) (i : Nat) : pH s.h who i 4 = pH s.h who (i + 1) 0 := by
  funext p c
  unfold pH
  by_cases e1 : p < (i : Int) ∨ (p = (i : Int) ∧ c < ((4 : Nat) : Int))
  · rw [if_pos e1, if_pos (by omega)]
  · rw [if_neg e1]
    split
    · exact (free_none (h.none_of (by omega))).symm
    · rfl
theorem pH_end {s : St} (h : s.Ok) (who : Int) : pH s.h who s.N 0 = freeH s.h who := by
  funext p c
  unfold pH
  split
  · rfl
  · exact (free_none (h.none_of (by omega))).symm
theorem pH_skip {h : Int → Int → Option Int} {who : Int} {i j : Nat} (e : freeH h who i j = none) : pH h who i (j + 1) = pH h who i j := by
  funext p c
  unfold pH
  by_cases e1 : p = (i : Int) ∧ c = (j : Int)
  · obtain ⟨rfl, rfl⟩ := e1
    rw [e]; split <;> split <;> rfl
  · by_cases e2 : p < (i : Int) ∨ (p = (i : Int) ∧ c < (j : Int))
    · rw [if_pos (by omega), if_pos e2]
    · rw [if_neg (by omega), if_neg e2]
theorem pH_put {h : Int → Int → Option Int} {who v : Int} {i j : Nat} (e : h i j = some v) (hv : v ≠ who) : hG (pH h who i (j + 1)) = upR (hG (pH h who i j)) i j (some (.int .i64 v)) := by
  funext p c
  by_cases e1 : p = (i : Int) ∧ c = (j : Int)
  · obtain ⟨rfl, rfl⟩ := e1
    rw [upR_same]
    unfold hG pH freeH
    rw [if_pos (by omega), e, if_neg (fun e => hv (Option.some.inj e))]; rfl
  · rw [upR_other _ e1]
    unfold hG pH
    by_cases e2 : p < (i : Int) ∨ (p = (i : Int) ∧ c < (j : Int))
    · rw [if_pos (by omega), if_pos e2]
    · rw [if_neg (by omega), if_neg e2]
theorem set_at_ {W : World} {B i : Nat} {cs : Array Value} {t : TypeId} (h : W.heap[B]? = some (.cells cs t (0, 0))) (v : Value) : (W.setCell ⟨B, i, none⟩ v).heap[B]? = some (.cells (cs.setIfInBounds i v) t (0, 0)) := by
  obtain ⟨hlt, hk⟩ := Array.getElem?_eq_some_iff.1 h
  show (W.heap.modify B _)[B]? = _
  rw [Array.getElem?_eq_getElem (by rw [Array.size_modify]; exact hlt), Array.getElem_modify_self, hk]
  simp

set_option maxRecDepth 100000 in
set_option maxHeartbeats 1000000 in
theorem free_r (w : World) {g b1 b2 n : Nat} {s : St} (h : RA w g b1 b2 n s) (who : Int) :
    Calls Try.prog 14 #[.pointer (some ⟨g, 0, none⟩), .int .i64 who] w fun e w' => e = .returned (.tuple #[]) ∧ ∃ b3, RA w' g b1 b3 (n + 128) (s.free who) ∧ Fr w.heap.size (Bk g b1 b2) w w' ∧ w.heap.size ≤ b3 := by
  have hmk := @run_makeMap Try.prog
  have HH := Lib.hid h
  have HOK := Lib.hid h.ok
  have hN32 : (s.N : Int) ≤ 32 := by have := h.ok.le; omega
  have R0 : Hid (RM (w.alloc (.map #[] 0)) w.heap.size 0 (hG (pH s.h who 0 0)) ∧ Below w.heap.size w (w.alloc (.map #[] 0))) := ⟨(RM.made w).congr fun p c _ _ => by unfold hG; rw [pH_start h.ok]; rfl, (Below.refl _ _).alloc (Nat.le_refl _) _⟩
  clear h
  go_enter Try.func14, Try.ntmps14
  go_wp2
  go_loopw [5] (fun p wr => Hid (∃ i : Nat, i ≤ s.N ∧ p = .int .i64 (i : Int) ∧ RM wr w.heap.size (4 * i) (hG (pH s.h who i 0)) ∧ Below w.heap.size w wr)) (fun p _ => s.N - (RowKit.intOf p).toNat)
  case atStart => exact ⟨0, Nat.zero_le _, rfl, R0.out.1, R0.out.2⟩
  case round =>
    obtain ⟨i, hi, rfl, hrm, hb⟩ := hrel.out
    have hR := HH.out.on_ hb
    obtain ⟨c0, _, _⟩ := hR.c
    have HRM := Lib.hid hrm
    have HB := Lib.hid hb
    clear hrel R0 hR hrm hb
    have hi32 : (i : Int) ≤ 32 := by omega
    by_cases hlt : i < s.N
    · have hltI : (i : Int) < (s.N : Int) := by omega
      have HLT := Lib.hid hlt
      clear hi hlt
      go_wp2
      go_loopw [6] (fun q wr => Hid (∃ j : Nat, j ≤ 4 ∧ q = .int .i64 (j : Int) ∧ RM wr w.heap.size (4 * i + j) (hG (pH s.h who i j)) ∧ Below w.heap.size w wr)) (fun q _ => 4 - (RowKit.intOf q).toNat)
      case atStart => exact ⟨0, by omega, rfl, HRM.out, HB.out⟩
      case round =>
        obtain ⟨j, hj, rfl, hrm, hb⟩ := hrel.out
        have hR := HH.out.on_ hb
        obtain ⟨_, _, c2⟩ := hR.c
        have HRM2 := Lib.hid hrm
        have HB2 := Lib.hid hb
        clear hrel hrm hb c0
        by_cases hj4 : j < 4
        · have hj4I : (j : Int) < 4 := by omega
          have hwi : Wf (i : Int) := (wf_in (N := 32) (by omega) (inB_yes (p := (i : Int)) (c := 0) (by omega))).1
          have hwj : Wf (j : Int) := (wf_in (N := 32) (by omega) (inB_yes (p := 0) (c := (j : Int)) (by omega))).2
          have HJ := Lib.hid hj4
          rcases hG_look hR.h hwi hwj with ⟨v, hv, k⟩ | ⟨hv, k⟩
          · by_cases hvw : v = who
            · have HS := Lib.hid (pH_skip (j := j) (show freeH s.h who i j = none by unfold freeH; rw [if_pos (hv.trans (by rw [hvw]))]))
              subst hvw
              clear hR hj hj4 hwi hwj hv
              go_wp2
              go_roundw
              case rel => exact ⟨j + 1, HJ.out, rfl, by rw [HS.out]; exact HRM2.out.mono (by omega), HB2.out⟩
              case measure => have := HJ.out; simp only [RowKit.intOf]; omega
            · obtain ⟨w3, r3, m3, t3⟩ := HRM2.out.store Try.underlying47 (by have := HLT.out; unfold maxLen; omega) hwi hwj (.int .i64 v)
              unfold rid at r3
              have M3 := Lib.hid m3
              have HS := Lib.hid (pH_put hv hvw)
              have HB3 := Lib.hid (HB2.out.trans (turned_below (Nat.le_refl _) t3))
              clear hR hj hj4 hwi hwj hv m3 t3
              go_wp2
              go_roundw
              case rel => exact ⟨j + 1, HJ.out, rfl, by rw [HS.out]; exact M3.out, HB3.out⟩
              case measure => have := HJ.out; simp only [RowKit.intOf]; omega
          · have HS := Lib.hid (pH_skip (j := j) (free_none (who := who) hv))
            clear hR hj hj4 hwi hwj hv
            go_wp2
            go_roundw
            case rel => exact ⟨j + 1, HJ.out, rfl, by rw [HS.out]; exact HRM2.out.mono (by omega), HB2.out⟩
            case measure => have := HJ.out; simp only [RowKit.intOf]; omega
        · obtain rfl : j = 4 := by omega
          clear hR hj hj4
          rw [show ((4 : Nat) : Int) = 4 from rfl]
          go_wp2
          go_roundw
          case rel => exact ⟨i + 1, HLT.out, rfl, by rw [← pH_row HOK.out]; exact HRM2.out.mono (by omega), HB2.out⟩
          case measure => have := HLT.out; simp only [RowKit.intOf]; omega
    · obtain rfl : i = s.N := by omega
      clear hi hlt
      have hR := HH.out.on_ HB.out
      have hgl := hR.glt
      obtain ⟨_, _, c2⟩ := hR.c
      have f2 := (cell_of hR.hp 2).2
      have HR := Lib.hid hR
      clear hR
      go_wp2
      go_end0
      obtain ⟨U, hU, hu⟩ := HR.out.u
      have k : ∀ j : Nat, j ≠ g → (wr.setCell ⟨g, 2, none⟩ (.map (some w.heap.size))).heap[j]? = wr.heap[j]? := fun j hj => Below.heap_setCell _ _ _ _ hj
      have hgw := HH.out.glt
      have hb1 := HH.out.lt (k := b1) (Or.inr (Or.inl rfl))
      refine ⟨rfl, w.heap.size, ⟨set_at_ HR.out.hp _, ⟨U, (hU.of_block (k _ (fun e => hU.not_cells ((congrArg (fun b => wr.heap[b]?) e).trans HR.out.hp)))).mono (Nat.le_add_right _ _), hu⟩, ?_, by omega, HOK.out.free who⟩, ?_, Nat.le_refl _⟩
      · have := HRM.out
        rw [pH_end HOK.out] at this
        exact (this.of_block (k _ (by omega))).mono (by have := HOK.out.le; omega)
      · have hB := HB.out
        exact ⟨hB.os, hB.tape, hB.output, by simpa using hB.size, fun j hj hn => (k _ (fun e => hn (Or.inl e))).trans (hB.block j hj)⟩
end Go.Proofs.Ytffflafafpdjdaa
