/- light; a page that comes in as an argument. -/
import Derived.Test.YtolfmgbkbmphkaaLeafPut
import Derived.Test.YtolfmgbkbmphkaaLeafBeg
import Derived.Laws.IdiomArrays
import Derived.Deep.Fields
namespace Go.Proofs.Ytolfmgbkbmphkaa
open Go.ChangeShapes Go.WideShapes Go.ChangeAt Go.RowKit

def lightB (c : Nat → List Int) : Bool := (List.range 4).all (fun i => decide ((c i).length ≤ 40))
theorem light_no {c : Nat → List Int} {k : Nat} (hk : k < 4) (h : 40 < (c k).length) : lightB c = false := by
  unfold lightB
  cases e : (List.range 4).all (fun i => decide ((c i).length ≤ 40))
  · rfl
  · rw [List.all_eq_true] at e
    have := of_decide_eq_true (e k (List.mem_range.2 hk))
    omega
theorem light_all {c : Nat → List Int} (h : ∀ j, j < 4 → (c j).length ≤ 40) : lightB c = true := List.all_eq_true.2 (fun x hx => decide_eq_true (h x (List.mem_range.1 hx)))

set_option maxRecDepth 100000 in
set_option maxHeartbeats 1000000 in
theorem light_any (w : World) (P : Nat → Option Addr) (N K : Nat → Nat) (n : Int) (c : Nat → List Int) (h : Cs w P N K c) :
    Calls Try.prog 11 #[.agg #[.slice (P 0) (N 0) (K 0), .slice (P 1) (N 1) (K 1), .slice (P 2) (N 2) (K 2), .slice (P 3) (N 3) (K 3), .int .i64 n]] w fun e w' => e = .returned (.bool (lightB c)) ∧ Below w.heap.size w w' := by
  have HK1 : Hid ((w.alloc (pgO P N K n)).heap[w.heap.size]? = some (pgO P N K n)) := heap_alloc_new w _
  have HB1 : Hid (Below w.heap.size w (w.alloc (pgO P N K n))) := (Below.refl _ _).alloc (Nat.le_refl _) _
  have HH := Lib.hid h
  clear h
  go_enter Try.func11, Try.ntmps11
  go_upto_region 1 with (fail)
  show Code.wp _ _ _ _ (w.alloc (pgO P N K n))
  generalize w.alloc (pgO P N K n) = w1 at *
  go_wp2
  go_loopw [3] (fun i wr => ∃ k : Nat, k ≤ 4 ∧ i = .int .i64 k ∧ Hid (∀ j, j < k → (c j).length ≤ 40) ∧ w1 = wr) (fun i _ => 4 - (intOf i).toNat)
  case atStart => exact ⟨0, by omega, rfl, fun j h => by omega, rfl⟩
  case round =>
    obtain ⟨k, hk, rfl, HZ, rfl⟩ := hrel
    by_cases hlt : k < 4
    · have ck := (pg_cell HK1.out).1 k hlt
      have hN := (HH.out k hlt).1
      by_cases h40 : 40 < N k
      · have HF := Lib.hid (light_no hlt (show 40 < (c k).length by omega))
        have h41 : (40 : Int) < (N k : Int) := by omega
        clear hN
        go_wp2
        go_ret
        exact ⟨ret_b HF.out.symm, HB1.out⟩
      · have HZ2 : Hid (∀ j, j < k + 1 → (c j).length ≤ 40) := fun j hj => by
          by_cases e : j = k
          · subst e; omega
          · exact HZ.out j (by omega)
        have h41 : ¬ (40 : Int) < (N k : Int) := by omega
        clear hN
        go_wp2
        go_roundw
        all_goals first
          | exact ⟨k + 1, by omega, by go_num, HZ2, trivial⟩
          | exact ⟨k + 1, by omega, by go_num, HZ2, rfl⟩
          | (simp [intOf]; omega)
    · obtain rfl : k = 4 := by omega
      have HF := Lib.hid (light_all HZ.out)
      go_wp2
      go_ret
      exact ⟨ret_b HF.out.symm, HB1.out⟩

section
variable {H : Type} {enc : TypeId × Value → H} {w : World} {base b0 : Nat} {spare : Nat → Bool} {held : Bool}
theorem cellTy : Try.prog.cellTypes Try.prog.depth 25 = some [22, 22, 22, 22, 3] := by kernel_rfl
theorem cell_sl {c : Value} {n : Nat} {y : DataW H × List MemPlace} (hok : Cell.okWide Try.prog w .any b0 22 c) (h : DataW.trod enc Try.prog w base spare held n 22 [c] = some y) : ∃ p m k l, c = .slice p m k ∧ m = l.length ∧ SlK .u8 w (.slice p m k) l := by
  have hv : Value.okWide Try.prog w .any b0 22 c := by
    simp only [Value.okWide, Try.underlying22]; exact hok
  obtain ⟨a0, len, cap, rfl⟩ := okWide_slice Try.underlying22 hv
  obtain ⟨l, hl⟩ := open_sl Try.underlying22 Try.underlying5 (by kernel_rfl) hv (show DataW.Trod enc Try.prog w base spare held 22 (.slice a0 len cap) y.1 y.2 from ⟨n, h⟩)
  have e : len = l.length := by
    obtain ⟨_, _, e, _⟩ := hl
    injection e
  exact ⟨a0, len, cap, l, rfl, e, hl⟩

theorem open_page {v : Value} {d : DataW H} {p : List MemPlace} (hv : Value.okWide Try.prog w .any b0 25 v) (h : DataW.Trod enc Try.prog w base spare held 25 v d p) : ∃ P N K n c, v = pgV P N K n ∧ Cs w P N K c := by
  have hv2 := hv
  simp only [Value.okWide, Try.underlying25] at hv2
  obtain ⟨cs, rfl, hsz, ts, hts, -, hrow⟩ := hv2
  rw [cellTy] at hts
  cases hts
  have h5 : cs.size = 5 := hsz.trans (by kernel_rfl)
  obtain ⟨c0, c1, c2, c3, c4, rfl⟩ : ∃ c0 c1 c2 c3 c4, cs = #[c0, c1, c2, c3, c4] := by
    obtain ⟨l⟩ := cs
    match l, h5 with
    | [c0, c1, c2, c3, c4], _ => exact ⟨c0, c1, c2, c3, c4, rfl⟩
  obtain ⟨fuel, hf⟩ := h
  obtain ⟨xs, n, _, _, _, hxl, hfs⟩ := DataW.trod_struct Try.underlying25 hf
  have k23 : Try.prog.cellsOf 23 = 4 := by kernel_rfl
  have k22 : Try.prog.cellsOf 22 = 1 := by kernel_rfl
  have k3 : Try.prog.cellsOf 3 = 1 := by kernel_rfl
  have g0 := hfs 0 _ rfl
  have g1 := hfs 1 _ rfl
  have e0 : DataW.trod enc Try.prog w base spare held n 23 [c0, c1, c2, c3] = xs[0]? := g0
  have e1 : DataW.trod enc Try.prog w base spare held n 3 [c4] = xs[1]? := g1
  obtain ⟨x0, hx0⟩ : ∃ x, xs[0]? = some x := ⟨_, List.getElem?_eq_getElem (show 0 < xs.length by rw [hxl]; decide)⟩
  obtain ⟨x1, hx1⟩ : ∃ x, xs[1]? = some x := ⟨_, List.getElem?_eq_getElem (show 1 < xs.length by rw [hxl]; decide)⟩
  rw [hx0] at e0
  rw [hx1] at e1
  obtain ⟨y0, y1, y2, y3, n', _, t0, t1, t2, t3⟩ := trod_array4 Try.underlying23 k22 e0
  have ok : ∀ i c, i < 4 → #[c0, c1, c2, c3, c4][i]? = some c → Cell.okWide Try.prog w .any b0 22 c := by
    intro i c hi hc
    obtain ⟨u, hu, ho⟩ := hrow i c hc
    match i, hi with
    | 0, _ => cases hu; exact ho
    | 1, _ => cases hu; exact ho
    | 2, _ => cases hu; exact ho
    | 3, _ => cases hu; exact ho
  obtain ⟨p0, m0, q0, l0, rfl, a0, s0⟩ := cell_sl (ok 0 c0 (by decide) rfl) t0
  obtain ⟨p1, m1, q1, l1, rfl, a1, s1⟩ := cell_sl (ok 1 c1 (by decide) rfl) t1
  obtain ⟨p2, m2, q2, l2, rfl, a2, s2⟩ := cell_sl (ok 2 c2 (by decide) rfl) t2
  obtain ⟨p3, m3, q3, l3, rfl, a3, s3⟩ := cell_sl (ok 3 c3 (by decide) rfl) t3
  obtain ⟨nn, hn, _⟩ := DataW.trod_int Try.underlying3 e1
  cases hn
  refine ⟨fun i => match i with | 0 => p0 | 1 => p1 | 2 => p2 | _ => p3, fun i => match i with | 0 => m0 | 1 => m1 | 2 => m2 | _ => m3, fun i => match i with | 0 => q0 | 1 => q1 | 2 => q2 | _ => q3, nn, fun i => match i with | 0 => l0 | 1 => l1 | 2 => l2 | _ => l3, rfl, fun i hi => ?_⟩
  match i, hi with
  | 0, _ => exact ⟨a0, s0⟩
  | 1, _ => exact ⟨a1, s1⟩
  | 2, _ => exact ⟨a2, s2⟩
  | 3, _ => exact ⟨a3, s3⟩
end
end Go.Proofs.Ytolfmgbkbmphkaa
