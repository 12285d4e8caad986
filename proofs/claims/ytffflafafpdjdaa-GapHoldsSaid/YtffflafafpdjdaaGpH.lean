/- GapHolds: plain facts. -/
import Derived.Test.YtffflafafpdjdaaGpF
import Derived.Laws.StructEq
namespace Go.Proofs.Ytffflafafpdjdaa
open Go.RowKit

/-- Who holds each of the 16 cells: own. -/
structure Hld (s : St) (own : Nat → Nat) : Prop where
  N : s.N = 4
  u : ∀ p c, s.u p c = false
  h : ∀ k, k < 16 → s.h ((k / 4 : Nat) : Int) ((k % 4 : Nat) : Int) = if own k = 0 then none else some (own k : Int)
theorem Hld.in_ {s : St} {own : Nat → Nat} (h : Hld s own) {k : Nat} (hk : k < 16) : inB s.N ((k / 4 : Nat) : Int) ((k % 4 : Nat) : Int) = true := inB_yes (by rw [h.N]; omega)
theorem Hld.oth {s : St} {own : Nat → Nat} (h : Hld s own) {k : Nat} (hk : k < 16) (who : Nat) : Go.Proofs.Ytffflafafpdjdaa.oth s (who : Int) ((k / 4 : Nat) : Int) ((k % 4 : Nat) : Int) = (decide (own k ≠ 0) && decide (own k ≠ who)) := by
  unfold Go.Proofs.Ytffflafafpdjdaa.oth
  rw [h.h k hk]
  by_cases e : own k = 0
  · rw [if_pos e]; simp [e]
  · rw [if_neg e]
    have : ((own k : Int) ≠ (who : Int)) ↔ own k ≠ who := by omega
    simp [e]
    by_cases e2 : own k = who
    · simp [e2]
    · simp [e2]; omega
theorem Hld.can {s : St} {own : Nat → Nat} (h : Hld s own) {k : Nat} (hk : k < 16) {who : Nat} (ho : own k = 0 ∨ own k = who) : canHold s (who : Int) ((k / 4 : Nat) : Int) ((k % 4 : Nat) : Int) = true := by
  unfold canHold
  rw [h.in_ hk, h.oth hk]
  rcases ho with e | e <;> simp [e]
theorem Hld.can_no {s : St} {own : Nat → Nat} (h : Hld s own) {k : Nat} (hk : k < 16) {who : Nat} (h0 : own k ≠ 0) (ho : own k ≠ who) : canHold s (who : Int) ((k / 4 : Nat) : Int) ((k % 4 : Nat) : Int) = false := by
  unfold canHold
  rw [h.in_ hk, h.oth hk]
  simp [h0, ho]
theorem hold_can {s : St} {who p c : Int} (h : canHold s who p c = true) : s.hold who p c = s.holdS who p c := by
  unfold canHold at h
  simp only [Bool.and_eq_true, Bool.not_eq_true'] at h
  rw [St.hold, if_pos h]
theorem hold_cannot {s : St} {who p c : Int} (h : canHold s who p c = false) : s.hold who p c = s := by
  rw [St.hold, if_neg]
  rintro ⟨h1, h2⟩
  unfold canHold at h
  rw [h1, h2] at h
  cases h
def upN (own : Nat → Nat) (k v : Nat) : Nat → Nat := fun j => if j = k then v else own j
theorem Hld.hold {s : St} {own : Nat → Nat} (h : Hld s own) {k : Nat} (hk : k < 16) {who : Nat} (hw : who ≠ 0) : Hld (s.holdS (who : Int) ((k / 4 : Nat) : Int) ((k % 4 : Nat) : Int)) (upN own k who) :=
  ⟨h.N, h.u, fun j hj => by
    show upR s.h ((k / 4 : Nat) : Int) ((k % 4 : Nat) : Int) (some (who : Int)) _ _ = _
    unfold upN
    by_cases e : j = k
    · subst e; rw [upR_same, if_pos rfl, if_neg hw]
    · rw [upR_other _ (by omega), if_neg e]; exact h.h j hj⟩
theorem upN_same (own : Nat → Nat) (k : Nat) : upN own k (own k) = own := by
  funext j; unfold upN; split
  · rename_i e; rw [e]
  · rfl
theorem upF_own (own : Nat → Nat) (k v : Nat) : upF (fun j => Value.int .i64 (own j : Int)) k (.int .i64 (v : Int)) = fun j => Value.int .i64 (upN own k v j : Int) := by
  funext j; unfold upF upN; split <;> rfl

/-- Which cell is told to one: the least from m on that nobody else holds. -/
def okW (own : Nat → Nat) (who j : Nat) : Prop := own j = 0 ∨ own j = who
def Want (own : Nat → Nat) (who m : Nat) (x : Int) : Prop := (x = -1 ∧ ∀ j, m ≤ j → j < 16 → ¬ okW own who j) ∨ ∃ j : Nat, x = (j : Int) ∧ m ≤ j ∧ j < 16 ∧ okW own who j ∧ ∀ i, m ≤ i → i < j → ¬ okW own who i
theorem Want.start (own : Nat → Nat) (who : Nat) : Want own who 16 (-1) := Or.inl ⟨rfl, fun j h1 h2 => by omega⟩
theorem Want.yes {own : Nat → Nat} {who m : Nat} (hm : m < 16) (h : okW own who m) : Want own who m (m : Int) := Or.inr ⟨m, rfl, Nat.le_refl _, hm, h, fun i h1 h2 => by omega⟩
theorem Want.no {own : Nat → Nat} {who m : Nat} {x : Int} (hw : Want own who (m + 1) x) (h : ¬ okW own who m) : Want own who m x := by
  rcases hw with ⟨rfl, hw⟩ | ⟨j, rfl, h1, h2, h3, h4⟩
  · refine Or.inl ⟨rfl, fun j h1 h2 => ?_⟩
    by_cases e : j = m
    · subst e; exact h
    · exact hw j (by omega) h2
  · refine Or.inr ⟨j, rfl, by omega, h2, h3, fun i h5 h6 => ?_⟩
    by_cases e : i = m
    · subst e; exact h
    · exact h4 i (by omega) h6
theorem Hld.free {s : St} {own : Nat → Nat} (h : Hld s own) {k : Nat} (hk : k < 16) (who : Nat) : s.free' (who : Int) ((k / 4 : Nat) : Int) ((k % 4 : Nat) : Int) = true ↔ okW own who k := by
  unfold St.free' okW
  rw [h.u, h.oth hk]
  by_cases e : own k = 0 <;> by_cases e2 : own k = who <;> simp [e, e2]
theorem okX_h {s : St} {own : Nat → Nat} (h : Hld s own) (who : Nat) {p q : Nat} (hp : p < 4) (hq : q < 4) : okX s (who : Int) (p, q) = true ↔ okW own who (4 * p + q) := by
  rw [okX_j (by omega) hq, ← h.free (k := 4 * p + q) (by omega), show (4 * p + q) / 4 = p by omega, show (4 * p + q) % 4 = q by omega]
theorem Hld.next_no {s : St} {own : Nat → Nat} (h : Hld s own) {who : Nat} (hw : ∀ j, 0 ≤ j → j < 16 → ¬ okW own who j) : nxV ((All s.N 0 4 4).find? (okX s (who : Int))) = .tuple #[.agg #[.int .i64 0, .int .i64 0], .bool false] := by
  have e := all_0 4 4 (Nat.le_refl _)
  rw [h.N, show (4 : Int) = ((4 : Nat) : Int) from rfl, e, find_none']
  · rfl
  · rintro ⟨p, q⟩ hy
    have hm : 0 ≤ p ∧ p < 0 + 4 ∧ q < 4 := mem_rows hy
    cases ho : okX s (who : Int) (p, q) with
    | false => rfl
    | true => exact absurd ((okX_h h who (by omega) hm.2.2).1 ho) (hw _ (by omega) (by omega))
theorem Hld.next_yes {s : St} {own : Nat → Nat} (h : Hld s own) {who k : Nat} (hk : k < 16) (ho : okW own who k) (hw : ∀ i, 0 ≤ i → i < k → ¬ okW own who i) :
    nxV ((All s.N 0 4 4).find? (okX s (who : Int))) = .tuple #[.agg #[.int .i64 ((k / 4 : Nat) : Int), .int .i64 ((k % 4 : Nat) : Int)], .bool true] := by
  have e := all_0 4 4 (Nat.le_refl _)
  rw [h.N, show (4 : Int) = ((4 : Nat) : Int) from rfl, e, find_pre (pre := Lp 0 4 (k / 4) (k % 4)) (x := (k / 4, k % 4))]
  · show Value.tuple #[.agg #[.int .i64 ((k / 4 % 32 : Nat) : Int), .int .i64 ((k % 4 % 4 : Nat) : Int)], .bool true] = _
    rw [show k / 4 % 32 = k / 4 by omega, show k % 4 % 4 = k % 4 by omega]
  · rintro ⟨p, q⟩ hy
    have hm : (0 ≤ p ∧ p < 0 + k / 4 ∧ q < 4) ∨ (p = 0 + k / 4 ∧ q < k % 4) := mem_Lp hy
    cases ho2 : okX s (who : Int) (p, q) with
    | false => rfl
    | true => exact absurd ((okX_h h who (by omega) (by omega)).1 ho2) (hw _ (by omega) (by omega))
  · exact (okX_h h who (by omega) (by omega)).2 (by rw [show 4 * (k / 4) + k % 4 = k by omega]; exact ho)
  · rw [show (k / 4, k % 4) = (0 + k / 4, k % 4) by simp, ← Lp_succ]
    exact Lp_pre 0 (by omega) (by omega)

theorem eql_rid0 (W : World) : (binOp .eql 29 (.agg #[.int .i64 0, .int .i64 0]) (.agg #[.int .i64 0, .int .i64 0])).run Try.prog W = .ok (.bool true) W := by
  have hS : Try.prog.underlying 29 = some (.struct (Try.prog.fieldsOf 29)) := by kernel_rfl
  have hH : Try.prog.stoodInHeld 29 = false := by kernel_rfl
  have hu : Try.prog.underlying 3 = some (.int .i64) := Try.underlying3
  rw [run_eql_struct, show (10000 : Nat) = 9999 + 1 from rfl, run_equalIn_agg W 9999 _ _ _ hS hH]
  simp only [Program.fieldsOf, Try.underlying29]
  go_simp

/-- How many are held. -/
def cntO (own : Nat → Nat) (k : Nat) : Nat := (List.range k).countP fun j => decide (own j ≠ 0)
theorem cntO_succ (own : Nat → Nat) (k : Nat) : cntO own (k + 1) = cntO own k + if own k ≠ 0 then 1 else 0 := by
  simp [cntO, List.range_succ, List.countP_append, List.countP_cons]
theorem cntO_le (own : Nat → Nat) (k : Nat) : cntO own k ≤ k := by
  have := List.countP_le_length (p := fun j => decide (own j ≠ 0)) (l := List.range k)
  simpa [cntO] using this
theorem all_44 : All 4 0 4 4 = (List.range 16).map fun k => (k / 4, k % 4) := by rfl
theorem cnt_44 (f : Int → Int → Bool) (g : Nat → Bool) (h : ∀ k, k < 16 → f ((k / 4 : Nat) : Int) ((k % 4 : Nat) : Int) = g k) : cntB f (All 4 0 4 4) = (List.range 16).countP g := by
  rw [all_44]
  unfold cntB
  rw [List.countP_map]
  refine List.countP_congr fun k hk => ?_
  have hk16 := List.mem_range.1 hk
  show f (((k / 4, k % 4).1 % 32 : Nat) : Int) (((k / 4, k % 4).2 % 4 : Nat) : Int) = true ↔ _
  rw [show (k / 4, k % 4).1 % 32 = k / 4 by show k / 4 % 32 = k / 4; omega, show (k / 4, k % 4).2 % 4 = k % 4 by show k % 4 % 4 = k % 4; omega, h k hk16]
theorem Hld.held {s : St} {own : Nat → Nat} (h : Hld s own) : cntB s.isH (All s.N 0 4 4) = cntO own 16 := by
  rw [h.N]
  refine cnt_44 _ _ fun k hk => ?_
  unfold St.isH
  rw [h.u, h.h k hk]
  by_cases e : own k = 0 <;> simp [e]
theorem Hld.used {s : St} {own : Nat → Nat} (h : Hld s own) : cntB s.u (All s.N 0 4 4) = 0 := by
  rw [h.N, cnt_44 _ (fun _ => false) fun k _ => h.u _ _]
  simp
theorem Hld.freed {s : St} {own : Nat → Nat} (h : Hld s own) (who : Nat) : Hld (s.free (who : Int)) (fun j => if own j = who then 0 else own j) :=
  ⟨h.N, h.u, fun k hk => by
    show freeH s.h (who : Int) _ _ = _
    unfold freeH
    rw [h.h k hk]
    by_cases e : own k = 0
    · rw [if_pos e]
      by_cases e2 : own k = who
      · rw [if_pos e2]; simp
      · rw [if_neg e2, if_pos e]; simp
    · rw [if_neg e]
      by_cases e2 : own k = who
      · rw [if_pos e2, if_pos (by rw [e2]), if_pos rfl]
      · rw [if_neg e2, if_neg e, if_neg (by intro e3; have := Option.some.inj e3; omega)]⟩
end Go.Proofs.Ytffflafafpdjdaa
