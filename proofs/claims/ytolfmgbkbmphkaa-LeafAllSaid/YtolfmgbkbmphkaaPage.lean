/- Put and Take. -/
import Derived.Test.YtolfmgbkbmphkaaSheet
import Derived.Test.YtolfmgbkbmphkaaLow
import Derived.Test.YtolfmgbkbmphkaaConcat
namespace Go.Proofs.Ytolfmgbkbmphkaa
open Go.RowKit

def nilv : Value := .slice none 0 0

def sl64 (g : Nat) : Value := .slice (some ⟨g, 0, none⟩) 64 64

theorem put_bad (w : World) (n : Int) (v : Value) (l : List Int) (h : SlK .u8 w v l) (hx : n < 0 ∨ 2147483647 < n ∨ 120 < l.length) : Calls Try.prog 22 #[.int .i64 n, v] w fun e w' => e = .returned (.tuple #[.slice none 0 0, .slice none 0 0, .int .i64 1]) ∧ w' = w := by
  obtain ⟨p, cap, rfl, h1, h2, h3, h4⟩ := h
  clear h2 h3 h4
  have hx0 := hx
  clear hx
  go_enter Try.func22, Try.ntmps22
  by_cases a1 : n < 0
  · go_wp2
    go_ret3
    constructor <;> first | rfl | trivial
  · have d1 : decide (n < 0) = false := by simpa using a1
    by_cases a2 : 2147483647 < n
    · go_wp2
      go_ret3
      constructor <;> first | rfl | trivial
    · have d2 : decide (2147483647 < n) = false := by simpa using a2
      have a3 : 120 < l.length := by omega
      go_wp2
      go_ret3
      constructor <;> first | rfl | trivial

set_option maxRecDepth 100000 in
set_option maxHeartbeats 1000000 in
theorem put_ok (w : World) (n : Int) (n0 : 0 ≤ n) (n1 : n < 2147483648) (v : Value) (l : List Int) (h : SlK .u8 w v l) (hl : l.length ≤ 120) : Calls Try.prog 22 #[.int .i64 n, v] w fun e w' => ∃ ga gb, e = .returned (.tuple #[.slice (some ⟨ga, 0, none⟩) 64 64, .slice (some ⟨gb, 0, none⟩) 64 64, .int .i64 0]) ∧ w.heap.size ≤ ga ∧ w.heap.size ≤ gb ∧ Below w.heap.size w w' ∧ Blk w' ga (tileL n (l.take 60)) ∧ Blk w' gb (tileL n (l.drop 60)) := by
  have a1 : ¬ n < 0 := by omega
  have a2 : ¬ 2147483647 < n := by omega
  have d1 : decide (n < 0) = false := by simpa using a1
  have d2 : decide (2147483647 < n) = false := by simpa using a2
  have a3 : ¬ 120 < l.length := by omega
  have d3 : decide (120 < (l.length : Int)) = false := by simp; omega
  have hb0 : ∀ W, Below w.heap.size w W → ∀ u (r : List Int), SlK .u8 w u r → r.length ≤ 60 → Calls Try.prog 36 #[.int .i64 n, u] W fun e w' => ∃ g, e = .returned (.slice (some ⟨g, 0, none⟩) 64 64) ∧ w.heap.size ≤ g ∧ Below w.heap.size w w' ∧ Blk w' g (tileL n r) ∧ W.heap.size ≤ g ∧ (∀ k, k < W.heap.size → w'.heap[k]? = W.heap[k]?) := by
    intro W hW u r hu hr
    refine (half_any W n n0 n1 u r (hu.below hW (Nat.le_refl _)) hr).mono ?_
    rintro e w' ⟨g, rfl, h1, h2, h3⟩
    exact ⟨g, rfl, Nat.le_trans hW.size h1, hW.trans (h2.mono hW.size), h3, h1, h2.block⟩
  have hl1 : (l.take 60).length ≤ 60 := by simp; omega
  have hl2 : (l.drop 60).length ≤ 60 := by simp; omega
  obtain ⟨p, cap, rfl, h1, h2, h3, h4⟩ := h
  cases p with
  | none =>
    obtain ⟨rfl, rfl⟩ := h3 rfl
    have k1 : SlK .u8 w (.slice none 0 0) (List.take 60 []) := slK_nil w
    have k2 : SlK .u8 w (.slice none 0 0) (List.drop 60 []) := slK_nil w
    clear h1 h2 h3 h4
    go_enter Try.func22, Try.ntmps22
    go_wp2
    go_region_with (go_at_call 36; first | (refine (hb0 _ hbl1 _ _ k2 hl2).mono ?_; rintro e w2 ⟨g2, rfl, hg2, hbl2, hk2, hs2, hold2⟩) | (refine (hb0 _ (Below.refl _ _).drew _ _ k1 hl1).mono ?_; rintro e w1 ⟨g1, rfl, hg1, hbl1, hk1, hs1, hold1⟩))
    all_goals (go_wp2; go_ret3; exact ⟨g1, g2, rfl, hg1, hg2, hbl2, (hold2 _ hk1.lt).trans hk1, hk2⟩)
  | some a =>
    obtain ⟨hs, hbl, hc⟩ := h4 a rfl
    obtain ⟨b, off, asp⟩ := a
    cases hs
    have k1 : SlK .u8 w (.slice (some ⟨b, off, none⟩) (l.take 60).length cap) (l.take 60) :=
      ⟨_, cap, rfl, by simp; omega, fun x hx => h2 x (List.mem_of_mem_take hx), (fun e => by cases e), fun a e => by
        cases e
        refine ⟨rfl, hbl, fun j hj => ?_⟩
        rw [List.length_take] at hj
        rw [List.getElem_take]; exact hc j (by omega)⟩
    have k2 : ∀ o, (60 < l.length → o = off + 60) → SlK .u8 w (.slice (some ⟨b, o, none⟩) (l.drop 60).length (cap - 60)) (l.drop 60) := fun o ho =>
      ⟨_, _, rfl, by simp; omega, fun x hx => h2 x (List.mem_of_mem_drop hx), (fun e => by cases e), fun a e => by
        cases e
        refine ⟨rfl, hbl, fun j hj => ?_⟩
        rw [List.length_drop] at hj
        have e1 := ho (by omega)
        rw [List.getElem_drop]
        have e2 := hc (60 + j) (by omega)
        have e3 : o + j = off + (60 + j) := by omega
        show w.cell? ⟨b, o + j, none⟩ = _
        rw [e3]; exact e2⟩
    have k3 : l.length ≤ 60 → ∀ o c, SlK .u8 w (.slice (some ⟨b, o, none⟩) 0 c) (l.drop 60) := fun ho o c =>
      ⟨_, c, by rw [List.drop_eq_nil_of_le (by omega)]; rfl, by simp; omega, fun x hx => h2 x (List.mem_of_mem_drop hx), (fun e => by cases e), fun a e => by
        cases e
        refine ⟨rfl, hbl, fun j hj => ?_⟩
        rw [List.length_drop] at hj
        omega⟩
    clear h2 h3 h4 hc
    by_cases hlen : 60 < l.length
    · rw [List.length_take, Nat.min_eq_left (Nat.le_of_lt hlen)] at k1
      rw [List.length_drop] at k2
      replace k2 := k2 (off + 60) (fun _ => rfl)
      go_enter Try.func22, Try.ntmps22
      go_wp2
      go_region_with (go_at_call 36; first | (refine (hb0 _ hbl1 _ _ k2 hl2).mono ?_; rintro e w2 ⟨g2, rfl, hg2, hbl2, hk2, hs2, hold2⟩) | (refine (hb0 _ (Below.refl _ _).drew _ _ k1 hl1).mono ?_; rintro e w1 ⟨g1, rfl, hg1, hbl1, hk1, hs1, hold1⟩))
      all_goals (go_wp2; go_ret3; exact ⟨g1, g2, rfl, hg1, hg2, hbl2, (hold2 _ hk1.lt).trans hk1, hk2⟩)
    · have hle : l.length ≤ 60 := by omega
      rw [List.length_take, Nat.min_eq_right hle] at k1
      by_cases hcap : cap = l.length
      · subst hcap
        have k2 := k3 (by omega) off 0
        go_enter Try.func22, Try.ntmps22
        go_wp2
        go_region_with (go_at_call 36; first | (refine (hb0 _ hbl1 _ _ k2 hl2).mono ?_; rintro e w2 ⟨g2, rfl, hg2, hbl2, hk2, hs2, hold2⟩) | (refine (hb0 _ (Below.refl _ _).drew _ _ k1 hl1).mono ?_; rintro e w1 ⟨g1, rfl, hg1, hbl1, hk1, hs1, hold1⟩))
        all_goals (go_wp2; go_ret3; exact ⟨g1, g2, rfl, hg1, hg2, hbl2, (hold2 _ hk1.lt).trans hk1, hk2⟩)
      · have k2 := k3 (by omega) (off + l.length) (cap - l.length)
        go_enter Try.func22, Try.ntmps22
        go_wp2
        go_region_with (go_at_call 36; first | (refine (hb0 _ hbl1 _ _ k2 hl2).mono ?_; rintro e w2 ⟨g2, rfl, hg2, hbl2, hk2, hs2, hold2⟩) | (refine (hb0 _ (Below.refl _ _).drew _ _ k1 hl1).mono ?_; rintro e w1 ⟨g1, rfl, hg1, hbl1, hk1, hs1, hold1⟩))
        all_goals (go_wp2; go_ret3; exact ⟨g1, g2, rfl, hg1, hg2, hbl2, (hold2 _ hk1.lt).trans hk1, hk2⟩)

end Go.Proofs.Ytolfmgbkbmphkaa
