/- What keeps the two disks alike. -/
import Derived.Test.YtliakndgbfbicaaLike
namespace Go.Proofs.Ytliakndgbfbicaa
open Go.RowKit Go.Maps

theorem like_put {d : Dk} {f : Rf} (h : Like d f) {i : Nat} (hi : i < f.k) {l : List Int} (hl : l.length = 64) (hb : bytesOk l) : Like (d.store i (blkOf l)) (f.put i (bstr l)) := by
  obtain ⟨h1, h2, h3, h4, h5⟩ := h
  refine ⟨h1, h2, h3, h4, fun j hj => ?_⟩
  obtain ⟨a1, a2, a3, a4⟩ := h5 j hj
  have hn : (d.store i (blkOf l)).now = upd d.now (i : Int) (some (blkOf l)) := rfl
  have ho := store_old_at d (i : Int) (blkOf l) (j : Int)
  by_cases e : j = i
  · subst e
    refine ⟨⟨l, hl, hb, by rw [hn, upd_same]; rfl, by simp [Rf.put, updN]⟩, ?_, ?_, ?_⟩
    · rw [store_old_some]; simp [Rf.put, updN]
    · intro _
      rw [ho]
      by_cases hw : (d.old (j : Int)).isSome = true
      · rw [if_pos hw]
        exact a3 (by rw [← a2]; exact hw)
      · rw [if_neg hw, if_pos rfl]
        have hwf : f.wet j = false := by rw [← a2]; simpa using hw
        obtain ⟨l0, b1, b2, b3, b4⟩ := a1
        exact ⟨l0, b1, b2, by rw [b3], by show f.was j = _; rw [a4 hwf, b4]⟩
    · intro hw; simp [Rf.put, updN] at hw
  · have e' : (j : Int) ≠ (i : Int) := by omega
    have k1 : (f.put i (bstr l)).now j = f.now j := by simp [Rf.put, updN, e]
    have k2 : (f.put i (bstr l)).wet j = f.wet j := by simp [Rf.put, updN, e]
    have k3 : (d.store i (blkOf l)).old (j : Int) = d.old (j : Int) := by
      rw [ho, if_neg e']
      by_cases hw : (d.old (j : Int)).isSome = true
      · rw [if_pos hw]
      · rw [if_neg hw]
        cases hx : d.old (j : Int) with
        | none => rfl
        | some v => rw [hx] at hw; simp at hw
    refine ⟨?_, ?_, ?_, ?_⟩
    · rw [hn, upd_other _ e', k1]; exact a1
    · rw [k3, k2]; exact a2
    · rw [k2, k3]; exact a3
    · rw [k2, k1]; exact a4

theorem like_less {d : Dk} {f : Rf} (h : Like d f) : Like d.later f.less := by
  obtain ⟨h1, h2, h3, h4, h5⟩ := h
  exact ⟨h1, h2, h3, fun e => ⟨by have := (h4 e).1; show d.left - 1 = f.at_ - 1; omega, (h4 e).2⟩, h5⟩

theorem like_sync {d : Dk} {f : Rf} (h : Like d f) : Like d.synced (f.sy f.k) := by
  obtain ⟨h1, h2, h3, h4, h5⟩ := h
  refine ⟨h1, h2, h3, h4, fun j hj => ?_⟩
  have hj' : j < f.k := hj
  refine ⟨(h5 j hj').1, ?_, ?_, ?_⟩
  · simp [Dk.synced, Rf.sy, hj']
  · intro e; simp [Rf.sy, hj'] at e
  · intro _; simp [Rf.sy, hj']

theorem like_arm {d : Dk} {f : Rf} (h : Like d f) {n : Int} (hn : 0 ≤ n) (mv mv' : Value) (ms : List Int) : Like (d.armed n mv ms) (f.armed n mv' ms) := by
  obtain ⟨h1, h2, h3, h4, h5⟩ := h
  exact ⟨h1, h2, by simp [Dk.armed, Rf.armed, hn], fun _ => ⟨rfl, rfl⟩, h5⟩

theorem like_unarm {d : Dk} {f : Rf} (h : Like d f) {n : Int} (hn : n < 0) (mv' : Value) (ms : List Int) : Like d.unarmed (f.armed n mv' ms) := by
  obtain ⟨h1, h2, h3, h4, h5⟩ := h
  exact ⟨h1, h2, by simp [Dk.unarmed, Rf.armed]; omega, fun e => by simp [Dk.unarmed] at e, h5⟩

theorem like_power {d : Dk} {f : Rf} (h : Like d f) : Like { d with dead := false } { f with off := false } := by
  obtain ⟨h1, h2, h3, h4, h5⟩ := h
  exact ⟨h1, rfl, h3, h4, h5⟩

theorem like_copy {d : Dk} {f : Rf} (h : Like d f) (mv : Value) : Like { d with mv := mv } f := h

/-- The disks that New makes. -/
def Rf.fresh (k : Nat) (mv : Value) : Rf := { k := k, now := fun _ => bstr (List.replicate 64 0), was := fun _ => bstr (List.replicate 64 0), wet := fun _ => false, off := false, on := false, at_ := 0, mv := mv, mask := [] }
theorem like_fresh (k : Nat) (mv : Value) : Like (Dk.fresh k) (Rf.fresh k mv) := by
  refine ⟨rfl, rfl, rfl, ?_, ?_⟩
  · intro e; cases e
  · intro j _
    refine ⟨⟨List.replicate 64 0, by simp, by intro x hx; rw [List.mem_replicate] at hx; omega, zb_of, rfl⟩, rfl, ?_, fun _ => rfl⟩
    intro e; cases e

theorem wetL_K (f : Nat → Bool) (i : Nat) : (wetL f i).length = wetK f i := by
  induction i with
  | zero => rfl
  | succ i ih => unfold wetL wetK; split <;> simp [ih]

theorem wetL_at (f : Nat → Bool) {i : Nat} (hi : f i = true) : ∀ k, i < k → (wetL f k)[wetK f i]? = some (i : Int)
  | 0, h => by omega
  | k + 1, h => by
    unfold wetL
    by_cases e : i = k
    · subst e
      rw [if_pos hi, List.getElem?_append_right (by rw [wetL_K]; exact Nat.le_refl _), wetL_K, Nat.sub_self]
      rfl
    · have hk := wetL_at f hi k (by omega)
      split
      · rw [List.getElem?_append_left (List.getElem?_eq_some_iff.1 hk).1]; exact hk
      · exact hk

theorem crash_at (d : Dk) (f : Nat → Bool) (ms : List Int) (k : Nat) : ∀ i, i ≤ k → ∀ j : Nat, crashNow d ms (wetL f k) (wetK f i) (j : Int) = if j < i ∧ f j = true ∧ bitR ms (wetK f j) = false then some ((d.old (j : Int)).getD zb) else d.now (j : Int)
  | 0, _, j => by simp [wetK, crashNow]
  | i + 1, hi, j => by
    have ih := crash_at d f ms k i (by omega) j
    by_cases hw : f i = true
    · have h1 := wetL_at f hw k (by omega)
      rw [wetK, if_pos hw]
      show (match (wetL f k)[wetK f i]? with
        | some q => if bitOf ms (wetK f i) = true then crashNow d ms (wetL f k) (wetK f i) else upd (crashNow d ms (wetL f k) (wetK f i)) q (some ((d.old q).getD zb))
        | none => crashNow d ms (wetL f k) (wetK f i)) (j : Int) = _
      rw [h1]
      simp only
      by_cases e : j = i
      · subst e
        by_cases hb : bitOf ms (wetK f j) = true
        · have hb' : bitR ms (wetK f j) = true := hb
          rw [if_pos hb, ih, if_neg (by omega), if_neg (by rw [hb']; simp)]
        · have hb0 : bitOf ms (wetK f j) = false := by simpa using hb
          have hb' : bitR ms (wetK f j) = false := hb0
          rw [if_neg hb, upd_same, if_pos ⟨by omega, hw, hb'⟩]
      · have e2 : (j : Int) ≠ (i : Int) := by omega
        have e1 : j < i + 1 ↔ j < i := by omega
        simp only [e1]
        rw [← ih]
        split
        · rfl
        · rw [upd_other _ e2]
    · have e1 : (j < i + 1 ∧ f j = true ∧ bitR ms (wetK f j) = false) ↔ (j < i ∧ f j = true ∧ bitR ms (wetK f j) = false) := by
        constructor
        · rintro ⟨a, b, c⟩
          by_cases e : j = i
          · subst e; exact absurd b hw
          · exact ⟨by omega, b, c⟩
        · rintro ⟨a, b, c⟩; exact ⟨by omega, b, c⟩
      rw [wetK, if_neg hw, ih]
      simp only [e1]

theorem like_crash {d d' : Dk} {f : Rf} (h : Like d f) (hok : d.Ok) {ms : List Int} (hc : Crashes d ms d') : Like d' (f.crashed ms) := by
  obtain ⟨ls, hls, rfl⟩ := hc
  have hq := like_loose h hok hls
  subst hq
  obtain ⟨h1, h2, h3, h4, h5⟩ := h
  refine ⟨h1, rfl, rfl, ?_, ?_⟩
  · intro e; cases e
  · intro j hj
    have hj' : j < f.k := hj
    obtain ⟨a1, a2, a3, a4⟩ := h5 j hj'
    have hc := crash_at d f.wet ms f.k f.k (Nat.le_refl _) j
    rw [← wetL_K] at hc
    have hnow : (d.crashed (crashNow d ms (wetL f.wet f.k) (wetL f.wet f.k).length)).now (j : Int) = _ := hc
    refine ⟨?_, ?_, ?_, ?_⟩
    · rw [hnow]
      show ∃ l, _ ∧ _ ∧ _ ∧ (if j < f.k ∧ f.wet j = true ∧ bitR ms (wetK f.wet j) = false then f.was j else f.now j) = _
      by_cases hb : j < f.k ∧ f.wet j = true ∧ bitR ms (wetK f.wet j) = false
      · rw [if_pos hb, if_pos hb]
        obtain ⟨l, b1, b2, b3, b4⟩ := a3 hb.2.1
        exact ⟨l, b1, b2, by rw [b3]; rfl, b4⟩
      · rw [if_neg hb, if_neg hb]; exact a1
    · show false = (if j < f.k then false else f.wet j); rw [if_pos hj']
    · intro e
      have : (if j < f.k then false else f.wet j) = true := e
      rw [if_pos hj'] at this; cases this
    · intro _
      show (if j < f.k ∧ f.wet j = true then (if bitR ms (wetK f.wet j) = false then f.was j else f.now j) else f.was j) = (if j < f.k ∧ f.wet j = true ∧ bitR ms (wetK f.wet j) = false then f.was j else f.now j)
      by_cases hw : f.wet j = true
      · simp only [hj', hw, true_and, if_true]
      · have hw' : f.wet j = false := by simpa using hw
        simp only [hw', Bool.false_eq_true, false_and, and_false, if_false]
        exact a4 hw'
end Go.Proofs.Ytliakndgbfbicaa
