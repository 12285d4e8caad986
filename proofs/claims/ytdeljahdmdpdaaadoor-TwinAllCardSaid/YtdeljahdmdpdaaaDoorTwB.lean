/- Two keys as one text, plainly: what is joined, what is split; the library's words at the two marks. -/
import Derived.Test.YtdeljahdmdpdaaaDoorRows
import Derived.Lib.Replace
import Derived.Lib.ReplaceLaws
import Derived.Lib.CutLaws
namespace Go.Proofs.YtdeljahdmdpdaaaDoor
open Go.Lib

/-- The second key as it stands in the text. -/
def esc : List UInt8 → List UInt8
  | [] => []
  | b :: l => if b = 0 then 0 :: 255 :: esc l else b :: esc l
def jn (s k : List UInt8) : List UInt8 := esc s ++ 0 :: 1 :: k
def spl : List UInt8 → Option (List UInt8 × List UInt8)
  | [] => none
  | [_] => none
  | b :: c :: l =>
    if b = 0 then (if c = 1 then some ([], l) else if c = 255 then (spl l).map fun x => (0 :: x.1, x.2) else none)
    else (spl (c :: l)).map fun x => (b :: x.1, x.2)

theorem spl_jn : ∀ s k : List UInt8, spl (jn s k) = some (s, k)
  | [], k => by simp [jn, esc, spl]
  | b :: l, k => by
    have ih := spl_jn l k
    by_cases h : b = 0
    · subst h
      have e : jn (0 :: l) k = 0 :: 255 :: jn l k := by simp [jn, esc]
      rw [e]
      simp [spl, ih]
    · have e : jn (b :: l) k = b :: jn l k := by simp [jn, esc, h]
      rw [e]
      cases hj : jn l k with
      | nil => rw [hj] at ih; cases ih
      | cons c r => rw [hj] at ih; simp [spl, h, ih]

/-! ### the library's words, a byte at a time -/
theorem index_cons (b : UInt8) (l sub : List UInt8) : index (b :: l) sub = if sub.isPrefixOf (b :: l) then 0 else if index l sub == -1 then -1 else index l sub + 1 := rfl

theorem count_pre {s sub : List UInt8} (hs : sub ≠ []) (h : sub.isPrefixOf s = true) : count s sub = 1 + count (s.drop sub.length) sub := by
  have h0 : index s sub = ((0 : Nat) : Int) := by
    cases s with
    | nil =>
      cases sub with
      | nil => exact absurd rfl hs
      | cons a b => cases h
    | cons a r => rw [index_cons, if_pos h]; rfl
  have := count_hit hs h0
  rwa [Nat.zero_add] at this
theorem count_skip {b : UInt8} {l sub : List UInt8} (hs : sub ≠ []) (h : sub.isPrefixOf (b :: l) = false) : count (b :: l) sub = count l sub := by
  have e := index_cons b l sub
  rw [h] at e
  by_cases hm : index l sub = -1
  · rw [hm] at e
    rw [count_miss hm, count_miss (by rw [e]; rfl)]
  · have hge := index_ge l sub
    have hb : (index l sub == -1) = false := beq_eq_false_iff_ne.2 hm
    rw [hb] at e
    obtain ⟨i, hi⟩ : ∃ i : Nat, index l sub = i := ⟨(index l sub).toNat, by omega⟩
    have e1 : index (b :: l) sub = ((i + 1 : Nat) : Int) := by rw [e]; simp [hi]
    rw [count_hit hs hi, count_hit hs e1, show i + 1 + sub.length = (i + sub.length) + 1 by omega, List.drop_succ_cons]

theorem repl_eq {old new : List UInt8} (hne : old ≠ new) (s : List UInt8) : replaceAll s old new = replaceK old new (count s old) s := by
  unfold replaceAll replace replaceNum
  rw [if_neg (by simpa using hne), if_pos (.inl (by decide))]
theorem repl_pre {s old new : List UInt8} (hs : old ≠ []) (hne : old ≠ new) (h : old.isPrefixOf s = true) : replaceAll s old new = new ++ replaceAll (s.drop old.length) old new := by
  have h0 : index s old = ((0 : Nat) : Int) := by
    cases s with
    | nil =>
      cases old with
      | nil => exact absurd rfl hs
      | cons a b => cases h
    | cons a r => rw [index_cons, if_pos h]; rfl
  rw [repl_eq hne, repl_eq hne, count_pre hs h, Nat.add_comm, replaceK_hit old new _ s 0 h0]
  simp
theorem repl_skip {b : UInt8} {l old new : List UInt8} (hs : old ≠ []) (hne : old ≠ new) (h : old.isPrefixOf (b :: l) = false) : replaceAll (b :: l) old new = b :: replaceAll l old new := by
  rw [repl_eq hne, repl_eq hne, count_skip hs h]
  cases hc : count l old with
  | zero => rfl
  | succ k =>
    obtain ⟨i, hi⟩ := index_of_count (s := l) (old := old) (by omega)
    have e1 : index (b :: l) old = ((i + 1 : Nat) : Int) := by
      rw [index_cons, h, hi, if_neg (by decide)]
      have : ((i : Int) == -1) = false := beq_eq_false_iff_ne.2 (by omega)
      rw [this]; simp
    rw [replaceK_hit old new k _ _ e1, replaceK_hit old new k _ _ hi, show i + 1 + old.length = (i + old.length) + 1 by omega, List.drop_succ_cons, List.take_succ_cons]
    rfl

theorem cut_pre {s sep : List UInt8} (h : sep.isPrefixOf s = true) (hs : sep ≠ []) : cut s sep = ([], s.drop sep.length, true) := by
  have h0 : index s sep = 0 := by
    cases s with
    | nil =>
      cases sep with
      | nil => exact absurd rfl hs
      | cons a b => cases h
    | cons a r => rw [index_cons, if_pos h]
  unfold cut
  rw [h0]; simp
theorem cut_skip {b : UInt8} {l sep : List UInt8} (h : sep.isPrefixOf (b :: l) = false) : cut (b :: l) sep = (b :: (cut l sep).1, (cut l sep).2.1, (cut l sep).2.2) := by
  have e := index_cons b l sep
  rw [h] at e
  unfold cut
  by_cases hm : index l sep = -1
  · rw [hm] at e
    rw [e, hm]
    simp
  · have hge := index_ge l sep
    have hb : (index l sep == -1) = false := beq_eq_false_iff_ne.2 hm
    rw [hb] at e
    obtain ⟨i, hi⟩ : ∃ i : Nat, index l sep = i := ⟨(index l sep).toNat, by omega⟩
    have e1 : index (b :: l) sep = ((i + 1 : Nat) : Int) := by rw [e]; simp [hi]
    rw [e1, hi, if_pos (by omega), if_pos (by omega)]
    simp only [Int.toNat_natCast]
    rw [show i + 1 + sep.length = (i + sep.length) + 1 by omega, List.drop_succ_cons, List.take_succ_cons]

theorem pre2 (a b : UInt8) (c d : UInt8) (l : List UInt8) : [a, b].isPrefixOf (c :: d :: l) = (a == c && b == d) := by simp [List.isPrefixOf]
theorem pre2_one (a b c : UInt8) : [a, b].isPrefixOf [c] = false := by simp [List.isPrefixOf]
theorem pre1 (a c : UInt8) (l : List UInt8) : [a].isPrefixOf (c :: l) = (a == c) := by simp [List.isPrefixOf]

theorem repl_esc : ∀ s : List UInt8, replaceAll s [0] [0, 255] = esc s
  | [] => rfl
  | b :: l => by
    by_cases h : b = 0
    · subst h
      rw [repl_pre (by simp) (by simp) (by simp [List.isPrefixOf]), esc, if_pos rfl, ← repl_esc l]
      rfl
    · rw [repl_skip (by simp) (by simp) (by rw [pre1]; exact beq_eq_false_iff_ne.2 (Ne.symm h)), esc, if_neg h, ← repl_esc l]

theorem count0_cons (b : UInt8) (l : List UInt8) : count (b :: l) [0] = (if b = 0 then 1 else 0) + count l [0] := by
  by_cases h : b = 0
  · subst h
    rw [count_pre (by simp) (by simp [List.isPrefixOf])]; rfl
  · rw [count_skip (by simp) (by rw [pre1]; exact beq_eq_false_iff_ne.2 (Ne.symm h)), if_neg h, Nat.zero_add]
theorem count1_no {b : UInt8} {l : List UInt8} (h : b ≠ 0) : count (b :: l) [0, 255] = count l [0, 255] := by
  apply count_skip (by simp)
  cases l with
  | nil => simp [List.isPrefixOf]
  | cons c r => rw [pre2]; simp [Ne.symm h]
theorem count1_yes (l : List UInt8) : count (0 :: 255 :: l) [0, 255] = 1 + count l [0, 255] := count_pre (by simp) (by simp [List.isPrefixOf])
theorem count1_zero {l : List UInt8} (h : l.head? ≠ some 255) : count (0 :: l) [0, 255] = count l [0, 255] := by
  apply count_skip (by simp)
  cases l with
  | nil => simp [List.isPrefixOf]
  | cons c r =>
    rw [pre2]
    have : c ≠ 255 := by simpa using h
    simp [Ne.symm this]
theorem count_nil (sub : List UInt8) (h : sub ≠ []) : count [] sub = 0 := count_miss (by cases sub with | nil => exact absurd rfl h | cons a b => rfl)

theorem count_le01 : ∀ (n : Nat) (l : List UInt8), l.length ≤ n → count l [0, 255] ≤ count l [0]
  | 0, l, h => by
    have : l = [] := List.length_eq_zero_iff.1 (by omega)
    subst this; rw [count_nil _ (by simp), count_nil _ (by simp)]; exact Nat.le_refl _
  | _ + 1, [], _ => by rw [count_nil _ (by simp), count_nil _ (by simp)]; exact Nat.le_refl _
  | n + 1, b :: l, h => by
    have hl : l.length ≤ n := by simpa using h
    have ih := count_le01 n l hl
    rw [count0_cons]
    by_cases hb : b = 0
    · subst hb
      rw [if_pos rfl]
      by_cases hc : l.head? = some 255
      · obtain ⟨r, rfl⟩ : ∃ r, l = 255 :: r := by
          cases l with
          | nil => cases hc
          | cons a r => exact ⟨r, by have : a = 255 := by simpa using hc
                                     rw [this]⟩
        have ir := count_le01 n r (by simp at hl; omega)
        rw [count1_yes, count0_cons, if_neg (by decide)]
        omega
      · rw [count1_zero hc]; omega
    · rw [count1_no hb, if_neg hb]; omega

/-- What the program makes of a text. -/
def prg (s : List UInt8) : Option (List UInt8 × List UInt8) :=
  if (cut s [0, 1]).2.2 = true ∧ count (cut s [0, 1]).1 [0] = count (cut s [0, 1]).1 [0, 255] then some (replaceAll (cut s [0, 1]).1 [0, 255] [0], (cut s [0, 1]).2.1) else none

theorem cut_nil : cut [] [0, 1] = ([], [], false) := rfl
theorem cut_one (b : UInt8) : cut [b] [0, 1] = ([b], [], false) := by rw [cut_skip (pre2_one _ _ _), cut_nil]
theorem cut_end (l : List UInt8) : cut (0 :: 1 :: l) [0, 1] = ([], l, true) := cut_pre (by simp [List.isPrefixOf]) (by simp)
theorem cut_no {b : UInt8} (h : b ≠ 0) (l : List UInt8) : cut (b :: l) [0, 1] = (b :: (cut l [0, 1]).1, (cut l [0, 1]).2.1, (cut l [0, 1]).2.2) := by
  apply cut_skip
  cases l with
  | nil => simp [List.isPrefixOf]
  | cons c r => rw [pre2]; simp [Ne.symm h]
theorem cut_zero {c : UInt8} (h : c ≠ 1) (l : List UInt8) : cut (0 :: c :: l) [0, 1] = (0 :: (cut (c :: l) [0, 1]).1, (cut (c :: l) [0, 1]).2.1, (cut (c :: l) [0, 1]).2.2) := by
  apply cut_skip
  rw [pre2]; simp [Ne.symm h]
theorem une_no {b : UInt8} (h : b ≠ 0) (l : List UInt8) : replaceAll (b :: l) [0, 255] [0] = b :: replaceAll l [0, 255] [0] := by
  apply repl_skip (by simp) (by simp)
  cases l with
  | nil => simp [List.isPrefixOf]
  | cons c r => rw [pre2]; simp [Ne.symm h]
theorem une_yes (l : List UInt8) : replaceAll (0 :: 255 :: l) [0, 255] [0] = 0 :: replaceAll l [0, 255] [0] := repl_pre (by simp) (by simp) (by simp [List.isPrefixOf])

theorem cut_head (c : UInt8) (l : List UInt8) (h : c ≠ 255) : (cut (c :: l) [0, 1]).1.head? ≠ some 255 := by
  by_cases hc : c = 0
  · subst hc
    cases l with
    | nil => rw [cut_one]; simp
    | cons d r =>
      by_cases hd : d = 1
      · subst hd; rw [cut_end]; simp
      · rw [cut_zero hd]; simp
  · rw [cut_no hc]; simpa using h

theorem prg_spl : ∀ (n : Nat) (s : List UInt8), s.length ≤ n → prg s = spl s
  | _, [], _ => by simp [prg, spl, cut_nil]
  | _, [b], _ => by simp [prg, spl, cut_one]
  | 0, _ :: _ :: _, h => by simp at h
  | n + 1, b :: c :: l, h => by
    have hl : (c :: l).length ≤ n := by simpa using h
    by_cases hb : b = 0
    · subst hb
      by_cases h1 : c = 1
      · subst h1
        simp [prg, spl, cut_end, count_nil, replaceAll, replace, replaceNum, replaceK]
      · by_cases h2 : c = 255
        · subst h2
          have ih := prg_spl n l (by simp at hl; omega)
          rw [spl, if_pos rfl, if_neg (by decide), if_pos rfl, ← ih]
          unfold prg
          rw [cut_zero (by decide), cut_no (by decide)]
          dsimp only
          rw [count0_cons, count0_cons, if_pos rfl, if_neg (show ¬ ((255 : UInt8) = 0) by decide), count1_yes, une_yes]
          by_cases hk : (cut l [0, 1]).2.2 = true ∧ count (cut l [0, 1]).1 [0] = count (cut l [0, 1]).1 [0, 255]
          · rw [if_pos hk, if_pos ⟨hk.1, by omega⟩]; rfl
          · rw [if_neg hk, if_neg (fun ⟨a, b⟩ => hk ⟨a, by omega⟩)]; rfl
        · rw [spl, if_pos rfl, if_neg h1, if_neg h2]
          unfold prg
          rw [cut_zero h1]
          dsimp only
          rw [count0_cons, if_pos rfl, count1_zero (cut_head c l h2)]
          have := count_le01 _ (cut (c :: l) [0, 1]).1 (Nat.le_refl _)
          rw [if_neg (fun ⟨_, b⟩ => by omega)]
    · have ih := prg_spl n (c :: l) hl
      rw [spl, if_neg hb, ← ih]
      unfold prg
      rw [cut_no hb]
      dsimp only
      rw [count0_cons, if_neg hb, count1_no hb, une_no hb, Nat.zero_add]
      by_cases hk : (cut (c :: l) [0, 1]).2.2 = true ∧ count (cut (c :: l) [0, 1]).1 [0] = count (cut (c :: l) [0, 1]).1 [0, 255]
      · rw [if_pos hk, if_pos hk]; rfl
      · rw [if_neg hk, if_neg hk]; rfl
theorem prg_eq (s : List UInt8) : prg s = spl s := prg_spl _ s (Nat.le_refl _)

/-! ### the order -/
theorem esc_len : ∀ s : List UInt8, (esc s).length ≤ 2 * s.length
  | [] => by simp [esc]
  | b :: l => by
    have := esc_len l
    rw [esc]
    split <;> simp <;> omega

theorem bl_head {a b : UInt8} {x y : List UInt8} : Op.bytesLess (a :: x) (b :: y) = (decide (a < b) || (a == b && Op.bytesLess x y)) := rfl
theorem bl_self {a : UInt8} {x y : List UInt8} : Op.bytesLess (a :: x) (a :: y) = Op.bytesLess x y := by
  rw [bl_head]; simp

/-- Joined texts stand as their parts. -/
theorem jn_less : ∀ a c b d : List UInt8, Op.bytesLess (jn a b) (jn c d) = (Op.bytesLess a c || (a == c && Op.bytesLess b d))
  | [], [], b, d => by
    simp only [jn, esc, List.nil_append, bl_self]
    simp [Op.bytesLess]
  | [], y :: c, b, d => by
    by_cases hy : y = 0
    · subst hy
      have e : jn (0 :: c) d = 0 :: 255 :: jn c d := by simp [jn, esc]
      rw [e]
      simp only [jn, esc, List.nil_append, bl_self]
      simp [Op.bytesLess]
    · have e : jn (y :: c) d = y :: jn c d := by simp [jn, esc, hy]
      rw [e]
      simp only [jn, esc, List.nil_append]
      have : (0 : UInt8) < y := by
        rcases UInt8.lt_or_lt_of_ne (Ne.symm hy) with h | h
        · exact h
        · exact absurd h (by simp)
      rw [bl_head]
      simp [Op.bytesLess, this]
  | x :: a, [], b, d => by
    by_cases hx : x = 0
    · subst hx
      have e : jn (0 :: a) b = 0 :: 255 :: jn a b := by simp [jn, esc]
      rw [e]
      simp only [jn, esc, List.nil_append, bl_self]
      simp [Op.bytesLess]
    · have e : jn (x :: a) b = x :: jn a b := by simp [jn, esc, hx]
      rw [e]
      simp only [jn, esc, List.nil_append]
      rw [bl_head]
      simp [Op.bytesLess, hx]
  | x :: a, y :: c, b, d => by
    have ih := jn_less a c b d
    by_cases hx : x = 0
    · subst hx
      have e : jn (0 :: a) b = 0 :: 255 :: jn a b := by simp [jn, esc]
      rw [e]
      by_cases hy : y = 0
      · subst hy
        have e2 : jn (0 :: c) d = 0 :: 255 :: jn c d := by simp [jn, esc]
        rw [e2, bl_self, bl_self, ih, bl_self]
        simp
      · have e2 : jn (y :: c) d = y :: jn c d := by simp [jn, esc, hy]
        have : (0 : UInt8) < y := by
          rcases UInt8.lt_or_lt_of_ne (Ne.symm hy) with h | h
          · exact h
          · exact absurd h (by simp)
        rw [e2, bl_head, bl_head]
        simp [this]
    · have e : jn (x :: a) b = x :: jn a b := by simp [jn, esc, hx]
      rw [e]
      by_cases hy : y = 0
      · subst hy
        have e2 : jn (0 :: c) d = 0 :: 255 :: jn c d := by simp [jn, esc]
        have hb : (x == (0 : UInt8)) = false := beq_eq_false_iff_ne.2 hx
        rw [e2, bl_head, bl_head, List.cons_beq_cons, hb]
        simp
      · have e2 : jn (y :: c) d = y :: jn c d := by simp [jn, esc, hy]
        rw [e2, bl_head, bl_head, ih]
        by_cases hxy : x = y
        · subst hxy; simp
        · have hb : (x == y) = false := beq_eq_false_iff_ne.2 hxy
          rw [List.cons_beq_cons, hb]; simp

theorem jn_inj {a b c d : List UInt8} (h : jn a b = jn c d) : a = c ∧ b = d := by
  have := spl_jn a b
  rw [h, spl_jn] at this
  simp only [Option.some.injEq, Prod.mk.injEq] at this
  exact ⟨this.1.symm, this.2.symm⟩
/-- Who begins with a front is of that second key. -/
theorem pre_jn (a s k : List UInt8) : (jn a []).isPrefixOf (jn s k) = true ↔ s = a := by
  constructor
  · intro h
    obtain ⟨t, ht⟩ := List.isPrefixOf_iff_prefix.1 h
    have e : jn a [] ++ t = jn a t := by simp [jn]
    rw [e] at ht
    exact (jn_inj ht).1.symm
  · rintro rfl
    exact List.isPrefixOf_iff_prefix.2 ⟨k, by simp [jn]⟩
theorem jn_front (a k : List UInt8) : jn a [] ++ k = jn a k := by simp [jn]
theorem bl_front : ∀ (x k : List UInt8), Op.bytesLess (x ++ k) x = false
  | [], [] => rfl
  | [], _ :: _ => rfl
  | a :: x, k => by
    rw [List.cons_append, bl_self]; exact bl_front x k
end Go.Proofs.YtdeljahdmdpdaaaDoor
