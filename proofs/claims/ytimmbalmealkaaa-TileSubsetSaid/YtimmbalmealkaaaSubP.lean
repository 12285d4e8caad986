/- TileSubset, plainly. -/
import Derived.Test.YtimmbalmealkaaaState
import Derived.Test.YtimmbalmealkaaaArmsP
namespace Go.Proofs.Ytimmbalmealkaaa
open Go.RowKit Go.Maps

theorem bits_u8 (a : Nat) (ha : a < 256) : bits .and .u8 (a : Int) 1 = ((a % 2 : Nat) : Int) := by
  have h1 : (BitVec.ofInt 8 (a : Int)).toNat = a := by
    rw [BitVec.ofInt_natCast, BitVec.toNat_ofNat]; exact Nat.mod_eq_of_lt (by omega)
  show IntKind.u8.wrap ((BitVec.ofInt 8 (a : Int) &&& BitVec.ofInt 8 1).toNat : Int) = _
  rw [BitVec.toNat_and, h1, show (BitVec.ofInt 8 1).toNat = 1 from rfl, Nat.and_one_is_mod, IntKind.wrap_u8]
  omega
theorem bits_u16 (a : Nat) (ha : a < 65536) : bits .and .u16 (a : Int) 1 = ((a % 2 : Nat) : Int) := by
  have h1 : (BitVec.ofInt 16 (a : Int)).toNat = a := by
    rw [BitVec.ofInt_natCast, BitVec.toNat_ofNat]; exact Nat.mod_eq_of_lt (by omega)
  show IntKind.u16.wrap ((BitVec.ofInt 16 (a : Int) &&& BitVec.ofInt 16 1).toNat : Int) = _
  rw [BitVec.toNat_and, h1, show (BitVec.ofInt 16 1).toNat = 1 from rfl, Nat.and_one_is_mod]
  exact IntWalk.u16_in _ (by omega)

theorem pow_pos2 (n : Nat) : 0 < 2 ^ n := Nat.pow_pos (by omega)
theorem div_le_self' (a n : Nat) : a / 2 ^ n ≤ a := Nat.div_le_self _ _
theorem cast_div (a n : Nat) : ((a : Int) / 2 ^ n) = ((a / 2 ^ n : Nat) : Int) := by simp

/-- The two bytes of a mask have its bits. -/
theorem bit_16 (m : Nat) (hm : m < 65536) (n : Nat) (hn : n < 10) : bitOf [(m : Int) % 256, (m : Int) / 256] n = (bits .and .u16 ((m : Int) / 2 ^ n) 1 == 1) := by
  have e2 := bits_u16 (m / 2 ^ n) (by have := div_le_self' m n; omega)
  rw [cast_div, e2]
  unfold bitOf
  have a0 : ((m : Int) % 256) = ((m % 256 : Nat) : Int) := by omega
  have a1 : ((m : Int) / 256) = ((m / 256 : Nat) : Int) := by omega
  rw [a0, a1]
  by_cases h : n < 8
  · rw [show n / 8 = 0 by omega, show n % 8 = n by omega]
    show (bits BinOp.and IntKind.u8 (((m % 256 : Nat) : Int) / 2 ^ n) 1 == 1) = _
    rw [cast_div, bits_u8 _ (by have := div_le_self' (m % 256) n; omega)]
    have e : (m % 256 / 2 ^ n) % 2 = (m / 2 ^ n) % 2 := by
      match n, h with
      | 0, _ => simp only [Nat.reducePow]; omega
      | 1, _ => simp only [Nat.reducePow]; omega
      | 2, _ => simp only [Nat.reducePow]; omega
      | 3, _ => simp only [Nat.reducePow]; omega
      | 4, _ => simp only [Nat.reducePow]; omega
      | 5, _ => simp only [Nat.reducePow]; omega
      | 6, _ => simp only [Nat.reducePow]; omega
      | 7, _ => simp only [Nat.reducePow]; omega
    rw [e]
  · rw [show n / 8 = 1 by omega]
    show (bits BinOp.and IntKind.u8 (((m / 256 : Nat) : Int) / 2 ^ (n % 8)) 1 == 1) = _
    rw [cast_div, bits_u8 _ (by have := div_le_self' (m / 256) (n % 8); omega)]
    have e : (m / 256 / 2 ^ (n % 8)) % 2 = (m / 2 ^ n) % 2 := by
      rcases (show n = 8 ∨ n = 9 by omega) with rfl | rfl
      · simp only [Nat.reducePow, Nat.reduceMod]; omega
      · simp only [Nat.reducePow, Nat.reduceMod]; omega
    rw [e]

/-! ### which tiles are loose, in order -/
def isLo (lo : List Bool) (i : Nat) : Bool := lo[i]?.getD false
def rank (lo : List Bool) (i : Nat) : Nat := ((List.range i).filter (isLo lo)).length
def looseL (lo : List Bool) : List Int := ((List.range lo.length).filter (isLo lo)).map Int.ofNat

theorem rank_succ (lo : List Bool) (i : Nat) : rank lo (i + 1) = rank lo i + (if isLo lo i = true then 1 else 0) := by
  unfold rank
  rw [List.range_succ, List.filter_append, List.length_append]
  by_cases h : isLo lo i = true
  · simp [h]
  · simp [h]
theorem rank_le (lo : List Bool) (i : Nat) : rank lo i ≤ i := by
  have := List.length_filter_le (isLo lo) (List.range i)
  simpa [rank] using this

theorem at_rank (lo : List Bool) {i : Nat} (hi : i < lo.length) (h : isLo lo i = true) : (looseL lo)[rank lo i]? = some (i : Int) := by
  have e : List.range lo.length = List.range i ++ (i :: (List.range (lo.length - i - 1)).map (fun x => x + (i + 1))) := by
    obtain ⟨m, hm⟩ : ∃ m, lo.length = i + (m + 1) := ⟨lo.length - i - 1, by omega⟩
    rw [hm, List.range_add, List.range_succ_eq_map, show i + (m + 1) - i - 1 = m by omega]
    simp [List.map_map, Function.comp_def]
    intro a _
    omega
  unfold looseL
  rw [e, List.filter_append, List.filter_cons_of_pos h, List.map_append, List.map_cons, List.getElem?_append_right (by simp [rank])]
  simp [rank]

theorem looseL_mem (lo : List Bool) (x : Int) : x ∈ looseL lo ↔ 0 ≤ x ∧ isLo lo x.toNat = true := by
  unfold looseL
  rw [List.mem_map]
  constructor
  · rintro ⟨a, ha, rfl⟩
    exact ⟨Int.natCast_nonneg _, (List.mem_filter.1 ha).2⟩
  · rintro ⟨h0, h1⟩
    refine ⟨x.toNat, List.mem_filter.2 ⟨List.mem_range.2 ?_, h1⟩, Int.toNat_of_nonneg h0⟩
    unfold isLo at h1
    cases hh : lo[x.toNat]? with
    | none => rw [hh] at h1; cases h1
    | some b => exact (List.getElem?_eq_some_iff.1 hh).1

theorem looseL_sorted (lo : List Bool) : (looseL lo).Pairwise (· < ·) := by
  unfold looseL
  refine List.pairwise_map.2 ((List.Pairwise.filter _ List.pairwise_lt_range).imp fun {a b} h => ?_)
  exact Int.ofNat_lt.2 h

/-- What the disk has of the time before. -/
def Had (d : Dk) (was : List Int) (lo : List Bool) : Prop := ∀ x : Int, d.old x = if 0 ≤ x ∧ isLo lo x.toNat = true then some (blkOf (rep (was[x.toNat]?.getD 0))) else none
def Same (was now : List Int) (lo : List Bool) : Prop := ∀ i : Nat, isLo lo i = false → now[i]? = was[i]?

theorem had_none (d : Dk) (was : List Int) (n : Nat) : Had d.synced was (List.replicate n false) := by
  intro x
  rw [if_neg]
  · rfl
  · rintro ⟨_, h⟩
    unfold isLo at h
    rw [List.getElem?_replicate] at h
    split at h <;> cases h

theorem isLo_set (lo : List Bool) {k : Nat} (hk : k < lo.length) (i : Nat) : isLo (lo.set k true) i = (decide (i = k) || isLo lo i) := by
  unfold isLo
  rw [List.getElem?_set]
  by_cases e : k = i
  · subst e; simp [hk]
  · rw [if_neg e]; simp [show ¬ i = k from fun h => e h.symm]

theorem had_step {d : Dk} {was now : List Int} {lo : List Bool} (h : Had d was lo) (hs : Says d now) (hS : Same was now lo) {k : Nat} (hk : k < lo.length) (hkn : k < now.length) (v : Value) : Had (d.store k v) was (lo.set k true) := by
  intro x
  rw [store_old_at]
  by_cases hA : 0 ≤ x ∧ isLo lo x.toNat = true
  · have hx := h x
    rw [if_pos hA] at hx
    rw [hx, if_pos (by rfl), if_pos ⟨hA.1, by rw [isLo_set lo hk, hA.2]; simp⟩]
  · have hx := h x
    rw [if_neg hA] at hx
    rw [hx, if_neg (by simp)]
    by_cases e : x = k
    · subst e
      have hl : isLo lo k = false := by
        cases hh : isLo lo k with
        | false => rfl
        | true => exact absurd ⟨by omega, by simpa using hh⟩ hA
      rw [if_pos rfl, if_pos ⟨by omega, by rw [isLo_set lo hk]; simp⟩]
      have h1 := hs k hkn
      have h2 := hS k hl
      rw [List.getElem?_eq_getElem hkn] at h2
      rw [h1, Int.toNat_natCast, ← h2]
      rfl
    · rw [if_neg e, if_neg]
      rintro ⟨h0, h1⟩
      rw [isLo_set lo hk] at h1
      simp at h1
      rcases h1 with h1 | h1
      · omega
      · exact hA ⟨h0, h1⟩

theorem same_step {was now : List Int} {lo : List Bool} (h : Same was now lo) {k : Nat} (hk : k < lo.length) (c : Int) : Same was (now.set k c) (lo.set k true) := by
  intro i hi
  rw [isLo_set lo hk] at hi
  simp at hi
  rw [List.getElem?_set, if_neg (fun e => hi.1 e.symm)]
  exact h i hi.2

theorem subset_crash {d d' : Dk} {was : List Int} {lo : List Bool} {ms : List Int} (h : Had d was lo) (hc : Crashes d ms d') : d' = d.crashed (crashNow d ms (looseL lo) (looseL lo).length) := by
  obtain ⟨ls, hl, rfl⟩ := hc
  obtain rfl : ls = looseL lo := by
    refine sorted_ext hl.1 (looseL_sorted lo) fun x => ?_
    rw [hl.2 x, h x, looseL_mem]
    by_cases hx : 0 ≤ x ∧ isLo lo x.toNat = true
    · rw [if_pos hx]; simp [hx]
    · rw [if_neg hx]; simp; intro h0; simpa [h0] using hx
  rfl

theorem subset_now {d : Dk} {was now : List Int} {lo : List Bool} {ms : List Int} (h : Had d was lo) (hs : Says d now) (hS : Same was now lo) (hw : was.length = 10) (hn : now.length = 10) (hl : lo.length = 10) {i : Nat} (hi : i < 10) :
    ((d.crashed (crashNow d ms (looseL lo) (looseL lo).length)).now i).getD zb = blkOf (rep (if isLo lo i = true ∧ bitOf ms (rank lo i) = true then now[i] else was[i])) := by
  show ((crashNow d ms (looseL lo) (looseL lo).length) i).getD zb = _
  obtain ⟨h1, h2⟩ := crash_at d ms (looseL lo) (looseL_sorted lo) (looseL lo).length
  by_cases hlo : isLo lo i = true
  · have hr := at_rank lo (by omega) hlo
    rw [h2 _ _ hr]
    have hlt := (List.getElem?_eq_some_iff.1 hr).1
    cases hb : bitOf ms (rank lo i)
    · rw [if_pos ⟨hlt, rfl⟩, if_neg (by simp), h i, if_pos ⟨by omega, by simpa using hlo⟩]
      simp [hw, hi]
    · rw [if_neg (by simp), if_pos ⟨hlo, rfl⟩]
      exact hs i (by omega)
  · rw [h1 i (by rw [looseL_mem]; simp [hlo]), if_neg (fun e => hlo e.1)]
    have h3 := hS i (by simpa using hlo)
    rw [List.getElem?_eq_getElem (by omega), List.getElem?_eq_getElem (by omega)] at h3
    rw [hs i (by omega), Option.some.inj h3]
end Go.Proofs.Ytimmbalmealkaaa
