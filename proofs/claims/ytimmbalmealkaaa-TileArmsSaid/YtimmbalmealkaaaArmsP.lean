/- TileArms, plainly: what the disk is after so many writes. -/
import Derived.Test.YtimmbalmealkaaaArm
import Derived.Test.YtimmbalmealkaaaFull
namespace Go.Proofs.Ytimmbalmealkaaa
open Go.RowKit Go.Maps

def ints (n : Nat) : List Int := (List.range n).map Int.ofNat
theorem ints_len (n : Nat) : (ints n).length = n := by simp [ints]
theorem ints_get {n j : Nat} (h : j < n) : (ints n)[j]? = some (j : Int) := by simp [ints, h]
theorem ints_sorted (n : Nat) : (ints n).Pairwise (· < ·) := by
  unfold ints
  refine List.pairwise_map.2 (List.pairwise_lt_range.imp fun {a b} h => ?_)
  exact Int.ofNat_lt.2 h
theorem ints_mem (n : Nat) (x : Int) : x ∈ ints n ↔ 0 ≤ x ∧ x < n := by
  unfold ints
  rw [List.mem_map]
  constructor
  · rintro ⟨a, ha, rfl⟩
    have := List.mem_range.1 ha
    exact ⟨Int.natCast_nonneg _, Int.ofNat_lt.2 this⟩
  · rintro ⟨h0, h1⟩
    exact ⟨x.toNat, List.mem_range.2 (by omega), Int.toNat_of_nonneg h0⟩

/-- What the loop of Crash leaves at a key. -/
theorem crash_at (d : Dk) (ms ls : List Int) (hs : ls.Pairwise (· < ·)) : ∀ n, (∀ x, x ∉ ls → crashNow d ms ls n x = d.now x) ∧
    ∀ r x, ls[r]? = some x → crashNow d ms ls n x = if r < n ∧ bitOf ms r = false then some ((d.old x).getD zb) else d.now x
  | 0 => ⟨fun _ _ => rfl, fun r x _ => by rw [if_neg (by omega)]; rfl⟩
  | n + 1 => by
    obtain ⟨h1, h2⟩ := crash_at d ms ls hs n
    unfold crashNow
    cases hn : ls[n]? with
    | none =>
      refine ⟨h1, fun r x hr => ?_⟩
      have hrn : r < n := by
        have a := (List.getElem?_eq_some_iff.1 hr).1
        have b := List.getElem?_eq_none_iff.1 hn
        omega
      show crashNow d ms ls n x = _
      rw [h2 r x hr]
      simp only [hrn, show r < n + 1 by omega]
    | some k =>
      simp only
      by_cases hb : bitOf ms n = true
      · rw [if_pos hb]
        refine ⟨h1, fun r x hr => ?_⟩
        rw [h2 r x hr]
        by_cases e : r = n
        · subst e; rw [if_neg (by omega), if_neg (by rw [hb]; simp)]
        · by_cases hlt : r < n
          · simp only [hlt, show r < n + 1 by omega]
          · rw [if_neg (by omega), if_neg (by omega)]
      · rw [if_neg hb]
        have hbf : bitOf ms n = false := by simpa using hb
        have hk : k ∈ ls := List.mem_of_getElem? hn
        refine ⟨fun x hx => ?_, fun r x hr => ?_⟩
        · rw [upd_other _ (by rintro rfl; exact hx hk)]; exact h1 x hx
        · by_cases e : r = n
          · subst e
            rw [hn] at hr; cases hr
            rw [upd_same, if_pos ⟨by omega, hbf⟩]
          · have hne : x ≠ k := by
              rintro rfl
              obtain ⟨a1, a2⟩ := List.getElem?_eq_some_iff.1 hr
              obtain ⟨b1, b2⟩ := List.getElem?_eq_some_iff.1 hn
              have hp := List.pairwise_iff_getElem.1 hs
              rcases Nat.lt_or_ge r n with hl | hl
              · have := hp r n a1 b1 hl; omega
              · have := hp n r b1 a1 (by omega); omega
            rw [upd_other _ hne, h2 r x hr]
            by_cases hlt : r < n
            · simp only [hlt, show r < n + 1 by omega]
            · rw [if_neg (by omega), if_neg (by omega)]

def oneB : Value := blkOf (rep 1)

def sA (mv : Value) (m : Int) (k : Nat) : Nat → Dk
  | 0 => (Dk.fresh 8).armed k mv [m]
  | j + 1 => ((sA mv m k j).store j oneB).later

theorem sA_is (mv : Value) (m : Int) (k : Nat) : ∀ j, (sA mv m k j).tiles = 8 ∧ (sA mv m k j).dead = false ∧ (sA mv m k j).set = true ∧ (sA mv m k j).left = (k : Int) - j ∧ (sA mv m k j).mask = [m] ∧
    (∀ x, (sA mv m k j).now x = if 0 ≤ x ∧ x < j then some oneB else none) ∧ (∀ x, (sA mv m k j).old x = if 0 ≤ x ∧ x < j then some zb else none)
  | 0 => ⟨rfl, rfl, rfl, by show (k : Int) = _; omega, rfl, fun x => by rw [if_neg (by omega)]; rfl, fun x => by rw [if_neg (by omega)]; rfl⟩
  | j + 1 => by
    obtain ⟨h1, h2, h3, h4, h5, h6, h7⟩ := sA_is mv m k j
    refine ⟨h1, h2, h3, ?_, h5, fun x => ?_, fun x => ?_⟩
    · show (sA mv m k j).left - 1 = _
      rw [h4]; omega
    · show upd (sA mv m k j).now j (some oneB) x = _
      by_cases e : x = j
      · subst e; rw [upd_same, if_pos (by omega)]
      · rw [upd_other _ e, h6]
        by_cases hx : 0 ≤ x ∧ x < j
        · rw [if_pos hx, if_pos (by omega)]
        · rw [if_neg hx, if_neg (by omega)]
    · show ((sA mv m k j).store j oneB).old x = _
      rw [store_old_at, h7]
      by_cases hx : 0 ≤ x ∧ x < j
      · rw [if_pos hx, if_pos (by rfl), if_pos (by omega)]
      · rw [if_neg hx]
        rw [if_neg (by simp)]
        by_cases e : x = j
        · subst e; rw [if_pos rfl, if_pos (by omega), h6, if_neg (by omega)]; rfl
        · rw [if_neg e, if_neg (by omega)]

def sK (mv : Value) (m : Int) (k : Nat) : Dk := (sA mv m k k).store k oneB
def sC (mv : Value) (m : Int) (k : Nat) : Dk := (sK mv m k).crashed (crashNow (sK mv m k) [m] (ints (k + 1)) (k + 1))

theorem sK_now (mv : Value) (m : Int) (k : Nat) (x : Int) : (sK mv m k).now x = if 0 ≤ x ∧ x ≤ k then some oneB else none := by
  show (sA mv m k (k + 1)).now x = _
  rw [(sA_is mv m k (k + 1)).2.2.2.2.2.1]
  by_cases h : 0 ≤ x ∧ x ≤ k
  · rw [if_pos h, if_pos (by omega)]
  · rw [if_neg h, if_neg (by omega)]
theorem sK_old (mv : Value) (m : Int) (k : Nat) (x : Int) : (sK mv m k).old x = if 0 ≤ x ∧ x ≤ k then some zb else none := by
  show (sA mv m k (k + 1)).old x = _
  rw [(sA_is mv m k (k + 1)).2.2.2.2.2.2]
  by_cases h : 0 ≤ x ∧ x ≤ k
  · rw [if_pos h, if_pos (by omega)]
  · rw [if_neg h, if_neg (by omega)]

theorem sK_crash {mv : Value} {m : Int} {k : Nat} {d' : Dk} (h : Crashes (sK mv m k) [m] d') : d' = sC mv m k := by
  obtain ⟨ls, hl, rfl⟩ := h
  obtain rfl : ls = ints (k + 1) := by
    refine sorted_ext hl.1 (ints_sorted _) fun x => ?_
    rw [hl.2 x, sK_old, ints_mem]
    by_cases hx : 0 ≤ x ∧ x ≤ k
    · rw [if_pos hx]; simp; omega
    · rw [if_neg hx]; simp; omega
  unfold sC
  rw [ints_len]

theorem sC_now (mv : Value) (m : Int) (k i : Nat) : ((sC mv m k).now i).getD zb = if i ≤ k ∧ bitOf [m] i = true then oneB else zb := by
  show ((crashNow (sK mv m k) [m] (ints (k + 1)) (k + 1)) i).getD zb = _
  obtain ⟨h1, h2⟩ := crash_at (sK mv m k) [m] (ints (k + 1)) (ints_sorted _) (k + 1)
  by_cases hi : i ≤ k
  · rw [h2 i i (ints_get (by omega)), sK_old, sK_now, if_pos (show (0 : Int) ≤ i ∧ (i : Int) ≤ k by omega), if_pos (show (0 : Int) ≤ i ∧ (i : Int) ≤ k by omega)]
    cases hb : bitOf [m] i
    · rw [if_pos ⟨by omega, rfl⟩, if_neg (by simp)]; rfl
    · rw [if_neg (by simp), if_pos ⟨hi, rfl⟩]; rfl
  · rw [h1 i (by rw [ints_mem]; omega), sK_now, if_neg (by omega), if_neg (by omega)]; rfl

def sT (mv : Value) (m : Int) (k j : Nat) : Dk := if j ≤ k then sA mv m k j else sC mv m k
end Go.Proofs.Ytimmbalmealkaaa
