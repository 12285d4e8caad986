/- Program and reference, each by the same words. -/
import Derived.Test.YtolfmgbkbmphkaaRefT
namespace Go.Proofs.Ytolfmgbkbmphkaa
open Go.RowKit

def PBad (n : Int) (l : List Int) : Prop := n < 0 ∨ 2147483647 < n ∨ 120 < l.length
instance (n : Int) (l : List Int) : Decidable (PBad n l) := by unfold PBad; infer_instance
def pE (n : Int) (l : List Int) : Int := if PBad n l then 1 else 0
def pA (n : Int) (l : List Int) : List Int := if PBad n l then [] else tileL n (l.take 60)
def pB (n : Int) (l : List Int) : List Int := if PBad n l then [] else tileL n (l.drop 60)

theorem ref_bad (w : World) (n : Int) (v : Value) (l : List Int) (h : SlK .u8 w v l) (hx : PBad n l) : Calls Try.prog 23 #[.int .i64 n, v] w fun e w' => e = .returned (.tuple #[.slice none 0 0, .slice none 0 0, .int .i64 1]) ∧ w' = w := by
  obtain ⟨p, cap, rfl, h1, h2, h3, h4⟩ := h
  clear h2 h3 h4
  have hx0 : n < 0 ∨ 2147483647 < n ∨ 120 < l.length := hx
  clear hx
  go_enter Try.func23, Try.ntmps23
  by_cases a1 : n < 0
  · go_wp2
    go_ret3
    constructor <;> first | rfl | trivial
  · have d1 : decide (n < 0) = false := by simpa using a1
    by_cases a2 : 2147483647 < n
    · go_wp2
      go_ret3
      constructor <;> first | rfl | trivial
    · have d2 : decide (2147483647 < n) = false := by simpa using a2
      have a3 : 120 < l.length := by omega
      go_wp2
      go_ret3
      constructor <;> first | rfl | trivial

theorem put_P (w : World) (n : Int) (v : Value) (l : List Int) (h : SlK .u8 w v l) : Calls Try.prog 22 #[.int .i64 n, v] w fun e w' => ∃ va vb, e = .returned (.tuple #[va, vb, .int .i64 (pE n l)]) ∧ SlK .u8 w' va (pA n l) ∧ SlK .u8 w' vb (pB n l) ∧ Below w.heap.size w w' := by
  by_cases hx : PBad n l
  · refine (put_bad w n v l h hx).mono ?_
    rintro e w' ⟨rfl, rfl⟩
    unfold pE pA pB
    rw [if_pos hx, if_pos hx, if_pos hx]
    exact ⟨_, _, rfl, slK_nil _, slK_nil _, Below.refl _ _⟩
  · have hx' : ¬ (n < 0 ∨ 2147483647 < n ∨ 120 < l.length) := hx
    have hok := h.ok
    refine (put_ok w n (by omega) (by omega) v l h (by omega)).mono ?_
    rintro e w' ⟨ga, gb, rfl, _, _, hb, ka, kb⟩
    unfold pE pA pB
    rw [if_neg hx, if_neg hx, if_neg hx]
    exact ⟨_, _, rfl, (ka.pt (by rw [tile_len _ (by simp; omega)]) (by omega)).slK (tile_ok (by omega) (by omega) (ok_take hok _)), (kb.pt (by rw [tile_len _ (by simp; omega)]) (by omega)).slK (tile_ok (by omega) (by omega) (ok_drop hok _)), hb⟩

theorem ref_P (w : World) (n : Int) (v : Value) (l : List Int) (h : SlK .u8 w v l) : Calls Try.prog 23 #[.int .i64 n, v] w fun e w' => ∃ va vb, e = .returned (.tuple #[va, vb, .int .i64 (pE n l)]) ∧ SlK .u8 w' va (pA n l) ∧ SlK .u8 w' vb (pB n l) ∧ Below w.heap.size w w' := by
  by_cases hx : PBad n l
  · refine (ref_bad w n v l h hx).mono ?_
    rintro e w' ⟨rfl, rfl⟩
    unfold pE pA pB
    rw [if_pos hx, if_pos hx, if_pos hx]
    exact ⟨_, _, rfl, slK_nil _, slK_nil _, Below.refl _ _⟩
  · have hx' : ¬ (n < 0 ∨ 2147483647 < n ∨ 120 < l.length) := hx
    refine (ref_ok w n (by omega) (by omega) v l h (by omega)).mono ?_
    rintro e w' ⟨va, vb, rfl, ka, kb, hb⟩
    unfold pE pA pB
    rw [if_neg hx, if_neg hx, if_neg hx]
    exact ⟨_, _, rfl, ka, kb, hb⟩

def tE (la lb : List Int) : Int := if la.length = 64 ∧ lb.length = 64 then (if numL la = numL lb then (if 2147483647 < numL la then 4 else 0) else 3) else 1
def tK (la lb : List Int) : Int := if tE la lb = 0 then numL la else 0
def tL (la lb : List Int) : List Int := if tE la lb = 0 then la.drop 4 ++ lb.drop 4 else []

section
variable (w : World) (a b : Value) (la lb : List Int) (ha : SlK .u8 w a la) (hb : SlK .u8 w b lb)
include ha hb
theorem take_T : Calls Try.prog 24 #[a, b] w fun e w' => ∃ v, e = .returned (.tuple #[.int .i64 (tK la lb), v, .int .i64 (tE la lb)]) ∧ SlK .u8 w' v (tL la lb) ∧ Below w.heap.size w w' := by
  have oka := ha.ok
  have okb := hb.ok
  by_cases hl : la.length = 64 ∧ lb.length = 64
  · have pa := ha.pt (by intro e; rw [e] at hl; simp at hl)
    have pb := hb.pt (by intro e; rw [e] at hl; simp at hl)
    by_cases hx : numL la = numL lb
    · by_cases hy : 2147483647 < numL la
      · have e : tE la lb = 4 := by unfold tE; rw [if_pos hl, if_pos hx, if_pos hy]
        refine (take_form w _ _ _ _ pa pb hl.1 hl.2 oka okb hx hy).mono ?_
        rintro e' w' ⟨rfl, rfl⟩
        exact ⟨_, by unfold tK; rw [e]; rfl, by unfold tL; rw [e]; exact slK_nil _, Below.refl _ _⟩
      · have e : tE la lb = 0 := by unfold tE; rw [if_pos hl, if_pos hx, if_neg hy]
        refine (take_ok w _ _ _ _ pa pb hl.1 hl.2 oka okb hx (by omega)).mono ?_
        rintro e' w' ⟨v, rfl, ho, hb⟩
        refine ⟨v, by unfold tK; rw [e]; rfl, ?_, hb⟩
        unfold tL; rw [e]
        exact own_slK ho (fun x hx => by rcases List.mem_append.1 hx with h | h; exact ok_drop oka 4 x h; exact ok_drop okb 4 x h)
    · have e : tE la lb = 3 := by unfold tE; rw [if_pos hl, if_neg hx]
      refine (take_torn w _ _ _ _ pa pb hl.1 hl.2 oka okb hx).mono ?_
      rintro e' w' ⟨rfl, rfl⟩
      exact ⟨_, by unfold tK; rw [e]; rfl, by unfold tL; rw [e]; exact slK_nil _, Below.refl _ _⟩
  · have e : tE la lb = 1 := by unfold tE; rw [if_neg hl]
    refine (take_bad w _ _ _ _ ha hb (by omega)).mono ?_
    rintro e' w' ⟨rfl, rfl⟩
    exact ⟨_, by unfold tK; rw [e]; rfl, by unfold tL; rw [e]; exact slK_nil _, Below.refl _ _⟩

theorem rtake_T : Calls Try.prog 29 #[a, b] w fun e w' => ∃ v, e = .returned (.tuple #[.int .i64 (tK la lb), v, .int .i64 (tE la lb)]) ∧ SlK .u8 w' v (tL la lb) ∧ Below w.heap.size w w' := by
  have oka := ha.ok
  have okb := hb.ok
  by_cases hl : la.length = 64 ∧ lb.length = 64
  · have pa := ha.pt (by intro e; rw [e] at hl; simp at hl)
    have pb := hb.pt (by intro e; rw [e] at hl; simp at hl)
    by_cases hx : numL la = numL lb
    · by_cases hy : 2147483647 < numL la
      · have e : tE la lb = 4 := by unfold tE; rw [if_pos hl, if_pos hx, if_pos hy]
        refine (rtake_form w _ _ _ _ pa pb hl.1 hl.2 oka okb hx hy).mono ?_
        rintro e' w' ⟨rfl, hb⟩
        exact ⟨_, by unfold tK; rw [e]; rfl, by unfold tL; rw [e]; exact slK_nil _, hb⟩
      · have e : tE la lb = 0 := by unfold tE; rw [if_pos hl, if_pos hx, if_neg hy]
        refine (rtake_ok w _ _ _ _ pa pb hl.1 hl.2 oka okb hx (by omega)).mono ?_
        rintro e' w' ⟨v, rfl, ho, hb⟩
        refine ⟨v, by unfold tK; rw [e]; rfl, ?_, hb⟩
        unfold tL; rw [e]
        exact own_slK ho (fun x hx => by rcases List.mem_append.1 hx with h | h; exact ok_drop oka 4 x h; exact ok_drop okb 4 x h)
    · have e : tE la lb = 3 := by unfold tE; rw [if_pos hl, if_neg hx]
      refine (rtake_torn w _ _ _ _ pa pb hl.1 hl.2 oka okb hx).mono ?_
      rintro e' w' ⟨rfl, hb⟩
      exact ⟨_, by unfold tK; rw [e]; rfl, by unfold tL; rw [e]; exact slK_nil _, hb⟩
  · have e : tE la lb = 1 := by unfold tE; rw [if_neg hl]
    refine (rtake_bad w _ _ _ _ ha hb (by omega)).mono ?_
    rintro e' w' ⟨rfl, rfl⟩
    exact ⟨_, by unfold tK; rw [e]; rfl, by unfold tL; rw [e]; exact slK_nil _, Below.refl _ _⟩
end
end Go.Proofs.Ytolfmgbkbmphkaa
