/- The reference's TakeSheet. -/
import Derived.Test.YtolfmgbkbmphkaaRefS
namespace Go.Proofs.Ytolfmgbkbmphkaa
open Go.RowKit

theorem numL_eq {l l' : List Int} (h1 : bytesOk l) (h2 : bytesOk l') (hl : 4 ≤ l.length) (hl' : 4 ≤ l'.length) : numL l = numL l' ↔ l.take 4 = l'.take 4 := by
  match l, hl, l', hl' with
  | a :: b :: c :: d :: r, _, a' :: b' :: c' :: d' :: r', _ =>
    have := h1 a (by simp); have := h1 b (by simp); have := h1 c (by simp); have := h1 d (by simp)
    have := h2 a' (by simp); have := h2 b' (by simp); have := h2 c' (by simp); have := h2 d' (by simp)
    simp only [numL, List.take_succ_cons, List.take_zero, List.cons.injEq, and_true]
    omega

theorem numL_take {l : List Int} (hl : 4 ≤ l.length) : numL (l.take 4) = numL l := by
  match l, hl with
  | a :: b :: c :: d :: r, _ => rfl

theorem numL_high {l : List Int} (h1 : bytesOk l) (hl : 4 ≤ l.length) : 2147483647 < numL l ↔ 127 < l[0] := by
  match l, hl with
  | a :: b :: c :: d :: r, _ =>
    have := h1 a (by simp); have := h1 b (by simp); have := h1 c (by simp); have := h1 d (by simp)
    simp only [numL, List.getElem_cons_zero]
    omega

theorem rtake_bad (w : World) (a b : Value) (la lb : List Int) (ha : SlK .u8 w a la) (hb : SlK .u8 w b lb) (hx : la.length ≠ 64 ∨ lb.length ≠ 64) : Calls Try.prog 29 #[a, b] w fun e w' => e = .returned (.tuple #[.int .i64 0, .slice none 0 0, .int .i64 1]) ∧ w' = w := by
  obtain ⟨p, cap, rfl, h1, h2, h3, h4⟩ := ha
  obtain ⟨q, cbp, rfl, i1, i2, i3, i4⟩ := hb
  clear h2 h3 h4 i2 i3 i4
  go_enter Try.func29, Try.ntmps29
  by_cases a1 : la.length = 64
  · have a2 : lb.length ≠ 64 := by omega
    have d1 : decide ((la.length : Int) = 64) = true := by simp; omega
    have a3 : ¬ ((lb.length : Int) = 64) := by omega
    go_wp2
    go_ret3
    constructor <;> first | rfl | trivial
  · have a3 : ¬ ((la.length : Int) = 64) := by omega
    go_wp2
    go_ret3
    constructor <;> first | rfl | trivial

section

variable (w : World) (a b : Value) (la lb : List Int) (ha : Pt w a la) (hb : Pt w b lb) (la4 : la.length = 64) (lb4 : lb.length = 64) (oka : bytesOk la) (okb : bytesOk lb)

include ha hb la4 lb4 oka okb

set_option maxHeartbeats 1000000 in
theorem rtake_torn (hx : numL la ≠ numL lb) : Calls Try.prog 29 #[a, b] w fun e w' => e = .returned (.tuple #[.int .i64 0, .slice none 0 0, .int .i64 3]) ∧ Below w.heap.size w w' := by
  have hne : bstr (la.take 4) ≠ bstr (lb.take 4) := fun e => hx ((numL_eq oka okb (by omega) (by omega)).2 (bstr_inj (ok_take oka 4) (ok_take okb 4) e))
  have hnb : ((bstr (la.take 4)).toList == (bstr (lb.take 4)).toList) = false := by
    rw [beq_eq_false_iff_ne, toList_eq, toList_eq]
    intro e
    exact hne (by rw [ByteArray.ext_iff]; exact Array.toList_inj.1 e)
  obtain ⟨p, off, cap, rfl, h1, h2, h3⟩ := id ha
  obtain ⟨q, ofb, cbp, rfl, i1, i2, i3⟩ := id hb
  have v1 := conv_drewN ((ha.pre (m := 4) (by omega)).slK (ok_take oka 4))
  have v2 := conv_drewN ((hb.pre (m := 4) (by omega)).slK (ok_take okb 4))
  rw [la4] at *
  rw [lb4] at *
  generalize bstr (la.take 4) = tx at *
  generalize bstr (lb.take 4) = ty at *
  have c1 : (4 : Int) ≤ (cap : Int) := by omega
  have c2 : (4 : Int) ≤ (cbp : Int) := by omega
  have c3 : 4 ≤ cap := by omega
  have c4 : 4 ≤ cbp := by omega
  clear h3 i3 ha hb
  go_enter Try.func29, Try.ntmps29
  go_wp2
  go_quiet (fail)
  go_wp2
  go_ret3
  exact ⟨rfl, below_drewN _ _ _⟩

set_option maxHeartbeats 1000000 in
theorem rtake_form (hx : numL la = numL lb) (hy : 2147483647 < numL la) : Calls Try.prog 29 #[a, b] w fun e w' => e = .returned (.tuple #[.int .i64 0, .slice none 0 0, .int .i64 4]) ∧ Below w.heap.size w w' := by
  have he := (numL_eq oka okb (by omega) (by omega)).1 hx
  have hh := (numL_high oka (by omega)).1 hy
  obtain ⟨p, off, cap, rfl, h1, h2, h3⟩ := id ha
  obtain ⟨q, ofb, cbp, rfl, i1, i2, i3⟩ := id hb
  have v1 := conv_drewN ((ha.pre (m := 4) (by omega)).slK (ok_take oka 4))
  have v2 := conv_drewN ((hb.pre (m := 4) (by omega)).slK (ok_take okb 4))
  rw [← he] at v2
  have x0 := h3 0 (by omega)
  rw [Nat.add_zero] at x0
  generalize la[0] = z at x0 hh
  rw [la4] at ha h1 ⊢
  rw [lb4] at hb i1 ⊢
  generalize bstr (la.take 4) = tx at *
  have c1 : (4 : Int) ≤ (cap : Int) := by omega
  have c2 : (4 : Int) ≤ (cbp : Int) := by omega
  have c3 : 4 ≤ cap := by omega
  have c4 : 4 ≤ cbp := by omega
  clear h3 i3 ha hb la4 lb4 oka okb hx he hy
  go_enter Try.func29, Try.ntmps29
  go_wp2
  go_quiet (fail)
  go_wp2
  go_ret3
  exact ⟨rfl, below_drewN _ _ _⟩

set_option maxRecDepth 100000 in
set_option maxHeartbeats 2000000 in
theorem rtake_ok (hx : numL la = numL lb) (hy : numL la < 2147483648) : Calls Try.prog 29 #[a, b] w fun e w' => ∃ v, e = .returned (.tuple #[.int .i64 (numL la), v, .int .i64 0]) ∧ w'.ownsRow w.heap.size 5 1 v 120 (byteV (la.drop 4 ++ lb.drop 4)) ∧ Below w.heap.size w w' := by
  obtain ⟨i, hi, hz0, hz1, hz2⟩ := info_parts infoU8
  have he := (numL_eq oka okb (by omega) (by omega)).1 hx
  have hh : ¬ 127 < la[0] := fun e => by have := (numL_high oka (by omega)).2 e; omega
  have ht := numL_take (l := la) (by omega)
  obtain ⟨p, off, cap, rfl, h1, h2, h3⟩ := id ha
  obtain ⟨q, ofb, cbp, rfl, i1, i2, i3⟩ := id hb
  have pa := ha.pre (m := 4) (by omega)
  have v1 := conv_drewN (pa.slK (ok_take oka 4))
  have v2 := conv_drewN ((hb.pre (m := 4) (by omega)).slK (ok_take okb 4))
  rw [← he] at v2
  have p1 := ha.tail4 la4
  have p2 := hb.tail4 lb4
  have ok4 := ok_take oka 4
  have l4 : (la.take 4).length = 4 := by simp; omega
  have m1 : (la.drop 4).length = 60 := by simp; omega
  have m2 : (lb.drop 4).length = 60 := by simp; omega
  have x0 := h3 0 (by omega)
  rw [Nat.add_zero] at x0
  generalize la[0] = z at x0 hh
  rw [← ht] at hy ⊢
  rw [la4] at ha h1 ⊢
  rw [lb4] at hb i1 ⊢
  generalize la.take 4 = l1 at *
  generalize la.drop 4 = l2 at *
  generalize lb.drop 4 = l3 at *
  have pa0 := pa
  generalize bstr l1 = tx at *
  have c1 : (4 : Int) ≤ (cap : Int) := by omega
  have c2 : (4 : Int) ≤ (cbp : Int) := by omega
  have c3 : 4 ≤ cap := by omega
  have c4 : 4 ≤ cbp := by omega
  have c5 : ¬ cap = 4 := by omega
  have c6 : ¬ cbp = 4 := by omega
  have c7 : (64 : Int) ≤ (cap : Int) := by omega
  have c8 : (64 : Int) ≤ (cbp : Int) := by omega
  clear h3 i3 ha hb la4 lb4 oka okb hx he ht
  have P1 := Lib.hid p1
  have P2 := Lib.hid p2
  have PA := Lib.hid pa
  clear p1 p2 pa pa0
  go_enter Try.func29, Try.ntmps29
  go_wp2
  go_quiet (fail)
  go_wp2
  have hb0 : Below w.heap.size w (w.drewN nq) := below_drewN _ _ _
  have hsz : (w.drewN nq).heap.size = w.heap.size := rfl
  generalize w.drewN nq = w1 at *
  have hS : ∀ W, Below w.heap.size w W → Calls Try.prog 43 #[.slice (some ⟨p, off, none⟩) 4 cap] W fun e w' => e = .returned (.int .i64 (numL l1)) ∧ w' = W := fun W hW => said_any W _ l1 (PA.out.below hW (Nat.le_refl _)) ok4 l4
  have T0 : Below w.heap.size w (w1.alloc (.cells #[] 5)) := hb0.alloc hb0.size _
  have O0 : (w1.alloc (.cells #[] 5)).ownsRow w.heap.size 5 1 (.slice (some ⟨w1.heap.size, 0, none⟩) 0 0) 0 [] := World.ownsRow_made w1 #[] 0 hb0.size (by unfold maxLen; omega) rfl
  have O0d : (w1.alloc (.cells #[] 5)).drew.ownsRow w.heap.size 5 1 (.slice (some ⟨w1.heap.size, 0, none⟩) 0 0) 0 [] := O0
  have O0e : (w1.drew.alloc (.cells #[] 5)).ownsRow w.heap.size 5 1 (.slice (some ⟨w1.heap.size, 0, none⟩) 0 0) 0 [] := O0
  have T0d := T0.drew
  have hz01 : w.heap.size ≤ w1.heap.size := hb0.size
  have HS := Lib.hid hS
  clear hS hsz
  go_region_law (first
    | (refine step_append_lies _ rfl (.tmp 32) (.tmp 34) 22 rfl w.heap.size 5 i (.int .u8 0) 1 1 Try.underlying22 hi hz0 hz1 hz2 rfl (by decide) (.slice (some ⟨g1, 0, none⟩) (0 + 60) cap1) 60 (byteV l2) rfl o2 ⟨q, ofb + 4, none⟩ 60 (cbp - 4) (byteV l3) rfl (by simp [byteV, m2]) (P2.out.below b2 (Nat.le_refl _)).news (byteV_one _) (by omega) (by unfold maxLen; omega) (by omega) b2.size _ rfl ?_; intro g2 cap2 w6 o4 r4 p4 p4')
    | (go_simp; go_at_call 43; refine (HS.out _ (by first | exact hb0 | exact hb0.drew | exact T0 | exact T0.drew)).mono ?_; rintro e w4 ⟨rfl, rfl⟩)
    | (refine step_append_lies _ rfl (.tmp 29) (.tmp 31) 22 rfl w.heap.size 5 i (.int .u8 0) 1 1 Try.underlying22 hi hz0 hz1 hz2 rfl (by decide) (.slice (some ⟨w1.heap.size, 0, none⟩) 0 0) 0 [] rfl O0d ⟨p, off + 4, none⟩ 60 (cap - 4) (byteV l2) rfl (by simp [byteV, m1]) (P1.out.below T0d (Nat.le_refl _)).news (byteV_one _) (by omega) (by unfold maxLen; omega) (by omega) T0d.size _ rfl ?_; intro g1 cap1 w5 o2 r2 p2 p2'; have b2 := T0d.grown r2 T0d.size (fun k hk => by cases hk; exact hz01))
    | (refine step_append_lies _ rfl (.tmp 29) (.tmp 31) 22 rfl w.heap.size 5 i (.int .u8 0) 1 1 Try.underlying22 hi hz0 hz1 hz2 rfl (by decide) (.slice (some ⟨w1.heap.size, 0, none⟩) 0 0) 0 [] rfl O0 ⟨p, off + 4, none⟩ 60 (cap - 4) (byteV l2) rfl (by simp [byteV, m1]) (P1.out.below T0 (Nat.le_refl _)).news (byteV_one _) (by omega) (by unfold maxLen; omega) (by omega) T0.size _ rfl ?_; intro g1 cap1 w5 o2 r2 p2 p2'; have b2 := T0.grown r2 T0.size (fun k hk => by cases hk; exact hz01)))
  all_goals (go_wp2; go_ret3)
  all_goals rw [show byteV (l2 ++ l3) = byteV l2 ++ byteV l3 by simp [byteV]]
  all_goals exact ⟨_, rfl, o4, b2.grown r4 b2.size (fun k hk => by cases hk; exact (o2.lt g1 rfl).1)⟩

end

end Go.Proofs.Ytolfmgbkbmphkaa
