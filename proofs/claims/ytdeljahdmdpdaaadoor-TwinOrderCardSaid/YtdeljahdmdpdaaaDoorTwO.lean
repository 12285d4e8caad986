/- The order of joined texts: the law walked. -/
import Derived.Test.YtdeljahdmdpdaaaDoorTwG
import Derived.Laws.Cover1
namespace Go.Proofs.YtdeljahdmdpdaaaDoor
open Go.RowKit Go.Lib

/-- What the law asks, of any lists for which these tests say so. -/
structure Ord (a b c d : List UInt8) (r1 r2 r3 r4 r5 : Bool) : Prop where
  h1 : Op.bytesLess a c = r1
  h2 : (a == c) = r2
  h3 : Op.bytesLess b d = r3
  h4 : (b == d) = r4
  x1 : Op.bytesLess (jn a b) (jn c d) = (r1 || (r2 && r3))
  x2 : (jn a b == jn c d) = (r2 && r4)
  x3 : Op.bytesLess (jn a []) (jn a b) = r5
  x6 : (jn a [] == jn a b) = !r5
  x4 : r1 = true → Op.bytesLess (jn a b) (jn c []) = true

theorem bl_same : ∀ a : List UInt8, Op.bytesLess a a = false
  | [] => rfl
  | a :: r => by rw [bl_self]; exact bl_same r
theorem ord_of (a b c d : List UInt8) : ∃ r1 r2 r3 r4 r5, Ord a b c d r1 r2 r3 r4 r5 := by
  refine ⟨_, _, _, _, _, rfl, rfl, rfl, rfl, jn_less a c b d, ?_, rfl, ?_, ?_⟩
  · by_cases h : jn a b = jn c d
    · obtain ⟨rfl, rfl⟩ := jn_inj h
      simp
    · have hb : (jn a b == jn c d) = false := beq_eq_false_iff_ne.2 h
      rw [hb]
      by_cases ha : a = c
      · subst ha
        have : b ≠ d := fun e => h (by rw [e])
        simp [this]
      · simp [ha]
  · rw [jn_less, bl_same a]
    cases b with
    | nil => simp [Op.bytesLess]
    | cons x r =>
      have : jn a [] ≠ jn a (x :: r) := fun e => by have := (jn_inj e).2; cases this
      simp [Op.bytesLess, this]
  · intro h; rw [jn_less, h]; rfl

set_option maxHeartbeats 16000000 in
theorem order_core (a b c d : List UInt8) (r1 r2 r3 r4 r5 : Bool) (w : World) (hm : Ml w) (ho : Ord a b c d r1 r2 r3 r4 r5) (ha : a.length ≤ 20) (hb : b.length ≤ 20) (hc : c.length ≤ 20) (hd : d.length ≤ 20) :
    Calls Tryd.prog 4 #[.string (B a), .string (B b), .string (B c), .string (B d)] w fun e w' => e = .returned (.bool true) ∧ Below w.heap.size w w' := by
  have hlt := hm.lt
  have hBt := B_list
  have s1 := B_size a
  have s2 := B_size b
  have s3 := B_size c
  have s4 := B_size d
  obtain ⟨h1, h2, h3, h4, x1, x2, x3, x6, x4⟩ := ho
  go_enter Tryd.func4, Tryd.ntmps4
  go_wp2_with fail
  refine (begun_any w hm).mono ?_
  rintro e w1 ⟨rfl, hb1⟩
  have hs1 := hb1.size
  have d1 : decide ((20 : Int) < (a.length : Int)) = false := decide_eq_false (by omega)
  have d2 : decide ((20 : Int) < (b.length : Int)) = false := decide_eq_false (by omega)
  have d3 : decide ((20 : Int) < (c.length : Int)) = false := decide_eq_false (by omega)
  have d4 : decide ((20 : Int) < (d.length : Int)) = false := decide_eq_false (by omega)
  go_wp2_with fail
  refine (join_any a b w1 (hm.below hb1 hlt) (by omega) (by omega)).mono ?_
  rintro e w2 ⟨rfl, hb2⟩
  have hB2 := hb1.trans (hb2.mono hs1)
  have hs2 := hB2.size
  go_wp2_with fail
  refine (join_any c d w2 (hm.below hB2 hlt) (by omega) (by omega)).mono ?_
  rintro e w3 ⟨rfl, hb3⟩
  have hB3 := hB2.trans (hb3.mono hs2)
  have hs3 := hB3.size
  have hl := esc_len a
  have hj : (jn a b).length ≤ 1000 := by simp [jn]; omega
  cases r1
  case false =>
    clear x4
    cases r2 <;> cases r3 <;> cases r4 <;> cases r5
    all_goals (
      simp only [Bool.or_true, Bool.or_false, Bool.and_true, Bool.and_false] at x1 x2
      simp only [Bool.not_true, Bool.not_false] at x6
      go_wp2_with fail
      refine (split_any (jn a b) w3 (hm.below hB3 hlt) hj).mono ?_
      rintro e w4 ⟨rfl, hb4⟩
      have hB4 := hB3.trans (hb4.mono hs3)
      have hs4 := hB4.size
      rw [splA_some (spl_jn a b)]
      dsimp only
      go_wp2_with fail
      refine (front_any a w4 (hm.below hB4 hlt) (by omega)).mono ?_
      rintro e w5 ⟨rfl, hb5⟩
      have hB5 := hB4.trans (hb5.mono hs4)
      go_wp2_with fail
      go_ret
      exact ⟨rfl, hB5⟩)
  case true =>
    have x5 := x4 rfl
    clear x4
    cases r2 <;> cases r3 <;> cases r4 <;> cases r5
    all_goals (
      simp only [Bool.true_or, Bool.and_true, Bool.and_false] at x1 x2
      simp only [Bool.not_true, Bool.not_false] at x6
      go_wp2_with fail
      refine (split_any (jn a b) w3 (hm.below hB3 hlt) hj).mono ?_
      rintro e w4 ⟨rfl, hb4⟩
      have hB4 := hB3.trans (hb4.mono hs3)
      have hs4 := hB4.size
      rw [splA_some (spl_jn a b)]
      dsimp only
      go_wp2_with fail
      refine (front_any a w4 (hm.below hB4 hlt) (by omega)).mono ?_
      rintro e w5 ⟨rfl, hb5⟩
      have hB5 := hB4.trans (hb5.mono hs4)
      have hs5 := hB5.size
      go_wp2_with fail
      refine (front_any c w5 (hm.below hB5 hlt) (by omega)).mono ?_
      rintro e w6 ⟨rfl, hb6⟩
      have hB6 := hB5.trans (hb6.mono hs5)
      go_wp2_with fail
      go_ret
      exact ⟨rfl, hB6⟩)

set_option maxHeartbeats 4000000 in
theorem order_out (a b c d : List UInt8) (w : World) (hm : Ml w) (h : ¬ (a.length ≤ 20 ∧ b.length ≤ 20 ∧ c.length ≤ 20 ∧ d.length ≤ 20)) :
    Calls Tryd.prog 4 #[.string (B a), .string (B b), .string (B c), .string (B d)] w fun e w' => e = .returned (.bool true) ∧ Below w.heap.size w w' := by
  have s1 := B_size a
  have s2 := B_size b
  have s3 := B_size c
  have s4 := B_size d
  go_enter Tryd.func4, Tryd.ntmps4
  go_wp2_with fail
  refine (begun_any w hm).mono ?_
  rintro e w1 ⟨rfl, hb1⟩
  by_cases g1 : a.length ≤ 20
  · by_cases g2 : b.length ≤ 20
    · by_cases g3 : c.length ≤ 20
      · by_cases g4 : d.length ≤ 20
        · exact absurd ⟨g1, g2, g3, g4⟩ h
        · clear h
          go_wp2_with fail
          go_ret
          exact ⟨rfl, hb1⟩
      · clear h
        go_wp2_with fail
        go_ret
        exact ⟨rfl, hb1⟩
    · clear h
      go_wp2_with fail
      go_ret
      exact ⟨rfl, hb1⟩
  · clear h
    go_wp2_with fail
    go_ret
    exact ⟨rfl, hb1⟩

theorem order_walk (x y z u : ByteArray) (w : World) (hm : Ml w) :
    Calls Tryd.prog 4 #[.string x, .string y, .string z, .string u] w fun e w' => e = .returned (.bool true) ∧ Below w.heap.size w w' := by
  obtain ⟨a, rfl, _⟩ := B_surj x
  obtain ⟨b, rfl, _⟩ := B_surj y
  obtain ⟨c, rfl, _⟩ := B_surj z
  obtain ⟨d, rfl, _⟩ := B_surj u
  by_cases h : a.length ≤ 20 ∧ b.length ≤ 20 ∧ c.length ≤ 20 ∧ d.length ≤ 20
  · obtain ⟨r1, r2, r3, r4, r5, ho⟩ := ord_of a b c d
    exact order_core a b c d r1 r2 r3 r4 r5 w hm ho h.1 h.2.1 h.2.2.1 h.2.2.2
  · exact order_out a b c d w hm h
end Go.Proofs.YtdeljahdmdpdaaaDoor
