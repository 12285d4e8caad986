/- begun; the laws walked. -/
import Derived.Test.YtdeljahdmdpdaaaDoorTwR
namespace Go.Proofs.YtdeljahdmdpdaaaDoor
open Go.RowKit Go.Lib

theorem B_list (l : List UInt8) : (B l).toList = l := by rw [Lib.toList_data, B_data]

set_option maxHeartbeats 8000000 in
theorem begun_any (w : World) (hm : Ml w) :
    Calls Tryd.prog 7 #[] w fun e w' => e = .returned (.bool true) ∧ Below w.heap.size w w' := by
  have hlt := hm.lt
  have hBt := B_list
  go_enter Tryd.func7, Tryd.ntmps7
  go_wp2_with fail
  refine (join_any [115] [107] w hm (by decide) (by decide)).mono ?_
  rintro e w1 ⟨rfl, hb1⟩
  have hs1 := hb1.size
  have hm1 := hm.below hb1 hlt
  go_wp2_with fail
  refine (split_any (jn [115] [107]) w1 hm1 (by decide)).mono ?_
  rintro e w2 ⟨rfl, hb2⟩
  have hB2 := hb1.trans (hb2.mono hs1)
  have hs2 := hB2.size
  have hm2 := hm.below hB2 hlt
  rw [splA_some (spl_jn [115] [107])]
  go_wp2_with fail
  refine (split_any [] w2 hm2 (by decide)).mono ?_
  rintro e w3 ⟨rfl, hb3⟩
  have hB3 := hB2.trans (hb3.mono hs2)
  have hs3 := hB3.size
  have hm3 := hm.below hB3 hlt
  rw [splA_none (by rfl)]
  go_wp2_with fail
  refine (front_any [115] w3 hm3 (by decide)).mono ?_
  rintro e w4 ⟨rfl, hb4⟩
  have hB4 := hB3.trans (hb4.mono hs3)
  rw [show jn [115] [] = [115, 0, 1] from rfl]
  go_wp2_with fail
  go_ret
  exact ⟨rfl, hB4⟩

theorem less_jn (a c b d : List UInt8) : Op.bytesLess (jn a b) (jn c d) = (Op.bytesLess a c || (a == c && Op.bytesLess b d)) := jn_less a c b d

set_option maxHeartbeats 8000000 in
theorem all_walk (a b c : ByteArray) (w : World) (hm : Ml w) :
    Calls Tryd.prog 3 #[.string a, .string b, .string c] w fun e w' => e = .returned (.bool true) ∧ Below w.heap.size w w' := by
  have hlt := hm.lt
  have hBt := B_list
  obtain ⟨s, rfl, hs⟩ := B_surj a
  obtain ⟨k, rfl, hk⟩ := B_surj b
  obtain ⟨t, rfl, ht⟩ := B_surj c
  go_enter Tryd.func3, Tryd.ntmps3
  go_wp2_with fail
  refine (begun_any w hm).mono ?_
  rintro e w1 ⟨rfl, hb1⟩
  have hs1 := hb1.size
  have hm1 := hm.below hb1 hlt
  by_cases g1 : s.length ≤ 20
  · by_cases g2 : k.length ≤ 20
    · by_cases g3 : t.length ≤ 40
      · go_wp2_with fail
        refine (split_any t w1 hm1 (by omega)).mono ?_
        rintro e w2 ⟨rfl, hb2⟩
        have hB2 := hb1.trans (hb2.mono hs1)
        have hs2 := hB2.size
        cases hx : spl t with
        | none =>
          rw [splA_none hx]
          go_wp2_with fail
          refine (rsplit_any t w2 (by omega)).mono ?_
          rintro e w3 ⟨rfl, hb3⟩
          have hB3 := hB2.trans (hb3.mono hs2)
          have hs3 := hB3.size
          rw [splA_none hx]
          go_wp2_with fail
          refine (join_any s k w3 (hm.below hB3 hlt) (by omega) (by omega)).mono ?_
          rintro e w4 ⟨rfl, hb4⟩
          have hB4 := hB3.trans (hb4.mono hs3)
          have hs4 := hB4.size
          go_wp2_with fail
          refine (rjoin_any s k w4 (by omega) (by omega)).mono ?_
          rintro e w5 ⟨rfl, rfl⟩
          go_wp2_with fail
          refine (front_any s w5 (hm.below hB4 hlt) (by omega)).mono ?_
          rintro e w6 ⟨rfl, hb6⟩
          have hB6 := hB4.trans (hb6.mono hs4)
          go_wp2_with fail
          refine (rjoin_any s [] w6 (by omega) (by simp)).mono ?_
          rintro e w7 ⟨rfl, rfl⟩
          go_wp2_with fail
          go_ret
          exact ⟨rfl, hB6⟩
        | some x =>
          obtain ⟨x, y⟩ := x
          rw [splA_some hx]
          dsimp only
          go_wp2_with fail
          refine (rsplit_any t w2 (by omega)).mono ?_
          rintro e w3 ⟨rfl, hb3⟩
          have hB3 := hB2.trans (hb3.mono hs2)
          have hs3 := hB3.size
          rw [splA_some hx]
          dsimp only
          go_wp2_with fail
          refine (join_any s k w3 (hm.below hB3 hlt) (by omega) (by omega)).mono ?_
          rintro e w4 ⟨rfl, hb4⟩
          have hB4 := hB3.trans (hb4.mono hs3)
          have hs4 := hB4.size
          go_wp2_with fail
          refine (rjoin_any s k w4 (by omega) (by omega)).mono ?_
          rintro e w5 ⟨rfl, rfl⟩
          go_wp2_with fail
          refine (front_any s w5 (hm.below hB4 hlt) (by omega)).mono ?_
          rintro e w6 ⟨rfl, hb6⟩
          have hB6 := hB4.trans (hb6.mono hs4)
          go_wp2_with fail
          refine (rjoin_any s [] w6 (by omega) (by simp)).mono ?_
          rintro e w7 ⟨rfl, rfl⟩
          go_wp2_with fail
          go_ret
          exact ⟨rfl, hB6⟩
      · go_wp2_with fail
        go_ret
        exact ⟨rfl, hb1⟩
    · go_wp2_with fail
      go_ret
      exact ⟨rfl, hb1⟩
  · go_wp2_with fail
    go_ret
    exact ⟨rfl, hb1⟩
end Go.Proofs.YtdeljahdmdpdaaaDoor
