/- ModeLaws: the walk. -/
import Derived.Test.YtddiliniacffiaaDoorMdW
import Derived.Lib.Hide
namespace Go.Proofs.YtddiliniacffiaaDoor
open Go.RowKit

set_option maxRecDepth 100000 in
set_option maxHeartbeats 4000000 in
theorem laws_walk (w : World) (T : Tb w) : Calls Tryd.prog 4 #[] w fun e w' => e = .returned (.bool true) ∧ Below w.heap.size w w' := by
  go_enter Tryd.func4, Tryd.ntmps4
  go_wp2_with fail
  refine (begun_any w T).mono ?_
  rintro e' w1 ⟨rfl, rfl⟩
  go_wp2_with fail
  go_loopw [1] (fun i wr => ∃ a : Nat, a ≤ 5 ∧ i = .int .i64 a ∧ wr = w1) (fun i _ => 5 - (RowKit.intOf i).toNat)
  case atStart => exact ⟨0, by omega, rfl, rfl⟩
  case round =>
    obtain ⟨a, ha, rfl, rfl⟩ := hrel
    by_cases ha5 : a < 5
    · have ha4 : (a : Int) ≤ 4 := by omega
      go_wp2_with fail
      go_loopw [2] (fun i wr' => ∃ b : Nat, b ≤ 5 ∧ i = .int .i64 b ∧ wr' = wr) (fun i _ => 5 - (RowKit.intOf i).toNat)
      case atStart => exact ⟨0, by omega, rfl, rfl⟩
      case round =>
        obtain ⟨b, hb, rfl, rfl⟩ := hrel
        by_cases hb5 : b < 5
        · have hb4 : (b : Int) ≤ 4 := by omega
          obtain ⟨g1, j1, j2, j3, j4⟩ := two_laws ⟨a, ha5⟩ ⟨b, hb5⟩
          have hl := three_laws ⟨a, ha5⟩ ⟨b, hb5⟩
          have hj5 := jN_lt ⟨a, ha5⟩ ⟨b, hb5⟩
          have hbc := jN_lt ⟨b, hb5⟩
          simp only at g1 j1 j2 j3 j4 hl hj5 hbc
          obtain ⟨g, hg⟩ : ∃ g, gN a b = g := ⟨_, rfl⟩
          obtain ⟨j, hj⟩ : ∃ j, jN a b = j := ⟨_, rfl⟩
          rw [hg] at g1
          rw [hj] at j1 j3 hj5
          simp only [hj] at hl
          have HJ := Lib.hid hj
          have HG := Lib.hid (And.intro hg g1.symm)
          have HK := Lib.hid (And.intro j1.symm (And.intro j2 (And.intro j3 j4)))
          have HL := Lib.hid hl
          have HB := Lib.hid hbc
          clear hj hg g1 j1 j2 j3 j4 hl hbc
          go_wp2_with fail
          refine (joinN T ha5 hb5 HJ.out).mono ?_
          rintro e' w2 ⟨rfl, rfl⟩
          go_wp2_with fail
          refine (goesN T ha5 hb5 HG.out.1).mono ?_
          rintro e' w3 ⟨rfl, rfl⟩
          go_wp2_with fail
          refine (goesN T hb5 ha5 HG.out.2).mono ?_
          rintro e' w4 ⟨rfl, rfl⟩
          go_wp2_with fail
          refine (joinN T hb5 ha5 HK.out.1).mono ?_
          rintro e' w5 ⟨rfl, rfl⟩
          go_wp2_with fail
          refine (joinN T ha5 ha5 HK.out.2.1).mono ?_
          rintro e' w6 ⟨rfl, rfl⟩
          go_wp2_with fail
          refine (joinN T hj5 ha5 HK.out.2.2.1).mono ?_
          rintro e' w7 ⟨rfl, rfl⟩
          go_wp2_with fail
          refine (joinN (b := 0) T ha5 (by decide) HK.out.2.2.2).mono ?_
          rintro e' w8 ⟨rfl, rfl⟩
          go_wp2_with fail
          go_loopw [4] (fun i wr' => ∃ c : Nat, c ≤ 5 ∧ i = .int .i64 c ∧ wr' = w8) (fun i _ => 5 - (RowKit.intOf i).toNat)
          case atStart => exact ⟨0, by omega, rfl, rfl⟩
          case round =>
            obtain ⟨c, hc, rfl, rfl⟩ := hrel
            by_cases hc5 : c < 5
            · have hc4 : (c : Int) ≤ 4 := by omega
              obtain ⟨hl1, hl2⟩ := HL.out ⟨c, hc5⟩
              have hbc := HB.out ⟨c, hc5⟩
              simp only at hl1 hl2 hbc
              obtain ⟨d, hd⟩ : ∃ d, jN b c = d := ⟨_, rfl⟩
              obtain ⟨e, he⟩ : ∃ e, jN j c = e := ⟨_, rfl⟩
              obtain ⟨p, hp⟩ : ∃ p, gN j c = p := ⟨_, rfl⟩
              obtain ⟨q, hq⟩ : ∃ q, gN a c = q := ⟨_, rfl⟩
              obtain ⟨r, hr⟩ : ∃ r, gN b c = r := ⟨_, rfl⟩
              rw [hd] at hbc
              rw [hd, he] at hl1
              rw [hp, hq, hr] at hl2
              have HD := Lib.hid (And.intro hd (And.intro he hl1.symm))
              have HP := Lib.hid (And.intro hp (And.intro hq hr))
              have HI := Lib.hid hl2
              clear hd he hl1 hp hq hr hl2
              go_wp2_with fail
              refine (joinN T hj5 hc5 HD.out.2.1).mono ?_
              rintro e' w9 ⟨rfl, rfl⟩
              go_wp2_with fail
              refine (joinN T hb5 hc5 HD.out.1).mono ?_
              rintro e' w10 ⟨rfl, rfl⟩
              go_wp2_with fail
              refine (joinN T ha5 hbc HD.out.2.2).mono ?_
              rintro e' w11 ⟨rfl, rfl⟩
              go_wp2_with fail
              refine (goesN T hj5 hc5 HP.out.1).mono ?_
              rintro e' w12 ⟨rfl, rfl⟩
              cases p
              · go_wp2_with fail
                go_roundw
                case rel => exact ⟨c + 1, by omega, by go_num, trivial⟩
                case measure => simp [RowKit.intOf]; omega
              · obtain ⟨rfl, rfl⟩ := HI.out rfl
                go_wp2_with fail
                refine (goesN T ha5 hc5 HP.out.2.1).mono ?_
                rintro e' w13 ⟨rfl, rfl⟩
                go_wp2_with fail
                refine (goesN T hb5 hc5 HP.out.2.2).mono ?_
                rintro e' w14 ⟨rfl, rfl⟩
                go_wp2_with fail
                go_roundw
                case rel => exact ⟨c + 1, by omega, by go_num, trivial⟩
                case measure => simp [RowKit.intOf]; omega
            · have hc4 : ¬ (c : Int) ≤ 4 := by omega
              clear hc5
              go_wp2_with fail
              go_roundw
              case rel => exact ⟨b + 1, by omega, by go_num, trivial⟩
              case measure => simp [RowKit.intOf]; omega
        · have hb4 : ¬ (b : Int) ≤ 4 := by omega
          clear hb5
          go_wp2_with fail
          go_roundw
          case rel => exact ⟨a + 1, by omega, by go_num, trivial⟩
          case measure => simp [RowKit.intOf]; omega
    · have ha4 : ¬ (a : Int) ≤ 4 := by omega
      clear ha5
      go_wp2_with fail
      go_ret
      exact ⟨rfl, Below.refl _ _⟩
end Go.Proofs.YtddiliniacffiaaDoor
