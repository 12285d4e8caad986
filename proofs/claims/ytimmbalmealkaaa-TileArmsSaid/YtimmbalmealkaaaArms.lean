/- TileArms: for every number at and mask the law answers true; no condition. -/
import Derived.Test.YtimmbalmealkaaaArmsP
import Derived.Test.YtimmbalmealkaaaRow
namespace Go.Proofs.Ytimmbalmealkaaa.tileArms
open Go.ChangeShapes Go.WideShapes Go.ChangeAt Go.RowKit

section
variable {p bn bo g : Nat} {mv : Value} {m : Int} {k j : Nat}

def ans (k j : Nat) : Int := if j < k then 0 else 2

theorem write_in (W : World) {gb : Nat} (h : DiskAt W p bn bo g (sT mv m k j)) (hj : j < 8) {sv : Value} (hs : SlB W sv (rep 1) gb) :
    Calls Try.prog 13 #[.pointer (some ⟨p, 0, none⟩), .int .i64 j, sv] W fun e w' => e = .returned (.int .i64 (ans k j)) ∧ DiskAt w' p bn bo g (sT mv m k (j + 1)) ∧ Fr W.heap.size (Three p bn bo) W w' := by
  obtain ⟨a1, a2, a3, a4, a5, a6, a7⟩ := sA_is mv m k j
  have hr := rep_ok 1 (by omega) (by omega)
  rcases Nat.lt_trichotomy j k with hlt | rfl | hgt
  · rw [show sT mv m k j = sA mv m k j from if_pos (by omega)] at h
    rw [show sT mv m k (j + 1) = ((sA mv m k j).store j oneB).later from if_pos (by omega), show ans k j = 0 from if_pos hlt]
    exact write_later W h a2 j (by omega) (by rw [a1]; omega) sv _ hs (rep_len 1) hr a3 (by rw [a4]; omega)
  · rw [show sT mv m j j = sA mv m j j from if_pos (by omega)] at h
    rw [show sT mv m j (j + 1) = sC mv m j from if_neg (by omega), show ans j j = 2 from if_neg (by omega)]
    refine (write_cut W h a2 j (by omega) (by rw [a1]; omega) sv _ hs (rep_len 1) hr a3 (by rw [a4]; omega)).mono fun e w' ⟨he, d', hc, hD, hF⟩ => ⟨he, ?_, hF⟩
    rw [a5] at hc
    rw [← sK_crash hc]
    exact hD
  · rw [show sT mv m k j = sC mv m k from if_neg (by omega)] at h
    rw [show sT mv m k (j + 1) = sC mv m k from if_neg (by omega), show ans k j = 2 from if_neg (by omega)]
    refine (write_dead W h rfl j sv).mono fun e w' ⟨he, hw⟩ => ⟨he, ?_, ?_⟩
    · rw [hw]; exact h
    · rw [hw]; exact Fr.refl _ _ _

def no (k j : Nat) : Int := if j ≤ k then 1 else 2
theorem no_ne (k j : Nat) : (no k j == 0) = false := by unfold no; split <;> rfl

theorem write_99 (W : World) (h : DiskAt W p bn bo g (sT mv m k j)) (sv : Value) :
    Calls Try.prog 13 #[.pointer (some ⟨p, 0, none⟩), .int .i64 99, sv] W fun e w' => e = .returned (.int .i64 (no k j)) ∧ w' = W := by
  obtain ⟨a1, a2, _⟩ := sA_is mv m k j
  by_cases hj : j ≤ k
  · rw [show sT mv m k j = sA mv m k j from if_pos hj] at h
    rw [show no k j = 1 from if_pos hj]
    exact write_far W h a2 99 (by rw [a1]; omega) sv
  · rw [show sT mv m k j = sC mv m k from if_neg hj] at h
    rw [show no k j = 2 from if_neg hj]
    exact write_dead W h rfl 99 sv

theorem write_0 (W : World) (h : DiskAt W p bn bo g (sT mv m k j)) :
    Calls Try.prog 13 #[.pointer (some ⟨p, 0, none⟩), .int .i64 0, .slice none 0 0] W fun e w' => e = .returned (.int .i64 (no k j)) ∧ w' = W := by
  obtain ⟨a1, a2, _⟩ := sA_is mv m k j
  by_cases hj : j ≤ k
  · rw [show sT mv m k j = sA mv m k j from if_pos hj] at h
    rw [show no k j = 1 from if_pos hj]
    exact write_short W h a2 0 none 0 0 (by omega)
  · rw [show sT mv m k j = sC mv m k from if_neg hj] at h
    rw [show no k j = 2 from if_neg hj]
    exact write_dead W h rfl 0 _
end

def sP (mv : Value) (m : Int) (k : Nat) : Dk := { sC mv m k with dead := false }

theorem bit_m (m : Int) {j : Nat} (hj : j < 8) : bitOf [m] j = (bits BinOp.and IntKind.u8 (m / 2 ^ j) 1 == 1) := by
  unfold bitOf
  rw [show j / 8 = 0 by omega, show j % 8 = j by omega]
  rfl

theorem sP_now (mv : Value) (m : Int) (k j : Nat) : ((sP mv m k).now j).getD zb = blkOf (rep (if j ≤ k ∧ bitOf [m] j = true then 1 else 0)) := by
  have := sC_now mv m k j
  rw [show ((sP mv m k).now j) = (sC mv m k).now j from rfl, this]
  by_cases h : j ≤ k ∧ bitOf [m] j = true
  · rw [if_pos h, if_pos h]; rfl
  · rw [if_neg h, if_neg h]; exact zb_of

set_option maxRecDepth 100000 in
set_option maxHeartbeats 2000000 in
theorem walk (a : Nat) (ha : a < 256) (m : Int) (m0 : 0 ≤ m) (m1 : m < 256) (w : World) : Calls Try.prog 5 #[.int .u8 a, .int .u8 m] w fun e w' => e = .returned (.bool true) ∧ Below w.heap.size w w' := by
  have hk : a % 8 < 8 := Nat.mod_lt _ (by omega)
  go_enter Try.func5, Try.ntmps5
  go_wp2_with fail
  refine (begun_true w).mono ?_
  rintro e w1 ⟨rfl, hB1⟩
  have hz1 : w.heap.size ≤ w1.heap.size := hB1.size
  go_wp2_with fail
  refine (new_any w1 8).mono ?_
  rintro e w2 ⟨rfl, hD2, hB2⟩
  rw [show clampT 8 = 8 from rfl] at hD2
  have hl2 := hD2.lt
  have hO : Own w.heap.size (w1.heap.size + 1 + 1) w1.heap.size (w1.heap.size + 1) := ⟨by omega, by omega, by omega⟩
  have hB2' : Below w.heap.size w w2 := hB1.trans (hB2.mono hz1)
  have hz2 : w.heap.size ≤ w2.heap.size := hB2'.size
  generalize w1.heap.size + 1 + 1 = p at *
  generalize w1.heap.size + 1 = bo at *
  generalize w1.heap.size = bn at *
  clear hB1 hB2
  go_wp2_with fail
  rw [show ((a : Int) % 8) = ((a % 8 : Nat) : Int) by omega]
  generalize a % 8 = k at *
  have hD2a := hD2.kept (fun k hk => Below.heap_alloc w2 (.cells #[.int .u8 m] 5) k hk)
  have hB2a : Below w.heap.size w (w2.alloc (.cells #[.int .u8 m] 5)) := hB2'.alloc hz2 _
  have hs2 := slB_new w2 [m] 5 (by simp)
  refine (arm_pos _ hD2a k (by omega) (by omega) hs2 (by omega) (Or.inr ⟨_, _, _, rfl⟩) (by unfold bytesOk; simp; omega)).mono ?_
  rintro e w3 ⟨rfl, mv, g, hD3, hg3, hF3⟩
  have hB3 := hO.fr hB2a hB2a.size hF3
  change DiskAt w3 p bn bo g (sA mv m k 0) at hD3
  rw [← show sT mv m k 0 = sA mv m k 0 from if_pos (by omega)] at hD3
  clear hF3 hB2a hD2a hs2 hB2' hD2 hl2 hz2 hg3
  go_wp2_with fail
  go_loopw [7] (fun i wr => ∃ j : Nat, j ≤ 8 ∧ i = .int .i64 j ∧ DiskAt wr p bn bo g (sT mv m k j) ∧ Below w.heap.size w wr) (fun i _ => 8 - (intOf i).toNat)
  case atStart => exact ⟨0, by omega, rfl, hD3, hB3⟩
  case round =>
    obtain ⟨j, hj, rfl, hD, hB⟩ := hrel
    clear hD3 hB3
    have hz : w.heap.size ≤ wr.heap.size := hB.size
    by_cases hlt : j < 8
    · go_wp2_with fail
      refine (full_b _ _).mono ?_
      rintro e w4 ⟨gn, rfl, hb4, hg4⟩
      have hD4 := hD.kept (fun k hk => hb4.block k hk)
      have hB4 : Below w.heap.size w w4 := hB.trans (hb4.mono hz)
      have hz4 : w.heap.size ≤ w4.heap.size := hB4.size
      have hs4 := slB_of hg4 (rep_len 1)
      clear hb4 hg4 hD hB hz
      go_wp2_with fail
      refine (write_in w4 hD4 hlt hs4).mono ?_
      rintro e w5 ⟨rfl, hD5, hF5⟩
      have hB5 := hO.fr hB4 hz4 hF5
      have hz5 : w.heap.size ≤ w5.heap.size := hB5.size
      clear hD4 hB4 hz4 hs4 hF5
      go_wp2_with fail
      refine (full_b _ _).mono ?_
      rintro e w6 ⟨gn, rfl, hb6, hg6⟩
      have hD6 := hD5.kept (fun k hk => hb6.block k hk)
      have hB6 : Below w.heap.size w w6 := hB5.trans (hb6.mono hz5)
      have hz6 : w.heap.size ≤ w6.heap.size := hB6.size
      clear hb6 hg6 hD5 hB5 hz5
      go_wp2_with fail
      refine (write_99 w6 hD6 _).mono ?_
      rintro e w' ⟨rfl, rfl⟩
      have hno := no_ne k (j + 1)
      go_wp2_with fail
      refine (write_0 w' hD6).mono ?_
      rintro e w'' ⟨rfl, rfl⟩
      by_cases hjk : j < k
      · have ha : (ans k j != 0) = false := by unfold ans; rw [if_pos hjk]; rfl
        go_wp2_with fail
        go_roundw
        case rel => exact ⟨j + 1, by omega, by go_num, hD6, hB6⟩
        case measure => simp [intOf]; omega
      · have ha : (ans k j != 2) = false := by unfold ans; rw [if_neg hjk]; rfl
        go_wp2_with fail
        go_roundw
        case rel => exact ⟨j + 1, by omega, by go_num, hD6, hB6⟩
        case measure => simp [intOf]; omega
    · obtain rfl : j = 8 := by omega
      rw [show sT mv m k 8 = sC mv m k from if_neg (by omega)] at hD
      go_wp2_with fail
      refine (power_any wr hD).mono ?_
      rintro e w8 ⟨rfl, hw8⟩
      have hD8 : DiskAt w8 p bn bo g (sP mv m k) := by
        rw [hw8]
        have ok := hD.ok
        exact hD.poke (d' := sP mv m k) 3 _ rfl rfl rfl hD.mask ⟨ok.lo, ok.hi, ok.now, ok.old, ok.llo, ok.lhi, ok.mok⟩
      have hB8 : Below w.heap.size w w8 := by rw [hw8]; exact hB.setCell hO.p _
      clear hw8 hD hB hz
      go_wp2_with fail
      go_loopw [10] (fun i wq => ∃ j : Nat, j ≤ 8 ∧ i = .int .i64 j ∧ DiskAt wq p bn bo g (sP mv m k) ∧ Below w.heap.size w wq) (fun i _ => 8 - (intOf i).toNat)
      case atStart => exact ⟨0, by omega, rfl, hD8, hB8⟩
      case round =>
        obtain ⟨j, hj, rfl, hD, hB⟩ := hrel
        clear hD8 hB8
        have hz : w.heap.size ≤ wr.heap.size := hB.size
        by_cases hlt : j < 8
        · have hbm := bit_m m hlt
          have hnow := sP_now mv m k j
          obtain ⟨c, hc⟩ : ∃ c : Int, (if j ≤ k ∧ bitOf [m] j = true then 1 else 0) = c := ⟨_, rfl⟩
          rw [hc] at hnow
          go_wp2_with fail
          refine (read_ok wr hD rfl j (by omega) (by rw [show (sP mv m k).tiles = 8 from (sA_is mv m k k).1]; omega) (rep c) hnow (rep_len c)).mono ?_
          rintro e w9 ⟨rfl, hw9⟩
          have hD9 : DiskAt w9 p bn bo g (sP mv m k) := by rw [hw9]; exact hD.kept (fun k hk => Below.heap_alloc wr _ k hk)
          have hB9 : Below w.heap.size w w9 := by rw [hw9]; exact hB.alloc hz _
          have hx : w9.cell? ⟨wr.heap.size, 0, none⟩ = some (.int .u8 c) := by rw [hw9, (cell_of (heap_alloc_new wr _) 0).1, rep_get c (by omega)]
          clear hw9 hD hB hnow
          by_cases hjk : j ≤ k
          · cases hb : bitOf [m] j with
            | true =>
              rw [if_pos ⟨hjk, hb⟩] at hc
              subst hc
              rw [hb] at hbm
              have hbm' := hbm.symm
              clear hb hbm
              go_wp2_with fail
              go_roundw
              case rel => exact ⟨j + 1, by omega, by go_num, hD9, hB9⟩
              case measure => simp [intOf]; omega
            | false =>
              rw [if_neg (by rw [hb]; simp)] at hc
              subst hc
              rw [hb] at hbm
              have hbm' := hbm.symm
              clear hb hbm
              go_wp2_with fail
              go_roundw
              case rel => exact ⟨j + 1, by omega, by go_num, hD9, hB9⟩
              case measure => simp [intOf]; omega
          · rw [if_neg (fun h => hjk h.1)] at hc
            subst hc
            clear hbm
            go_wp2_with fail
            go_roundw
            case rel => exact ⟨j + 1, by omega, by go_num, hD9, hB9⟩
            case measure => simp [intOf]; omega
        · go_wp2_with fail
          refine (loose_any wr hD).mono ?_
          rintro e w10 ⟨v, ls, rfl, hls, _, hsl, hb10⟩
          obtain rfl : ls = [] := List.eq_nil_iff_forall_not_mem.2 (fun x hx => by have := (hls.2 x).1 hx; cases this)
          obtain ⟨p0, cap, rfl, _, _⟩ := hsl.shape
          have hB10 : Below w.heap.size w w10 := hB.trans (hb10.mono hz)
          clear hls hsl hb10 hD hB
          go_wp2_with fail
          go_ret
          exact ⟨rfl, hB10⟩

theorem own : ownKnob Try.prog.godebug = none := by kernel_rfl
theorem laidOut : laidOutB Try.prog = true := by kernel_rfl

set_option maxRecDepth 100000 in
theorem lifted (os : Os) (started : os.Started) (H : Type) (enc : TypeId × Value → H) :
    ReturnsInHanded {} Try.checked os 5 .any (Rows.tileArmsSpec.pre6 enc Try.prog Try.f5 Rows.tileArmsRow.domain false) (Rows.tileArmsSpec.post enc Try.prog Try.f5 false true false false) := by
  refine returnsInHanded_of_change (C := Try.checked) own started (by kernel_rfl) Try.func5
    (ChangeSpec.witness6 (enc := enc) (C := Try.checked) false ⟨#[], #[.int .u8 0, .int .u8 0], []⟩ 8 (by kernel_rfl) (by kernel_rfl) (by kernel_rfl) (by kernel_rfl)) ?_
  intro W base args ds gs before hval0 hW hcnd _
  have hval : ∀ (j : Nat) t v, Try.f5.params[j]? = some t → args[j]? = some v → Value.okWide Try.prog W .any base t v := hval0
  have hW' := hW
  obtain ⟨p, q, hA0, hV, rfl, hfz, hnd⟩ := hW
  obtain ⟨rfl, rfl⟩ := trodVars_none hV
  have hA : DataW.TrodAll enc Try.prog W 0 (fun _ => true) true Try.f5.params.toList args.toList ds p := hA0
  rw [Try.params5] at hA hval
  obtain ⟨v0, vs0, d0, ds0, p0, q0, hargs, rfl, rfl, h0, r0⟩ := trodAll_cons hA
  obtain ⟨v1, vs1, d1, ds1, p1, q1, rfl, rfl, rfl, h1, r1⟩ := trodAll_cons r0
  obtain ⟨rfl, rfl, rfl⟩ := trodAll_nil r1
  obtain rfl : args = #[v0, v1] := by cases args; simp_all
  obtain ⟨a0, rfl, rfl, rfl, w0⟩ := open_int Try.underlying5 (hval 0 5 v0 rfl rfl) h0
  obtain ⟨a1, rfl, rfl, rfl, w1⟩ := open_int Try.underlying5 (hval 1 5 v1 rfl rfl) h1
  have b0 := bounds_u8 w0
  have b1 := bounds_u8 w1
  obtain ⟨n, rfl⟩ := Int.eq_ofNat_of_zero_le b0.1
  refine (walk n (by omega) a1 b1.1 (by omega) W).mono fun e W' ⟨he, hg⟩ => ?_
  subst he
  exact ⟨_, rfl, law_post laidOut Try.underlying4 rfl (by rw [Try.params5]; intro t ht; simp at ht; subst ht; exact ⟨by kernel_rfl, of_decide_eq_true (by kernel_rfl)⟩) rfl hW' rfl hg⟩

theorem proved : Rows.TileArmsSaid :=
  OpenClaim.holds_of_wide 5 Try.f5 rfl rfl rfl rfl rfl rfl rfl ⟨rfl, rfl, rfl, rfl, rfl⟩ rfl rfl rfl rfl rfl (by kernel_rfl) Try.func5 (by kernel_rfl)
    (of_decide_eq_true (by kernel_rfl)) (by unfold Func.isWrapper; first | (rw [if_pos (by decide +kernel)]; kernel_rfl) | (rw [if_neg (by decide +kernel)]; exact ⟨rfl, rfl⟩))
    (fun os started H enc _ => lifted os started H enc)
#print axioms proved

end Go.Proofs.Ytimmbalmealkaaa.tileArms
