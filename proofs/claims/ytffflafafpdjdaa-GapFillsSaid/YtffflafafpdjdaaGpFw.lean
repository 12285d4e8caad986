/- GapFills' walk. -/
import Derived.Test.YtffflafafpdjdaaGpF
import Derived.Deep.DeepCutAuto
import Derived.Deep.CutBlock
namespace Go.Proofs.Ytffflafafpdjdaa
open Go.RowKit

set_option maxRecDepth 100000 in
set_option maxHeartbeats 4000000 in
theorem fills_walk (w : World) (x y : Nat) (hx : x < 256) (hy : y < 256) (A : Option Addr) (len cap b off : Nat) (hA : 0 < len → A = some ⟨b, off, none⟩) (hb : 0 < len → b < w.heap.size) (hc : Byt w b off len) :
    Calls Try.prog 4 #[.int .u8 (x : Int), .int .u8 (y : Int), .slice A len cap] w fun e w' => e = .returned (.bool true) ∧ Below w.heap.size w w' := by
  have CB := begun_any w
  have HA0 := Lib.hid hA
  have HB0 := Lib.hid hb
  have HC0 := Lib.hid hc
  clear hA hb hc
  have hxI : (x : Int) < 256 := by omega
  have hyI : (y : Int) < 256 := by omega
  go_enter Try.func4, Try.ntmps4
  go_upto_region 3 with (first | (go_at_call 6; refine CB.mono ?_; rintro e w0 ⟨rfl, hb0⟩))
  by_cases hlen : 20 < len
  · have hl : (20 : Int) < (len : Int) := by omega
    have HB := Lib.hid hb0
    clear CB hb0 hlen
    go_wp2
    go_ret
    exact ⟨rfl, HB.out⟩
  · have hl : ¬ (20 : Int) < (len : Int) := by omega
    have hl60 : (len : Int) ≤ 20 := by omega
    have HB := Lib.hid hb0
    have HL := Lib.hid hlen
    clear CB hb0 hlen
    go_upto_region 6 with fail
    obtain ⟨n, hn, hn8⟩ : ∃ n : Nat, (x : Int) % 8 = (n : Int) ∧ n < 8 := ⟨x % 8, by omega, by omega⟩
    obtain ⟨c, hc, hc5⟩ : ∃ c : Nat, (y : Int) % 5 = (c : Int) ∧ c < 5 := ⟨y % 5, by omega, by omega⟩
    rw [hn, hc]
    clear hn hc hx hy hxI hyI
    have CN := Lib.hid (new_g w0 (n : Int))
    rw [pgs_nat (by omega : n ≤ 32)] at CN
    go_upto_region 8 with (go_at_call 7; refine CN.out.mono ?_; rintro e w1 ⟨g, b1, b2, rfl, hG, hb1, hk1⟩)
    have HGO : Hid (GO w (w1.alloc (.cells #[.bool false, .bool false, .bool false, .bool false, .bool false, .bool false, .bool false, .bool false, .bool false, .bool false, .bool false, .bool false, .bool false, .bool false, .bool false, .bool false, .bool false, .bool false, .bool false, .bool false, .bool false, .bool false, .bool false, .bool false, .bool false, .bool false, .bool false, .bool false, .bool false, .bool false, .bool false, .bool false, .bool false, .bool false, .bool false, .bool false, .bool false, .bool false, .bool false, .bool false] 42)) g b1 b2 0 w1.heap.size 40 (St.new n) (fun _ => .bool false)) := by
      have ho : OA (w1.alloc (.cells #[.bool false, .bool false, .bool false, .bool false, .bool false, .bool false, .bool false, .bool false, .bool false, .bool false, .bool false, .bool false, .bool false, .bool false, .bool false, .bool false, .bool false, .bool false, .bool false, .bool false, .bool false, .bool false, .bool false, .bool false, .bool false, .bool false, .bool false, .bool false, .bool false, .bool false, .bool false, .bool false, .bool false, .bool false, .bool false, .bool false, .bool false, .bool false, .bool false, .bool false] 42)) w1.heap.size 40 (fun _ => .bool false) := OA_new w1 (Array.replicate 40 (.bool false)) 42 (.bool false) 40 (fun k hk => by simp [hk])
      have ha := (Below.refl w1.heap.size w1).alloc (Nat.le_refl _) (.cells #[.bool false, .bool false, .bool false, .bool false, .bool false, .bool false, .bool false, .bool false, .bool false, .bool false, .bool false, .bool false, .bool false, .bool false, .bool false, .bool false, .bool false, .bool false, .bool false, .bool false, .bool false, .bool false, .bool false, .bool false, .bool false, .bool false, .bool false, .bool false, .bool false, .bool false, .bool false, .bool false, .bool false, .bool false, .bool false, .bool false, .bool false, .bool false, .bool false, .bool false] 42)
      have hb2 := HB.out.trans (hb1.mono HB.out.size)
      exact ⟨hG.on_ ha, ho, hb2.trans (ha.mono hb2.size), fun k hk => Nat.le_trans HB.out.size (hk1 k hk), hb2.size, fun e => Nat.lt_irrefl _ (hG.lt e)⟩
    generalize w1.alloc (.cells #[.bool false, .bool false, .bool false, .bool false, .bool false, .bool false, .bool false, .bool false, .bool false, .bool false, .bool false, .bool false, .bool false, .bool false, .bool false, .bool false, .bool false, .bool false, .bool false, .bool false, .bool false, .bool false, .bool false, .bool false, .bool false, .bool false, .bool false, .bool false, .bool false, .bool false, .bool false, .bool false, .bool false, .bool false, .bool false, .bool false, .bool false, .bool false, .bool false, .bool false] 42) = w2 at *
    generalize w1.heap.size = o at *
    clear CN hG hb1 hk1 HB
    have HF0 : Hid (Ffl (St.new n) n (fun _ => false)) := ⟨rfl, fun k _ _ => rfl, fun p c v e => by cases e⟩
    go_upto_region 9 with fail
    go_loopw [11] (fun iv wr => Hid (∃ (i : Nat) (s : St) (f : Nat → Bool), i ≤ len ∧ iv = .int .i64 (i : Int) ∧ GO w wr g b1 b2 (2 * i) o 40 s (fun k => .bool (f k)) ∧ Ffl s n f)) (fun iv _ => len - (RowKit.intOf iv).toNat)
    case atStart => exact ⟨0, _, fun _ => false, Nat.zero_le _, rfl, HGO.out, HF0.out⟩
    case round =>
      obtain ⟨i, s, f, hi, rfl, hg, hf⟩ := hrel.out
      have HG := Lib.hid hg
      have HF := Lib.hid hf
      clear hrel hg hf HGO HF0
      have hi0 : 0 ≤ (i : Int) := by omega
      by_cases hlt : i < len
      · have hltI : (i : Int) < (len : Int) := by omega
        have hpos : 0 < len := by omega
        obtain rfl := HA0.out hpos
        obtain ⟨v, hv, hx0⟩ := HC0.out i hlt
        have hx1 := (HG.out.be.cell (p := ⟨b, off + i, none⟩) (HB0.out hpos)).trans hx0
        have HI := Lib.hid hlt
        have hi20 : i < 20 := by omega
        have HMX : Hid (2 * i < maxLen) := by show 2 * i < maxLen; unfold maxLen; omega
        have hvI : (v : Int) < 256 := by omega
        clear hi hpos hx0
        go_upto_region 12 with fail
        obtain ⟨k, hk, hk32⟩ : ∃ k : Nat, (v : Int) % 32 = (k : Int) ∧ k < 32 := ⟨v % 32, by omega, by omega⟩
        rw [hk]
        clear hk
        go_upto_region 13 with fail
        obtain ⟨p, hp, hpk⟩ : ∃ p : Nat, (k : Int) / 4 = (p : Int) ∧ k / 4 = p := ⟨k / 4, by omega, rfl⟩
        obtain ⟨q, hq, hqk⟩ : ∃ q : Nat, (k : Int) % 4 = (q : Int) ∧ k % 4 = q := ⟨k % 4, by omega, rfl⟩
        rw [hp, hq]
        have HP := Lib.hid (And.intro hpk hqk)
        clear hp hq
        have hb3 := (Below.refl wr.heap.size wr).alloc (Nat.le_refl _) (.cells #[.int .i64 (p : Int), .int .i64 (q : Int)] 29)
        have c0 := (al_new wr #[.int .i64 (p : Int), .int .i64 (q : Int)] 29 0).1
        have c1 := (al_new wr #[.int .i64 (p : Int), .int .i64 (q : Int)] 29 1).1
        have HG3 := Lib.hid (HG.out.on hb3)
        have HX := Lib.hid ((hb3.cell (p := ⟨b, off + i, none⟩) (Nat.lt_of_lt_of_le (HB0.out (by omega)) HG.out.be.size)).trans hx1)
        generalize (wr.alloc (.cells #[.int .i64 (p : Int), .int .i64 (q : Int)] 29)) = w3 at *
        generalize wr.heap.size = o3 at *
        clear hb3 hx1 HG
        have hx3 := HX.out
        have hwp : Wf (p : Int) := wf_small (by omega)
        have hwq : Wf (q : Int) := wf_small (by omega)
        have HW := Lib.hid (And.intro hwp hwq)
        clear hwp hwq hpk hqk
        have hk0 : (0 : Int) ≤ (k : Int) := by omega
        have hk40 : (k : Int) < 40 := by omega
        have hk40N : k < 40 := by omega
        obtain ⟨fk, hfk⟩ : ∃ fk, fk = f k := ⟨_, rfl⟩
        have HFK := Lib.hid hfk
        clear hfk
        by_cases hv127 : (127 : Int) < (v : Int)
        · have CH := Lib.hid (hold_g w3 HG3.out.a HMX.out HW.out.1 HW.out.2 (who := 7) (wf_small (by omega)))
          have fin : ∀ w4 : World, GA w4 g b1 b2 (2 * i + 1) (s.hold 7 (p : Int) (q : Int)) → Fr w3.heap.size (Bk g b1 b2) w3 w4 → GO w (w4.setCell ⟨o, k, none⟩ (.bool (canHold s 7 (p : Int) (q : Int) || fk))) g b1 b2 (2 * (i + 1)) o 40 (s.hold 7 (p : Int) (q : Int)) (fun j => .bool (if j = k then (canHold s 7 (p : Int) (q : Int) || fk) else f j)) ∧ Ffl (s.hold 7 (p : Int) (q : Int)) n (fun j => if j = k then (canHold s 7 (p : Int) (q : Int) || fk) else f j) := by
            intro w4 hG4 hf4
            have hg4 := (HG3.out.step hG4 hf4).set (k := k) (by omega) (.bool (canHold s 7 (p : Int) (q : Int) || fk))
            have ef : upF (fun k => Value.bool (f k)) k (.bool (canHold s 7 (p : Int) (q : Int) || fk)) = fun j => Value.bool (if j = k then (canHold s 7 (p : Int) (q : Int) || fk) else f j) := by
              funext j; unfold upF; split <;> rfl
            rw [ef] at hg4
            refine ⟨hg4.mono (by omega), ?_⟩
            rw [← HP.out.1, ← HP.out.2]
            by_cases hin : k / 4 < n
            · have hcan := HF.out.can hin
              rw [hcan, Bool.true_or]
              have hc' := hcan
              unfold canHold at hc'
              simp only [Bool.and_eq_true, Bool.not_eq_true'] at hc'
              rw [St.hold, if_pos hc']
              exact HF.out.hold hin
            · have hcan := HF.out.can_no hin
              rw [hcan, Bool.false_or, HFK.out]
              rw [St.hold, if_neg (by rw [HF.out.out_ hin]; simp)]
              exact HF.out.same hin _
          have FIN := Lib.hid fin
          clear fin
          have oc := Lib.hid (HG3.out.o_.2 k hk40N)
          generalize canHold s 7 (p : Int) (q : Int) = r at *
          cases r
          · go_wp2_with (go_at_call 11; refine CH.out.mono ?_; rintro e w4 ⟨rfl, hG4, hf4⟩; have ho4 := (HG3.out.step hG4 hf4).o_.2 k hk40N; have ho5 : w4.cell? ⟨o, k, none⟩ = some (.bool fk) := (by rw [HFK.out]; exact ho4.1); have ho6 := ho4.2; clear ho4)
            go_roundw
            case rel => exact ⟨i + 1, _, _, HI.out, rfl, FIN.out w4 hG4 hf4⟩
            case measure => have := HI.out; simp only [RowKit.intOf]; omega
          · go_wp2_with (go_at_call 11; refine CH.out.mono ?_; rintro e w4 ⟨rfl, hG4, hf4⟩; have ho4 := (HG3.out.step hG4 hf4).o_.2 k hk40N; have ho5 : w4.cell? ⟨o, k, none⟩ = some (.bool fk) := (by rw [HFK.out]; exact ho4.1); have ho6 := ho4.2; clear ho4)
            go_roundw
            case rel => exact ⟨i + 1, _, _, HI.out, rfl, FIN.out w4 hG4 hf4⟩
            case measure => have := HI.out; simp only [RowKit.intOf]; omega
        · have CH := Lib.hid (use_g w3 HG3.out.a HMX.out HW.out.1 HW.out.2 true)
          obtain ⟨sn, hsn⟩ : ∃ sn, sn = (if inB s.N (p : Int) (q : Int) = true then s.useS (p : Int) (q : Int) true else s) := ⟨_, rfl⟩
          rw [← hsn] at CH
          have fin : ∀ w4 : World, GA w4 g b1 b2 (2 * i + 1) sn → Fr w3.heap.size (Bk g b1 b2) w3 w4 → GO w (w4.setCell ⟨o, k, none⟩ (.bool (inB s.N (p : Int) (q : Int) || fk))) g b1 b2 (2 * (i + 1)) o 40 sn (fun j => .bool (if j = k then (inB s.N (p : Int) (q : Int) || fk) else f j)) ∧ Ffl sn n (fun j => if j = k then (inB s.N (p : Int) (q : Int) || fk) else f j) := by
            intro w4 hG4 hf4
            have hg4 := (HG3.out.step hG4 hf4).set (k := k) (by omega) (.bool (inB s.N (p : Int) (q : Int) || fk))
            have ef : upF (fun k => Value.bool (f k)) k (.bool (inB s.N (p : Int) (q : Int) || fk)) = fun j => Value.bool (if j = k then (inB s.N (p : Int) (q : Int) || fk) else f j) := by
              funext j; unfold upF; split <;> rfl
            rw [ef] at hg4
            refine ⟨hg4.mono (by omega), ?_⟩
            rw [hsn, ← HP.out.1, ← HP.out.2]
            by_cases hin : k / 4 < n
            · have hcan := HF.out.in_ hin
              rw [if_pos hcan, hcan, Bool.true_or]
              exact HF.out.use hin
            · have hcan := HF.out.out_ hin
              rw [if_neg (by rw [hcan]; simp), hcan, Bool.false_or, HFK.out]
              exact HF.out.same hin _
          have FIN := Lib.hid fin
          clear fin hsn
          have oc := Lib.hid (HG3.out.o_.2 k hk40N)
          generalize inB s.N (p : Int) (q : Int) = r at *
          cases r
          · go_wp2_with (go_at_call 9; refine CH.out.mono ?_; rintro e w4 ⟨rfl, hG4, hf4⟩; have ho4 := (HG3.out.step hG4 hf4).o_.2 k hk40N; have ho5 : w4.cell? ⟨o, k, none⟩ = some (.bool fk) := (by rw [HFK.out]; exact ho4.1); have ho6 := ho4.2; clear ho4)
            go_roundw
            case rel => exact ⟨i + 1, _, _, HI.out, rfl, FIN.out w4 hG4 hf4⟩
            case measure => have := HI.out; simp only [RowKit.intOf]; omega
          · go_wp2_with (go_at_call 9; refine CH.out.mono ?_; rintro e w4 ⟨rfl, hG4, hf4⟩; have ho4 := (HG3.out.step hG4 hf4).o_.2 k hk40N; have ho5 : w4.cell? ⟨o, k, none⟩ = some (.bool fk) := (by rw [HFK.out]; exact ho4.1); have ho6 := ho4.2; clear ho4)
            go_roundw
            case rel => exact ⟨i + 1, _, _, HI.out, rfl, FIN.out w4 hG4 hf4⟩
            case measure => have := HI.out; simp only [RowKit.intOf]; omega
      · have HG2 := Lib.hid (HG.out.mono (show 2 * i ≤ 40 by omega))
        have hltI : ¬ (i : Int) < (len : Int) := by omega
        clear hi hlt HG
        go_upto_region 17 with fail
        clear hltI
        go_loopw [14] (fun iv wx => Hid (∃ (k : Nat) (s' : St), k ≤ 32 ∧ iv = .int .i64 (k : Int) ∧ GO w wx g b1 b2 (40 + k) o 40 s' (fun j => .bool (f j)) ∧ Tak s' n c f k)) (fun iv _ => 32 - (RowKit.intOf iv).toNat)
        case atStart => exact ⟨0, s, by omega, rfl, HG2.out, HF.out.tak c⟩
        case round =>
          obtain ⟨k, s', hk, rfl, hg, ht⟩ := hrel.out
          have HG := Lib.hid hg
          have HT := Lib.hid ht
          clear hrel hg ht HG2
          have hk0 : (0 : Int) ≤ (k : Int) := by omega
          by_cases hk32 : k < 32
          · have hk32I : (k : Int) < 32 := by omega
            have hk40 : (k : Int) < 40 := by omega
            have HK := Lib.hid hk32
            obtain ⟨p, hp, hpk⟩ : ∃ p : Nat, (k : Int) / 4 = (p : Int) ∧ k / 4 = p := ⟨k / 4, by omega, rfl⟩
            obtain ⟨q, hq, hqk⟩ : ∃ q : Nat, (k : Int) % 4 = (q : Int) ∧ k % 4 = q := ⟨k % 4, by omega, rfl⟩
            have HP := Lib.hid (And.intro hpk hqk)
            obtain ⟨fk, hfk⟩ : ∃ fk, fk = f k := ⟨_, rfl⟩
            have HFK := Lib.hid hfk
            have ho : wr.cell? ⟨o, k, none⟩ = some (.bool fk) := by rw [hfk]; exact (HG.out.o_.2 k (by omega)).1
            have hwp : Wf (p : Int) := wf_small (by omega)
            have hwq : Wf (q : Int) := wf_small (by omega)
            have HW := Lib.hid (And.intro hwp hwq)
            clear hk hk32 hpk hqk hfk hwp hwq
            by_cases hpn : (n : Int) ≤ (p : Int)
            · go_wp2
              go_roundw
              case rel => exact ⟨k + 1, s', HK.out, rfl, HG.out.mono (by omega), HT.out.skip (Or.inl (by have := HP.out; omega))⟩
              case measure => have := HK.out; simp only [RowKit.intOf]; omega
            · by_cases hqc : (c : Int) ≤ (q : Int)
              · go_wp2
                go_roundw
                case rel => exact ⟨k + 1, s', HK.out, rfl, HG.out.mono (by omega), HT.out.skip (Or.inr (Or.inl (by have := HP.out; omega)))⟩
                case measure => have := HK.out; simp only [RowKit.intOf]; omega
              · cases fk
                · have hnx := HT.out.next hn8 (by omega) HK.out (by have := HP.out; omega) (by have := HP.out; omega) HFK.out.symm
                  rw [HP.out.1, HP.out.2] at hnx
                  have CN := Lib.hid (next_g wr HG.out.a 0 (n : Int) (c : Int) 1)
                  rw [hnx] at CN
                  have hib : inB s'.N (p : Int) (q : Int) = true := inB_yes (by rw [HT.out.N]; omega)
                  have HIB := Lib.hid hib
                  have HQ := Lib.hid (And.intro hpn hqc)
                  clear hnx hib
                  go_upto_region 21 with (go_at_call 15; refine CN.out.mono ?_; rintro e w4 ⟨rfl, hb4⟩)
                  have hb5 := hb4.alloc hb4.size (.cells #[.int .i64 (p : Int), .int .i64 (q : Int)] 29)
                  have a0 := (al_new w4 #[.int .i64 (p : Int), .int .i64 (q : Int)] 29 0).1
                  have a1 := (al_new w4 #[.int .i64 (p : Int), .int .i64 (q : Int)] 29 1).1
                  have HG5 := Lib.hid (HG.out.on hb5)
                  generalize (w4.alloc (.cells #[.int .i64 (p : Int), .int .i64 (q : Int)] 29)) = w5 at *
                  generalize w4.heap.size = r1 at *
                  clear hb4 hb5 HG CN ho
                  have CU := Lib.hid (use_g w5 HG5.out.a (by have := HK.out; unfold maxLen; omega) HW.out.1 HW.out.2 true)
                  rw [HIB.out, if_pos rfl] at CU
                  go_wp2_with (go_at_call 9; refine CU.out.mono ?_; rintro e w6 ⟨rfl, hG6, hf6⟩)
                  go_roundw
                  case rel => exact ⟨k + 1, s'.useS (p : Int) (q : Int) true, HK.out, rfl, HG5.out.step hG6 hf6, by rw [← HP.out.1, ← HP.out.2]; exact HT.out.take⟩
                  case measure => have := HK.out; simp only [RowKit.intOf]; omega
                · go_wp2
                  go_roundw
                  case rel => exact ⟨k + 1, s', HK.out, rfl, HG.out.mono (by omega), HT.out.skip (Or.inr (Or.inr HFK.out.symm))⟩
                  case measure => have := HK.out; simp only [RowKit.intOf]; omega
          · obtain rfl : k = 32 := by omega
            rw [show ((32 : Nat) : Int) = 32 from rfl]
            have CN := Lib.hid (next_g wr HG.out.a 0 (n : Int) (c : Int) 1)
            rw [HT.out.none hn8 (by omega)] at CN
            clear hk hk32 hk0
            go_wp2_with (go_at_call 15; refine CN.out.mono ?_; rintro e w4 ⟨rfl, hb4⟩)
            go_ret
            have hB := HG.out.be
            exact ⟨rfl, (hB.trans (hb4.mono hB.size)).alloc (Nat.le_trans hB.size hb4.size) _⟩
end Go.Proofs.Ytffflafafpdjdaa
