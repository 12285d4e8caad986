/- GapHolds' walk. -/
import Derived.Test.YtffflafafpdjdaaGpH
import Derived.Deep.DeepCutAuto
import Derived.Deep.CutBlock
import Derived.Test.YtffflafafpdjdaaHeldF
namespace Go.Proofs.Ytffflafafpdjdaa
open Go.RowKit

set_option maxRecDepth 100000 in
set_option maxHeartbeats 8000000 in
theorem holds_walk (w : World) (A A' : Option Addr) (len cap b off len' cap' b' off' : Nat) (hA : 0 < len → A = some ⟨b, off, none⟩) (hb : 0 < len → b < w.heap.size) (hc : Byt w b off len)
    (hA' : 0 < len' → A' = some ⟨b', off', none⟩) (hb' : 0 < len' → b' < w.heap.size) (hc' : Byt w b' off' len') :
    Calls Try.prog 5 #[.slice A len cap, .slice A' len' cap'] w fun e w' => e = .returned (.bool true) ∧ Below w.heap.size w w' := by
  have CB := begun_any w
  have HA0 := Lib.hid hA
  have HB0 := Lib.hid hb
  have HC0 := Lib.hid hc
  have HA1 := Lib.hid hA'
  have HB1 := Lib.hid hb'
  have HC1 := Lib.hid hc'
  clear hA hb hc hA' hb' hc'
  go_enter Try.func5, Try.ntmps5
  go_upto_region 3 with (first | (go_at_call 6; refine CB.mono ?_; rintro e w0 ⟨rfl, hb0⟩))
  have HB := Lib.hid hb0
  clear CB hb0
  by_cases hlen : 10 < len
  · have hl : (10 : Int) < (len : Int) := by omega
    clear hlen
    go_wp2
    go_ret
    exact ⟨rfl, HB.out⟩
  · by_cases hlen' : 10 < len'
    · have hl : ¬ (10 : Int) < (len : Int) := by omega
      have hl' : (10 : Int) < (len' : Int) := by omega
      clear hlen hlen'
      go_wp2
      go_ret
      exact ⟨rfl, HB.out⟩
    · have hl : ¬ (10 : Int) < (len : Int) := by omega
      have hl' : ¬ (10 : Int) < (len' : Int) := by omega
      have hl10 : (len : Int) ≤ 10 := by omega
      have hl10' : (len' : Int) ≤ 10 := by omega
      clear hlen hlen'
      have CN := Lib.hid (new_g w0 4)
      rw [show pgs 4 = 4 from rfl] at CN
      go_upto_region 7 with (go_at_call 7; refine CN.out.mono ?_; rintro e w1 ⟨g, b1, b2, rfl, hG, hb1, hk1⟩)
      have HGO : Hid (GO w (w1.alloc (.cells #[.int .i64 0, .int .i64 0, .int .i64 0, .int .i64 0, .int .i64 0, .int .i64 0, .int .i64 0, .int .i64 0, .int .i64 0, .int .i64 0, .int .i64 0, .int .i64 0, .int .i64 0, .int .i64 0, .int .i64 0, .int .i64 0] 44)) g b1 b2 0 w1.heap.size 16 (St.new 4) (fun _ => .int .i64 ((0 : Nat) : Int))) := by
        have ho : OA (w1.alloc (.cells #[.int .i64 0, .int .i64 0, .int .i64 0, .int .i64 0, .int .i64 0, .int .i64 0, .int .i64 0, .int .i64 0, .int .i64 0, .int .i64 0, .int .i64 0, .int .i64 0, .int .i64 0, .int .i64 0, .int .i64 0, .int .i64 0] 44)) w1.heap.size 16 (fun _ => .int .i64 ((0 : Nat) : Int)) := OA_new w1 (Array.replicate 16 (.int .i64 0)) 44 (.int .i64 ((0 : Nat) : Int)) 16 (fun k hk => by simp [hk])
        have ha := (Below.refl w1.heap.size w1).alloc (Nat.le_refl _) (.cells #[.int .i64 0, .int .i64 0, .int .i64 0, .int .i64 0, .int .i64 0, .int .i64 0, .int .i64 0, .int .i64 0, .int .i64 0, .int .i64 0, .int .i64 0, .int .i64 0, .int .i64 0, .int .i64 0, .int .i64 0, .int .i64 0] 44)
        have hb2 := HB.out.trans (hb1.mono HB.out.size)
        exact ⟨hG.on_ ha, ho, hb2.trans (ha.mono hb2.size), fun k hk => Nat.le_trans HB.out.size (hk1 k hk), hb2.size, fun e => Nat.lt_irrefl _ (hG.lt e)⟩
      generalize w1.alloc (.cells #[.int .i64 0, .int .i64 0, .int .i64 0, .int .i64 0, .int .i64 0, .int .i64 0, .int .i64 0, .int .i64 0, .int .i64 0, .int .i64 0, .int .i64 0, .int .i64 0, .int .i64 0, .int .i64 0, .int .i64 0, .int .i64 0] 44) = w2 at *
      generalize w1.heap.size = o at *
      clear CN hG hb1 hk1 HB
      have HH0 : Hid (Hld (St.new 4) (fun _ => 0)) := ⟨rfl, fun _ _ => rfl, fun _ _ => rfl⟩
      go_upto_region 8 with fail
      go_loopw [7] (fun iv wr => Hid (∃ (i : Nat) (s : St) (own : Nat → Nat), i ≤ len ∧ iv = .int .i64 (i : Int) ∧ GO w wr g b1 b2 i o 16 s (fun k => .int .i64 (own k : Int)) ∧ Hld s own ∧ ∀ k, own k ≤ 1)) (fun iv _ => len - (RowKit.intOf iv).toNat)
      case atStart => exact ⟨0, _, fun _ => 0, Nat.zero_le _, rfl, HGO.out, HH0.out, fun _ => Nat.zero_le _⟩
      case round =>
        obtain ⟨i, s, own, hi, rfl, hg, hh, ho1⟩ := hrel.out
        have HG := Lib.hid hg
        have HH := Lib.hid hh
        have HO := Lib.hid ho1
        clear hrel hg hh ho1 HGO HH0
        have hi0 : 0 ≤ (i : Int) := by omega
        by_cases hlt : i < len
        · have hltI : (i : Int) < (len : Int) := by omega
          have hpos : 0 < len := by omega
          obtain rfl := HA0.out hpos
          obtain ⟨v, hv, hx0⟩ := HC0.out i hlt
          have hx1 := (HG.out.be.cell (p := ⟨b, off + i, none⟩) (HB0.out hpos)).trans hx0
          have HI := Lib.hid hlt
          have hvI : (v : Int) < 256 := by omega
          have HMX : Hid (i < maxLen) := by show i < maxLen; unfold maxLen; omega
          clear hi hpos hx0
          go_upto_region 11 with fail
          obtain ⟨k, hk, hk16⟩ : ∃ k : Nat, (v : Int) % 16 = (k : Int) ∧ k < 16 := ⟨v % 16, by omega, by omega⟩
          rw [hk]
          clear hk hx1 hv hvI
          obtain ⟨p, hp, hpk⟩ : ∃ p : Nat, (k : Int) / 4 = (p : Int) ∧ k / 4 = p := ⟨k / 4, by omega, rfl⟩
          obtain ⟨q, hq, hqk⟩ : ∃ q : Nat, (k : Int) % 4 = (q : Int) ∧ k % 4 = q := ⟨k % 4, by omega, rfl⟩
          have HP := Lib.hid (And.intro hpk hqk)
          have hk0 : (0 : Int) ≤ (k : Int) := by omega
          have hk16I : (k : Int) < 16 := by omega
          have HK := Lib.hid hk16
          have hle := HO.out k
          have hc1 : canHold s 1 (p : Int) (q : Int) = true := by
            rw [← hpk, ← hqk]; exact HH.out.can (who := 1) hk16 (by omega)
          have CH := Lib.hid (hold_g wr.drew (HG.out.on (Below.refl _ _).drew).a HMX.out (p := (p : Int)) (c := (q : Int)) (who := 1) (wf_small (by omega)) (wf_small (by omega)) (wf_small (by omega)))
          rw [hc1, hold_can hc1] at CH
          obtain ⟨ok, hok⟩ : ∃ ok : Nat, ok = own k := ⟨_, rfl⟩
          have hoc : wr.cell? ⟨o, k, none⟩ = some (.int .i64 (ok : Int)) := by rw [hok]; exact (HG.out.o_.2 k hk16).1
          have hne : ¬ (ok : Int) = 2 := by omega
          have HOK := Lib.hid hok
          have wp := IntWalk.i64_in (p : Int) (by omega)
          have wq := IntWalk.i64_in (q : Int) (by omega)
          have htm : (k : Int).tmod 4 = (q : Int) := by rw [Int.tmod_eq_emod_of_nonneg hk0]; exact hq
          clear hpk hqk hk16 hle hok
          go_upto_region 11 with fail
          refine wp_region_F (fun (_ : Unit) W => W.cell? ⟨o, k, none⟩ = some (.int .i64 (ok : Int))) (fun _ j => Nat.beq j 99) (by kernel_rfl) ?_
          have HSS : Hid (wr.drew.cell? ⟨o, k, none⟩ = some (.int .i64 (ok : Int))) := hoc
          have HGD := Lib.hid (HG.out.on (Below.refl _ _).drew)
          generalize wr.drew = WK0 at *
          refine wpAnyF_take0 (i := 0) (oi := ⟨_, _, _, _, _, _⟩) (v := ?_) rfl (by kernel_rfl) (by kernel_rfl) (by kernel_rfl) (fun _ _ _ h => h) (Or.inl ⟨by rfl, ?_⟩) ?_
          rotate_left
          · intro W _
            go_simp
            try with_reducible rfl
          rotate_left
          try simp only [Act.put, List.setIfInBounds_toArray, List.set_cons_zero, List.set_cons_succ]
          refine wpAnyF_take0 (i := 1) (oi := ⟨_, _, _, _, _, _⟩) (v := ?_) rfl (by kernel_rfl) (by kernel_rfl) (by kernel_rfl) (fun _ _ _ h => h) (Or.inl ⟨by rfl, ?_⟩) ?_
          rotate_left
          · intro W _
            go_simp
            try with_reducible rfl
          rotate_left
          try simp only [Act.put, List.setIfInBounds_toArray, List.set_cons_zero, List.set_cons_succ]
          refine wpAnyF_take0 (i := 2) (oi := ⟨_, _, _, _, _, _⟩) (v := (.int .i64 (p : Int))) rfl (by kernel_rfl) (by kernel_rfl) (by kernel_rfl) (fun _ _ _ h => h) (Or.inl ⟨by rfl, fun W _ => ?_⟩) ?_
          · go_simp
          try simp only [Act.put, List.setIfInBounds_toArray, List.set_cons_zero, List.set_cons_succ]
          refine wpAnyF_take0 (i := 3) (oi := ⟨_, _, _, _, _, _⟩) (v := ?_) rfl (by kernel_rfl) (by kernel_rfl) (by kernel_rfl) (fun _ _ _ h => h) (Or.inl ⟨by rfl, ?_⟩) ?_
          rotate_left
          · intro W _
            go_simp
            try with_reducible rfl
          rotate_left
          try simp only [Act.put, List.setIfInBounds_toArray, List.set_cons_zero, List.set_cons_succ]
          refine wpAnyF_take0 (i := 4) (oi := ⟨_, _, _, _, _, _⟩) (v := (.int .i64 (q : Int))) rfl (by kernel_rfl) (by kernel_rfl) (by kernel_rfl) (fun _ _ _ h => h) (Or.inl ⟨by rfl, fun W _ => ?_⟩) ?_
          · go_simp
          try simp only [Act.put, List.setIfInBounds_toArray, List.set_cons_zero, List.set_cons_succ]
          refine wpAnyF_take0 (i := 5) (oi := ⟨_, _, _, _, _, _⟩) (v := ?_) rfl (by kernel_rfl) (by kernel_rfl) (by kernel_rfl) (fun _ _ _ h => h) (Or.inl ⟨by rfl, ?_⟩) ?_
          rotate_left
          · intro W _
            go_simp
            try with_reducible rfl
          rotate_left
          try simp only [Act.put, List.setIfInBounds_toArray, List.set_cons_zero, List.set_cons_succ]
          refine wpAnyF_take0 (i := 7) (oi := ⟨_, _, _, _, _, _⟩) (v := ?_) rfl (by kernel_rfl) (by kernel_rfl) (by kernel_rfl) (fun _ _ _ h => h) (Or.inl ⟨by rfl, ?_⟩) ?_
          rotate_left
          · intro W _
            go_simp
            try with_reducible rfl
          rotate_left
          try simp only [Act.put, List.setIfInBounds_toArray, List.set_cons_zero, List.set_cons_succ]
          refine wpAnyF_take0 (i := 8) (oi := ⟨_, _, _, _, _, _⟩) (v := ?_) rfl (by kernel_rfl) (by kernel_rfl) (by kernel_rfl) (fun _ _ _ h => h) (Or.inl ⟨by rfl, ?_⟩) ?_
          rotate_left
          · intro W _
            go_simp
            try with_reducible rfl
          rotate_left
          try simp only [Act.put, List.setIfInBounds_toArray, List.set_cons_zero, List.set_cons_succ]
          refine wpAnyF_take () (i := 9) (oi := ⟨_, _, _, _, _, _⟩) (v := (.int .i64 (ok : Int))) rfl (by kernel_rfl) (by kernel_rfl) (by kernel_rfl) (by kernel_rfl) (fun _ _ _ h => h) HSS.out (Or.inl ⟨by rfl, fun W hSW => ?_⟩) ?_
          · have hS : W.cell? ⟨o, k, none⟩ = some (.int .i64 (ok : Int)) := hSW
            go_simp
          try simp only [Act.put, List.setIfInBounds_toArray, List.set_cons_zero, List.set_cons_succ]
          refine wpAnyF_take0 (i := 10) (oi := ⟨_, _, _, _, _, _⟩) (v := (.bool true)) rfl (by kernel_rfl) (by kernel_rfl) (by kernel_rfl) (fun _ _ _ h => h) (Or.inl ⟨by rfl, fun W _ => ?_⟩) ?_
          · go_simp
          try simp only [Act.put, List.setIfInBounds_toArray, List.set_cons_zero, List.set_cons_succ]
          refine wpAnyF_ready (rs := [6]) (by kernel_rfl) (by simp) ?_
          refine AllReadyF.cons (o := ⟨_, _, _, _, _, _⟩) rfl (fun K hK => ?_) AllReadyF.nil
          rw [if_pos (by rfl)]
          go_simp
          go_at_call 11
          refine CH.out.mono ?_
          rintro e w4 ⟨rfl, hG4, hf4⟩
          have HG4 := Lib.hid (HGD.out.step hG4 hf4)
          have HO5 : Hid (w4.cell? ⟨o, k, none⟩ = some (.int .i64 (ok : Int))) := by
            show w4.cell? ⟨o, k, none⟩ = some (.int .i64 (ok : Int))
            rw [HOK.out]; exact (HG4.out.o_.2 k HK.out).1
          clear hG4 hf4
          go_wp2_with fail
          refine hK.out _ _ (fun _ _ _ => HO5.out) ?_
          clear hK K
          try simp only [Act.put, List.setIfInBounds_toArray, List.set_cons_zero, List.set_cons_succ]
          refine wpAnyF_take0 (i := 11) (oi := ⟨_, _, _, _, _, _⟩) (v := (.bool false)) rfl (by kernel_rfl) (by kernel_rfl) (by kernel_rfl) (fun _ _ _ h => h) (Or.inl ⟨by rfl, fun W _ => ?_⟩) ?_
          · go_simp
          try simp only [Act.put, List.setIfInBounds_toArray, List.set_cons_zero, List.set_cons_succ]
          refine wpAnyF_done (by kernel_rfl) ?_ _
          have ho5 := HO5.out
          have ho6 := (HG4.out.o_.2 k HK.out).2
          have HN := Lib.hid (by
            have := HH.out.hold (who := 1) HK.out (by omega)
            rw [HP.out.1, HP.out.2] at this; exact this)
          go_wp2
          rw [show Value.int .i64 1 = Value.int .i64 ((1 : Nat) : Int) from rfl]
          have hg5 := HG4.out.set (k := k) HK.out (.int .i64 ((1 : Nat) : Int))
          rw [upF_own] at hg5
          go_roundw
          case rel => exact ⟨i + 1, _, upN own k 1, HI.out, rfl, hg5, HN.out, fun j => by unfold upN; split; exact Nat.le_refl _; exact HO.out j⟩
          case measure => have := HI.out; simp only [RowKit.intOf]; omega
        · have hltI : ¬ (i : Int) < (len : Int) := by omega
          have HG2 := Lib.hid (HG.out.mono (show i ≤ 10 by omega))
          have HO2 : Hid (∀ k, own k ≤ 2) := fun k => Nat.le_trans (HO.out k) (by omega)
          clear hi hlt HG HO
          go_upto_region 15 with fail
          clear hltI
          go_loopw [9] (fun iv wr => Hid (∃ (i : Nat) (s : St) (own : Nat → Nat), i ≤ len' ∧ iv = .int .i64 (i : Int) ∧ GO w wr g b1 b2 (10 + i) o 16 s (fun k => .int .i64 (own k : Int)) ∧ Hld s own ∧ ∀ k, own k ≤ 2)) (fun iv _ => len' - (RowKit.intOf iv).toNat)
          case atStart => exact ⟨0, s, own, Nat.zero_le _, rfl, HG2.out, HH.out, HO2.out⟩
          case round =>
            clear hi0 HH HG2 HO2
            obtain ⟨i, s, own, hi, rfl, hg, hh, ho1⟩ := hrel.out
            have HG := Lib.hid hg
            have HH := Lib.hid hh
            have HO := Lib.hid ho1
            clear hrel hg hh ho1
            have hi0 : 0 ≤ (i : Int) := by omega
            by_cases hlt : i < len'
            · have hltI : (i : Int) < (len' : Int) := by omega
              have hpos : 0 < len' := by omega
              obtain rfl := HA1.out hpos
              obtain ⟨v, hv, hx0⟩ := HC1.out i hlt
              have hx1 := (HG.out.be.cell (p := ⟨b', off' + i, none⟩) (HB1.out hpos)).trans hx0
              have HI := Lib.hid hlt
              have hvI : (v : Int) < 256 := by omega
              have HMX : Hid (10 + i < maxLen) := by show 10 + i < maxLen; unfold maxLen; omega
              clear hi hpos hx0
              go_upto_region 18 with fail
              obtain ⟨k, hk, hk16⟩ : ∃ k : Nat, (v : Int) % 16 = (k : Int) ∧ k < 16 := ⟨v % 16, by omega, by omega⟩
              rw [hk]
              clear hk hx1 hv hvI
              obtain ⟨p, hp, hpk⟩ : ∃ p : Nat, (k : Int) / 4 = (p : Int) ∧ k / 4 = p := ⟨k / 4, by omega, rfl⟩
              obtain ⟨q, hq, hqk⟩ : ∃ q : Nat, (k : Int) % 4 = (q : Int) ∧ k % 4 = q := ⟨k % 4, by omega, rfl⟩
              have HP := Lib.hid (And.intro hpk hqk)
              have hk0 : (0 : Int) ≤ (k : Int) := by omega
              have hk16I : (k : Int) < 16 := by omega
              have HK := Lib.hid hk16
              have hle := HO.out k
              have CH := Lib.hid (hold_g wr.drew (HG.out.on (Below.refl _ _).drew).a HMX.out (p := (p : Int)) (c := (q : Int)) (who := 2) (wf_small (by omega)) (wf_small (by omega)) (wf_small (by omega)))
              obtain ⟨ok, hok⟩ : ∃ ok : Nat, ok = own k := ⟨_, rfl⟩
              have hoc : wr.cell? ⟨o, k, none⟩ = some (.int .i64 (ok : Int)) := by rw [hok]; exact (HG.out.o_.2 k hk16).1
              have HOK := Lib.hid hok
              have wp := IntWalk.i64_in (p : Int) (by omega)
              have wq := IntWalk.i64_in (q : Int) (by omega)
              have htm : (k : Int).tmod 4 = (q : Int) := by rw [Int.tmod_eq_emod_of_nonneg hk0]; exact hq
              by_cases h1 : ok = 1
              · have hc1 : canHold s 2 (p : Int) (q : Int) = false := by
                  rw [← hpk, ← hqk]; exact HH.out.can_no (who := 2) hk16 (by omega) (by omega)
                rw [hc1, hold_cannot hc1] at CH
                have heq : (ok : Int) = 1 := by omega
                have hne : ¬ (ok : Int) = 0 := by omega
                clear hpk hqk hk16 hle hok hc1 h1
                go_upto_region 18 with fail
                refine wp_region_F (fun (_ : Unit) W => W.cell? ⟨o, k, none⟩ = some (.int .i64 (ok : Int))) (fun _ j => Nat.beq j 99) (by kernel_rfl) ?_
                have HSS : Hid (wr.drew.cell? ⟨o, k, none⟩ = some (.int .i64 (ok : Int))) := hoc
                have HGD := Lib.hid (HG.out.on (Below.refl _ _).drew)
                generalize wr.drew = WK0 at *
                refine wpAnyF_take0 (i := 0) (oi := ⟨_, _, _, _, _, _⟩) (v := ?_) rfl (by kernel_rfl) (by kernel_rfl) (by kernel_rfl) (fun _ _ _ h => h) (Or.inl ⟨by rfl, ?_⟩) ?_
                rotate_left
                · intro W _
                  go_simp
                  try with_reducible rfl
                rotate_left
                try simp only [Act.put, List.setIfInBounds_toArray, List.set_cons_zero, List.set_cons_succ]
                refine wpAnyF_take0 (i := 1) (oi := ⟨_, _, _, _, _, _⟩) (v := ?_) rfl (by kernel_rfl) (by kernel_rfl) (by kernel_rfl) (fun _ _ _ h => h) (Or.inl ⟨by rfl, ?_⟩) ?_
                rotate_left
                · intro W _
                  go_simp
                  try with_reducible rfl
                rotate_left
                try simp only [Act.put, List.setIfInBounds_toArray, List.set_cons_zero, List.set_cons_succ]
                refine wpAnyF_take0 (i := 2) (oi := ⟨_, _, _, _, _, _⟩) (v := (.int .i64 (p : Int))) rfl (by kernel_rfl) (by kernel_rfl) (by kernel_rfl) (fun _ _ _ h => h) (Or.inl ⟨by rfl, fun W _ => ?_⟩) ?_
                · go_simp
                try simp only [Act.put, List.setIfInBounds_toArray, List.set_cons_zero, List.set_cons_succ]
                refine wpAnyF_take0 (i := 3) (oi := ⟨_, _, _, _, _, _⟩) (v := ?_) rfl (by kernel_rfl) (by kernel_rfl) (by kernel_rfl) (fun _ _ _ h => h) (Or.inl ⟨by rfl, ?_⟩) ?_
                rotate_left
                · intro W _
                  go_simp
                  try with_reducible rfl
                rotate_left
                try simp only [Act.put, List.setIfInBounds_toArray, List.set_cons_zero, List.set_cons_succ]
                refine wpAnyF_take0 (i := 4) (oi := ⟨_, _, _, _, _, _⟩) (v := (.int .i64 (q : Int))) rfl (by kernel_rfl) (by kernel_rfl) (by kernel_rfl) (fun _ _ _ h => h) (Or.inl ⟨by rfl, fun W _ => ?_⟩) ?_
                · go_simp
                try simp only [Act.put, List.setIfInBounds_toArray, List.set_cons_zero, List.set_cons_succ]
                refine wpAnyF_take0 (i := 5) (oi := ⟨_, _, _, _, _, _⟩) (v := ?_) rfl (by kernel_rfl) (by kernel_rfl) (by kernel_rfl) (fun _ _ _ h => h) (Or.inl ⟨by rfl, ?_⟩) ?_
                rotate_left
                · intro W _
                  go_simp
                  try with_reducible rfl
                rotate_left
                try simp only [Act.put, List.setIfInBounds_toArray, List.set_cons_zero, List.set_cons_succ]
                refine wpAnyF_take0 (i := 7) (oi := ⟨_, _, _, _, _, _⟩) (v := ?_) rfl (by kernel_rfl) (by kernel_rfl) (by kernel_rfl) (fun _ _ _ h => h) (Or.inl ⟨by rfl, ?_⟩) ?_
                rotate_left
                · intro W _
                  go_simp
                  try with_reducible rfl
                rotate_left
                try simp only [Act.put, List.setIfInBounds_toArray, List.set_cons_zero, List.set_cons_succ]
                refine wpAnyF_take0 (i := 8) (oi := ⟨_, _, _, _, _, _⟩) (v := ?_) rfl (by kernel_rfl) (by kernel_rfl) (by kernel_rfl) (fun _ _ _ h => h) (Or.inl ⟨by rfl, ?_⟩) ?_
                rotate_left
                · intro W _
                  go_simp
                  try with_reducible rfl
                rotate_left
                try simp only [Act.put, List.setIfInBounds_toArray, List.set_cons_zero, List.set_cons_succ]
                refine wpAnyF_take () (i := 9) (oi := ⟨_, _, _, _, _, _⟩) (v := (.int .i64 (ok : Int))) rfl (by kernel_rfl) (by kernel_rfl) (by kernel_rfl) (by kernel_rfl) (fun _ _ _ h => h) HSS.out (Or.inl ⟨by rfl, fun W hSW => ?_⟩) ?_
                · have hS : W.cell? ⟨o, k, none⟩ = some (.int .i64 (ok : Int)) := hSW
                  go_simp
                try simp only [Act.put, List.setIfInBounds_toArray, List.set_cons_zero, List.set_cons_succ]
                refine wpAnyF_take0 (i := 10) (oi := ⟨_, _, _, _, _, _⟩) (v := (.bool false)) rfl (by kernel_rfl) (by kernel_rfl) (by kernel_rfl) (fun _ _ _ h => h) (Or.inl ⟨by rfl, fun W _ => ?_⟩) ?_
                · go_simp
                try simp only [Act.put, List.setIfInBounds_toArray, List.set_cons_zero, List.set_cons_succ]
                refine wpAnyF_ready (rs := [6]) (by kernel_rfl) (by simp) ?_
                refine AllReadyF.cons (o := ⟨_, _, _, _, _, _⟩) rfl (fun K hK => ?_) AllReadyF.nil
                rw [if_pos (by rfl)]
                go_simp
                go_at_call 11
                refine CH.out.mono ?_
                rintro e w4 ⟨rfl, hG4, hf4⟩
                have HG4 := Lib.hid (HGD.out.step hG4 hf4)
                have HO5 : Hid (w4.cell? ⟨o, k, none⟩ = some (.int .i64 (ok : Int))) := by
                  show w4.cell? ⟨o, k, none⟩ = some (.int .i64 (ok : Int))
                  rw [HOK.out]; exact (HG4.out.o_.2 k HK.out).1
                clear hG4 hf4
                go_wp2_with fail
                refine hK.out _ _ (fun _ _ _ => HO5.out) ?_
                clear hK K
                try simp only [Act.put, List.setIfInBounds_toArray, List.set_cons_zero, List.set_cons_succ]
                refine wpAnyF_take0 (i := 11) (oi := ⟨_, _, _, _, _, _⟩) (v := (.bool false)) rfl (by kernel_rfl) (by kernel_rfl) (by kernel_rfl) (fun _ _ _ h => h) (Or.inl ⟨by rfl, fun W _ => ?_⟩) ?_
                · go_simp
                try simp only [Act.put, List.setIfInBounds_toArray, List.set_cons_zero, List.set_cons_succ]
                refine wpAnyF_done (by kernel_rfl) ?_ _
                have ho5 := HO5.out
                have ho6 := (HG4.out.o_.2 k HK.out).2
                clear hp hq hoc wp wq htm
                go_wp2
                go_roundw
                case rel => exact ⟨i + 1, s, own, HI.out, rfl, HG4.out, HH.out, HO.out⟩
                case measure => have := HI.out; simp only [RowKit.intOf]; omega
              · have hc1 : canHold s 2 (p : Int) (q : Int) = true := by
                  rw [← hpk, ← hqk]; exact HH.out.can (who := 2) hk16 (by omega)
                rw [hc1, hold_can hc1] at CH
                have hne : ¬ (ok : Int) = 1 := by omega
                have h02 : ok = 0 ∨ ok = 2 := by omega
                clear hpk hqk hk16 hle hok hc1 h1
                go_upto_region 18 with fail
                refine wp_region_F (fun (_ : Unit) W => W.cell? ⟨o, k, none⟩ = some (.int .i64 (ok : Int))) (fun _ j => Nat.beq j 99) (by kernel_rfl) ?_
                have HSS : Hid (wr.drew.cell? ⟨o, k, none⟩ = some (.int .i64 (ok : Int))) := hoc
                have HGD := Lib.hid (HG.out.on (Below.refl _ _).drew)
                generalize wr.drew = WK0 at *
                refine wpAnyF_take0 (i := 0) (oi := ⟨_, _, _, _, _, _⟩) (v := ?_) rfl (by kernel_rfl) (by kernel_rfl) (by kernel_rfl) (fun _ _ _ h => h) (Or.inl ⟨by rfl, ?_⟩) ?_
                rotate_left
                · intro W _
                  go_simp
                  try with_reducible rfl
                rotate_left
                try simp only [Act.put, List.setIfInBounds_toArray, List.set_cons_zero, List.set_cons_succ]
                refine wpAnyF_take0 (i := 1) (oi := ⟨_, _, _, _, _, _⟩) (v := ?_) rfl (by kernel_rfl) (by kernel_rfl) (by kernel_rfl) (fun _ _ _ h => h) (Or.inl ⟨by rfl, ?_⟩) ?_
                rotate_left
                · intro W _
                  go_simp
                  try with_reducible rfl
                rotate_left
                try simp only [Act.put, List.setIfInBounds_toArray, List.set_cons_zero, List.set_cons_succ]
                refine wpAnyF_take0 (i := 2) (oi := ⟨_, _, _, _, _, _⟩) (v := (.int .i64 (p : Int))) rfl (by kernel_rfl) (by kernel_rfl) (by kernel_rfl) (fun _ _ _ h => h) (Or.inl ⟨by rfl, fun W _ => ?_⟩) ?_
                · go_simp
                try simp only [Act.put, List.setIfInBounds_toArray, List.set_cons_zero, List.set_cons_succ]
                refine wpAnyF_take0 (i := 3) (oi := ⟨_, _, _, _, _, _⟩) (v := ?_) rfl (by kernel_rfl) (by kernel_rfl) (by kernel_rfl) (fun _ _ _ h => h) (Or.inl ⟨by rfl, ?_⟩) ?_
                rotate_left
                · intro W _
                  go_simp
                  try with_reducible rfl
                rotate_left
                try simp only [Act.put, List.setIfInBounds_toArray, List.set_cons_zero, List.set_cons_succ]
                refine wpAnyF_take0 (i := 4) (oi := ⟨_, _, _, _, _, _⟩) (v := (.int .i64 (q : Int))) rfl (by kernel_rfl) (by kernel_rfl) (by kernel_rfl) (fun _ _ _ h => h) (Or.inl ⟨by rfl, fun W _ => ?_⟩) ?_
                · go_simp
                try simp only [Act.put, List.setIfInBounds_toArray, List.set_cons_zero, List.set_cons_succ]
                refine wpAnyF_take0 (i := 5) (oi := ⟨_, _, _, _, _, _⟩) (v := ?_) rfl (by kernel_rfl) (by kernel_rfl) (by kernel_rfl) (fun _ _ _ h => h) (Or.inl ⟨by rfl, ?_⟩) ?_
                rotate_left
                · intro W _
                  go_simp
                  try with_reducible rfl
                rotate_left
                try simp only [Act.put, List.setIfInBounds_toArray, List.set_cons_zero, List.set_cons_succ]
                refine wpAnyF_take0 (i := 7) (oi := ⟨_, _, _, _, _, _⟩) (v := ?_) rfl (by kernel_rfl) (by kernel_rfl) (by kernel_rfl) (fun _ _ _ h => h) (Or.inl ⟨by rfl, ?_⟩) ?_
                rotate_left
                · intro W _
                  go_simp
                  try with_reducible rfl
                rotate_left
                try simp only [Act.put, List.setIfInBounds_toArray, List.set_cons_zero, List.set_cons_succ]
                refine wpAnyF_take0 (i := 8) (oi := ⟨_, _, _, _, _, _⟩) (v := ?_) rfl (by kernel_rfl) (by kernel_rfl) (by kernel_rfl) (fun _ _ _ h => h) (Or.inl ⟨by rfl, ?_⟩) ?_
                rotate_left
                · intro W _
                  go_simp
                  try with_reducible rfl
                rotate_left
                try simp only [Act.put, List.setIfInBounds_toArray, List.set_cons_zero, List.set_cons_succ]
                refine wpAnyF_take () (i := 9) (oi := ⟨_, _, _, _, _, _⟩) (v := (.int .i64 (ok : Int))) rfl (by kernel_rfl) (by kernel_rfl) (by kernel_rfl) (by kernel_rfl) (fun _ _ _ h => h) HSS.out (Or.inl ⟨by rfl, fun W hSW => ?_⟩) ?_
                · have hS : W.cell? ⟨o, k, none⟩ = some (.int .i64 (ok : Int)) := hSW
                  go_simp
                try simp only [Act.put, List.setIfInBounds_toArray, List.set_cons_zero, List.set_cons_succ]
                refine wpAnyF_take0 (i := 10) (oi := ⟨_, _, _, _, _, _⟩) (v := (.bool true)) rfl (by kernel_rfl) (by kernel_rfl) (by kernel_rfl) (fun _ _ _ h => h) (Or.inl ⟨by rfl, fun W _ => ?_⟩) ?_
                · go_simp
                try simp only [Act.put, List.setIfInBounds_toArray, List.set_cons_zero, List.set_cons_succ]
                refine wpAnyF_ready (rs := [6]) (by kernel_rfl) (by simp) ?_
                refine AllReadyF.cons (o := ⟨_, _, _, _, _, _⟩) rfl (fun K hK => ?_) AllReadyF.nil
                rw [if_pos (by rfl)]
                go_simp
                go_at_call 11
                refine CH.out.mono ?_
                rintro e w4 ⟨rfl, hG4, hf4⟩
                have HG4 := Lib.hid (HGD.out.step hG4 hf4)
                have HO5 : Hid (w4.cell? ⟨o, k, none⟩ = some (.int .i64 (ok : Int))) := by
                  show w4.cell? ⟨o, k, none⟩ = some (.int .i64 (ok : Int))
                  rw [HOK.out]; exact (HG4.out.o_.2 k HK.out).1
                clear hG4 hf4
                go_wp2_with fail
                refine hK.out _ _ (fun _ _ _ => HO5.out) ?_
                clear hK K
                try simp only [Act.put, List.setIfInBounds_toArray, List.set_cons_zero, List.set_cons_succ]
                refine wpAnyF_take0 (i := 11) (oi := ⟨_, _, _, _, _, _⟩) (v := (.bool false)) rfl (by kernel_rfl) (by kernel_rfl) (by kernel_rfl) (fun _ _ _ h => h) (Or.inl ⟨by rfl, fun W _ => ?_⟩) ?_
                · go_simp
                try simp only [Act.put, List.setIfInBounds_toArray, List.set_cons_zero, List.set_cons_succ]
                refine wpAnyF_done (by kernel_rfl) ?_ _
                have ho5 := HO5.out
                have ho6 := (HG4.out.o_.2 k HK.out).2
                clear hp hq hoc wp wq htm
                have hN0 := HH.out.hold (who := 2) HK.out (by omega)
                rw [HP.out.1, HP.out.2] at hN0
                have HN := Lib.hid hN0
                clear hN0
                rcases h02 with rfl | rfl
                · rw [show ((0 : Nat) : Int) = 0 from rfl] at ho5
                  go_wp2
                  rw [show Value.int .i64 2 = Value.int .i64 ((2 : Nat) : Int) from rfl]
                  have hg5 := HG4.out.set (k := k) HK.out (.int .i64 ((2 : Nat) : Int))
                  rw [upF_own] at hg5
                  go_roundw
                  case rel => exact ⟨i + 1, _, upN own k 2, HI.out, rfl, hg5, HN.out, fun j => by unfold upN; split; exact Nat.le_refl _; exact HO.out j⟩
                  case measure => have := HI.out; simp only [RowKit.intOf]; omega
                · rw [show ((2 : Nat) : Int) = 2 from rfl] at ho5
                  go_wp2
                  go_roundw
                  case rel => exact ⟨i + 1, _, own, HI.out, rfl, HG4.out, by have := HN.out; rw [HOK.out, upN_same] at this; rw [← HOK.out] at this; exact this, HO.out⟩
                  case measure => have := HI.out; simp only [RowKit.intOf]; omega
            · have hltI : ¬ (i : Int) < (len' : Int) := by omega
              have HG3 := Lib.hid (HG.out.mono (show 10 + i ≤ 20 by omega))
              clear hi hlt HG
              go_upto_region 23 with fail
              clear hltI hi0
              go_loopw [11] (fun iv wx => Hid (∃ who : Nat, 1 ≤ who ∧ who ≤ 4 ∧ iv = .int .i64 (who : Int) ∧ GO w wx g b1 b2 20 o 16 s (fun k => .int .i64 (own k : Int)))) (fun iv _ => 4 - (RowKit.intOf iv).toNat)
              case atStart => exact ⟨1, Nat.le_refl _, by omega, rfl, HG3.out⟩
              case round =>
                obtain ⟨who, hw1, hw4, rfl, hg⟩ := hrel.out
                have HG := Lib.hid hg
                clear hrel hg HG3
                by_cases hwho : who < 4
                · have hwI : (who : Int) ≤ 3 := by omega
                  have hw0 : (1 : Int) ≤ (who : Int) := by omega
                  have HWH := Lib.hid (And.intro hw1 hwho)
                  clear hw1 hw4 hwho
                  go_upto_region 27 with fail
                  go_loopw [12, 13] (fun xv kv wx => Hid (∃ m : Nat, m ≤ 16 ∧ kv = .int .i64 ((m : Int) - 1) ∧ (∃ x0 : Int, xv = .int .i64 x0 ∧ Want own who m x0) ∧ wx = wr)) (fun _ kv _ => (RowKit.intOf kv + 1).toNat)
                  case atStart => exact ⟨16, Nat.le_refl _, rfl, ⟨-1, rfl, Want.start own who⟩, rfl⟩
                  case round =>
                    obtain ⟨m, hm, rfl, ⟨x0, rfl, hwant⟩, rfl⟩ := hrel.out
                    have HWT := Lib.hid hwant
                    clear hrel hwant
                    by_cases hm0 : 0 < m
                    · obtain ⟨k, rfl⟩ : ∃ k, m = k + 1 := ⟨m - 1, by omega⟩
                      rw [show (((k + 1 : Nat) : Int) - 1) = (k : Int) by omega]
                      have hk0 : (0 : Int) ≤ (k : Int) := by omega
                      have hk16 : (k : Int) < 16 := by omega
                      have HK : Hid (k < 16) := by show k < 16; omega
                      obtain ⟨ok, hok⟩ : ∃ ok : Nat, ok = own k := ⟨_, rfl⟩
                      have hoc : wr.cell? ⟨o, k, none⟩ = some (.int .i64 (ok : Int)) := by rw [hok]; exact (HG.out.o_.2 k HK.out).1
                      have HOK := Lib.hid hok
                      clear hm hm0 hok
                      by_cases h0 : ok = 0
                      · subst h0
                        rw [show ((0 : Nat) : Int) = 0 from rfl] at hoc
                        have HY := Lib.hid (Want.yes (own := own) (who := who) HK.out (Or.inl HOK.out.symm))
                        go_wp2
                        go_roundw
                        case rel => exact ⟨k, by have := HK.out; omega, rfl, ⟨_, rfl, HY.out⟩, trivial⟩
                        case measure => simp only [RowKit.intOf]; omega
                      · have h0I : ¬ (ok : Int) = 0 := by omega
                        by_cases hw : ok = who
                        · have hwE : (ok : Int) = (who : Int) := by omega
                          have HY := Lib.hid (Want.yes (own := own) (who := who) HK.out (Or.inr (by rw [← HOK.out]; exact hw)))
                          clear h0 hw
                          go_wp2
                          go_roundw
                          case rel => exact ⟨k, by have := HK.out; omega, rfl, ⟨_, rfl, HY.out⟩, trivial⟩
                          case measure => simp only [RowKit.intOf]; omega
                        · have hwE : ¬ (ok : Int) = (who : Int) := by omega
                          have HY := Lib.hid (HWT.out.no (show ¬ okW own who k by unfold okW; rw [← HOK.out]; omega))
                          have q0 : ((ok : Int) == 0) = false := beq_eq_false_iff_ne.2 h0I
                          have q1 : ((ok : Int) == (who : Int)) = false := beq_eq_false_iff_ne.2 hwE
                          clear h0 hw hwE h0I
                          go_wp2
                          go_roundw
                          case rel => exact ⟨k, by have := HK.out; omega, rfl, ⟨_, rfl, HY.out⟩, trivial⟩
                          case measure => simp only [RowKit.intOf]; omega
                    · obtain rfl : m = 0 := by omega
                      rw [show (((0 : Nat) : Int) - 1) = -1 from rfl]
                      clear hm hm0
                      have CN := Lib.hid (next_g wr HG.out.a 0 4 4 (who : Int))
                      rcases HWT.out with ⟨rfl, hno⟩ | ⟨j, rfl, _, hj16, hjo, hjn⟩
                      · rw [HH.out.next_no hno] at CN
                        clear hno
                        go_wp2_with (go_at_call 15; refine CN.out.mono ?_; rintro e w4 ⟨rfl, hb4⟩)
                        go_roundw
                        case rel => exact ⟨who + 1, by omega, by have := HWH.out; omega, rfl, HG.out.on (hb4.alloc hb4.size _)⟩
                        case measure => have := HWH.out; simp only [RowKit.intOf]; omega
                      · rw [HH.out.next_yes hj16 hjo hjn] at CN
                        obtain ⟨p, hp⟩ : ∃ p : Nat, p = j / 4 := ⟨_, rfl⟩
                        obtain ⟨q, hq⟩ : ∃ q : Nat, q = j % 4 := ⟨_, rfl⟩
                        rw [← hp, ← hq] at CN
                        have hpq : 4 * (p : Int) + (q : Int) = (j : Int) := by omega
                        have hp4 : (p : Int) < 4 := by omega
                        have hq4 : (q : Int) < 4 := by omega
                        have hj0 : (0 : Int) ≤ (j : Int) := by omega
                        have hp0 : (0 : Int) ≤ (p : Int) := by omega
                        have hq0 : (0 : Int) ≤ (q : Int) := by omega
                        clear hj16 hjo hjn hp hq
                        go_upto_region 32 with (go_at_call 15; refine CN.out.mono ?_; rintro e w4 ⟨rfl, hb4⟩)
                        have hb5 := hb4.alloc hb4.size (.cells #[.int .i64 (p : Int), .int .i64 (q : Int)] 29)
                        have a0 := (al_new w4 #[.int .i64 (p : Int), .int .i64 (q : Int)] 29 0).1
                        have a1 := (al_new w4 #[.int .i64 (p : Int), .int .i64 (q : Int)] 29 1).1
                        have HG5 := Lib.hid (HG.out.on hb5)
                        generalize (w4.alloc (.cells #[.int .i64 (p : Int), .int .i64 (q : Int)] 29)) = w5 at *
                        generalize w4.heap.size = r1 at *
                        clear hb4 hb5 CN
                        go_wp2
                        go_roundw
                        case rel => exact ⟨who + 1, by omega, by have := HWH.out; omega, rfl, HG5.out⟩
                        case measure => have := HWH.out; simp only [RowKit.intOf]; omega
                · obtain rfl : who = 4 := by omega
                  rw [show ((4 : Nat) : Int) = 4 from rfl]
                  clear hw1 hw4 hwho
                  go_upto_region 36 with fail
                  go_loopw [16, 17] (fun hv kv wx => Hid (∃ k : Nat, k ≤ 16 ∧ kv = .int .i64 (k : Int) ∧ hv = .int .i64 (cntO own k : Int) ∧ wx = wr)) (fun _ kv _ => 16 - (RowKit.intOf kv).toNat)
                  case atStart => exact ⟨0, Nat.zero_le _, rfl, rfl, rfl⟩
                  case round =>
                    obtain ⟨k, hk, rfl, rfl, rfl⟩ := hrel.out
                    clear hrel
                    by_cases hk16 : k < 16
                    · have hk0 : (0 : Int) ≤ (k : Int) := by omega
                      have hk16I : (k : Int) < 16 := by omega
                      have HK := Lib.hid hk16
                      obtain ⟨ok, hok⟩ : ∃ ok : Nat, ok = own k := ⟨_, rfl⟩
                      have hoc : wr.cell? ⟨o, k, none⟩ = some (.int .i64 (ok : Int)) := by rw [hok]; exact (HG.out.o_.2 k hk16).1
                      have hs := cntO_succ own k
                      have hle := cntO_le own k
                      rw [← hok] at hs
                      obtain ⟨x, hx⟩ : ∃ x, x = cntO own k := ⟨_, rfl⟩
                      rw [← hx] at hs hle ⊢
                      have hx100 : (x : Int) ≤ 16 := by omega
                      clear hk hk16 hok hx hle
                      by_cases h0 : ok = 0
                      · subst h0
                        rw [show ((0 : Nat) : Int) = 0 from rfl] at hoc
                        have HS := Lib.hid hs
                        clear hs
                        go_wp2
                        go_roundw
                        case rel => exact ⟨k + 1, HK.out, rfl, by rw [HS.out]; rfl, trivial⟩
                        case measure => have := HK.out; simp only [RowKit.intOf]; omega
                      · have h0I : ¬ (ok : Int) = 0 := by omega
                        rw [if_pos h0] at hs
                        have HS := Lib.hid hs
                        clear hs h0
                        go_wp2
                        go_roundw
                        case rel => exact ⟨k + 1, HK.out, rfl, by rw [HS.out]; rfl, trivial⟩
                        case measure => have := HK.out; simp only [RowKit.intOf]; omega
                    · obtain rfl : k = 16 := by omega
                      rw [show ((16 : Nat) : Int) = 16 from rfl]
                      clear hk hk16
                      have CE := Lib.hid (held_g wr HG.out.a 0 4)
                      rw [HH.out.held] at CE
                      obtain ⟨x, hx⟩ : ∃ x : Int, x = (cntO own 16 : Int) := ⟨_, rfl⟩
                      rw [← hx] at CE ⊢
                      clear hx
                      go_upto_region 42 with (first
                        | (go_at_call 19; refine CE.out.mono ?_; rintro e w4 ⟨rfl, hb4⟩)
                        | (go_at_call 18; refine (used_g w4 (HG.out.on hb4).a 0 4).mono ?_; rintro e w5 ⟨rfl, hb5⟩; rw [HH.out.used, show ((0 : Nat) : Int) = 0 from rfl]))
                      have HG5 := Lib.hid ((HG.out.on hb4).on hb5)
                      clear hb4 hb5 CE HG
                      have CF := Lib.hid (free_g w5 HG5.out.a 1)
                      go_upto_region 43 with (go_at_call 13; refine CF.out.mono ?_; rintro e w6 ⟨rfl, hG6, hf6⟩)
                      have HG6 := Lib.hid (HG5.out.step hG6 hf6)
                      clear CF hG6 hf6
                      have CF := Lib.hid (free_g w6 HG6.out.a 2)
                      go_upto_region 44 with (go_at_call 13; refine CF.out.mono ?_; rintro e w7 ⟨rfl, hG7, hf7⟩)
                      have HG7 := Lib.hid (HG6.out.step hG7 hf7)
                      clear CF hG7 hf7
                      have HZ : Hid (Hld ((s.free 1).free 2) (fun _ => 0)) := by
                        have h2 := (HH.out.freed 1).freed 2
                        have e : (fun j => if (if own j = 1 then 0 else own j) = 2 then 0 else (if own j = 1 then 0 else own j)) = fun _ => 0 := by
                          funext j
                          have := HO.out j
                          by_cases e1 : own j = 1
                          · simp [e1]
                          · by_cases e2 : own j = 2
                            · simp [e2]
                            · simp [e1, e2]; omega
                        rw [e] at h2
                        exact h2
                      have CN := Lib.hid (next_g w7 HG7.out.a 0 4 4 3)
                      have hy := HZ.out.next_yes (who := 3) (k := 0) (by omega) (Or.inl rfl) (fun i h1 h2 => by omega)
                      rw [show ((3 : Nat) : Int) = 3 from rfl, show ((0 / 4 : Nat) : Int) = 0 from rfl] at hy
                      rw [hy] at CN
                      clear hy
                      go_upto_region 45 with (go_at_call 15; refine CN.out.mono ?_; rintro e w8 ⟨rfl, hb8⟩)
                      have hb9 := hb8.alloc hb8.size (.cells #[.int .i64 0, .int .i64 0] 29)
                      have a0 := (al_new w8 #[.int .i64 0, .int .i64 0] 29 0).1
                      have a1 := (al_new w8 #[.int .i64 0, .int .i64 0] 29 1).1
                      have HG9 := Lib.hid (HG7.out.on hb9)
                      generalize (w8.alloc (.cells #[.int .i64 0, .int .i64 0] 29)) = w9 at *
                      generalize w8.heap.size = r1 at *
                      clear hb8 hb9 CN
                      have eq0 := fun W => eql_rid0 W
                      have CE := Lib.hid (held_g w9 HG9.out.a 0 4)
                      rw [HZ.out.held, show cntO (fun _ => 0) 16 = 0 from rfl, show ((0 : Nat) : Int) = 0 from rfl] at CE
                      go_wp2_with (go_at_call 19; refine CE.out.mono ?_; rintro e w10 ⟨rfl, hb10⟩)
                      go_ret
                      exact ⟨rfl, HG9.out.be.trans (hb10.mono HG9.out.be.size)⟩
end Go.Proofs.Ytffflafafpdjdaa
