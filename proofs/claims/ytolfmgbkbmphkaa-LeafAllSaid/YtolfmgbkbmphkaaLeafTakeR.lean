/- The reference's TakeLeaf. -/
import Derived.Test.YtolfmgbkbmphkaaLeafTake
import Derived.Deep.CutBlock
namespace Go.Proofs.Ytolfmgbkbmphkaa
open Go.RowKit

theorem rtk_end {W : World} {tmps : Array Value} {g : Nat} {P : Nat → Option Addr} {N K : Nat → Nat} {n er : Int} (h4 : tmps.getD 4 undef = .pointer (some ⟨g, 0, none⟩)) (h5 : tmps.getD 5 undef = .int .i64 er) (k : W.heap[g]? = some (pgO P N K n)) : (results Try.f15 tmps).run Try.prog W = .ok (.tuple #[pgV P N K n, .int .i64 er]) W := by
  rw [Array.getD_eq_getD_getElem?] at h4 h5
  have hc := fun i => (cell_of (cs := pgC P N K n) k i).1
  have a0 := hc 0
  have a1 := hc 1
  have a2 := hc 2
  have a3 := hc 3
  have a4 := hc 4
  simp [results, Try.results15, go_sem, h4, h5, a0, a1, a2, a3, a4, pgC, pgV]

set_option maxRecDepth 100000 in
set_option maxHeartbeats 2000000 in
theorem rtakel_any (w : World) (a b : Value) (la lb : List Int) (ha : SlK .u8 w a la) (hb : SlK .u8 w b lb) : Calls Try.prog 15 #[a, b] w (TkPost w la lb) := by
  obtain ⟨i, hi, hz0, hz1, hz2⟩ := info_parts infoU8
  have hb0 : Below w.heap.size w (w.alloc zP) := (Below.refl _ _).alloc (Nat.le_refl _) _
  have hk0 : (w.alloc zP).heap[w.heap.size]? = some zP := heap_alloc_new w _
  have HT := Lib.hid (rtake_T (w.alloc zP) a b la lb (ha.below hb0 (Nat.le_refl _)) (hb.below hb0 (Nat.le_refl _)))
  obtain ⟨pa, ca, rfl, -⟩ := ha
  obtain ⟨pb, cb, rfl, -⟩ := hb
  have HB0 := Lib.hid hb0
  have HK0 := Lib.hid hk0
  have HZ0 : Hid (w.heap.size < (w.alloc zP).heap.size) := by show _ < _; simp
  clear hb0 hk0
  go_enter Try.func15, Try.ntmps15
  go_upto_region 1 with (fail)
  show Code.wp _ _ _ _ (w.alloc zP)
  generalize w.alloc zP = w0 at *
  go_wp2_with fail
  refine HT.out.mono ?_
  rintro e w1 ⟨v, rfl, hv, hb1⟩
  have HB1 := Lib.hid (HB0.out.trans (hb1.mono HB0.out.size))
  have HK1 := Lib.hid ((hb1.block _ HZ0.out).trans HK0.out)
  have HZ1 := Lib.hid (Nat.lt_of_lt_of_le HZ0.out hb1.size)
  have HV := Lib.hid hv
  have hz := pg_cell (HK1.out : _ = some (pgO P0 N0 N0 0))
  have HZc := Lib.hid hz
  clear hb1 hv HT HB0 HK0 HZ0 hz
  by_cases he : tE la lb = 0
  · have hlen := tE_len he
    obtain ⟨p, cap, rfl, -⟩ := id HV.out
    have hpt := HV.out.pt (fun e => by rw [e] at hlen; cases hlen)
    obtain ⟨b, off, cap', e, -⟩ := id hpt
    injection e with e1 e2 e3
    subst e1 e3
    clear e2
    rw [hlen] at hpt HV ⊢
    rw [he]
    obtain ⟨l, hl⟩ : ∃ l, tL la lb = l := ⟨_, rfl⟩
    have HLl := Lib.hid hl
    have HEe := Lib.hid he
    rw [hl] at hpt hlen
    have hcap : 120 ≤ cap := by obtain ⟨_, _, _, e, h1, _⟩ := hpt; injection e; omega
    have hok : bytesOk l := by rw [← hl]; exact HV.out.ok
    have HPt := Lib.hid hpt
    have HLen := Lib.hid hlen
    have HOk := Lib.hid hok
    have i3 : (120 : Int) ≤ (cap : Int) := by omega
    have hcs : ∀ j, (h : j < l.length) → w1.cell? ⟨b, off + j, none⟩ = some (.int .u8 l[j]) := by
      obtain ⟨_, _, _, e, _, _, h3⟩ := hpt
      injection e with e1
      injection e1 with e1
      injection e1 with e1 e4
      subst e1 e4
      exact h3
    have HCs := Lib.hid hcs
    clear hl he hpt hlen hok HV hcs
    obtain ⟨kk, hkk⟩ : ∃ kk, tK la lb = kk := ⟨_, rfl⟩
    have HKK := Lib.hid hkk
    rw [hkk]
    clear hkk HZc
    go_upto_block 0 with (fail)
    go_cut [9] (fun u wx => u = .int .i64 120 ∧ w1 = wx ∧ zerosB (l.drop 104) = true)
    case first =>
      go_wp2
      go_loopw [9] (fun i wr => ∃ k : Nat, 104 ≤ k ∧ k ≤ 120 ∧ i = .int .i64 k ∧ Hid (∀ j, (h : j < l.length) → 104 ≤ j → j < k → l[j] = 0) ∧ w1 = wr) (fun i _ => 120 - (intOf i).toNat)
      case atStart => exact ⟨104, by omega, by omega, rfl, fun j h h1 h2 => by omega, rfl⟩
      case round =>
        obtain ⟨k, hk0, hk, rfl, HZ, rfl⟩ := hrel
        by_cases hlt : k < 120
        · have hkl : k < l.length := by rw [HLen.out]; exact hlt
          have x0 := HCs.out k hkl
          by_cases h0 : l[k] = 0
          · have HZ2 : Hid (∀ j, (h : j < l.length) → 104 ≤ j → j < k + 1 → l[j] = 0) := fun j h h1 h2 => by
              by_cases e : j = k
              · subst e; exact h0
              · exact HZ.out j h h1 (by omega)
            rw [h0] at x0
            clear h0 hkl
            go_wp2
            go_roundw
            case rel => exact ⟨k + 1, Nat.le_succ_of_le hk0, hlt, by go_num, HZ2, trivial⟩
            case measure => simp [intOf]; omega
          · have HFz : Hid (zerosB (l.drop 104) = false) := zerosB_false (k := k - 104) (by have := HLen.out; simp; omega) (by
              rw [List.getElem_drop]
              have e : 104 + (k - 104) = k := by omega
              simp only [e]
              exact h0)
            have hx : (l[k] != 0) = true := by simpa using h0
            obtain ⟨x, hxx⟩ : ∃ x, l[k] = x := ⟨_, rfl⟩
            rw [hxx] at x0 hx
            clear h0 hxx
            have HTk : Hid (TkPost w la lb (.returned (.tuple #[pgV P0 N0 N0 0, .int .i64 4])) (finP w1 w.heap.size P0 N0 N0 0)) := tk_no (.form HEe.out (by rw [HLl.out]; exact HFz.out)) (finP_below HB1.out (Nat.le_refl _))
            have hk := (HK1.out : w1.heap[w.heap.size]? = some (pgO P0 N0 N0 0))
            have HE := Lib.hid (finP_heap (P := P0) (N := N0) (K := N0) (n := 0) hk)
            have hz := pg_cell hk
            have c0 := hz.1 0 (by decide)
            have c1 := hz.1 1 (by decide)
            have c2 := hz.1 2 (by decide)
            have c3 := hz.1 3 (by decide)
            have c4 := hz.2.1
            have f0 := hz.2.2 0
            have f1 := hz.2.2 1
            have f2 := hz.2.2 2
            have f3 := hz.2.2 3
            have f4 := hz.2.2 4
            clear hz
            clear hk
            go_wp2
            change bodyPost _ _ _ _ _ (finP w1 w.heap.size P0 N0 N0 0)
            exact bodyPost_ret (rtk_end rfl rfl HE.out) rfl HTk.out
        · obtain rfl : k = 120 := by omega
          have HZt : Hid (zerosB (l.drop 104) = true) := zerosB_true (fun j hj => by
            rw [List.getElem_drop]
            have hj' : j < 16 := by have := HLen.out; simp at hj; omega
            exact HZ.out _ _ (by omega) (by omega))
          go_wp2
          go_meet
          exact ⟨rfl, rfl, HZt.out⟩
    case rest =>
      obtain ⟨rfl, rfl, hzz⟩ := hcut
      have HZZ := Lib.hid hzz
      clear hzz HCs
      have HS0 : Hid (StT w1 (w1.alloc (pgO P0 N0 N0 kk)) l kk 0) := stT_new w1 l kk
      go_upto_region 10 with (fail)
      show Code.wp _ _ _ _ (w1.alloc (pgO P0 N0 N0 kk))
      generalize w1.alloc (pgO P0 N0 N0 kk) = w2 at *
      go_wp2
      go_loopw [11] (fun i wr => ∃ k : Nat, k ≤ 4 ∧ i = .int .i64 k ∧ Hid (∀ j, j < k → rdOk (cutL l j)) ∧ Hid (StT w1 wr l kk k)) (fun i _ => 4 - (intOf i).toNat)
      case atStart => exact ⟨0, by omega, rfl, fun j hj => by omega, HS0⟩
      case round =>
        obtain ⟨k, hk, rfl, HRd, HS⟩ := hrel
        clear HS0
        have HK4 : Hid (∀ W, Below w1.heap.size w1 W → W.heap[w.heap.size]? = some zP) := fun W hW => (hW.block _ HZ1.out).trans HK1.out
        have HBW : Hid (∀ W, Below w1.heap.size w1 W → Below w.heap.size w W) := fun W hW => HB1.out.trans (hW.mono (Nat.le_of_lt HZ1.out))
        have HSB : Hid (Below w1.heap.size w1 wr) := by obtain ⟨_, _, _, _, _, _, h, _⟩ := HS.out; exact h
        clear HK1 HB1
        by_cases hlt : k < 4
        · obtain ⟨m, hm⟩ : ∃ m, 26 * k = m := ⟨_, rfl⟩
          have hw : IntKind.i64.wrap ((k : Int) * 26) = (m : Int) := by rw [IntWalk.i64_in _ (by omega)]; omega
          have hw1 : IntKind.i64.wrap ((k : Int) + 1) = (k : Int) + 1 := IntWalk.i64_in _ (by omega)
          have hw2 : IntKind.i64.wrap (((k : Int) + 1) * 26) = (m : Int) + 26 := by rw [IntWalk.i64_in _ (by omega)]; omega
          have hm1 : m ≤ 78 := by omega
          have hp1 : Pt wr (.slice (some ⟨b, off + m, none⟩) 26 (cap - m)) (cutL l k) := by
            unfold cutL
            rw [hm]
            exact ((HPt.out.below HSB.out (Nat.le_refl _)).cut (k := m) (m := 120 - m) (c' := cap - m) (by omega) (fun _ => rfl) (by omega) (by omega)).first (by omega) (by omega)
          have hcl := cut_len HLen.out hlt
          have hok : bytesOk (cutL l k) := ok_take (ok_drop HOk.out _) _
          have hsl := hp1.slK hok
          have HRe := Lib.hid (rread_any wr _ _ hsl)
          have HSl := Lib.hid hsl
          have HCl := Lib.hid hcl
          have HOkc := Lib.hid hok
          have j1 : (m : Int) ≤ 120 := by omega
          have j2 : (0 : Int) ≤ (m : Int) := by omega
          have j3 : (m : Int) ≤ (cap : Int) := by omega
          have j4 : ¬ cap = m := by omega
          have j5 : ¬ m = cap := by omega
          have j6 : (26 : Int) ≤ (cap : Int) - (m : Int) := by omega
          have j7 : 26 ≤ cap - m := by omega
          have j8 : m ≤ 120 := by omega
          have j9 : m ≤ cap := by omega
          have k1 : (m : Int) + 26 ≤ (cap : Int) := by omega
          have k2 : (0 : Int) ≤ (m : Int) + 26 := by omega
          have k3 : (m : Int) ≤ (m : Int) + 26 := by omega
          have k4 : m + 26 ≤ cap := by omega
          clear hm hp1 hcl hok hsl
          go_wp2_with fail
          refine HRe.out.mono ?_
          rintro e w3 ⟨a, ks, ss, vs, rp, rc, er, hrd, rfl, hb3⟩
          have hb5 : Below wr.heap.size wr ((w3.alloc (rowO ks ss vs)).alloc (ridO rp rc)) := (hb3.alloc hb3.size _).alloc (by have := hb3.size; simp; omega) _
          have HS5 := Lib.hid (HS.out.on hb5)
          have HSl5 := Lib.hid (HSl.out.below hb5 (Nat.le_refl _))
          have HB5 := Lib.hid (HSB.out.trans (hb5.mono HSB.out.size))
          have HEr := Lib.hid hrd.er
          have HRk := Lib.hid hrd
          clear hb3 hb5 hrd HRe HSl HS HSB hw j1 j2 j3 j4 j5 j6 j7 j8 j9 hm1 hw1 hw2 k1 k2 k3 k4
          go_upto_region 15 with (fail)
          show Code.wp _ _ _ _ ((w3.alloc (rowO ks ss vs)).alloc (ridO rp rc))
          generalize (w3.alloc (rowO ks ss vs)).alloc (ridO rp rc) = w5 at *
          rcases HEr.out with rfl | ⟨rfl, hno⟩
          · have HRd2 : Hid (∀ j, j < k + 1 → rdOk (cutL l j)) := fun j hj => by
              by_cases e : j = k
              · subst e; exact ⟨_, _, _, _, _, _, HRk.out⟩
              · exact HRd.out j (by omega)
            have hem := blank_any w5 _ _ HSl5.out
            cases hq : empB (cutL l k)
            · rw [hq] at hem
              have HEm := Lib.hid hem
              have HQ := Lib.hid hq
              clear hem hq
              go_wp2_with fail
              refine HEm.out.mono ?_
              rintro e w6 ⟨rfl, hb6⟩
              have HS6 := Lib.hid (HS5.out.on hb6)
              have hp6 := (HSl5.out.below hb6 (Nat.le_refl _)).pt (fun e => by have := HCl.out; rw [e] at this; cases this)
              have T0 : Below w6.heap.size w6 (w6.alloc (.cells #[] 5)) := (Below.refl _ _).alloc (Nat.le_refl _) _
              have O0 : (w6.alloc (.cells #[] 5)).ownsRow w6.heap.size 5 1 (.slice (some ⟨w6.heap.size, 0, none⟩) 0 0) 0 [] := World.ownsRow_made w6 #[] 0 (Nat.le_refl _) (by unfold maxLen; omega) rfl
              have HP6 := Lib.hid hp6
              clear hb6 hp6
              go_wp2_with (at_builtin; refine wpList_append_own _ rfl _ _ 22 rfl w6.heap.size 5 i (.int .u8 0) 1 1 Try.underlying22 hi hz0 hz1 hz2 rfl (by decide) _ 0 [] rfl O0 ⟨b, off + m, none⟩ 26 (cap - m) (byteV (cutL l k)) rfl ?c2 (HP6.out.below T0 (Nat.le_refl _)).news (byteV_one _) (by unfold maxLen; omega) (by omega) T0.size ?_)
              case c2 => rw [byteV, List.length_map, HCl.out]
              intro v' w7 ho hg _
              have ho2 : w7.ownsRow w6.heap.size 5 1 v' (cutL l k).length (byteV (cutL l k)) := by rw [HCl.out]; exact ho
              have hb : Below w6.heap.size w6 w7 := T0.grown hg T0.size (fun k hk => by cases hk; exact Nat.le_refl _)
              obtain ⟨p', q', rfl⟩ := own_sl ho2
              have HX : Hid (StT w1 (w7.setCell ⟨w1.heap.size, k, none⟩ (.slice p' (cutL l k).length q')) l kk (k + 1)) := HS6.out.next hlt HQ.out hb ho2 HOkc.out
              obtain ⟨P2, N2, K2, h2, -, -, -, hg2⟩ := HS6.out
              have hp5 := pg_cell ((hb.block _ (by omega)).trans h2)
              have f1 := hp5.2.2 k
              have d1 := hp5.1 k hlt
              clear ho ho2 hb hp5 h2 hg hg2 T0 O0
              go_wp2
              go_roundw
              all_goals first
                | exact ⟨k + 1, by omega, by go_num, HRd2, HX⟩
                | (simp [intOf]; omega)
            · rw [hq] at hem
              have HEm := Lib.hid hem
              have hsk := HS5.out.skip hq
              have HSk := Lib.hid hsk
              clear hem hq hsk
              go_wp2_with fail
              refine HEm.out.mono ?_
              rintro e w6 ⟨rfl, hb6⟩
              have HX := Lib.hid (HSk.out.on hb6)
              clear hb6
              go_wp2
              go_roundw
              all_goals first
                | exact ⟨k + 1, by omega, by go_num, HRd2, HX⟩
                | (simp [intOf]; omega)
          · have HTk : Hid (TkPost w la lb (.returned (.tuple #[pgV P0 N0 N0 0, .int .i64 4])) (finP w5 w.heap.size P0 N0 N0 0)) := tk_no (.cell HEe.out (by rw [HLl.out]; exact HZZ.out) k hlt (by rw [HLl.out]; exact hno)) (finP_below (HBW.out _ HB5.out) (Nat.le_refl _))
            have hk := (HK4.out _ HB5.out : w5.heap[w.heap.size]? = some (pgO P0 N0 N0 0))
            have HE := Lib.hid (finP_heap (P := P0) (N := N0) (K := N0) (n := 0) hk)
            have hz := pg_cell hk
            have c0 := hz.1 0 (by decide)
            have c1 := hz.1 1 (by decide)
            have c2 := hz.1 2 (by decide)
            have c3 := hz.1 3 (by decide)
            have c4 := hz.2.1
            have f0 := hz.2.2 0
            have f1 := hz.2.2 1
            have f2 := hz.2.2 2
            have f3 := hz.2.2 3
            have f4 := hz.2.2 4
            clear hz
            clear hk hno
            go_wp2
            change bodyPost _ _ _ _ _ (finP w5 w.heap.size P0 N0 N0 0)
            exact bodyPost_ret (rtk_end rfl rfl HE.out) rfl HTk.out
        · obtain rfl : k = 4 := by omega
          obtain ⟨P, N, K, h2, hco, hb⟩ := HS.out.all
          have hp2 := pg_cell h2
          have d0 := hp2.1 0 (by decide)
          have d1 := hp2.1 1 (by decide)
          have d2 := hp2.1 2 (by decide)
          have d3 := hp2.1 3 (by decide)
          have d4 := hp2.2.1
          have hk := (HK4.out _ hb : wr.heap[w.heap.size]? = some (pgO P0 N0 N0 0))
          have HE := Lib.hid (finP_heap (P := P) (N := N) (K := K) (n := kk) hk)
          have hcs : Cs (finP wr w.heap.size P N K kk) P N K (pgL l) := fun j hj => by
            obtain ⟨a1, a2, a3⟩ := hco j hj
            have hg : w.heap.size < w1.heap.size + 1 := by have := HZ1.out; omega
            exact ⟨a1, own_slK (own_set (own_set (own_set (own_set (own_set a2 hg) hg) hg) hg) hg) a3⟩
          have HTk : Hid (TkPost w la lb (.returned (.tuple #[pgV P N K kk, .int .i64 0])) (finP wr w.heap.size P N K kk)) := by
            have := Tk.ok HEe.out (by rw [HLl.out]; exact HZZ.out) (fun i hi => by rw [HLl.out]; exact HRd.out i hi)
            rw [HLl.out, HKK.out] at this
            exact ⟨0, _, _, P, N, K, this, rfl, hcs, finP_below (HBW.out _ hb) (Nat.le_refl _)⟩
          have hz := pg_cell hk
          have c0 := hz.1 0 (by decide)
          have c1 := hz.1 1 (by decide)
          have c2 := hz.1 2 (by decide)
          have c3 := hz.1 3 (by decide)
          have c4 := hz.2.1
          have f0 := hz.2.2 0
          have f1 := hz.2.2 1
          have f2 := hz.2.2 2
          have f3 := hz.2.2 3
          have f4 := hz.2.2 4
          clear hz
          clear hk hp2 h2 hco hb hcs HS HSB
          go_wp2
          change bodyPost _ _ _ _ _ (finP wr w.heap.size P N K kk)
          exact bodyPost_ret (rtk_end rfl rfl HE.out) rfl HTk.out
  · have HTk : Hid (TkPost w la lb (.returned (.tuple #[pgV P0 N0 N0 0, .int .i64 (tE la lb)])) (finP w1 w.heap.size P0 N0 N0 0)) := tk_no (.bad he) (finP_below HB1.out (Nat.le_refl _))
    have HE := Lib.hid (finP_heap (P := P0) (N := N0) (K := N0) (n := 0) (HK1.out : _ = some (pgO P0 N0 N0 0)))
    have c0 := HZc.out.1 0 (by decide)
    have c1 := HZc.out.1 1 (by decide)
    have c2 := HZc.out.1 2 (by decide)
    have c3 := HZc.out.1 3 (by decide)
    have c4 := HZc.out.2.1
    have f0 := HZc.out.2.2 0
    have f1 := HZc.out.2.2 1
    have f2 := HZc.out.2.2 2
    have f3 := HZc.out.2.2 3
    have f4 := HZc.out.2.2 4
    have hne : ((tE la lb) != 0) = true := by simpa using he
    clear HZc HV
    generalize tE la lb = ee at *
    generalize tK la lb = kk at *
    go_wp2
    change bodyPost _ _ _ _ _ (finP w1 w.heap.size P0 N0 N0 0)
    exact bodyPost_ret (rtk_end rfl rfl HE.out) rfl HTk.out

end Go.Proofs.Ytolfmgbkbmphkaa
