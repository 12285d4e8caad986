/- The log: Open, of a disk that is not armed (how many entries; what they are is not said here); Force. -/
import Derived.Test.YtemmhligohebfaaTrR
import Derived.Test.YtemmhligohebfaaTrSc
import Derived.OwnWalk
namespace Go.Proofs.Ytemmhligohebfaa
open Go.RowKit Go.Maps

theorem scanN_le : ∀ (k : Nat) (l : List Int), frsN (scanN k l) ≤ l.length ∧ (scanN k l).length ≤ frsN (scanN k l)
  | 0, l => by simp [scanN, frsN]
  | k + 1, l => by
    unfold scanN
    cases hu : unf l with
    | none => simp [frsN]
    | some b =>
      have h1 := unf_len hu
      have h2 := scanN_le k (l.drop (b.length + 4))
      rw [List.length_drop] at h2
      show frsN (b :: scanN k _) ≤ _ ∧ (b :: scanN k _).length ≤ frsN (b :: scanN k _)
      rw [frsN_cons, List.length_cons]
      omega
theorem scan_le (l : List Int) : frsN (scan l) ≤ l.length ∧ (scan l).length ≤ frsN (scan l) := scanN_le _ _
/-- The log that is opened, plainly. -/
def opT (pd : Nat) (f : Int) (K : Nat) (R : List Int) : Tr := ⟨pd, f, K, R.take (frsN (scan R)), (scan R).length, (scan R).length⟩
def OpPost (w : World) (pd bn bo g : Nat) (d : Dk) (f : Int) (K : Nat) (R : List Int) (r : Ending) (w' : World) : Prop := ∃ p bm A c d', r = .returned (.tuple #[.pointer (some ⟨p, 0, none⟩), .slice A (scan R).length c, .int .i64 0]) ∧ w.heap.size ≤ p ∧ w.heap.size ≤ bm ∧ LogAt w' p bm (opT pd f K R) bn bo g d' ∧ Done (opT pd f K R) d d' K ∧ Fr w.heap.size (Three pd bn bo) w w'

set_option maxRecDepth 100000 in
set_option maxHeartbeats 1000000 in
theorem topen_any (w : World) {pd bn bo g : Nat} {d : Dk} (h : DkAt w pd bn bo g d) (f : Int) (K : Nat) (hf : 0 ≤ f) (hfit : f + K ≤ d.tiles) {T : Nat → List Int} (hT : ∀ i : Nat, i < K → d.has (f + i) (T i)) : Calls Try.prog 9 #[.pointer (some ⟨pd, 0, none⟩), .int .i64 f, .int .i64 K] w (OpPost w pd bn bo g d f K (rdL T K 0)) := by
  have hd0 := h.dk.ok.lo
  have hd1 := h.dk.ok.hi
  have hti := tiles_any w h.dk
  have hdd := dead_any w h.dk
  rw [h.dead] at hdd
  have hwi := within_any w d.tiles f K ⟨hd0, hd1⟩ ⟨hf, by omega⟩ ⟨by omega, by omega⟩ hfit
  obtain ⟨W, hW⟩ : ∃ W, W = (w.alloc (.map #[] 0)).alloc (.cells #[.pointer (some ⟨pd, 0, none⟩), .int .i64 f, .int .i64 K, .map (some w.heap.size), .int .i64 0, .int .i64 0, .int .i64 0] 64) := ⟨_, rfl⟩
  have hbW : Below w.heap.size w W := by rw [hW]; exact ((Below.refl _ _).alloc (Nat.le_refl _) _).alloc (by simp) _
  have hsz : (w.alloc (.map #[] 0)).heap.size = w.heap.size + 1 := by simp
  have hl0 : LogAt W (w.heap.size + 1) w.heap.size ⟨pd, f, K, [], 0, 0⟩ bn bo g d := by
    refine ⟨⟨?_, ?_, ⟨fun x hx => (by cases hx), hf, by show f ≤ 2000; omega, by show (0 : Int) ≤ K; omega, by show (K : Int) ≤ 2000; omega, by show (0 : Int) ≤ 63 * (K : Int); omega, Int.le_refl _, by show (0 : Int) ≤ (([] : List Int).length : Int); simp⟩, by omega⟩, h.on fun k hk => hbW.block k (h.lt hk), fun k hk h2 => ?_, hfit⟩
    · rw [hW, ← hsz]; exact heap_alloc_new _ _
    · show fm W _ _ _ (blkM [])
      rw [blkM_nil]
      exact (fm_made w Try.prog 3).of_block (by rw [hW]; exact Below.heap_alloc _ _ _ (by simp))
    · have := h.lt hk
      rcases h2 with h2 | h2 <;> omega
  have HTI := Lib.hid hti
  have HDD := Lib.hid hdd
  have HWI := Lib.hid hwi
  have HBW := Lib.hid hbW
  have HRD := Lib.hid (tread_any W hl0 (K := K) rfl hT)
  have HL0 := Lib.hid hl0
  have HTT := Lib.hid hT
  clear hti hdd hwi hbW hl0 hT
  have hmm := @run_makeMap Try.prog
  go_enter Try.func9, Try.ntmps9
  go_upto_region 6 with (first
    | (go_at_call 24; refine HTI.out.mono ?_; rintro e w' ⟨rfl, hw'⟩; obtain rfl := hw'.symm; clear hw')
    | (go_at_call 23; refine HWI.out.mono ?_; rintro e w' ⟨rfl, hw'⟩; obtain rfl := hw'.symm; clear hw')
    | (go_at_call 17; refine HDD.out.mono ?_; rintro e w' ⟨rfl, hw'⟩; obtain rfl := hw'.symm; clear hw'))
  show Code.wp _ _ _ _ ((w.alloc (.map #[] 0)).alloc (.cells #[.pointer (some ⟨pd, 0, none⟩), .int .i64 f, .int .i64 K, .map (some w.heap.size), .int .i64 0, .int .i64 0, .int .i64 0] 64))
  rw [← hW]
  clear hW hmm hsz HTI HDD HWI
  go_wp2_with fail
  refine HRD.out.mono ?_
  rintro r9 w2 ⟨A, m, c, rfl, ho, hlR, hb2⟩
  have hm := own_n ho
  obtain ⟨R, hR⟩ : ∃ R, R = rdL T K 0 := ⟨_, rfl⟩
  have hokR : bytesOk R := by rw [hR]; exact rdL_ok (fun i hi => (HTT.out i hi).2.2) K 0 (by omega)
  rw [← hR] at ho hm hlR ⊢
  subst hm
  have hsl : SlK .u8 w2 (.slice A R.length c) R := own_slK ho hokR
  obtain ⟨hs1, hs2⟩ := scan_le R
  obtain ⟨n, hn⟩ : ∃ n, frsN (scan R) = n := ⟨_, rfl⟩
  obtain ⟨cnt, hcnt⟩ : ∃ n, (scan R).length = n := ⟨_, rfl⟩
  have HSC : Hid (Calls Try.prog 21 #[.slice A R.length c] w2 fun r w' => ∃ A c, r = .returned (.tuple #[.slice A cnt c, .int .i64 n]) ∧ Below w2.heap.size w2 w') := Lib.hid ((scan_any w2 hsl (by omega)).mono fun r w' ⟨A, c, h1, h2⟩ => ⟨A, c, by rw [h1, hcnt, hn], h2⟩)
  replace hs1 : n ≤ R.length := by rw [← hn]; exact hs1
  replace hs2 : cnt ≤ n := by rw [← hn, ← hcnt]; exact hs2
  have HN := Lib.hid hn
  have HC := Lib.hid hcnt
  clear hn hcnt
  have HSL := Lib.hid hsl
  have HB2 := Lib.hid hb2
  have HRR := Lib.hid hR
  clear ho hb2 hsl HRD HTT hR
  go_wp2_with fail
  refine HSC.out.mono ?_
  rintro r9 w3 ⟨A2, c2, rfl, hb3⟩
  have hb13 : Below W.heap.size W w3 := HB2.out.trans (hb3.mono HB2.out.size)
  have hl3 := HL0.out.kept (w' := w3) fun k hk => hb13.block k hk
  have hslc : SlK .u8 w3 (.slice A n c) (R.take n) := (HSL.out.below hb3 (Nat.le_refl _)).pre hs1
  have HAD := Lib.hid (add_any w3 hl3.tr hslc (by show ((0 + (R.take n).length : Nat) : Int) ≤ 63 * (K : Int); rw [List.length_take]; omega))
  have HL3 := Lib.hid hl3
  have HB3 := Lib.hid (HBW.out.trans (hb13.mono HBW.out.size))
  have hnc : n ≤ c := by obtain ⟨A', c', e, h⟩ := HSL.out.form; injection e with _ _ e3; omega
  have i1 : (n : Int) ≤ (c : Int) := by omega
  have i2 : (n : Int) ≤ (R.length : Int) := by omega
  clear hb3 hb13 hl3 hslc HSC
  go_wp2_with fail
  refine HAD.out.mono ?_
  rintro r9 w4 ⟨rfl, ht4, hf4⟩
  have hlen : (R.take n).length = n := by rw [List.length_take]; omega
  have x5 : w4.cell? ⟨w.heap.size + 1, 5, none⟩ = some (.int .i64 0) := ht4.c 5
  have z5 := ht4.fz 5
  have hl4 : LogAt (w4.setCell ⟨w.heap.size + 1, 5, none⟩ (.int .i64 cnt)) (w.heap.size + 1) w.heap.size ⟨pd, f, K, R.take n, cnt, 0⟩ bn bo g d := by
    have hL := HL3.out
    refine ⟨⟨?_, ht4.mp.of_block (setCell_far _ _ _ _ (fun e => ht4.ne e.symm)), ⟨ht4.ok.ok, ht4.ok.f0, ht4.ok.f1, ht4.ok.t0, ht4.ok.t1, ht4.ok.len, by show (0 : Int) ≤ cnt; omega, ?_⟩, ht4.ne⟩, ?_, hL.sep, hL.fit⟩
    · rw [heap_setCell_same w4 _ 5 _ _ _ ht4.bx]
      rfl
    · show (cnt : Int) ≤ ((R.take n).length : Int)
      rw [hlen]; omega
    · exact hL.dk.on fun k hk => (setCell_far _ _ _ _ (fun e => hL.sep k hk (Or.inl e))).trans (hf4.block k (hL.dk.lt hk) (fun e => hL.sep k hk e))
  have hf5 : Fr w.heap.size (Three pd bn bo) w (w4.setCell ⟨w.heap.size + 1, 5, none⟩ (.int .i64 cnt)) := by
    refine (((below_fr HB3.out).trans hf4 HB3.out.size (fun x hx h => ?_)).setCell (Or.inr (by show w.heap.size ≤ w.heap.size + 1; omega)) _)
    rcases h with h | h <;> omega
  have HST := Lib.hid (settle_any _ hl4)
  have HF5 := Lib.hid hf5
  clear ht4 hf4 hl4 hf5 HAD HL3 HB3 HL0
  go_wp2_with fail
  generalize w4.setCell ⟨w.heap.size + 1, 5, none⟩ (.int .i64 cnt) = w5 at *
  refine HST.out.mono ?_
  rintro r9 w6 ⟨rfl, d', hl6, hd6, hf6⟩
  have hfin : OpPost w pd bn bo g d f K R (.returned (.tuple #[.pointer (some ⟨w.heap.size + 1, 0, none⟩), .slice A2 cnt c2, .int .i64 0])) w6 := by
    have e : (⟨pd, f, K, R.take n, cnt, cnt⟩ : Tr) = opT pd f K R := by unfold opT; rw [HN.out, HC.out]
    refine ⟨_, _, A2, c2, d', by rw [HC.out], Nat.le_succ _, Nat.le_refl _, ?_, ?_, ?_⟩
    · rw [← e]; exact hl6
    · rw [← e]
      exact ⟨hd6.tiles, hd6.own, hd6.far⟩
    · refine HF5.out.trans hf6 HF5.out.size (fun x hx h => ?_)
      rcases h with h | h
      · rcases h with h | h <;> omega
      · exact h
  have HFI := Lib.hid hfin
  clear hl6 hd6 hf6 hfin HST
  go_wp2
  go_ret3
  have hfi := HFI.out
  rw [HRR.out] at hfi
  exact hfi
end Go.Proofs.Ytemmhligohebfaa
