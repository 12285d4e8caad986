/- PoolNone, a part. -/
import Derived.Test.YtljbhdldfffpfaaGreatQn19
namespace Go.Proofs.YtljbhdldfffpfaaGreat
open Go.RowKit

/-- The bodies of the frames that bytes begin with. -/
def scanN : Nat → List Int → List (List Int)
  | 0, _ => []
  | k + 1, l => match unf l with
    | some b => b :: scanN k (l.drop (b.length + 4))
    | none => []
def scan (l : List Int) : List (List Int) := scanN (l.length + 1) l
theorem unf_len {l b : List Int} (h : unf l = some b) : b.length + 4 ≤ l.length := by
  unfold unf at h
  split at h
  · cases h
  · split at h
    · cases h
    · split at h
      · cases h
        rw [List.length_take, List.length_drop]
        omega
      · cases h
theorem scanN_more : ∀ (k : Nat) (l : List Int), l.length < k → scanN (k + 1) l = scanN k l
  | 0, _, h => absurd h (Nat.not_lt_zero _)
  | k + 1, l, h => by
    rw [scanN, scanN]
    cases hu : unf l with
    | none => rfl
    | some b =>
      have := unf_len hu
      show b :: scanN (k + 1) _ = b :: scanN k _
      rw [scanN_more k _ (by rw [List.length_drop]; omega)]
theorem scanN_ge : ∀ (j : Nat) {k : Nat} {l : List Int}, l.length < k → scanN (k + j) l = scanN k l
  | 0, _, _, _ => rfl
  | j + 1, k, l, h => by rw [show k + (j + 1) = (k + j) + 1 by omega, scanN_more _ _ (by omega), scanN_ge j h]
theorem scan_none {l : List Int} (h : unf l = none) : scan l = [] := by unfold scan; rw [scanN, h]
theorem scan_some {l b : List Int} (h : unf l = some b) : scan l = b :: scan (l.drop (b.length + 4)) := by
  have := unf_len h
  unfold scan
  rw [scanN, h]
  show b :: scanN l.length _ = _
  have e : l.length = ((l.drop (b.length + 4)).length + 1) + (b.length + 3) := by rw [List.length_drop]; omega
  rw [e, scanN_ge (b.length + 3) (by rw [List.length_drop]; omega)]
/-- How many bytes frames have. -/
def frsN (bs : List (List Int)) : Nat := (bs.map fun b => b.length + 4).sum
theorem frsN_cons (b : List Int) (bs : List (List Int)) : frsN (b :: bs) = b.length + 4 + frsN bs := by unfold frsN; simp
theorem infoEntA : (Tryz.prog.info? 55).map (fun i => (i.zero, i.size, i.bytes)) = some (some (.agg #[.int .i64 0, .int .i64 0, .int .i64 0, .int .i64 0, .int .i64 0, .int .i64 0, .int .i64 0, .int .i64 0, .int .i64 0, .int .i64 0, .slice none 0 0, .slice none 0 0, .slice none 0 0, .slice none 0 0, .slice none 0 0, .slice none 0 0]), 16, 224) := by kernel_rfl

theorem arr16 {cs : Array Value} (h : cs.size = 16) : ∃ a0 a1 a2 a3 a4 a5 a6 a7 a8 a9 a10 a11 a12 a13 a14 a15, cs = #[a0, a1, a2, a3, a4, a5, a6, a7, a8, a9, a10, a11, a12, a13, a14, a15] := by
  obtain ⟨l⟩ := cs
  match l, h with
  | [a0, a1, a2, a3, a4, a5, a6, a7, a8, a9, a10, a11, a12, a13, a14, a15], _ => exact ⟨a0, a1, a2, a3, a4, a5, a6, a7, a8, a9, a10, a11, a12, a13, a14, a15, rfl⟩
def ivT2 : Value → Nat
  | .int _ x => x.toNat
  | _ => 0
def ScRel (w : World) (l : List Int) (n : Nat) (v : Value) (wr : World) : Prop := ∃ (k : Nat) (xs : List Value), wr.ownsRow w.heap.size 55 16 v k xs ∧ k + (scan (l.drop n)).length = (scan l).length ∧ n + frsN (scan (l.drop n)) = frsN (scan l) ∧ k ≤ n ∧ Below w.heap.size w wr
/-- What Scan leaves: how many entries, and how many bytes (what they are is not said here). -/
def ScPost (w : World) (l : List Int) (r : Ending) (w' : World) : Prop := ∃ A c, r = .returned (.tuple #[.slice A (scan l).length c, .int .i64 (frsN (scan l))]) ∧ Below w.heap.size w w'

set_option maxRecDepth 100000 in
set_option maxHeartbeats 1000000 in
theorem scan_any (w : World) {sv : Value} {l : List Int} (h : SlK .u8 w sv l) (hl : l.length ≤ 126000) : Calls Tryz.prog 36 #[sv] w (ScPost w l) := by
  obtain ⟨A0, c0, rfl, hlc⟩ := h.form
  have HS := Lib.hid h
  have H1 : Hid (ScRel w l 0 (.slice none 0 0) w) := Lib.hid ⟨0, [], World.ownsRow_nil _ _ _ _, by simp, by simp, Nat.le_refl _, Below.refl _ _⟩
  obtain ⟨ii, hi, hz0, hz1, hz2⟩ := info_parts infoEntA
  have HII := Lib.hid (And.intro hi (And.intro hz0 (And.intro hz1 hz2)))
  clear h hi hz0 hz1 hz2
  go_enter Tryz.func36, Tryz.ntmps36
  go_wp2
  go_loopw [2, 3] (fun v i wr => ∃ n : Nat, n ≤ l.length ∧ i = .int .i64 n ∧ Hid (ScRel w l n v wr)) (fun _ i _ => l.length - ivT2 i)
  case atStart => exact ⟨0, Nat.zero_le _, rfl, H1⟩
  case round =>
    obtain ⟨n, hn, rfl, HR⟩ := hrel
    obtain ⟨k, xs, ho, hs1, hs2, hkn, hb⟩ := HR.out
    obtain ⟨A, m, c, rfl⟩ := own_shape ho
    have hm := own_n ho
    subst hm
    have hsw := HS.out.below hb (Nat.le_refl _)
    have hi1 : (n : Int) ≤ (l.length : Int) := by omega
    have hi2 : (n : Int) ≤ (c0 : Int) := by omega
    have hi3 : n ≤ c0 := by omega
    obtain ⟨sv2, hsv2⟩ : ∃ v, v = (if n = c0 then Value.slice A0 0 0 else Value.slice (A0.map fun x => x.add n) (l.length - n) (c0 - n)) := ⟨_, rfl⟩
    have HO := Lib.hid ho
    have HS1 := Lib.hid hs1
    have HS2 := Lib.hid hs2
    have HB := Lib.hid hb
    have HSW := Lib.hid hsw
    clear ho hs1 hs2 hb hsw HR H1 hsv2
    go_upto_region 1 with (fail)
    go_cut [4, 5, 6] (fun u v q wx => ∃ (g4 : Nat) (cs : Array Value), u = .pointer (some ⟨g4, 0, none⟩) ∧ v = .int .i64 (ufN (l.drop n)) ∧ q = .bool (ufB (l.drop n)) ∧ wx.heap[g4]? = some (.cells cs 55 (0, 0)) ∧ cs.size = 16 ∧ cs.all (·.oneCell') = true ∧ Below wr.heap.size wr wx)
    case first =>
      by_cases hc : n = c0
      · have HSV := Lib.hid ((HSW.out.suf hn).2 (by omega))
        subst hc
        go_wp2_with fail
        refine (unframe_any wr HSV.out (by rw [List.length_drop]; omega)).mono ?_
        rintro r9 w2 ⟨B1, m1, d1, B2, m2, d2, B3, m3, d3, B4, m4, d4, B5, m5, d5, B6, m6, d6, hr, -, hb2⟩
        subst hr
        have HB2 := Lib.hid hb2
        clear hb2
        have HBoq := Lib.hid (heap_alloc_new w2 (.cells #[.int .i64 0, .int .i64 0, .int .i64 0, .int .i64 0, .int .i64 0, .int .i64 0, .int .i64 0, .int .i64 0, .int .i64 0, .int .i64 0, .slice none 0 0, .slice none 0 0, .slice none 0 0, .slice none 0 0, .slice none 0 0, .slice none 0 0] 55))
        have HZIq := Lib.hid (infoEntC (ufE (l.drop n)) (.slice B1 m1 d1) (.slice B2 m2 d2) (.slice B3 m3 d3) (.slice B4 m4 d4) (.slice B5 m5 d5) (.slice B6 m6 d6))
        have HZAq := Lib.hid (entC_all (ufE (l.drop n)) B1 B2 B3 B4 B5 B6 m1 d1 m2 d2 m3 d3 m4 d4 m5 d5 m6 d6)
        have HZNq := Lib.hid (show (#[.int .i64 0, .int .i64 0, .int .i64 0, .int .i64 0, .int .i64 0, .int .i64 0, .int .i64 0, .int .i64 0, .int .i64 0, .int .i64 0, .slice none 0 0, .slice none 0 0, .slice none 0 0, .slice none 0 0, .slice none 0 0, .slice none 0 0] : Array Value).size = (entC (ufE (l.drop n)) (.slice B1 m1 d1) (.slice B2 m2 d2) (.slice B3 m3 d3) (.slice B4 m4 d4) (.slice B5 m5 d5) (.slice B6 m6 d6)).size from rfl)
        have HSAq := Lib.hid (setRow_alloc w2 #[.int .i64 0, .int .i64 0, .int .i64 0, .int .i64 0, .int .i64 0, .int .i64 0, .int .i64 0, .int .i64 0, .int .i64 0, .int .i64 0, .slice none 0 0, .slice none 0 0, .slice none 0 0, .slice none 0 0, .slice none 0 0, .slice none 0 0] (entC (ufE (l.drop n)) (.slice B1 m1 d1) (.slice B2 m2 d2) (.slice B3 m3 d3) (.slice B4 m4 d4) (.slice B5 m5 d5) (.slice B6 m6 d6)) 55)
        go_wp2_with (with_reducible refine wpList_store_row rfl 55 (.tmp 4) (.tmp 12) rfl w2.heap.size _ rfl rfl 55 _ HBoq.out HZIq.out HZNq.out HZAq.out ?_)
        rw [HSAq.out]
        obtain ⟨w3, HWq, hxq, hbxq⟩ : ∃ W, Hid (w2.alloc (.cells (entC (ufE (l.drop n)) (.slice B1 m1 d1) (.slice B2 m2 d2) (.slice B3 m3 d3) (.slice B4 m4 d4) (.slice B5 m5 d5) (.slice B6 m6 d6)) 55) = W) ∧ W.heap[w2.heap.size]? = some (.cells (entC (ufE (l.drop n)) (.slice B1 m1 d1) (.slice B2 m2 d2) (.slice B3 m3 d3) (.slice B4 m4 d4) (.slice B5 m5 d5) (.slice B6 m6 d6)) 55 (0, 0)) ∧ Below w2.heap.size w2 W := ⟨_, Lib.hid rfl, heap_alloc_new w2 _, (Below.refl _ _).alloc (Nat.le_refl _) _⟩
        rw [HWq.out]
        clear HBoq HZAq HZNq HSAq HWq
        have HB3 := Lib.hid (HB2.out.trans (hbxq.mono HB2.out.size))
        have HX3 := Lib.hid hxq
        clear hbxq hxq
        go_meet
        exact ⟨_, _, rfl, rfl, rfl, HX3.out, rfl, entC_all (ufE (l.drop n)) B1 B2 B3 B4 B5 B6 m1 d1 m2 d2 m3 d3 m4 d4 m5 d5 m6 d6, HB3.out⟩
      · have HSV := Lib.hid (HSW.out.suf hn).1
        go_wp2_with fail
        refine (unframe_any wr HSV.out (by rw [List.length_drop]; omega)).mono ?_
        rintro r9 w2 ⟨B1, m1, d1, B2, m2, d2, B3, m3, d3, B4, m4, d4, B5, m5, d5, B6, m6, d6, hr, -, hb2⟩
        subst hr
        have HB2 := Lib.hid hb2
        clear hb2
        have HBoq := Lib.hid (heap_alloc_new w2 (.cells #[.int .i64 0, .int .i64 0, .int .i64 0, .int .i64 0, .int .i64 0, .int .i64 0, .int .i64 0, .int .i64 0, .int .i64 0, .int .i64 0, .slice none 0 0, .slice none 0 0, .slice none 0 0, .slice none 0 0, .slice none 0 0, .slice none 0 0] 55))
        have HZIq := Lib.hid (infoEntC (ufE (l.drop n)) (.slice B1 m1 d1) (.slice B2 m2 d2) (.slice B3 m3 d3) (.slice B4 m4 d4) (.slice B5 m5 d5) (.slice B6 m6 d6))
        have HZAq := Lib.hid (entC_all (ufE (l.drop n)) B1 B2 B3 B4 B5 B6 m1 d1 m2 d2 m3 d3 m4 d4 m5 d5 m6 d6)
        have HZNq := Lib.hid (show (#[.int .i64 0, .int .i64 0, .int .i64 0, .int .i64 0, .int .i64 0, .int .i64 0, .int .i64 0, .int .i64 0, .int .i64 0, .int .i64 0, .slice none 0 0, .slice none 0 0, .slice none 0 0, .slice none 0 0, .slice none 0 0, .slice none 0 0] : Array Value).size = (entC (ufE (l.drop n)) (.slice B1 m1 d1) (.slice B2 m2 d2) (.slice B3 m3 d3) (.slice B4 m4 d4) (.slice B5 m5 d5) (.slice B6 m6 d6)).size from rfl)
        have HSAq := Lib.hid (setRow_alloc w2 #[.int .i64 0, .int .i64 0, .int .i64 0, .int .i64 0, .int .i64 0, .int .i64 0, .int .i64 0, .int .i64 0, .int .i64 0, .int .i64 0, .slice none 0 0, .slice none 0 0, .slice none 0 0, .slice none 0 0, .slice none 0 0, .slice none 0 0] (entC (ufE (l.drop n)) (.slice B1 m1 d1) (.slice B2 m2 d2) (.slice B3 m3 d3) (.slice B4 m4 d4) (.slice B5 m5 d5) (.slice B6 m6 d6)) 55)
        go_wp2_with (with_reducible refine wpList_store_row rfl 55 (.tmp 4) (.tmp 12) rfl w2.heap.size _ rfl rfl 55 _ HBoq.out HZIq.out HZNq.out HZAq.out ?_)
        rw [HSAq.out]
        obtain ⟨w3, HWq, hxq, hbxq⟩ : ∃ W, Hid (w2.alloc (.cells (entC (ufE (l.drop n)) (.slice B1 m1 d1) (.slice B2 m2 d2) (.slice B3 m3 d3) (.slice B4 m4 d4) (.slice B5 m5 d5) (.slice B6 m6 d6)) 55) = W) ∧ W.heap[w2.heap.size]? = some (.cells (entC (ufE (l.drop n)) (.slice B1 m1 d1) (.slice B2 m2 d2) (.slice B3 m3 d3) (.slice B4 m4 d4) (.slice B5 m5 d5) (.slice B6 m6 d6)) 55 (0, 0)) ∧ Below w2.heap.size w2 W := ⟨_, Lib.hid rfl, heap_alloc_new w2 _, (Below.refl _ _).alloc (Nat.le_refl _) _⟩
        rw [HWq.out]
        clear HBoq HZAq HZNq HSAq HWq
        have HB3 := Lib.hid (HB2.out.trans (hbxq.mono HB2.out.size))
        have HX3 := Lib.hid hxq
        clear hbxq hxq
        go_meet
        exact ⟨_, _, rfl, rfl, rfl, HX3.out, rfl, entC_all (ufE (l.drop n)) B1 B2 B3 B4 B5 B6 m1 d1 m2 d2 m3 d3 m4 d4 m5 d5 m6 d6, HB3.out⟩
    case rest =>
      obtain ⟨g4, cs, rfl, rfl, rfl, hx4, hcs, hall, hb4⟩ := hcut
      generalize wc = w4 at *
      obtain ⟨a0, a1, a2, a3, a4, a5, a6, a7, a8, a9, a10, a11, a12, a13, a14, a15, rfl⟩ := arr16 hcs
      have hbw : Below w.heap.size w w4 := HB.out.trans (hb4.mono HB.out.size)
      have ho4 : w4.ownsRow w.heap.size 55 16 (.slice A m c) m xs := own_at HO.out fun k hk => hb4.block k (HO.out.lt k hk).2
      cases hu : unf (l.drop n) with
      | none =>
        obtain ⟨f1, f2, f3⟩ := uf_none hu
        rw [f2, f3]
        have e1 := HS1.out
        have e2 := HS2.out
        rw [scan_none hu] at e1 e2
        have hf : ScPost w l (.returned (.tuple #[.slice A m c, .int .i64 n])) w4 := ⟨A, c, by rw [← e1, ← e2]; rfl, hbw⟩
        have HFI := Lib.hid hf
        clear hf e1 e2 f1 f2 f3 hu hx4 hall hbw ho4 hb4
        go_wp2
        go_ret2
        exact HFI.out
      | some b =>
        obtain ⟨f1, f2, f3⟩ := uf_some hu
        have hbl := unf_len hu
        rw [List.length_drop] at hbl
        rw [f2, f3]
        obtain ⟨L, hL⟩ : ∃ L : Nat, L = b.length + 4 := ⟨_, rfl⟩
        rw [show (b.length : Int) + 4 = (L : Int) by omega]
        have t1 : IntKind.i64.wrap ((n : Int) + (L : Int)) = (n : Int) + (L : Int) := IntWalk.i64_in _ (by omega)
        have HZI : Hid ((Tryz.prog.info? 55).map (·.size) = some (#[a0, a1, a2, a3, a4, a5, a6, a7, a8, a9, a10, a11, a12, a13, a14, a15] : Array Value).size) := Lib.hid infoEnt
        have HX4 := Lib.hid hx4
        have HOA : Hid (∀ o, (w4.alloc o).ownsRow w.heap.size 55 16 (.slice A m c) m xs) := Lib.hid fun o => ho4.alloc o
        have HAL : Hid (∀ o, Below w4.heap.size w4 (w4.alloc o)) := Lib.hid fun o => (Below.refl _ _).alloc (Nat.le_refl _) _
        have HBW := Lib.hid hbw
        have HBL := Lib.hid hbl
        have HLL := Lib.hid hL
        have HALL := Lib.hid hall
        have HCS := Lib.hid hcs
        have HU := Lib.hid hu
        obtain ⟨hi, hz0, hz1, hz2⟩ := HII.out
        clear f1 f2 f3 hu hx4 hall hbw ho4 hb4 hbl hL
        go_wp2_with (first
          | (with_reducible refine wpList_load_row rfl 55 (.tmp 4) rfl g4 rfl 55 _ (0, 0) _ HX4.out Tryz.underlying55 rfl HZI.out ?_)
          | (at_builtin; refine wpList_append_lies _ rfl _ _ 27 rfl w.heap.size 55 ii (.agg #[.int .i64 0, .int .i64 0, .int .i64 0, .int .i64 0, .int .i64 0, .int .i64 0, .int .i64 0, .int .i64 0, .int .i64 0, .int .i64 0, .slice none 0 0, .slice none 0 0, .slice none 0 0, .slice none 0 0, .slice none 0 0, .slice none 0 0]) 16 224 Tryz.underlying27 hi hz0 hz1 hz2 rfl (by decide) (.slice A m c) m _ rfl (HOA.out _) ⟨w4.heap.size, 0, none⟩ 1 1 [a0, a1, a2, a3, a4, a5, a6, a7, a8, a9, a10, a11, a12, a13, a14, a15] rfl ?c0 ?c1 ?c2 ?c3 ?c4 ?c5 ?c6 _ rfl ?_))
        case c0 => rfl
        case c1 => exact World.news_of_block (heap_alloc_new w4 _)
        case c2 => intro u hu; exact List.all_eq_true.1 (show ([a0, a1, a2, a3, a4, a5, a6, a7, a8, a9, a10, a11, a12, a13, a14, a15] : List Value).all (·.oneCell') = true from by simpa using HALL.out) u hu
        case c3 => omega
        case c4 => unfold maxLen; omega
        case c5 => omega
        case c6 => simp; exact Nat.le_succ_of_le HBW.out.size
        intro g5 c5' w5 ho5 hg5 hv5 hl5
        have hR : ScRel w l (n + L) (.slice (some ⟨g5, 0, none⟩) (m + 1) c5') w5 := by
          have e1 := HS1.out
          have e2 := HS2.out
          rw [scan_some HU.out] at e1 e2
          rw [List.length_cons, List.drop_drop, ← HLL.out] at e1
          rw [frsN_cons, List.drop_drop, ← HLL.out] at e2
          refine ⟨m + 1, _, ho5, by omega, by omega, by have := HLL.out; omega, ?_⟩
          have hB1 : Below w.heap.size w (w4.alloc (.cells #[a0, a1, a2, a3, a4, a5, a6, a7, a8, a9, a10, a11, a12, a13, a14, a15] 55)) := HBW.out.trans ((HAL.out _).mono HBW.out.size)
          exact HBW.out.trans ⟨hg5.os, hg5.tape, hg5.output, Nat.le_trans (HAL.out (.cells #[a0, a1, a2, a3, a4, a5, a6, a7, a8, a9, a10, a11, a12, a13, a14, a15] 55)).size hg5.size, fun k hk => (hg5.block k (Nat.lt_of_lt_of_le hk hB1.size) (fun e => by have := (HO.out.lt k e.symm).1; omega)).trans ((HAL.out (.cells #[a0, a1, a2, a3, a4, a5, a6, a7, a8, a9, a10, a11, a12, a13, a14, a15] 55)).block k (Nat.lt_of_lt_of_le hk HBW.out.size))⟩
        have HR5 := Lib.hid hR
        have hnL : n + L ≤ l.length := by have := HBL.out; have := HLL.out; omega
        clear ho5 hg5 hv5 hl5 hR hi hz0 hz1 hz2
        go_wp2
        go_roundw
        all_goals first
          | exact ⟨n + L, hnL, by go_num, HR5⟩
          | (have := HLL.out; simp [ivT2]; omega)
end Go.Proofs.YtljbhdldfffpfaaGreat
