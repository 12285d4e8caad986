/- PoolNone, a part. -/
import Derived.Test.YtljbhdldfffpfaaGreatQn18
import Derived.Test.YtljbhdldfffpfaaGreatQn20
import Derived.OwnWalk
import Derived.Test.YtljbhdldfffpfaaGreatQn5
namespace Go.Proofs.YtljbhdldfffpfaaGreat
open Go.RowKit Go.Maps

/-- What the tiles say, from one on. -/
def rdL (T : Nat → List Int) : Nat → Nat → List Int
  | 0, _ => []
  | m + 1, i => if 63 < (T i).headD 0 then [] else if (T i).headD 0 < 63 then ((T i).drop 1).take ((T i).headD 0).toNat else ((T i).drop 1).take ((T i).headD 0).toNat ++ rdL T m (i + 1)
theorem rdL_ok {T : Nat → List Int} {K : Nat} (h : ∀ i, i < K → bytesOk (T i)) : ∀ m i, i + m ≤ K → bytesOk (rdL T m i)
  | 0, _, _ => fun x hx => by cases hx
  | m + 1, i, hm => by
    unfold rdL
    have h1 : bytesOk (((T i).drop 1).take ((T i).headD 0).toNat) := ok_take (ok_drop (h i (by omega)) 1) _
    split
    · exact fun x hx => by cases hx
    · split
      · exact h1
      · intro x hx
        rcases List.mem_append.1 hx with hx | hx
        · exact h1 x hx
        · exact rdL_ok h m (i + 1) (by omega) x hx
def RdRel (w : World) (T : Nat → List Int) (K n : Nat) (v : Value) (wr : World) : Prop := ∃ D : List Int, wr.ownsRow w.heap.size 5 1 v D.length (byteV D) ∧ D ++ rdL T (K - n) n = rdL T K 0 ∧ D.length ≤ 63 * n ∧ Below w.heap.size w wr
def RdPost (w : World) (T : Nat → List Int) (K : Nat) (e : Ending) (w' : World) : Prop := ∃ A m c, e = .returned (.tuple #[.slice A m c, .int .i64 0]) ∧ w'.ownsRow w.heap.size 5 1 (.slice A m c) (rdL T K 0).length (byteV (rdL T K 0)) ∧ (rdL T K 0).length ≤ 63 * K ∧ Below w.heap.size w w'
theorem rd_fin {w wr : World} {T : Nat → List Int} {K : Nat} {v : Value} {D : List Int} (ho : wr.ownsRow w.heap.size 5 1 v D.length (byteV D)) (h : D = rdL T K 0) (hl : D.length ≤ 63 * K) (hb : Below w.heap.size w wr) : RdPost w T K (.returned (.tuple #[v, .int .i64 0])) wr := by
  subst h
  obtain ⟨A, m, c, rfl⟩ := own_shape ho
  exact ⟨A, m, c, rfl, ho, hl, hb⟩

set_option maxRecDepth 100000 in
set_option maxHeartbeats 1000000 in
theorem tread_any (w : World) {p bm bn bo g : Nat} {t : Tr} {d : Dk} (h : LogAt w p bm t bn bo g d) {T : Nat → List Int} {K : Nat} (hK : t.tiles = (K : Int)) (hT : ∀ i : Nat, i < K → d.has (t.first + i) (T i)) : Calls Tryz.prog 35 #[.pointer (some ⟨p, 0, none⟩)] w (RdPost w T K) := by
  have t1 := h.tr.ok.t1
  have t2 := h.tr.ok.f0
  have t3 := h.tr.ok.f1
  have x2 : w.cell? ⟨p, 2, none⟩ = some (.int .i64 t.tiles) := h.tr.c 2
  have H1 : Hid (RdRel w T K 0 (.slice none 0 0) w) := Lib.hid ⟨[], World.ownsRow_nil _ _ _ _, by simp, by simp, Below.refl _ _⟩
  have HK := Lib.hid hK
  rw [hK] at x2
  have hK0 : K ≤ 2000 := by omega
  have HL := Lib.hid h
  have HT := Lib.hid hT
  clear h t1 hK hT
  go_enter Tryz.func35, Tryz.ntmps35
  go_wp2
  go_loopw [4, 13] (fun v i wr => ∃ n : Nat, n ≤ K ∧ i = .int .i64 n ∧ Hid (RdRel w T K n v wr)) (fun _ i _ => K - ivT i)
  case atStart => exact ⟨0, Nat.zero_le _, rfl, H1⟩
  case round =>
    obtain ⟨n, hn, rfl, HR⟩ := hrel
    obtain ⟨D, ho, hr, hlen, hb⟩ := HR.out
    clear x2 H1 HR
    obtain ⟨A, m, c, rfl⟩ := own_shape ho
    by_cases hlt : n < K
    · have hl := HL.out.kept fun k hk => hb.block k hk
      have x0 : wr.drew.cell? ⟨p, 0, none⟩ = some (.pointer (some ⟨t.dp, 0, none⟩)) := hl.tr.c 0
      have x1 : wr.drew.cell? ⟨p, 1, none⟩ = some (.int .i64 t.first) := hl.tr.c 1
      have q1 : IntKind.i64.wrap (t.first + (n : Int)) = t.first + (n : Int) := IntWalk.i64_in _ (by omega)
      have hh := HT.out n hlt
      obtain ⟨l, hTl⟩ : ∃ l, l = T n := ⟨_, rfl⟩
      rw [← hTl] at hh
      have hlt2 : (n : Int) < (K : Int) := by omega
      have hin : t.first + (n : Int) < d.tiles := by have := hl.fit; have := HK.out; omega
      have HRd : Hid (∀ W, Below wr.heap.size wr W → Calls Tryz.prog 24 #[.pointer (some ⟨t.dp, 0, none⟩), .int .i64 (t.first + n)] W fun e w' => ∃ g1, e = .returned (.tuple #[.slice (some ⟨g1, 0, none⟩) 64 64, .int .i64 0]) ∧ SlK .u8 w' (.slice (some ⟨g1, 0, none⟩) 64 64) l ∧ Below wr.heap.size wr w') := Lib.hid fun W hW =>
        (read_ok W (hl.kept fun k hk => hW.block k hk).dk.dk hl.dk.dead _ (by omega) hin l hh.1 hh.2.1).mono fun e w' ⟨h1, h2⟩ => ⟨_, h1, by rw [h2]; exact (pt_row (heap_alloc_new W _) hh.2.1).slK hh.2.2, by rw [h2]; exact hW.alloc hW.size _⟩
      have HO := Lib.hid ho
      have HRR := Lib.hid hr
      have HB := Lib.hid hb
      have HH := Lib.hid hh
      have HTL := Lib.hid hTl
      have D0 := (Below.refl wr.heap.size wr).drew
      clear hl ho hr hb hh hin hTl
      go_upto_region 5 with (fail)
      go_cut [6, 7] (fun u v wx => ∃ g1, u = .slice (some ⟨g1, 0, none⟩) 64 64 ∧ v = .int .i64 0 ∧ SlK .u8 wx (.slice (some ⟨g1, 0, none⟩) 64 64) l ∧ Below wr.heap.size wr wx)
      case first =>
        go_region_with (go_at_call 24; refine (HRd.out _ D0).mono ?_; rintro e w1 ⟨g1, rfl, hs1, hb1⟩; have HQ := Lib.hid (And.intro hs1 hb1); clear hs1 hb1)
        all_goals go_wp2
        all_goals go_meet
        all_goals exact ⟨g1, rfl, rfl, HQ.out.1, HQ.out.2⟩
      case rest =>
        obtain ⟨g1, rfl, rfl, hs1, hb1⟩ := hcut
        generalize wc = w1 at *
        obtain ⟨x, r, hxr⟩ : ∃ x r, l = x :: r := by
          cases l with
          | nil => exact absurd HH.out.2.1 (by simp)
          | cons x r => exact ⟨x, r, rfl⟩
        have hx := HH.out.2.2 x (by rw [hxr]; exact List.mem_cons_self ..)
        have hrl : r.length = 63 := by have := HH.out.2.1; rw [hxr, List.length_cons] at this; omega
        obtain ⟨X, hX⟩ : ∃ X : Nat, x = (X : Int) := ⟨x.toNat, by omega⟩
        subst hX
        have c0 : w1.cell? ⟨g1, 0, none⟩ = some (.int .u8 (X : Int)) := by
          obtain ⟨b', o', cap', e, _, _, h3⟩ := hs1.pt (by rw [hxr]; simp)
          injection e with e1
          injection e1 with e1
          injection e1 with e1 e2
          have h4 := h3 0 (by rw [hxr]; simp)
          rw [← e1, ← e2] at h4
          simpa [hxr] using h4
        have t4 : IntKind.i64.wrap (X : Int) = (X : Int) := IntWalk.i64_in _ (by omega)
        have hb2 : Below w.heap.size w w1 := HB.out.trans (hb1.mono HB.out.size)
        have ho1 : w1.ownsRow w.heap.size 5 1 (.slice A m c) D.length (byteV D) := own_at HO.out fun k hk => hb1.block k (HO.out.lt k hk).2
        have hun : rdL T (K - n) n = if 63 < (X : Int) then [] else if (X : Int) < 63 then r.take X else r.take X ++ rdL T (K - n - 1) (n + 1) := by
          rw [show K - n = (K - n - 1) + 1 by omega]
          show (if 63 < (T n).headD 0 then _ else _) = _
          rw [← HTL.out, hxr]
          rfl
        have hdl : D.length ≤ 126000 := by omega
        by_cases h63 : 63 < X
        · rw [if_pos (by omega)] at hun
          have hf : RdPost w T K (.returned (.tuple #[.slice A m c, .int .i64 0])) w1 := rd_fin ho1 (by rw [← HRR.out, hun, List.append_nil]) (by omega) hb2
          have HFI := Lib.hid hf
          have h63i : (63 : Int) < (X : Int) := by omega
          clear hf hun ho1 hb2 hs1 hb1 HO HRR x0 x1 HRd D0
          go_wp2
          go_ret2
          exact HFI.out
        · rw [if_neg (by omega)] at hun
          have h63i : ¬ (63 : Int) < (X : Int) := by omega
          have hsx : SlK .u8 w1 (.slice (some ⟨g1, 1, none⟩) X 63) (r.take X) := by
            have := ((hs1.rest (k := 1) (by decide)).2.1.pre (k := X) (by omega))
            rw [hxr] at this
            exact this
          obtain ⟨v1, W1, hr1, ho2, hg2, hv2⟩ := run_append_sl ho1 hsx.sw (by simp; omega) hb2.size
          obtain ⟨A2, m2, c2, rfl⟩ := own_shape ho2
          have HR1 := Lib.hid hr1
          have hrt : (r.take X).length = X := by rw [List.length_take]; omega
          have hb3 : Below w.heap.size w W1 := hb2.trans ⟨hg2.os, hg2.tape, hg2.output, hg2.size, fun k hk => hg2.block k (Nat.lt_of_lt_of_le hk hb2.size) (fun e => by have := (ho1.lt k e.symm).1; omega)⟩
          obtain ⟨X1, hX1⟩ : ∃ X1 : Nat, X1 = 1 + X := ⟨_, rfl⟩
          have q5 : IntKind.i64.wrap (1 + (X : Int)) = (X1 : Int) := by rw [IntWalk.i64_in _ (by omega)]; omega
          have q6 : (X1 : Int) ≤ 64 := by omega
          have q7 : X1 ≤ 64 := by omega
          have q8 : (1 : Int) ≤ (X1 : Int) := by omega
          have q9 : 1 ≤ X1 := by omega
          have q10 : X1 - 1 = X := by omega
          rw [hrt] at ho2
          by_cases hX63 : X < 63
          · rw [if_pos (by omega)] at hun
            have hf : RdPost w T K (.returned (.tuple #[.slice A2 m2 c2, .int .i64 0])) W1 := rd_fin (D := D ++ r.take X) (by rw [List.length_append, hrt]; exact ho2) (by rw [← HRR.out, hun]) (by rw [List.length_append, hrt]; omega) hb3
            have HFI := Lib.hid hf
            have hXi : (X : Int) < 63 := by omega
            clear hf hun ho1 ho2 hb2 hb3 hs1 hb1 HO HRR x0 x1 HRd D0 hg2 hv2 hr1 hsx hX1
            go_wp2_with (at_builtin; with_reducible refine Lib.wpList_append_run _ rfl _ _ _ _ rfl _ _ rfl rfl _ _ (HR1.out _) ?_)
            go_ret2
            exact HFI.out
          · obtain rfl : X = 63 := by omega
            rw [if_neg (by omega)] at hun
            have hR2 : RdRel w T K (n + 1) (.slice A2 m2 c2) W1 := by
              refine ⟨D ++ r.take 63, by rw [List.length_append, hrt]; exact ho2, ?_, by rw [List.length_append, hrt]; omega, hb3⟩
              rw [← HRR.out, hun, List.append_assoc, Nat.sub_sub]
            have HR2 := Lib.hid hR2
            clear hR2 hun ho1 ho2 hb2 hb3 hs1 hb1 HO HRR x0 x1 HRd D0 hg2 hv2 hr1 hsx hX1
            go_wp2_with (at_builtin; with_reducible refine Lib.wpList_append_run _ rfl _ _ _ _ rfl _ _ rfl rfl _ _ (HR1.out _) ?_)
            go_roundw
            all_goals first
              | exact ⟨n + 1, hlt, by go_num, HR2⟩
              | (simp [ivT]; omega)
    · obtain rfl : n = K := by omega
      rw [Nat.sub_self] at hr
      have hf : RdPost w T n (.returned (.tuple #[.slice A m c, .int .i64 0])) wr := rd_fin ho (by rw [← hr]; simp [rdL]) hlen hb
      have HF := Lib.hid hf
      clear hf ho hr hb
      go_wp2
      go_ret2
      exact HF.out
end Go.Proofs.YtljbhdldfffpfaaGreat
namespace Go.Proofs.YtljbhdldfffpfaaGreat
open Go.RowKit Go.Maps

theorem scanN_le : ∀ (k : Nat) (l : List Int), frsN (scanN k l) ≤ l.length ∧ (scanN k l).length ≤ frsN (scanN k l)
  | 0, l => by simp [scanN, frsN]
  | k + 1, l => by
    unfold scanN
    cases hu : unf l with
    | none => simp [frsN]
    | some b =>
      have h1 := unf_len hu
      have h2 := scanN_le k (l.drop (b.length + 4))
      rw [List.length_drop] at h2
      show frsN (b :: scanN k _) ≤ _ ∧ (b :: scanN k _).length ≤ frsN (b :: scanN k _)
      rw [frsN_cons, List.length_cons]
      omega
theorem scan_le (l : List Int) : frsN (scan l) ≤ l.length ∧ (scan l).length ≤ frsN (scan l) := scanN_le _ _
/-- The log that is opened, plainly. -/
def opT (pd : Nat) (f : Int) (K : Nat) (R : List Int) : Tr := ⟨pd, f, K, R.take (frsN (scan R)), (scan R).length, (scan R).length⟩
def OpPost (w : World) (pd bn bo g : Nat) (d : Dk) (f : Int) (K : Nat) (R : List Int) (r : Ending) (w' : World) : Prop := ∃ p bm A c d', r = .returned (.tuple #[.pointer (some ⟨p, 0, none⟩), .slice A (scan R).length c, .int .i64 0]) ∧ w.heap.size ≤ p ∧ w.heap.size ≤ bm ∧ LogAt w' p bm (opT pd f K R) bn bo g d' ∧ Done (opT pd f K R) d d' K ∧ Fr w.heap.size (Three pd bn bo) w w'

set_option maxRecDepth 100000 in
set_option maxHeartbeats 1000000 in
theorem topen_any (w : World) {pd bn bo g : Nat} {d : Dk} (h : DkAt w pd bn bo g d) (f : Int) (K : Nat) (hf : 0 ≤ f) (hfit : f + K ≤ d.tiles) {T : Nat → List Int} (hT : ∀ i : Nat, i < K → d.has (f + i) (T i)) : Calls Tryz.prog 11 #[.pointer (some ⟨pd, 0, none⟩), .int .i64 f, .int .i64 K] w (OpPost w pd bn bo g d f K (rdL T K 0)) := by
  have hd0 := h.dk.ok.lo
  have hd1 := h.dk.ok.hi
  have hti := tiles_any w h.dk
  have hdd := dead_any w h.dk
  rw [h.dead] at hdd
  have hwi := within_any w d.tiles f K ⟨hd0, hd1⟩ ⟨hf, by omega⟩ ⟨by omega, by omega⟩ hfit
  obtain ⟨W, hW⟩ : ∃ W, W = (w.alloc (.map #[] 0)).alloc (.cells #[.pointer (some ⟨pd, 0, none⟩), .int .i64 f, .int .i64 K, .map (some w.heap.size), .int .i64 0, .int .i64 0, .int .i64 0] 88) := ⟨_, rfl⟩
  have hbW : Below w.heap.size w W := by rw [hW]; exact ((Below.refl _ _).alloc (Nat.le_refl _) _).alloc (by simp) _
  have hsz : (w.alloc (.map #[] 0)).heap.size = w.heap.size + 1 := by simp
  have hl0 : LogAt W (w.heap.size + 1) w.heap.size ⟨pd, f, K, [], 0, 0⟩ bn bo g d := by
    refine ⟨⟨?_, ?_, ⟨fun x hx => (by cases hx), hf, by show f ≤ 2000; omega, by show (0 : Int) ≤ K; omega, by show (K : Int) ≤ 2000; omega, by show (0 : Int) ≤ 63 * (K : Int); omega, Int.le_refl _, by show (0 : Int) ≤ (([] : List Int).length : Int); simp⟩, by omega⟩, h.on fun k hk => hbW.block k (h.lt hk), fun k hk h2 => ?_, hfit⟩
    · rw [hW, ← hsz]; exact heap_alloc_new _ _
    · show fm W _ _ _ (blkM [])
      rw [blkM_nil]
      exact (fm_made w Tryz.prog 3).of_block (by rw [hW]; exact Below.heap_alloc _ _ _ (by simp))
    · have := h.lt hk
      rcases h2 with h2 | h2 <;> omega
  have HTI := Lib.hid hti
  have HDD := Lib.hid hdd
  have HWI := Lib.hid hwi
  have HBW := Lib.hid hbW
  have HRD := Lib.hid (tread_any W hl0 (K := K) rfl hT)
  have HL0 := Lib.hid hl0
  have HTT := Lib.hid hT
  clear hti hdd hwi hbW hl0 hT
  have hmm := @run_makeMap Tryz.prog
  go_enter Tryz.func11, Tryz.ntmps11
  go_upto_region 6 with (first
    | (go_at_call 34; refine HTI.out.mono ?_; rintro e w' ⟨rfl, hw'⟩; obtain rfl := hw'.symm; clear hw')
    | (go_at_call 33; refine HWI.out.mono ?_; rintro e w' ⟨rfl, hw'⟩; obtain rfl := hw'.symm; clear hw')
    | (go_at_call 20; refine HDD.out.mono ?_; rintro e w' ⟨rfl, hw'⟩; obtain rfl := hw'.symm; clear hw'))
  show Code.wp _ _ _ _ ((w.alloc (.map #[] 0)).alloc (.cells #[.pointer (some ⟨pd, 0, none⟩), .int .i64 f, .int .i64 K, .map (some w.heap.size), .int .i64 0, .int .i64 0, .int .i64 0] 88))
  rw [← hW]
  clear hW hmm hsz HTI HDD HWI
  go_wp2_with fail
  refine HRD.out.mono ?_
  rintro r9 w2 ⟨A, m, c, rfl, ho, hlR, hb2⟩
  have hm := own_n ho
  obtain ⟨R, hR⟩ : ∃ R, R = rdL T K 0 := ⟨_, rfl⟩
  have hokR : bytesOk R := by rw [hR]; exact rdL_ok (fun i hi => (HTT.out i hi).2.2) K 0 (by omega)
  rw [← hR] at ho hm hlR ⊢
  subst hm
  have hsl : SlK .u8 w2 (.slice A R.length c) R := own_slK ho hokR
  obtain ⟨hs1, hs2⟩ := scan_le R
  obtain ⟨n, hn⟩ : ∃ n, frsN (scan R) = n := ⟨_, rfl⟩
  obtain ⟨cnt, hcnt⟩ : ∃ n, (scan R).length = n := ⟨_, rfl⟩
  have HSC : Hid (Calls Tryz.prog 36 #[.slice A R.length c] w2 fun r w' => ∃ A c, r = .returned (.tuple #[.slice A cnt c, .int .i64 n]) ∧ Below w2.heap.size w2 w') := Lib.hid ((scan_any w2 hsl (by omega)).mono fun r w' ⟨A, c, h1, h2⟩ => ⟨A, c, by rw [h1, hcnt, hn], h2⟩)
  replace hs1 : n ≤ R.length := by rw [← hn]; exact hs1
  replace hs2 : cnt ≤ n := by rw [← hn, ← hcnt]; exact hs2
  have HN := Lib.hid hn
  have HC := Lib.hid hcnt
  clear hn hcnt
  have HSL := Lib.hid hsl
  have HB2 := Lib.hid hb2
  have HRR := Lib.hid hR
  clear ho hb2 hsl HRD HTT hR
  go_wp2_with fail
  refine HSC.out.mono ?_
  rintro r9 w3 ⟨A2, c2, rfl, hb3⟩
  have hb13 : Below W.heap.size W w3 := HB2.out.trans (hb3.mono HB2.out.size)
  have hl3 := HL0.out.kept (w' := w3) fun k hk => hb13.block k hk
  have hslc : SlK .u8 w3 (.slice A n c) (R.take n) := (HSL.out.below hb3 (Nat.le_refl _)).pre hs1
  have HAD := Lib.hid (add_any w3 hl3.tr hslc (by show ((0 + (R.take n).length : Nat) : Int) ≤ 63 * (K : Int); rw [List.length_take]; omega))
  have HL3 := Lib.hid hl3
  have HB3 := Lib.hid (HBW.out.trans (hb13.mono HBW.out.size))
  have hnc : n ≤ c := by obtain ⟨A', c', e, h⟩ := HSL.out.form; injection e with _ _ e3; omega
  have i1 : (n : Int) ≤ (c : Int) := by omega
  have i2 : (n : Int) ≤ (R.length : Int) := by omega
  clear hb3 hb13 hl3 hslc HSC
  go_wp2_with fail
  refine HAD.out.mono ?_
  rintro r9 w4 ⟨rfl, ht4, hf4⟩
  have hlen : (R.take n).length = n := by rw [List.length_take]; omega
  have x5 : w4.cell? ⟨w.heap.size + 1, 5, none⟩ = some (.int .i64 0) := ht4.c 5
  have z5 := ht4.fz 5
  have hl4 : LogAt (w4.setCell ⟨w.heap.size + 1, 5, none⟩ (.int .i64 cnt)) (w.heap.size + 1) w.heap.size ⟨pd, f, K, R.take n, cnt, 0⟩ bn bo g d := by
    have hL := HL3.out
    refine ⟨⟨?_, ht4.mp.of_block (setCell_far _ _ _ _ (fun e => ht4.ne e.symm)), ⟨ht4.ok.ok, ht4.ok.f0, ht4.ok.f1, ht4.ok.t0, ht4.ok.t1, ht4.ok.len, by show (0 : Int) ≤ cnt; omega, ?_⟩, ht4.ne⟩, ?_, hL.sep, hL.fit⟩
    · rw [heap_setCell_same w4 _ 5 _ _ _ ht4.bx]
      rfl
    · show (cnt : Int) ≤ ((R.take n).length : Int)
      rw [hlen]; omega
    · exact hL.dk.on fun k hk => (setCell_far _ _ _ _ (fun e => hL.sep k hk (Or.inl e))).trans (hf4.block k (hL.dk.lt hk) (fun e => hL.sep k hk e))
  have hf5 : Fr w.heap.size (Three pd bn bo) w (w4.setCell ⟨w.heap.size + 1, 5, none⟩ (.int .i64 cnt)) := by
    refine (((below_fr HB3.out).trans hf4 HB3.out.size (fun x hx h => ?_)).setCell (Or.inr (by show w.heap.size ≤ w.heap.size + 1; omega)) _)
    rcases h with h | h <;> omega
  have HST := Lib.hid (settle_any _ hl4)
  have HF5 := Lib.hid hf5
  clear ht4 hf4 hl4 hf5 HAD HL3 HB3 HL0
  go_wp2_with fail
  generalize w4.setCell ⟨w.heap.size + 1, 5, none⟩ (.int .i64 cnt) = w5 at *
  refine HST.out.mono ?_
  rintro r9 w6 ⟨rfl, d', hl6, hd6, hf6⟩
  have hfin : OpPost w pd bn bo g d f K R (.returned (.tuple #[.pointer (some ⟨w.heap.size + 1, 0, none⟩), .slice A2 cnt c2, .int .i64 0])) w6 := by
    have e : (⟨pd, f, K, R.take n, cnt, cnt⟩ : Tr) = opT pd f K R := by unfold opT; rw [HN.out, HC.out]
    refine ⟨_, _, A2, c2, d', by rw [HC.out], Nat.le_succ _, Nat.le_refl _, ?_, ?_, ?_⟩
    · rw [← e]; exact hl6
    · rw [← e]
      exact ⟨hd6.tiles, hd6.own, hd6.far⟩
    · refine HF5.out.trans hf6 HF5.out.size (fun x hx h => ?_)
      rcases h with h | h
      · rcases h with h | h <;> omega
      · exact h
  have HFI := Lib.hid hfin
  clear hl6 hd6 hf6 hfin HST
  go_wp2
  go_ret3
  have hfi := HFI.out
  rw [HRR.out] at hfi
  exact hfi
end Go.Proofs.YtljbhdldfffpfaaGreat
namespace Go.Proofs.YtljbhdldfffpfaaGreat
open Go.RowKit Go.Maps

theorem tr_same (t : Tr) (h : t.stable = t.count) : ({ t with stable := t.count } : Tr) = t := by
  cases t
  simp_all

set_option maxRecDepth 100000 in
theorem force_no (w : World) {p bm : Nat} {t : Tr} (h : TrAt w p bm t) (hc : t.stable = t.count) : Calls Tryz.prog 56 #[.pointer (some ⟨p, 0, none⟩)] w fun e w' => e = .returned (.int .i64 0) ∧ Below w.heap.size w w' := by
  have x5 : w.drew.cell? ⟨p, 5, none⟩ = some (.int .i64 t.count) := h.c 5
  have x6 : w.drew.cell? ⟨p, 6, none⟩ = some (.int .i64 t.count) := by rw [← hc]; exact h.c 6
  obtain ⟨k, hk⟩ : ∃ k, k = t.count := ⟨_, rfl⟩
  rw [← hk] at x5 x6
  clear hc hk h
  go_enter Tryz.func56, Tryz.ntmps56
  go_wp2
  go_region
  all_goals go_wp2
  all_goals go_ret
  all_goals exact ⟨rfl, (Below.refl _ _).drew⟩

set_option maxRecDepth 100000 in
theorem force_any (w : World) {p bm bn bo g : Nat} {t : Tr} {d : Dk} (h : LogAt w p bm t bn bo g d) : Calls Tryz.prog 56 #[.pointer (some ⟨p, 0, none⟩)] w fun e w' => e = .returned (.int .i64 0) ∧ ∃ d', LogAt w' p bm { t with stable := t.count } bn bo g d' ∧ (t.stable ≠ t.count → Done t d d' t.tiles.toNat) ∧ Fr w.heap.size (Five p bm t.dp bn bo) w w' := by
  by_cases hc : t.stable = t.count
  · refine (force_no w h.tr hc).mono fun e w' ⟨h1, h2⟩ => ⟨h1, d, ?_, fun h => absurd hc h, below_fr h2⟩
    rw [tr_same t hc]
    exact h.kept fun k hk => h2.block k hk
  · have x5 : w.drew.cell? ⟨p, 5, none⟩ = some (.int .i64 t.count) := h.tr.c 5
    have x6 : w.drew.cell? ⟨p, 6, none⟩ = some (.int .i64 t.stable) := h.tr.c 6
    obtain ⟨k, hk⟩ : ∃ k, k = t.count := ⟨_, rfl⟩
    obtain ⟨j, hj⟩ : ∃ j, j = t.stable := ⟨_, rfl⟩
    rw [← hk] at x5
    rw [← hj] at x6
    have hjk : ¬ j = k := by rw [hj, hk]; exact hc
    have HST := Lib.hid (settle_any w.drew (h.kept (w' := w.drew) fun _ _ => rfl))
    clear hc hk hj h
    go_enter Tryz.func56, Tryz.ntmps56
    go_wp2
    go_region
    all_goals
      go_wp2_with fail
      refine HST.out.mono ?_
      rintro r9 w6 ⟨rfl, d', hl6, hd6, hf6⟩
      have HQ := Lib.hid (show LogAt w6 p bm { t with stable := t.count } bn bo g d' ∧ Done t d d' t.tiles.toNat ∧ Fr w.heap.size (Five p bm t.dp bn bo) w w6 from ⟨hl6, hd6, ⟨hf6.os, hf6.tape, hf6.output, hf6.size, hf6.block⟩⟩)
      clear hl6 hd6 hf6 HST
      go_wp2
      go_ret
      exact ⟨rfl, d', HQ.out.1, fun _ => HQ.out.2.1, HQ.out.2.2⟩
end Go.Proofs.YtljbhdldfffpfaaGreat
namespace Go.Proofs.YtljbhdldfffpfaaGreat.Hp
open Go.RowKit Go.Proofs.YtljbhdldfffpfaaGreat

/-- What two reads leave: two blocks more. -/
def twoB (w : World) (l m : List Int) : World := (w.alloc (.cells (byteV l).toArray 124)).alloc (.cells (byteV m).toArray 124)
theorem tiles_ok (w : World) {p bn bo g : Nat} {x : Po} {d : Dk} (hx : PoAt w p x) (h : DkAt w x.dk bn bo g d) (n : Nat) (hn : n ≤ 1000) (hfit : (x.first : Int) + 2 * n + 1 < d.tiles) {l m : List Int} (hl : d.has ((x.first : Int) + 2 * n) l) (hm : d.has ((x.first : Int) + 2 * n + 1) m) :
    Calls Tryz.prog 85 #[.pointer (some ⟨p, 0, none⟩), .int .i64 (n : Int)] w fun e w' => e = .returned (.tuple #[.slice (some ⟨w.heap.size, 0, none⟩) 64 64, .slice (some ⟨w.heap.size + 1, 0, none⟩) 64 64, .int .i64 0]) ∧ w' = twoB w l m := by
  have hsf := hx.sf
  have HT := Lib.hid (tile_any w hx n hn)
  have hb1 : Below w.heap.size w (w.alloc (.cells (byteV l).toArray 124)) := (Below.refl _ _).alloc (Nat.le_refl _) _
  have HR1 := Lib.hid (read_ok w h.dk h.dead ((x.first : Int) + 2 * n) (by omega) (by omega) l hl.1 hl.2.1)
  have h2 := h.on (w' := w.alloc (.cells (byteV l).toArray 124)) fun k hk => hb1.block k (h.lt hk)
  have HR2 := Lib.hid (read_ok _ h2.dk h2.dead ((x.first : Int) + 2 * n + 1) (by omega) (by omega) m hm.1 hm.2.1)
  have hs1 : (w.alloc (.cells (byteV l).toArray 124)).heap.size = w.heap.size + 1 := Array.size_push _
  rw [hs1] at HR2
  have c0 := hx.c0
  have d0 := (hx.on hb1).c0
  have q1 : IntKind.i64.wrap ((x.first : Int) + 2 * n + 1) = (x.first : Int) + 2 * n + 1 := IntWalk.i64_in _ (by omega)
  unfold twoB
  generalize w.alloc (.cells (byteV l).toArray 124) = w1 at *
  generalize hW2 : w1.alloc (.cells (byteV m).toArray 124) = w2 at *
  clear hl hm hx h h2 hb1 hW2
  go_enter Tryz.func85, Tryz.ntmps85
  go_upto_region 5 with (first | (go_at_call 86; refine HT.out.mono ?_; rintro e w' ⟨rfl, hw⟩; obtain rfl := hw.symm; clear hw) | (go_at_call 24; refine HR1.out.mono ?_; rintro e w' ⟨rfl, hw⟩; obtain rfl := hw.symm; clear hw))
  go_wp2_with (go_at_call 24; refine HR2.out.mono ?_; rintro e w' ⟨rfl, hw⟩; obtain rfl := hw.symm; clear hw)
  refine bodyPost_ret (v := .tuple #[.slice (some ⟨w.heap.size, 0, none⟩) 64 64, .slice (some ⟨w.heap.size + 1, 0, none⟩) 64 64, .int .i64 0]) (by simp [results, Tryz.results85, go_sem]) rfl ⟨rfl, rfl⟩
end Go.Proofs.YtljbhdldfffpfaaGreat.Hp
