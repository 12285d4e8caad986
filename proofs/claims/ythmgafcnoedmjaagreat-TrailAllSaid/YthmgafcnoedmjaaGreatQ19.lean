/- TrailAll, a part. -/
import Derived.Test.YthmgafcnoedmjaaGreatQ12
import Derived.Test.YthmgafcnoedmjaaGreatQ16
import Derived.Test.YthmgafcnoedmjaaGreatQ18
namespace Go.Proofs.YthmgafcnoedmjaaGreat
set_option maxRecDepth 100000
open Go.RowKit Go.Maps
theorem lt_three {w : World} {p bn bo g k : Nat} {d : Dk} (h : DiskAt w p bn bo g d) (hk : Three p bn bo k) : k < w.heap.size := by
 obtain ⟨h1, h2, h3⟩ := h.lt
 rcases hk with rfl | rfl | rfl
 ·exact h1
 ·exact h2
 ·exact h3
theorem slb_on {w w' : World} {v : Value} {l : List Int} {g : Nat} (h : SlB w v l g) (hb : g < w.heap.size → w'.heap[g]? = w.heap[g]?) : SlB w' v l g := by
 obtain ⟨p0, len, cap, e, e2, hle, hcap, hn, ha⟩ := h
 refine ⟨p0, len, cap, e, e2, hle, hcap, hn, fun a hpa hne => ?_⟩
 obtain ⟨h1, h2, h3⟩ := ha a hpa hne
 refine ⟨h1, h2, fun j hj => ?_⟩
 have hlt := block_lt_of_cell (h3 j hj)
 exact (World.cell?_of_block (hb hlt)).trans (h3 j hj)
theorem disk_on {w w' : World} {p bn bo g : Nat} {d : Dk} (h : DiskAt w p bn bo g d) (hb : ∀ k, Three p bn bo k → w'.heap[k]? = w.heap[k]?) (hg : g < w.heap.size → w'.heap[g]? = w.heap[g]?) : DiskAt w' p bn bo g d :=
 ⟨(hb p (Or.inl rfl)).trans h.cells, h.now.of_block (hb bn (Or.inr (Or.inl rfl))), h.old.of_block (hb bo (Or.inr (Or.inr rfl))), slb_on h.mask hg, h.ne, h.ok⟩
theorem disk_low {w : World} {p bn bo g : Nat} {d : Dk} (h : DiskAt w p bn bo g d) : ∃ g', g' < w.heap.size ∧ DiskAt w p bn bo g' d ∧ (g' = g ∨ g' = bn) := by
 by_cases hg : g < w.heap.size
 ·exact ⟨g, hg, h, Or.inl rfl⟩
 ·refine ⟨bn, h.lt.2.1, ⟨h.cells, h.now, h.old, ?_, ⟨h.ne.1, h.ne.2.1, h.ne.2.2.1, h.ne.2.1.symm⟩, h.ok⟩, Or.inr rfl⟩
  obtain ⟨p0, len, cap, e, e2, hle, hcap, hn, ha⟩ := h.mask
  refine ⟨p0, len, cap, e, e2, hle, hcap, hn, fun a hpa hne => ?_⟩
  obtain ⟨h1, h2, h3⟩ := ha a hpa hne
  have := block_lt_of_cell (h3 0 (List.length_pos_iff.2 hne))
  exact absurd this hg
theorem Settled.err {S : List Int} {first : Int} {K : Nat} {d d' : Dk} {e : Int} (h : Settled S first K d e d') : e = 0 ∧ (d'.dead = false ∨ Went S first d K false d') ∨ e = 2 ∧ d'.dead = true := by
 rcases h with ⟨n, q, h1, h2, h3, rfl⟩ | ⟨n, q, d1, l, h1, h2, h3, h4, h5, h6, rfl⟩ | ⟨h, rfl⟩ | ⟨d1, h1, h2⟩
 ·exact Or.inr ⟨rfl, h3⟩
 ·rcases h6.err with ⟨h, _⟩ | ⟨_, h⟩
  ·exact absurd h (by decide)
  ·exact Or.inr ⟨rfl, h⟩
 ·exact Or.inl ⟨rfl, Or.inr h⟩
 ·rcases h2.err with ⟨rfl, h⟩ | ⟨rfl, h⟩
  ·exact Or.inl ⟨rfl, Or.inl h⟩
  ·exact Or.inr ⟨rfl, h⟩
set_option maxHeartbeats 1000000 in
theorem tread_rel (w : World) {p bm bn bo g : Nat} {t : Tr} {d : Dk} (h : LogD w p bm t bn bo g d) (hdead : d.dead = false) {T : Nat → List Int} {K : Nat} (hK : t.tiles = (K : Int)) (hT : ∀ i : Nat, i < K → d.has (t.first + i) (T i)) : Calls Tryz.prog 36 #[.pointer (some ⟨p, 0, none⟩)] w (RdPost w T K) := by
 have t1 := h.tr.ok.t1
 have t2 := h.tr.ok.f0
 have t3 := h.tr.ok.f1
 have x2 : w.cell? ⟨p, 2, none⟩ = some (.int .i64 t.tiles) := h.tr.c 2
 have H1 : Hid (RdRel w T K 0 (.slice none 0 0) w) := Lib.hid ⟨[], World.ownsRow_nil _ _ _ _, by simp, by simp, Below.refl _ _⟩
 have HK := Lib.hid hK
 rw [hK] at x2
 have hK0 : K ≤ 2000 := by omega
 have HL := Lib.hid h
 have HDE := Lib.hid hdead
 have HT := Lib.hid hT
 clear h hdead t1 hK hT
 go_enter Tryz.func36, Tryz.ntmps36
 go_wp2
 go_loopw [4, 13] (fun v i wr => ∃ n : Nat, n ≤ K ∧ i = .int .i64 n ∧ Hid (RdRel w T K n v wr)) (fun _ i _ => K - ivT i)
 case atStart => exact ⟨0, Nat.zero_le _, rfl, H1⟩
 case round =>
  obtain ⟨n, hn, rfl, HR⟩ := hrel
  obtain ⟨D, ho, hr, hlen, hb⟩ := HR.out
  clear x2 H1 HR
  obtain ⟨A, m, c, rfl⟩ := own_shape ho
  by_cases hlt : n < K
  ·have hl := HL.out.kept fun k hk => hb.block k hk
   have x0 : wr.drew.cell? ⟨p, 0, none⟩ = some (.pointer (some ⟨t.dp, 0, none⟩)) := hl.tr.c 0
   have x1 : wr.drew.cell? ⟨p, 1, none⟩ = some (.int .i64 t.first) := hl.tr.c 1
   have q1 : IntKind.i64.wrap (t.first + (n : Int)) = t.first + (n : Int) := IntWalk.i64_in _ (by omega)
   have hh := HT.out n hlt
   obtain ⟨l, hTl⟩ : ∃ l, l = T n := ⟨_, rfl⟩
   rw [← hTl] at hh
   have hlt2 : (n : Int) < (K : Int) := by omega
   have hin : t.first + (n : Int) < d.tiles := by have := hl.fit; have := HK.out; omega
   have HRd : Hid (∀ W, Below wr.heap.size wr W → Calls Tryz.prog 58 #[.pointer (some ⟨t.dp, 0, none⟩), .int .i64 (t.first + n)] W fun e w' => ∃ g1, e = .returned (.tuple #[.slice (some ⟨g1, 0, none⟩) 64 64, .int .i64 0]) ∧ SlK .u8 w' (.slice (some ⟨g1, 0, none⟩) 64 64) l ∧ Below wr.heap.size wr w') := Lib.hid fun W hW =>
    (read_ok W (hl.kept fun k hk => hW.block k hk).dk HDE.out _ (by omega) hin l hh.1 hh.2.1).mono fun e w' ⟨h1, h2⟩ => ⟨_, h1, by rw [h2]; exact (pt_row (heap_alloc_new W _) hh.2.1).slK hh.2.2, by rw [h2]; exact hW.alloc hW.size _⟩
   have HO := Lib.hid ho
   have HRR := Lib.hid hr
   have HB := Lib.hid hb
   have HH := Lib.hid hh
   have HTL := Lib.hid hTl
   have D0 := (Below.refl wr.heap.size wr).drew
   clear hl ho hr hb hh hin hTl
   go_upto_region 5 with (fail)
   go_cut [6, 7] (fun u v wx => ∃ g1, u = .slice (some ⟨g1, 0, none⟩) 64 64 ∧ v = .int .i64 0 ∧ SlK .u8 wx (.slice (some ⟨g1, 0, none⟩) 64 64) l ∧ Below wr.heap.size wr wx)
   case first =>
    go_region_with (go_at_call 58; refine (HRd.out _ D0).mono ?_; rintro e w1 ⟨g1, rfl, hs1, hb1⟩; have HQ := Lib.hid (And.intro hs1 hb1); clear hs1 hb1)
    all_goals go_wp2
    all_goals go_meet
    all_goals exact ⟨g1, rfl, rfl, HQ.out.1, HQ.out.2⟩
   case rest =>
    obtain ⟨g1, rfl, rfl, hs1, hb1⟩ := hcut
    generalize wc = w1 at *
    obtain ⟨x, r, hxr⟩ : ∃ x r, l = x :: r := by
     cases l with
     | nil => exact absurd HH.out.2.1 (by simp)
     | cons x r => exact ⟨x, r, rfl⟩
    have hx := HH.out.2.2 x (by rw [hxr]; exact List.mem_cons_self ..)
    have hrl : r.length = 63 := by have := HH.out.2.1; rw [hxr, List.length_cons] at this; omega
    obtain ⟨X, hX⟩ : ∃ X : Nat, x = (X : Int) := ⟨x.toNat, by omega⟩
    subst hX
    have c0 : w1.cell? ⟨g1, 0, none⟩ = some (.int .u8 (X : Int)) := by
     obtain ⟨b', o', cap', e, _, _, h3⟩ := hs1.pt (by rw [hxr]; simp)
     injection e with e1
     injection e1 with e1
     injection e1 with e1 e2
     have h4 := h3 0 (by rw [hxr]; simp)
     rw [← e1, ← e2] at h4
     simpa [hxr] using h4
    have t4 : IntKind.i64.wrap (X : Int) = (X : Int) := IntWalk.i64_in _ (by omega)
    have hb2 : Below w.heap.size w w1 := HB.out.trans (hb1.mono HB.out.size)
    have ho1 : w1.ownsRow w.heap.size 5 1 (.slice A m c) D.length (byteV D) := own_at HO.out fun k hk => hb1.block k (HO.out.lt k hk).2
    have hun : rdL T (K - n) n = if 63 < (X : Int) then [] else if (X : Int) < 63 then r.take X else r.take X ++ rdL T (K - n - 1) (n + 1) := by
     rw [show K - n = (K - n - 1) + 1 by omega]
     show (if 63 < (T n).headD 0 then _ else _) = _
     rw [← HTL.out, hxr]
     rfl
    have hdl : D.length ≤ 126000 := by omega
    by_cases h63 : 63 < X
    ·rw [if_pos (by omega)] at hun
     have hf : RdPost w T K (.returned (.tuple #[.slice A m c, .int .i64 0])) w1 := rd_fin ho1 (by rw [← HRR.out, hun, List.append_nil]) (by omega) hb2
     have HFI := Lib.hid hf
     have h63i : (63 : Int) < (X : Int) := by omega
     clear hf hun ho1 hb2 hs1 hb1 HO HRR x0 x1 HRd D0
     go_wp2
     go_ret2
     exact HFI.out
    ·rw [if_neg (by omega)] at hun
     have h63i : ¬ (63 : Int) < (X : Int) := by omega
     have hsx : SlK .u8 w1 (.slice (some ⟨g1, 1, none⟩) X 63) (r.take X) := by
      have := ((hs1.rest (k := 1) (by decide)).2.1.pre (k := X) (by omega))
      rw [hxr] at this
      exact this
     obtain ⟨v1, W1, hr1, ho2, hg2, hv2⟩ := run_append_sl ho1 hsx.sw (by simp; omega) hb2.size
     obtain ⟨A2, m2, c2, rfl⟩ := own_shape ho2
     have HR1 := Lib.hid hr1
     have hrt : (r.take X).length = X := by rw [List.length_take]; omega
     have hb3 : Below w.heap.size w W1 := hb2.trans ⟨hg2.os, hg2.tape, hg2.output, hg2.size, fun k hk => hg2.block k (Nat.lt_of_lt_of_le hk hb2.size) (fun e => by have := (ho1.lt k e.symm).1; omega)⟩
     obtain ⟨X1, hX1⟩ : ∃ X1 : Nat, X1 = 1 + X := ⟨_, rfl⟩
     have q5 : IntKind.i64.wrap (1 + (X : Int)) = (X1 : Int) := by rw [IntWalk.i64_in _ (by omega)]; omega
     have q6 : (X1 : Int) ≤ 64 := by omega
     have q7 : X1 ≤ 64 := by omega
     have q8 : (1 : Int) ≤ (X1 : Int) := by omega
     have q9 : 1 ≤ X1 := by omega
     have q10 : X1 - 1 = X := by omega
     rw [hrt] at ho2
     by_cases hX63 : X < 63
     ·rw [if_pos (by omega)] at hun
      have hf : RdPost w T K (.returned (.tuple #[.slice A2 m2 c2, .int .i64 0])) W1 := rd_fin (D := D ++ r.take X) (by rw [List.length_append, hrt]; exact ho2) (by rw [← HRR.out, hun]) (by rw [List.length_append, hrt]; omega) hb3
      have HFI := Lib.hid hf
      have hXi : (X : Int) < 63 := by omega
      clear hf hun ho1 ho2 hb2 hb3 hs1 hb1 HO HRR x0 x1 HRd D0 hg2 hv2 hr1 hsx hX1
      go_wp2_with (at_builtin; with_reducible refine Lib.wpList_append_run _ rfl _ _ _ _ rfl _ _ rfl rfl _ _ (HR1.out _) ?_)
      go_ret2
      exact HFI.out
     ·obtain rfl : X = 63 := by omega
      rw [if_neg (by omega)] at hun
      have hR2 : RdRel w T K (n + 1) (.slice A2 m2 c2) W1 := by
       refine ⟨D ++ r.take 63, by rw [List.length_append, hrt]; exact ho2, ?_, by rw [List.length_append, hrt]; omega, hb3⟩
       rw [← HRR.out, hun, List.append_assoc, Nat.sub_sub]
      have HR2 := Lib.hid hR2
      clear hR2 hun ho1 ho2 hb2 hb3 hs1 hb1 HO HRR x0 x1 HRd D0 hg2 hv2 hr1 hsx hX1
      go_wp2_with (at_builtin; with_reducible refine Lib.wpList_append_run _ rfl _ _ _ _ rfl _ _ rfl rfl _ _ (HR1.out _) ?_)
      go_roundw
      all_goals first
       | exact ⟨n + 1, hlt, by go_num, HR2⟩
       | (simp [ivT]; omega)
  ·obtain rfl : n = K := by omega
   rw [Nat.sub_self] at hr
   have hf : RdPost w T n (.returned (.tuple #[.slice A m c, .int .i64 0])) wr := rd_fin ho (by rw [← hr]; simp [rdL]) hlen hb
   have HF := Lib.hid hf
   clear hf ho hr hb
   go_wp2
   go_ret2
   exact HF.out
def OrPost (w : World) (pd bn bo g : Nat) (d : Dk) (f : Int) (K : Nat) (R : List Int) (r : Ending) (w' : World) : Prop := ∃ (e : Int) (d' : Dk), Settled (R.take (frsN (scan R))) f K d e d' ∧ ((e = 0 ∧ ∃ (p bm : Nat) (A : Option Addr) (c : Nat) (es : List (Ent × S6)), r = .returned (.tuple #[.pointer (some ⟨p, 0, none⟩), .slice A (scan R).length c, .int .i64 0]) ∧ w.heap.size ≤ p ∧ w.heap.size ≤ bm ∧ LogD w' p bm (opT pd f K R) bn bo g d' ∧ es.map Prod.fst = (scan R).map tkE ∧ Els w' (.slice A (scan R).length c) 16 (es.map enV) ∧ (∀ b, (Value.slice A (scan R).length c).ownBlock = some b → w.heap.size ≤ b ∧ ¬ Two p bm b) ∧ ∀ o ∈ es, EnG w' (fun b => w.heap.size ≤ b ∧ b < w'.heap.size ∧ ¬ Two p bm b) o) ∨ (e = 2 ∧ r = .returned (.tuple #[.pointer none, .slice none 0 0, .int .i64 2]) ∧ DiskAt w' pd bn bo g d')) ∧ Fr w.heap.size (Three pd bn bo) w w'
set_option maxHeartbeats 1000000 in
theorem topen_rel (w : World) {pd bn bo g : Nat} {d : Dk} (h : DiskAt w pd bn bo g d) (hg : g < w.heap.size) (hdead : d.dead = false) (f : Int) (K : Nat) (hf : 0 ≤ f) (hfit : f + K ≤ d.tiles) {T : Nat → List Int} (hT : ∀ i : Nat, i < K → d.has (f + i) (T i)) : Calls Tryz.prog 9 #[.pointer (some ⟨pd, 0, none⟩), .int .i64 f, .int .i64 K] w (OrPost w pd bn bo g d f K (rdL T K 0)) := by
 have hd0 := h.ok.lo
 have hd1 := h.ok.hi
 have hti := tiles_any w h
 have hdd := dead_any w h
 rw [hdead] at hdd
 have hwi := within_any w d.tiles f K ⟨hd0, hd1⟩ ⟨hf, by omega⟩ ⟨by omega, by omega⟩ hfit
 obtain ⟨W, hW⟩ : ∃ W, W = (w.alloc (.map #[] 0)).alloc (.cells #[.pointer (some ⟨pd, 0, none⟩), .int .i64 f, .int .i64 K, .map (some w.heap.size), .int .i64 0, .int .i64 0, .int .i64 0] 79) := ⟨_, rfl⟩
 have hbW : Below w.heap.size w W := by rw [hW]; exact ((Below.refl _ _).alloc (Nat.le_refl _) _).alloc (by simp) _
 have hsz : (w.alloc (.map #[] 0)).heap.size = w.heap.size + 1 := by simp
 have hl0 : LogD W (w.heap.size + 1) w.heap.size ⟨pd, f, K, [], 0, 0⟩ bn bo g d := by
  refine ⟨⟨?_, ?_, ⟨fun x hx => (by cases hx), hf, by show f ≤ 2000; omega, by show (0 : Int) ≤ K; omega, by show (K : Int) ≤ 2000; omega, by show (0 : Int) ≤ 63 * (K : Int); omega, Int.le_refl _, by show (0 : Int) ≤ (([] : List Int).length : Int); simp⟩, by omega⟩, h.kept fun k hk => hbW.block k hk, fun k hk h2 => ?_, fun h2 => ?_, hfit⟩
  ·rw [hW, ← hsz]; exact heap_alloc_new _ _
  ·show fm W _ _ _ (blkM [])
   rw [blkM_nil]
   exact (fm_made w Tryz.prog 3).of_block (by rw [hW]; exact Below.heap_alloc _ _ _ (by simp))
  ·have := lt_three h hk
   rcases h2 with h2 | h2 <;> omega
  ·rcases h2 with h2 | h2 <;> omega
 have HTI := Lib.hid hti
 have HDD := Lib.hid hdd
 have HWI := Lib.hid hwi
 have HBW := Lib.hid hbW
 have HRD := Lib.hid (tread_rel W hl0 hdead (K := K) rfl hT)
 have HL0 := Lib.hid hl0
 have HTT := Lib.hid hT
 clear hti hdd hwi hbW hl0 hT
 have hmm := @run_makeMap Tryz.prog
 go_enter Tryz.func9, Tryz.ntmps9
 go_upto_region 6 with (first
  | (go_at_call 35; refine HTI.out.mono ?_; rintro e w' ⟨rfl, hw'⟩; obtain rfl := hw'.symm; clear hw')
  | (go_at_call 34; refine HWI.out.mono ?_; rintro e w' ⟨rfl, hw'⟩; obtain rfl := hw'.symm; clear hw')
  | (go_at_call 22; refine HDD.out.mono ?_; rintro e w' ⟨rfl, hw'⟩; obtain rfl := hw'.symm; clear hw'))
 show Code.wp _ _ _ _ ((w.alloc (.map #[] 0)).alloc (.cells #[.pointer (some ⟨pd, 0, none⟩), .int .i64 f, .int .i64 K, .map (some w.heap.size), .int .i64 0, .int .i64 0, .int .i64 0] 79))
 rw [← hW]
 clear hW hmm hsz HTI HDD HWI
 go_wp2_with fail
 refine HRD.out.mono ?_
 rintro r9 w2 ⟨A, m, c, rfl, ho, hlR, hb2⟩
 have hm := own_n ho
 obtain ⟨R, hR⟩ : ∃ R, R = rdL T K 0 := ⟨_, rfl⟩
 have hokR : bytesOk R := by rw [hR]; exact rdL_ok (fun i hi => (HTT.out i hi).2.2) K 0 (by omega)
 rw [← hR] at ho hm hlR ⊢
 subst hm
 have hsl : SlK .u8 w2 (.slice A R.length c) R := own_slK ho hokR
 obtain ⟨hs1, hs2⟩ := scan_le R
 obtain ⟨n, hn⟩ : ∃ n, frsN (scan R) = n := ⟨_, rfl⟩
 obtain ⟨cnt, hcnt⟩ : ∃ n, (scan R).length = n := ⟨_, rfl⟩
 have HSC : Hid (Calls Tryz.prog 31 #[.slice A R.length c] w2 fun r w' => ∃ (A : Option Addr) (c : Nat) (es : List (Ent × S6)), r = .returned (.tuple #[.slice A cnt c, .int .i64 n]) ∧ (es.map Prod.fst = (scan R).map tkE ∧ Els w' (.slice A cnt c) 16 (es.map enV) ∧ (∀ b, (Value.slice A cnt c).ownBlock = some b → w2.heap.size ≤ b) ∧ ∀ o ∈ es, EnG w' (fun b => w2.heap.size ≤ b ∧ b < w'.heap.size) o) ∧ Below w2.heap.size w2 w') := Lib.hid ((scanE_any w2 hsl (by omega)).mono fun r w' ⟨A, c, es, h1, h3, h4, h5, h6, h2⟩ => ⟨A, c, es, by rw [h1, hcnt, hn], ⟨h3, by rw [← hcnt]; exact h4, by rw [← hcnt]; exact h5, h6⟩, h2⟩)
 replace hs1 : n ≤ R.length := by rw [← hn]; exact hs1
 replace hs2 : cnt ≤ n := by rw [← hn, ← hcnt]; exact hs2
 have HN := Lib.hid hn
 have HC := Lib.hid hcnt
 clear hn hcnt
 have HSL := Lib.hid hsl
 have HB2 := Lib.hid hb2
 have HRR := Lib.hid hR
 clear ho hb2 hsl HRD HTT hR
 go_wp2_with fail
 refine HSC.out.mono ?_
 rintro r9 w3 ⟨A2, c2, es, rfl, hes, hb3⟩
 have HES := Lib.hid hes
 have HSZ3 : Hid (w2.heap.size ≤ w3.heap.size) := Lib.hid hb3.size
 clear hes
 have hb13 : Below W.heap.size W w3 := HB2.out.trans (hb3.mono HB2.out.size)
 have hl3 := HL0.out.kept (w' := w3) fun k hk => hb13.block k hk
 have hslc : SlK .u8 w3 (.slice A n c) (R.take n) := (HSL.out.below hb3 (Nat.le_refl _)).pre hs1
 have HAD := Lib.hid (add_any w3 hl3.tr hslc (by show ((0 + (R.take n).length : Nat) : Int) ≤ 63 * (K : Int); rw [List.length_take]; omega))
 have HL3 := Lib.hid hl3
 have HB3 := Lib.hid (HBW.out.trans (hb13.mono HBW.out.size))
 have hnc : n ≤ c := by obtain ⟨A', c', e, h⟩ := HSL.out.form; injection e with _ _ e3; omega
 have i1 : (n : Int) ≤ (c : Int) := by omega
 have i2 : (n : Int) ≤ (R.length : Int) := by omega
 clear hb3 hb13 hl3 hslc HSC
 go_wp2_with fail
 refine HAD.out.mono ?_
 rintro r9 w4 ⟨rfl, ht4, hf4⟩
 have hlen : (R.take n).length = n := by rw [List.length_take]; omega
 have x5 : w4.cell? ⟨w.heap.size + 1, 5, none⟩ = some (.int .i64 0) := ht4.c 5
 have z5 := ht4.fz 5
 have hl4 : LogD (w4.setCell ⟨w.heap.size + 1, 5, none⟩ (.int .i64 cnt)) (w.heap.size + 1) w.heap.size ⟨pd, f, K, R.take n, cnt, 0⟩ bn bo g d := by
  have hL := HL3.out
  refine ⟨⟨?_, ht4.mp.of_block (setCell_far _ _ _ _ (fun e => ht4.ne e.symm)), ⟨ht4.ok.ok, ht4.ok.f0, ht4.ok.f1, ht4.ok.t0, ht4.ok.t1, ht4.ok.len, by show (0 : Int) ≤ cnt; omega, ?_⟩, ht4.ne⟩, ?_, hL.sep, hL.sepg, hL.fit⟩
  ·rw [heap_setCell_same w4 _ 5 _ _ _ ht4.bx]
   rfl
  ·show (cnt : Int) ≤ ((R.take n).length : Int)
   rw [hlen]; omega
  ·have hp : ∀ k, k < w3.heap.size → ¬ Two (w.heap.size + 1) w.heap.size k → (w4.setCell ⟨w.heap.size + 1, 5, none⟩ (.int .i64 cnt)).heap[k]? = w3.heap[k]? := fun k hk hn => (setCell_far _ _ _ _ (fun e => hn (Or.inl e))).trans (hf4.block k hk (fun e => hn e))
   exact disk_on hL.dk (fun k hk => hp k (lt_three hL.dk hk) (hL.sep k hk)) (fun hg => hp g hg hL.sepg)
 have hf5 : Fr w.heap.size (Three pd bn bo) w (w4.setCell ⟨w.heap.size + 1, 5, none⟩ (.int .i64 cnt)) := by
  refine (((below_fr HB3.out).trans hf4 HB3.out.size (fun x hx h => ?_)).setCell (Or.inr (by show w.heap.size ≤ w.heap.size + 1; omega)) _)
  rcases h with h | h <;> omega
 have hpw : w.heap.size + 1 < w2.heap.size := Nat.lt_of_lt_of_le HL0.out.tr.lt.1 HB2.out.size
 have hk5 : ∀ b, w2.heap.size ≤ b → b < w3.heap.size → (w4.setCell ⟨w.heap.size + 1, 5, none⟩ (.int .i64 cnt)).heap[b]? = w3.heap[b]? := fun b h1 h2 => (setCell_far _ _ _ _ (by omega)).trans (hf4.block b h2 (fun e => by rcases e with e | e <;> omega))
 have hs5 : w3.heap.size ≤ (w4.setCell ⟨w.heap.size + 1, 5, none⟩ (.int .i64 cnt)).heap.size := by simpa using hf4.size
 have HPW := Lib.hid hpw
 have HK5 := Lib.hid hk5
 have HS5 := Lib.hid hs5
 have HDL := Lib.hid (fun k (hk : Three pd bn bo k) => lt_three h hk)
 clear hpw hk5 hs5
 have HST := Lib.hid (settle_rel _ hl4)
 have HF5 := Lib.hid hf5
 clear ht4 hf4 hl4 hf5 HAD HL3 HB3 HL0
 go_wp2_with fail
 generalize w4.setCell ⟨w.heap.size + 1, 5, none⟩ (.int .i64 cnt) = w5 at *
 refine HST.out.mono ?_
 rintro r9 w6 ⟨e, d', rfl, hq6, hl6, hf6⟩
 have hff : Fr w.heap.size (Three pd bn bo) w w6 := by
  refine HF5.out.trans hf6 HF5.out.size (fun x hx h => ?_)
  rcases h with h | h
  ·rcases h with h | h <;> omega
  ·exact h
 have hss : Settled (R.take (frsN (scan R))) f K d e d' := by rw [HN.out]; exact hq6
 rcases hq6.err with ⟨rfl, _⟩ | ⟨rfl, _⟩
 ·rw [if_pos rfl] at hl6
  have hfin : OrPost w pd bn bo g d f K R (.returned (.tuple #[.pointer (some ⟨w.heap.size + 1, 0, none⟩), .slice A2 cnt c2, .int .i64 0])) w6 := by
   have e : (⟨pd, f, K, R.take n, cnt, cnt⟩ : Tr) = opT pd f K R := by unfold opT; rw [HN.out, HC.out]
   have hk6 : ∀ b, w2.heap.size ≤ b → b < w3.heap.size → w6.heap[b]? = w3.heap[b]? := fun b h1 h2 => (hf6.block b (Nat.lt_of_lt_of_le h2 HS5.out) (fun e => by
    have := HPW.out
    rcases e with e | e
    ·rcases e with e | e <;> omega
    ·have := HDL.out b e
     omega)).trans (HK5.out b h1 h2)
   have hs6 : w3.heap.size ≤ w6.heap.size := Nat.le_trans HS5.out hf6.size
   have hw2 : w.heap.size ≤ w2.heap.size := by have := HPW.out; omega
   obtain ⟨g1, g2, g3, g4⟩ := HES.out
   refine ⟨0, d', hss, Or.inl ⟨rfl, _, _, A2, c2, es, by rw [HC.out], Nat.le_succ _, Nat.le_refl _, ?_, g1, ?_, fun b hb => ?_, fun o ho => ?_⟩, hff⟩
   ·rw [← e]; exact hl6
   ·rw [HC.out]
    exact g2.at fun _ b hb hlt => hk6 b (g3 b hb) hlt
   ·rw [HC.out] at hb
    have := g3 b hb
    have := HPW.out
    exact ⟨by omega, fun e => by rcases e with e | e <;> omega⟩
   ·exact ((g4 o ho).at hs6 fun b hb => hk6 b hb.1 hb.2).mono fun b hb => ⟨Nat.le_trans hw2 hb.1, Nat.lt_of_lt_of_le hb.2 hs6, fun e => by have := HPW.out; have := hb.1; rcases e with e | e <;> omega⟩
  have HFI := Lib.hid hfin
  clear hl6 hq6 hf6 hff hss hfin HST
  go_wp2
  go_ret3
  have hfi := HFI.out
  rw [HRR.out] at hfi
  exact hfi
 ·rw [if_neg (by decide)] at hl6
  have hfin : OrPost w pd bn bo g d f K R (.returned (.tuple #[.pointer none, .slice none 0 0, .int .i64 2])) w6 := ⟨2, d', hss, Or.inr ⟨rfl, rfl, hl6.dk⟩, hff⟩
  have HFI := Lib.hid hfin
  clear hl6 hq6 hf6 hff hss hfin HST
  go_wp2
  go_ret3
  have hfi := HFI.out
  rw [HRR.out] at hfi
  exact hfi
theorem force_rel (w : World) {p bm bn bo g : Nat} {t : Tr} {d : Dk} (h : LogD w p bm t bn bo g d) (hc : t.stable ≠ t.count) : Calls Tryz.prog 14 #[.pointer (some ⟨p, 0, none⟩)] w (SrPost w p bm t bn bo g d) := by
 have x5 : w.drew.cell? ⟨p, 5, none⟩ = some (.int .i64 t.count) := h.tr.c 5
 have x6 : w.drew.cell? ⟨p, 6, none⟩ = some (.int .i64 t.stable) := h.tr.c 6
 obtain ⟨k, hk⟩ : ∃ k, k = t.count := ⟨_, rfl⟩
 obtain ⟨j, hj⟩ : ∃ j, j = t.stable := ⟨_, rfl⟩
 rw [← hk] at x5
 rw [← hj] at x6
 have hjk : ¬ j = k := by rw [hj, hk]; exact hc
 have HST := Lib.hid (settle_rel w.drew (h.kept (w' := w.drew) fun _ _ => rfl))
 clear hc hk hj h
 go_enter Tryz.func14, Tryz.ntmps14
 go_wp2
 go_region
 all_goals
  go_wp2_with fail
  refine HST.out.mono ?_
  rintro r9 w6 ⟨e, d', rfl, hs6, hl6, hf6⟩
  have HQ := Lib.hid (show SrPost w p bm t bn bo g d (.returned (.int .i64 e)) w6 from ⟨e, d', rfl, hs6, hl6, ⟨hf6.os, hf6.tape, hf6.output, hf6.size, hf6.block⟩⟩)
  clear hl6 hs6 hf6 HST
  go_wp2
  go_ret
  exact HQ.out
end Go.Proofs.YthmgafcnoedmjaaGreat
