/- TrailAll, a part. -/
import Derived.Test.YthmgafcnoedmjaaGreatQ10
import Derived.Test.YthmgafcnoedmjaaGreatQ17
namespace Go.Proofs.YthmgafcnoedmjaaGreat
set_option maxRecDepth 100000
open Go.RowKit Go.Maps
structure LogD (w : World) (p bm : Nat) (t : Tr) (bn bo g : Nat) (d : Dk) : Prop where
 tr : TrAt w p bm t
 dk : DiskAt w t.dp bn bo g d
 sep : ∀ k, Three t.dp bn bo k → ¬ Two p bm k
 sepg : ¬ Two p bm g
 fit : t.first + t.tiles ≤ d.tiles
section
variable {w w' : World} {p bm bn bo g : Nat} {t : Tr} {d d' : Dk}
theorem LogD.kept (h : LogD w p bm t bn bo g d) (hb : ∀ k, k < w.heap.size → w'.heap[k]? = w.heap[k]?) : LogD w' p bm t bn bo g d :=
 ⟨h.tr.kept hb, h.dk.kept hb, h.sep, h.sepg, h.fit⟩
theorem LogD.turn (h : LogD w p bm t bn bo g d) (hd : DiskAt w' t.dp bn bo g d') (ht : d'.tiles = d.tiles) (hf : Fr w.heap.size (Three t.dp bn bo) w w') : LogD w' p bm t bn bo g d' := by
 have hk : ∀ k, k < w.heap.size → Two p bm k → w'.heap[k]? = w.heap[k]? := fun k hk h2 => hf.block k hk (fun e => h.sep k e h2)
 exact ⟨⟨(hk p h.tr.lt.1 (Or.inl rfl)).trans h.tr.bx, h.tr.mp.of_block (hk bm h.tr.lt.2 (Or.inr rfl)), h.tr.ok, h.tr.ne⟩, hd, h.sep, h.sepg, by rw [ht]; exact h.fit⟩
end
inductive Went (S : List Int) (first : Int) (d : Dk) : Nat → Bool → Dk → Prop
 | start : Went S first d 0 false d
 | same {n : Nat} {q : Bool} {d1 : Dk} : Went S first d n q d1 → d1.dead = false → d1.has (first + n) (tileL S n) → Went S first d (n + 1) q d1
 | wrote {n : Nat} {q : Bool} {d1 d2 : Dk} {l : List Int} : Went S first d n q d1 → d1.dead = false → d1.has (first + n) l → l ≠ tileL S n → Wrote d1 (first + n) (tileL S n) 0 d2 → Went S first d (n + 1) true d2
def Settled (S : List Int) (first : Int) (K : Nat) (d : Dk) (e : Int) (d' : Dk) : Prop :=
 (∃ n q, n < K ∧ Went S first d n q d' ∧ d'.dead = true ∧ e = 2) ∨
 (∃ n q d1 l, n < K ∧ Went S first d n q d1 ∧ d1.dead = false ∧ d1.has (first + n) l ∧ l ≠ tileL S n ∧ Wrote d1 (first + n) (tileL S n) 2 d' ∧ e = 2) ∨
 (Went S first d K false d' ∧ e = 0) ∨
 (∃ d1, Went S first d K true d1 ∧ Synced d1 e d')
theorem Went.tiles {S : List Int} {first : Int} {d d1 : Dk} {n : Nat} {q : Bool} (h : Went S first d n q d1) : d1.tiles = d.tiles := by
 induction h with
 | start => rfl
 | same _ _ _ ih => exact ih
 | wrote _ _ _ _ hw ih => exact hw.tiles.trans ih
def SrRel (w : World) (p bm : Nat) (t : Tr) (bn bo g : Nat) (d : Dk) (k : Nat) (q : Bool) (wr : World) : Prop := ∃ d', LogD wr p bm t bn bo g d' ∧ Went t.S t.first d k q d' ∧ Fr w.heap.size (Five p bm t.dp bn bo) w wr
def SrPost (w : World) (p bm : Nat) (t : Tr) (bn bo g : Nat) (d : Dk) (r : Ending) (w' : World) : Prop := ∃ e d', r = .returned (.int .i64 e) ∧ Settled t.S t.first t.tiles.toNat d e d' ∧ LogD w' p bm (if e = 0 then { t with stable := t.count } else t) bn bo g d' ∧ Fr w.heap.size (Five p bm t.dp bn bo) w w'
theorem sr_end {w wr : World} {p bm bn bo g : Nat} {t : Tr} {d d' : Dk} (h : LogD wr p bm t bn bo g d') (hs : Settled t.S t.first t.tiles.toNat d 0 d') (hf : Fr w.heap.size (Five p bm t.dp bn bo) w wr) : SrPost w p bm t bn bo g d (.returned (.int .i64 0)) (wr.setCell ⟨p, 6, none⟩ (.int .i64 t.count)) := by
 refine ⟨0, d', rfl, hs, ?_, hf.setCell (Or.inl (Or.inl (Or.inl rfl))) _⟩
 rw [if_pos rfl]
 have hp : ∀ k, Three t.dp bn bo k → (wr.setCell ⟨p, 6, none⟩ (.int .i64 t.count)).heap[k]? = wr.heap[k]? := fun k hk => setCell_far _ _ _ _ (fun e => h.sep k hk (Or.inl e))
 refine ⟨⟨?_, h.tr.mp.of_block (setCell_far _ _ _ _ (fun e => h.tr.ne e.symm)), ⟨h.tr.ok.ok, h.tr.ok.f0, h.tr.ok.f1, h.tr.ok.t0, h.tr.ok.t1, h.tr.ok.len, h.tr.ok.c0, h.tr.ok.c1⟩, h.tr.ne⟩, ⟨(hp _ (Or.inl rfl)).trans h.dk.cells, h.dk.now.of_block (hp _ (Or.inr (Or.inl rfl))), h.dk.old.of_block (hp _ (Or.inr (Or.inr rfl))), h.dk.mask.poke (fun e => h.sepg (Or.inl e)), h.dk.ne, h.dk.ok⟩, h.sep, h.sepg, h.fit⟩
 rw [heap_setCell_same wr p 6 _ _ _ h.tr.bx]
 rfl
set_option maxHeartbeats 1000000 in
theorem settle_rel (w : World) {p bm bn bo g : Nat} {t : Tr} {d : Dk} (h : LogD w p bm t bn bo g d) : Calls Tryz.prog 38 #[.pointer (some ⟨p, 0, none⟩)] w (SrPost w p bm t bn bo g d) := by
 have t0 := h.tr.ok.t0
 have t1 := h.tr.ok.t1
 have t2 := h.tr.ok.f0
 have t3 := h.tr.ok.f1
 have x2 : w.cell? ⟨p, 2, none⟩ = some (.int .i64 t.tiles) := h.tr.c 2
 obtain ⟨K, hK⟩ : ∃ K : Nat, t.tiles = (K : Int) := ⟨t.tiles.toNat, by omega⟩
 have H1 : Hid (SrRel w p bm t bn bo g d 0 false w) := Lib.hid ⟨d, h, Went.start, Fr.refl _ _ _⟩
 have HK := Lib.hid hK
 rw [hK] at x2
 have hK0 : K ≤ 2000 := by omega
 clear h t0 t1 hK
 go_enter Tryz.func38, Tryz.ntmps38
 go_wp2
 go_loopw [3, 14] (fun b i wr => ∃ (q : Bool) (n : Nat), n ≤ K ∧ i = .int .i64 n ∧ b = .bool q ∧ Hid (SrRel w p bm t bn bo g d n q wr)) (fun _ i _ => K - ivT i)
 case atStart => exact ⟨false, 0, Nat.zero_le _, rfl, rfl, H1⟩
 case round =>
  obtain ⟨q, n, hn, rfl, rfl, HR⟩ := hrel
  obtain ⟨d', hl, hd, hf⟩ := HR.out
  clear x2 H1
  by_cases hlt : n < K
  ·have x0 : wr.drew.cell? ⟨p, 0, none⟩ = some (.pointer (some ⟨t.dp, 0, none⟩)) := hl.tr.c 0
   have x1 : wr.drew.cell? ⟨p, 1, none⟩ = some (.int .i64 t.first) := hl.tr.c 1
   have q1 : IntKind.i64.wrap (t.first + (n : Int)) = t.first + (n : Int) := IntWalk.i64_in _ (by omega)
   have hlt2 : (n : Int) < (K : Int) := by omega
   have D0 := (Below.refl wr.heap.size wr).drew
   have HLT : Hid (n < t.tiles.toNat) := Lib.hid (by have := HK.out; omega)
   cases hdd : d'.dead with
   | true =>
    have HRd : Hid (∀ W, Below wr.heap.size wr W → Calls Tryz.prog 58 #[.pointer (some ⟨t.dp, 0, none⟩), .int .i64 (t.first + n)] W fun e w' => e = .returned (.tuple #[.slice none 0 0, .int .i64 2]) ∧ Below wr.heap.size wr w') := Lib.hid fun W hW =>
     (read_dead W (hl.dk.kept fun k hk => hW.block k hk) hdd _).mono fun e w' ⟨h1, h2⟩ => ⟨h1, by rw [h2]; exact hW⟩
    have HL := Lib.hid hl
    have HD := Lib.hid hd
    have HF := Lib.hid hf
    have HDD := Lib.hid hdd
    clear hl hd hf hdd HR
    go_upto_region 5 with (fail)
    go_cut [5, 6] (fun u v wx => u = .slice none 0 0 ∧ v = .int .i64 2 ∧ Below wr.heap.size wr wx)
    case first =>
     go_region_with (go_at_call 58; refine (HRd.out _ D0).mono ?_; rintro e w1 ⟨rfl, hb1⟩; have HQ := Lib.hid hb1; clear hb1)
     all_goals go_wp2
     all_goals go_meet
     all_goals exact ⟨rfl, rfl, HQ.out⟩
    case rest =>
     obtain ⟨rfl, rfl, hb1⟩ := hcut
     generalize wc = w1 at *
     have HB := Lib.hid hb1
     clear hb1 x0 x1 D0 HRd
     go_wp2
     go_ret
     exact ⟨2, d', rfl, Or.inl ⟨n, q, HLT.out, HD.out, HDD.out, rfl⟩, by rw [if_neg (by decide)]; exact HL.out.kept fun k hk => HB.out.block k hk, below_five HF.out HB.out⟩
   | false =>
   obtain ⟨l, hh⟩ := d'.has_any hl.dk.ok (t.first + n)
   have hin : t.first + (n : Int) < d'.tiles := by have := hl.fit; have := HK.out; omega
   have HRd : Hid (∀ W, Below wr.heap.size wr W → Calls Tryz.prog 58 #[.pointer (some ⟨t.dp, 0, none⟩), .int .i64 (t.first + n)] W fun e w' => ∃ g1, e = .returned (.tuple #[.slice (some ⟨g1, 0, none⟩) 64 64, .int .i64 0]) ∧ SlK .u8 w' (.slice (some ⟨g1, 0, none⟩) 64 64) l ∧ Below wr.heap.size wr w') := Lib.hid fun W hW =>
    (read_ok W (hl.kept fun k hk => hW.block k hk).dk hdd _ (by omega) hin l hh.1 hh.2.1).mono fun e w' ⟨h1, h2⟩ => ⟨_, h1, by rw [h2]; exact (pt_row (heap_alloc_new W _) hh.2.1).slK hh.2.2, by rw [h2]; exact hW.alloc hW.size _⟩
   have HL := Lib.hid hl
   have HD := Lib.hid hd
   have HF := Lib.hid hf
   have HH := Lib.hid hh
   have HIN := Lib.hid hin
   have HDD := Lib.hid hdd
   clear hl hd hf hh hin hdd HR
   go_upto_region 5 with (fail)
   go_cut [5, 6] (fun u v wx => ∃ g1, u = .slice (some ⟨g1, 0, none⟩) 64 64 ∧ v = .int .i64 0 ∧ SlK .u8 wx (.slice (some ⟨g1, 0, none⟩) 64 64) l ∧ Below wr.heap.size wr wx)
   case first =>
    go_region_with (go_at_call 58; refine (HRd.out _ D0).mono ?_; rintro e w1 ⟨g1, rfl, hs1, hb1⟩; have HQ := Lib.hid (And.intro hs1 hb1); clear hs1 hb1)
    all_goals go_wp2
    all_goals go_meet
    all_goals exact ⟨g1, rfl, rfl, HQ.out.1, HQ.out.2⟩
   case rest =>
    obtain ⟨g1, rfl, rfl, hs1, hb1⟩ := hcut
    generalize wc = w1 at *
    have hl1 := HL.out.kept (w' := w1) fun k hk => hb1.block k hk
    have x3 : w1.cell? ⟨p, 3, none⟩ = some (.map (some bm)) := hl1.tr.c 3
    have wi : (Lit.int .i64 (n : Int)).wf = true := WalkArith.wf_i64 (by omega)
    have k4 := hl1.tr.mp.look law3 Tryz.underlying77 Tryz.underlying3 (zeroT w1) wi
    rw [zb_eq, blkM_get] at k4
    have hsz : (byteV (tileL t.S n)).toArray.size = 64 := by simp [byteV, tileL_len]
    have k2 := st_newT w1 (byteV (tileL t.S n)).toArray hsz (by simpa using byteV_one (tileL t.S n))
    obtain ⟨co, hco⟩ : ∃ co, co = (byteV (tileL t.S n)).toArray := ⟨_, rfl⟩
    rw [← hco] at k4 k2 hsz
    have HCO := Lib.hid hco
    have HS1 := Lib.hid hs1
    have HB1 := Lib.hid hb1
    clear hco hs1 hb1 hl1 x0 x1 D0 HRd
    go_upto_region 9 with (fail)
    obtain ⟨w2, HW2, hc2, hb2⟩ : ∃ W, Hid (w1.alloc (.cells co 105) = W) ∧ W.heap[w1.heap.size]? = some (.cells co 105 (0, 0)) ∧ Below w1.heap.size w1 W := ⟨_, Lib.hid rfl, heap_alloc_new w1 _, (Below.refl _ _).alloc (Nat.le_refl _) _⟩
    rw [HW2.out]
    obtain ⟨gc, hgc⟩ : ∃ g, g = w1.heap.size := ⟨_, rfl⟩
    rw [← hgc] at hc2 ⊢
    have hb12 : Below wr.heap.size wr w2 := HB1.out.trans (hb2.mono HB1.out.size)
    have hl2 := HL.out.kept (w' := w2) fun k hk => hb12.block k hk
    rw [HCO.out] at hc2
    have hs2 : SlK .u8 w2 (.slice (some ⟨gc, 0, none⟩) 64 64) (tileL t.S n) := (pt_row hc2 (tileL_len _ _)).slK (tileL_ok hl2.tr.ok.ok n)
    have HE := Lib.hid (equalE_any w2 _ _ _ _ (HS1.out.below hb2 (Nat.le_refl _)) hs2)
    have HC2 := Lib.hid hc2
    have HL2 := Lib.hid hl2
    have HB2 := Lib.hid hb12
    clear hc2 hb2 hb12 hl2 hs2 hgc k4 k2 HCO HW2 x3 hsz HS1 HB1
    cases hq : decide (l = tileL t.S n) with
    | true =>
     rw [hq] at HE
     have hle : l = tileL t.S n := of_decide_eq_true hq
     have HR2 : Hid (SrRel w p bm t bn bo g d (n + 1) q w2) := Lib.hid ⟨d', HL2.out, Went.same HD.out HDD.out (by rw [← hle]; exact HH.out), below_five HF.out HB2.out⟩
     clear hq hle
     go_wp2_with (go_at_call 59; refine HE.out.mono ?_; rintro e w3 ⟨rfl, rfl⟩)
     go_roundw
     all_goals first
      | exact ⟨q, n + 1, hlt, by go_num, rfl, HR2⟩
      | (simp [ivT]; omega)
    | false =>
     rw [hq] at HE
     have HNE : Hid (l ≠ tileL t.S n) := Lib.hid (of_decide_eq_false hq)
     have x0 : w2.drew.cell? ⟨p, 0, none⟩ = some (.pointer (some ⟨t.dp, 0, none⟩)) := HL2.out.tr.c 0
     have x1 : w2.drew.cell? ⟨p, 1, none⟩ = some (.int .i64 t.first) := HL2.out.tr.c 1
     have HWr : Hid (∀ W, Below w2.heap.size w2 W → Calls Tryz.prog 20 #[.pointer (some ⟨t.dp, 0, none⟩), .int .i64 (t.first + n), .slice (some ⟨gc, 0, none⟩) 64 64] W fun e w' => ∃ c d2, e = .returned (.int .i64 c) ∧ Wrote d' (t.first + n) (tileL t.S n) c d2 ∧ LogD w' p bm t bn bo g d2 ∧ Fr w.heap.size (Five p bm t.dp bn bo) w w') := Lib.hid fun W hW => by
      have hlW := HL2.out.kept fun k hk => hW.block k hk
      have hcW := (hW.block gc (Array.getElem?_eq_some_iff.1 HC2.out).1).trans HC2.out
      refine (write_rel W hlW.dk _ (by omega) HIN.out _ (tileL t.S n) (slB_row hcW (tileL_len _ _)) (tileL_len _ _) (tileL_ok hlW.tr.ok.ok n)).mono ?_
      rintro e w' ⟨c, d2, h1, h2, h3, h4⟩
      refine ⟨c, d2, h1, h2, hlW.turn h3 h2.tiles h4, ?_⟩
      have f2 := below_five HF.out (HB2.out.trans (hW.mono HB2.out.size))
      exact f2.trans h4 f2.size (fun x _ h => Or.inr h)
     have D0 := (Below.refl w2.heap.size w2).drew
     clear hq HL2 HC2 HIN
     go_upto_region 10 with (go_at_call 59; refine HE.out.mono ?_; rintro e w3 ⟨rfl, rfl⟩)
     go_region_with (go_at_call 20; refine (HWr.out _ D0).mono ?_; rintro e w4 ⟨c, d2, rfl, hw4, hl4, hf4⟩; have HW4 := Lib.hid hw4; have HL4 := Lib.hid hl4; have HF4 := Lib.hid hf4; clear hw4 hl4 hf4)
     all_goals
      clear x0 x1 D0 HWr
      rcases HW4.out.err with ⟨rfl, _⟩ | ⟨rfl, _⟩
      ·have HR4 : Hid (SrRel w p bm t bn bo g d (n + 1) true w4) := Lib.hid ⟨d2, HL4.out, Went.wrote HD.out HDD.out HH.out HNE.out HW4.out, HF4.out⟩
       go_wp2
       go_roundw
       all_goals first
        | exact ⟨true, n + 1, hlt, by go_num, rfl, HR4⟩
        | (simp [ivT]; omega)
      ·go_wp2
       go_ret
       exact ⟨2, d2, rfl, Or.inr (Or.inl ⟨n, q, d', l, HLT.out, HD.out, HDD.out, HH.out, HNE.out, HW4.out, rfl⟩), by rw [if_neg (by decide)]; exact HL4.out, HF4.out⟩
  ·obtain rfl : n = K := by omega
   have hkt : n = t.tiles.toNat := by have := HK.out; omega
   rw [hkt] at hd
   cases q with
   | false =>
    have x5 : wr.cell? ⟨p, 5, none⟩ = some (.int .i64 t.count) := hl.tr.c 5
    have y6 : wr.cell? ⟨p, 6, none⟩ = some (.int .i64 t.stable) := hl.tr.c 6
    have z6 := hl.tr.fz 6
    have HE := Lib.hid (sr_end hl (Or.inr (Or.inr (Or.inl ⟨hd, rfl⟩))) hf)
    clear hl hd hf HR hkt
    go_wp2
    go_ret
    exact HE.out
   | true =>
    have x0 : wr.cell? ⟨p, 0, none⟩ = some (.pointer (some ⟨t.dp, 0, none⟩)) := hl.tr.c 0
    have HY := Lib.hid (sync_rel wr hl.dk)
    have HL := Lib.hid hl
    have HD := Lib.hid hd
    have HF := Lib.hid hf
    clear hl hd hf HR hkt
    go_wp2_with fail
    refine HY.out.mono ?_
    rintro r w2 ⟨e, d2, rfl, hs2, h2, h3⟩
    have hl2 : LogD w2 p bm t bn bo g d2 := HL.out.turn h2 hs2.tiles h3
    have hf2 : Fr w.heap.size (Five p bm t.dp bn bo) w w2 := HF.out.trans h3 HF.out.size (fun x _ h => Or.inr h)
    have hS : Settled t.S t.first t.tiles.toNat d e d2 := Or.inr (Or.inr (Or.inr ⟨_, HD.out, hs2⟩))
    rcases hs2.err with ⟨rfl, _⟩ | ⟨rfl, _⟩
    ·have x5 : w2.cell? ⟨p, 5, none⟩ = some (.int .i64 t.count) := hl2.tr.c 5
     have y6 : w2.cell? ⟨p, 6, none⟩ = some (.int .i64 t.stable) := hl2.tr.c 6
     have z6 := hl2.tr.fz 6
     have HE := Lib.hid (sr_end hl2 hS hf2)
     clear h2 h3 hl2 hf2 hS hs2 HL HD HF HY x0
     go_wp2
     go_ret
     exact HE.out
    ·have HE : Hid (SrPost w p bm t bn bo g d (.returned (.int .i64 2)) w2) := Lib.hid ⟨2, d2, rfl, hS, by rw [if_neg (by decide)]; exact hl2, hf2⟩
     clear h2 h3 hl2 hf2 hS hs2 HL HD HF HY x0
     go_wp2
     go_ret
     exact HE.out
end Go.Proofs.YthmgafcnoedmjaaGreat
