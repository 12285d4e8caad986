/- PoolNone, a part. -/
import Derived.Test.YtljbhdldfffpfaaGreatQn36
namespace Go.Proofs.YtljbhdldfffpfaaGreat.Hp
open Go.RowKit Go.Proofs.YtljbhdldfffpfaaGreat Go.Proofs.YtljbhdldfffpfaaGreat.Lf Go.Maps

/-- The log and the disk behind a Force, if there is one. -/
def FoT (b : Prop) (t : Tr) (d : Dk) (t1 : Tr) (d1 : Dk) : Prop := (¬ b ∧ t1 = t ∧ d1 = d) ∨ (b ∧ t1 = { t with stable := t.count } ∧ Fo t d d1)
theorem five_nou8 {w : World} {q bm bn bo g : Nat} {t : Tr} {d : Dk} (h : LogAt w q bm t bn bo g d) : ∀ k, Five q bm t.dp bn bo k → ∀ j z, w.cell? ⟨k, j, none⟩ ≠ some (.int .u8 z) := by
  intro k hk j z e
  rcases hk with (rfl | rfl) | hk
  · rw [h.tr.c j] at e
    match j with
    | 0 => have e2 : some (Value.pointer (some ⟨t.dp, 0, none⟩)) = some (.int .u8 z) := e; cases e2
    | 1 => have e2 : some (Value.int .i64 t.first) = some (.int .u8 z) := e; cases e2
    | 2 => have e2 : some (Value.int .i64 t.tiles) = some (.int .u8 z) := e; cases e2
    | 3 => have e2 : some (Value.map (some bm)) = some (.int .u8 z) := e; cases e2
    | 4 => have e2 : some (Value.int .i64 (t.S.length : Int)) = some (.int .u8 z) := e; cases e2
    | 5 => have e2 : some (Value.int .i64 t.count) = some (.int .u8 z) := e; cases e2
    | 6 => have e2 : some (Value.int .i64 t.stable) = some (.int .u8 z) := e; cases e2
    | j + 7 => have e2 : (none : Option Value) = some (.int .u8 z) := e; cases e2
  · exact fm_nou8 h.tr.mp j z e
  · exact dk_nou8 h.dk k hk j z e
set_option maxRecDepth 100000 in
set_option maxHeartbeats 4000000 in
theorem flush_dirty (w : World) {p : Nat} {x : Po} {q bm' bn bo gd : Nat} {t : Tr} {d : Dk} (hx : PoAt w p x) (hlg : x.lg = some q) (hl : LogAt w q bm' t bn bo gd d) (hdp : t.dp = x.dk) (hap : ∀ k, Five q bm' x.dk bn bo k → k ≠ p ∧ k ≠ x.bm) (n : Nat) (hn : n < x.pages) {v : Value} (hr : x.recs n = some v) {i : Nat} (hf : First x.s.n (hit x.s n) i) (hi : i < x.s.n) {c : Nat → List Int} (hc : Cs w (x.s.P i).v.P (x.s.P i).v.N (x.s.P i).v.K c) (ho : lfE c (x.s.P i).v.l = 0) (hla : (lfA c (x.s.P i).v.l).length = 64) (hlb : (lfB c (x.s.P i).v.l).length = 64) (hfit : (x.first : Int) + 2 * n + 1 < d.tiles) :
    Calls Tryz.prog 21 #[.pointer (some ⟨p, 0, none⟩), .int .i64 (n : Int)] w fun e w' => e = .returned (.int .i64 0) ∧ ∃ t1 d1, FoT (t.stable < (x.s.P i).v.l) t d t1 d1 ∧ PoAt w' p { x with recs := Go.Proofs.YtljbhdldfffpfaaGreat.upd x.recs n none } ∧ LogAt w' q bm' t1 bn bo gd (wrD d1 ((x.first : Int) + 2 * n) (lfA c (x.s.P i).v.l) (lfB c (x.s.P i).v.l)) ∧ Fr w.heap.size (fun k => Five q bm' x.dk bn bo k ∨ k = x.bm) w w' := by
  have hsp := hx.sp
  have hsf := hx.sf
  have hh := has_any w hx n
  rw [show hasB x.pages n = true from by unfold hasB; simp; omega] at hh
  have HH := Lib.hid hh
  have k1 := hx.map.look_ok law3 Tryz.underlying100 Tryz.underlying3 (zI w) (wf_n (by omega : n ≤ 1000))
  rw [hr] at k1
  simp only [Option.getD_some, Option.isSome_some] at k1
  have c5 := hx.c5
  have HC := Lib.hid hx.cells
  have HI := Lib.hid (info_rowH x.s)
  have HO := Lib.hid (rowH_one x.s)
  have HAL := Lib.hid (heap_alloc_new w (.cells Tryz.zeroCells97 97))
  have HSZ := Lib.hid (show (Tryz.zeroCells97 : Array Value).size = (rowH x.s).size by rw [rowH_size]; kernel_rfl)
  have HSET := Lib.hid (setRow_alloc w Tryz.zeroCells97 (rowH x.s) 97)
  have HX := Lib.hid hx
  have HL := Lib.hid hl
  have HDP := Lib.hid hdp
  have HAP := Lib.hid hap
  have HN := Lib.hid (show n ≤ 1000 by omega)
  have HF := Lib.hid hf
  have HIi := Lib.hid hi
  have HCs := Lib.hid hc
  have HLO := Lib.hid ho
  have HLA := Lib.hid hla
  have HLB := Lib.hid hlb
  have HFIT := Lib.hid hfit
  have HLG := Lib.hid hlg
  obtain ⟨g, hg⟩ : ∃ g, g = (x.s.P i).v := ⟨_, rfl⟩
  rw [← hg] at HCs HLO HLA HLB ⊢
  have HGe := Lib.hid hg
  clear hg
  clear hx hsp hsf hh hr hl hdp hap hn hf hc ho hla hlb hfit hlg
  go_enter Tryz.func21, Tryz.ntmps21
  go_upto_region 3 with (go_at_call 54; refine HH.out.mono ?_; rintro e w' ⟨rfl, hw⟩; obtain rfl := hw.symm; clear hw)
  go_upto_region 6 with fail
  clear k1 HH
  go_upto_region 7 with (first | (with_reducible refine wpList_load_at rfl 97 (.tmp 29) rfl p 4 rfl (rowH x.s) _ HC.out run_hand rfl HI.out ?_) | (with_reducible refine wpList_store_row rfl 97 (.tmp 7) (.tmp 30) rfl w.heap.size (rowH x.s) rfl rfl 97 _ HAL.out HI.out HSZ.out HO.out ?_))
  rw [HSET.out]
  have hq := heap_alloc_new w (.cells (rowH x.s) 97)
  have hb1 : Below w.heap.size w (w.alloc (.cells (rowH x.s) 97)) := (Below.refl _ _).alloc (Nat.le_refl _) _
  have hs1 : (w.alloc (.cells (rowH x.s) 97)).heap.size = w.heap.size + 1 := Array.size_push _
  generalize w.alloc (.cells (rowH x.s) 97) = w1 at *
  have h1 : HA w1 w.heap.size 0 A0 x.s := ⟨by rw [hq, A0_c]; rfl, rfl, HX.out.ha.la, HX.out.ha.ln⟩
  have HG := Lib.hid (get_one w1 h1 HF.out HIi.out)
  rw [← HGe.out] at HG
  have HB1 := Lib.hid hb1
  clear HAL HSZ HSET HC HI HO hq h1 hb1 c5
  unfold Pg.v at HG
  go_upto_region 8 with (go_at_call 55; refine HG.out.mono ?_; rintro e w2 ⟨rfl, -, hf2⟩)
  change Code.wp _ _ _ _ (w2.alloc (pgO g.P g.N g.K g.l))
  have hb2 : Below w.heap.size w w2 := bel_fr HB1.out hf2 (fun k hk => Nat.le_of_eq hk.symm)
  have hb3 : Below w2.heap.size w2 (w2.alloc (pgO g.P g.N g.K g.l)) := (Below.refl _ _).alloc (Nat.le_refl _) _
  have hy3 := heap_alloc_new w2 (pgO g.P g.N g.K g.l)
  have hb03 : Below w.heap.size w (w2.alloc (pgO g.P g.N g.K g.l)) := hb2.trans (hb3.mono hb2.size)
  have hw2 := hb2.size
  generalize w2.alloc (pgO g.P g.N g.K g.l) = w3 at *
  have HX3 := Lib.hid (HX.out.on hb03)
  have HL3 := Lib.hid (HL.out.kept (fun k hk => hb03.block k hk))
  have HC3 := Lib.hid (HCs.out.below hb03 (Nat.le_refl _))
  have HY3 := Lib.hid hy3
  have HB3 := Lib.hid hb03
  have c1 : w3.cell? ⟨p, 1, none⟩ = some (.pointer (some ⟨q, 0, none⟩)) := by rw [HX3.out.c1, HLG.out]; rfl
  have z4 := (pg_cell hy3).2.1
  have HST : Hid (∀ m, Calls Tryz.prog 26 #[.pointer (some ⟨q, 0, none⟩)] (w3.drewN m) fun e w' => e = .returned (.int .i64 t.stable) ∧ w' = w3.drewN m) := fun m => stable_any (w3.drewN m) (HL3.out.tr.kept (fun k hk => rfl))
  have HW2 := Lib.hid hw2
  clear hf2 hb2 hb3 hb03 hy3 HG HB1 hw2 hs1
  by_cases hgt : t.stable < g.l
  · have HGT := Lib.hid hgt
    go_quiet (exact Calls.quiet_of_same (HST.out _))
    have hbq : Below w3.heap.size w3 (w3.drewN nq) := below_drewN _ _ _
    have HX4 := Lib.hid (HX3.out.on hbq)
    have HL4 := Lib.hid (HL3.out.kept (w' := w3.drewN nq) (fun k hk => rfl))
    have HC4 := Lib.hid (HC3.out.below hbq (Nat.le_refl _))
    have HY4 : Hid ((w3.drewN nq).heap[w2.heap.size]? = some (pgO g.P g.N g.K g.l)) := HY3.out
    have HB4 := Lib.hid (HB3.out.trans (hbq.mono HB3.out.size))
    generalize w3.drewN nq = w4 at *
    clear hbq HX3 HL3 HC3 HY3 HB3 HST c1 z4
    clear hgt
    have c1 : w4.cell? ⟨p, 1, none⟩ = some (.pointer (some ⟨q, 0, none⟩)) := by rw [HX4.out.c1, HLG.out]; rfl
    have HFo := Lib.hid (force2 w4 HL4.out)
    go_upto_region 10 with (go_at_call 56; refine HFo.out.mono ?_; rintro e w5 ⟨rfl, d1, hl5, hfo, hf5⟩)
    obtain ⟨T5, hT5⟩ : ∃ T, T = { t with stable := t.count } := ⟨_, rfl⟩
    have hdp5 : T5.dp = x.dk := by rw [hT5]; exact HDP.out
    have hf5' : Fr w4.heap.size (Five q bm' x.dk bn bo) w4 w5 := by rw [← HDP.out]; exact hf5
    have hl5' : LogAt w5 q bm' T5 bn bo gd d1 := by rw [hT5]; exact hl5
    have hlt : ∀ k, Five q bm' x.dk bn bo k → k < w.heap.size := fun k hk => by
      rcases hk with hk | hk
      · rcases hk with rfl | rfl
        · exact HL.out.tr.lt.1
        · exact HL.out.tr.lt.2
      · exact HL.out.dk.lt (by rw [HDP.out]; exact hk)
    have HX5 : Hid (PoAt w5 p x) := HX4.out.fr hf5' HX4.out.lp HX4.out.lm (fun e => (HAP.out _ e).1 rfl) (fun e => (HAP.out _ e).2 rfl)
    have HL5 := Lib.hid hl5'
    have HDP5 := Lib.hid hdp5
    have HDK5 : Hid (DkAt w5 x.dk bn bo gd d1) := by have h := hl5'.dk; rw [hdp5] at h; exact h
    have HC5 : Hid (Cs w5 g.P g.N g.K c) := fun j hj => ⟨(HC4.out j hj).1, slk_S hf5'.size (fun k hk hs => hf5'.block k hk hs) (fun k hk => five_nou8 HL4.out k (by rw [HDP.out]; exact hk)) (HC4.out j hj).2⟩
    have HY5 : Hid (w5.heap[w2.heap.size]? = some (pgO g.P g.N g.K g.l)) := (hf5'.block _ (Array.getElem?_eq_some_iff.1 HY4.out).1 (fun e => by have := hlt _ e; have := HW2.out; omega)).trans HY4.out
    have HF5 : Hid (Fr w.heap.size (fun k => Five q bm' x.dk bn bo k ∨ k = x.bm) w w5) := (Fr.ofB (S := fun k => Five q bm' x.dk bn bo k ∨ k = x.bm) HB4.out).trans (S' := Five q bm' x.dk bn bo) hf5' HB4.out.size (fun k _ h => Or.inl h)
    have HFIT5 : Hid ((x.first : Int) + 2 * n + 1 < d1.tiles) := by
      rcases hfo with ⟨_, rfl⟩ | hd
      · exact HFIT.out
      · show _ < d1.tiles
        rw [hd.tiles]; exact HFIT.out
    have HFT5 : Hid (FoT (t.stable < g.l) t d T5 d1) := .inr ⟨HGT.out, hT5, hfo⟩
    clear hT5 hdp5 hf5' hl5' hlt hl5 hfo hf5 HFo c1 HX4 HL4 HC4 HY4 HB4
    go_upto_region 12 with fail
    obtain ⟨uc, u4, -⟩ := pg_cell HY5.out
    have u0 := uc 0 (by decide)
    have u1 := uc 1 (by decide)
    have u2 := uc 2 (by decide)
    have u3 := uc 3 (by decide)
    have HWr : Hid (Calls Tryz.prog 57 #[.pointer (some ⟨p, 0, none⟩), .int .i64 (n : Int), .agg #[.slice (g.P 0) (g.N 0) (g.K 0), .slice (g.P 1) (g.N 1) (g.K 1), .slice (g.P 2) (g.N 2) (g.K 2), .slice (g.P 3) (g.N 3) (g.K 3), .int .i64 g.l]] w5 fun e w' => e = .returned (.int .i64 0) ∧ DkAt w' x.dk bn bo gd (wrD d1 ((x.first : Int) + 2 * n) (lfA c g.l) (lfB c g.l)) ∧ Fr w5.heap.size (Three x.dk bn bo) w5 w') := pwrite_any w5 HX5.out HDK5.out (fun k hk => HAP.out k (.inr hk)) n (by have := HN.out; omega) HFIT5.out g.P g.N g.K g.l c HC5.out HLO.out HLA.out HLB.out
    clear uc
    go_wp2_with fail
    refine HWr.out.mono ?_
    rintro e w6 ⟨rfl, hd6, hf6⟩
    have hx6 : PoAt w6 p x := HX5.out.fr hf6 HX5.out.lp HX5.out.lm (fun e => (HAP.out _ (.inr e)).1 rfl) (fun e => (HAP.out _ (.inr e)).2 rfl)
    have c5 := hx6.c5
    have hl6 : LogAt w6 q bm' T5 bn bo gd (wrD d1 ((x.first : Int) + 2 * n) (lfA c g.l) (lfB c g.l)) := by
      have hd := HDP5.out
      refine ⟨TrAt.away HL5.out (by rw [hd]; exact hf6), by rw [hd]; exact hd6, HL5.out.sep, HL5.out.fit⟩
    obtain ⟨w7, r1, r2, r3⟩ := fm_drop hx6.map law3 Tryz.underlying100 Tryz.underlying3 (wf_n (by have := HN.out; omega : n ≤ 1000))
    have hf7 : Fr w6.heap.size (One x.bm) w6 w7 := (Fr.refl _ _ _).turned (Or.inl rfl) r3
    have hx7 : PoAt w7 p { x with recs := Go.Proofs.YtljbhdldfffpfaaGreat.upd x.recs n none } := ⟨hx6.ha.same (hf7.block _ hx6.lp (fun e => hx6.ne e)), r2, hx6.ne, hx6.sf, hx6.sp⟩
    have hne7 : ∀ k, Five q bm' x.dk bn bo k → w7.heap[k]? = w6.heap[k]? := fun k hk => hf7.block k (by
      rcases hk with hk | hk
      · rcases hk with rfl | rfl
        · exact hl6.tr.lt.1
        · exact hl6.tr.lt.2
      · exact hd6.lt hk) (fun e => (HAP.out k hk).2 e)
    have hl7 : LogAt w7 q bm' T5 bn bo gd (wrD d1 ((x.first : Int) + 2 * n) (lfA c g.l) (lfB c g.l)) := ⟨⟨(hne7 q (.inl (.inl rfl))).trans hl6.tr.bx, hl6.tr.mp.of_block (hne7 bm' (.inl (.inr rfl))), hl6.tr.ok, hl6.tr.ne⟩, by rw [HDP5.out]; exact hd6.on (fun k hk => hne7 k (.inr hk)), hl6.sep, hl6.fit⟩
    have hf07 : Fr w.heap.size (fun k => Five q bm' x.dk bn bo k ∨ k = x.bm) w w7 := (HF5.out.trans (S' := fun k => Five q bm' x.dk bn bo k ∨ k = x.bm) (fr_mono2 hf6 (fun k h => Or.inl (Or.inr h))) HF5.out.size (fun _ _ h => h)).trans (S' := One x.bm) hf7 (by have := HF5.out.size; have := hf6.size; omega) (fun k _ h => Or.inr h)
    have HE := Lib.hid (And.intro hx7 (And.intro hl7 hf07))
    clear hd6 hf6 hx6 hl6 r2 r3 hf7 hx7 hne7 hl7 hf07 HWr u0 u1 u2 u3 u4
    go_wp2_with (with_reducible refine wpList_delete_run _ rfl (.tmp 69) (.tmp 70) 100 3 rfl _ _ rfl rfl w7 r1 ?_)
    go_ret
    exact ⟨rfl, T5, d1, HFT5.out, HE.out.1, HE.out.2.1, HE.out.2.2⟩
  · have HGT := Lib.hid hgt
    go_quiet (exact Calls.quiet_of_same (HST.out _))
    have hbq : Below w3.heap.size w3 (w3.drewN nq) := below_drewN _ _ _
    have HX4 := Lib.hid (HX3.out.on hbq)
    have HL4 := Lib.hid (HL3.out.kept (w' := w3.drewN nq) (fun k hk => rfl))
    have HC4 := Lib.hid (HC3.out.below hbq (Nat.le_refl _))
    have HY4 : Hid ((w3.drewN nq).heap[w2.heap.size]? = some (pgO g.P g.N g.K g.l)) := HY3.out
    have HB4 := Lib.hid (HB3.out.trans (hbq.mono HB3.out.size))
    generalize w3.drewN nq = w4 at *
    clear hbq HX3 HL3 HC3 HY3 HB3 HST c1 z4
    clear hgt
    have HX5 := HX4
    have HL5 := HL4
    have HDP5 := HDP
    have HDK5 : Hid (DkAt w4 x.dk bn bo gd d) := by have h := HL4.out.dk; rw [HDP.out] at h; exact h
    have HC5 := HC4
    have HY5 := HY4
    have HF5 : Hid (Fr w.heap.size (fun k => Five q bm' x.dk bn bo k ∨ k = x.bm) w w4) := Fr.ofB HB4.out
    have HFIT5 := HFIT
    have HFT5 : Hid (FoT (t.stable < g.l) t d t d) := .inl ⟨HGT.out, rfl, rfl⟩
    clear HX4 HL4 HC4 HY4 HB4
    go_upto_region 12 with fail
    obtain ⟨uc, u4, -⟩ := pg_cell HY5.out
    have u0 := uc 0 (by decide)
    have u1 := uc 1 (by decide)
    have u2 := uc 2 (by decide)
    have u3 := uc 3 (by decide)
    have HWr : Hid (Calls Tryz.prog 57 #[.pointer (some ⟨p, 0, none⟩), .int .i64 (n : Int), .agg #[.slice (g.P 0) (g.N 0) (g.K 0), .slice (g.P 1) (g.N 1) (g.K 1), .slice (g.P 2) (g.N 2) (g.K 2), .slice (g.P 3) (g.N 3) (g.K 3), .int .i64 g.l]] w4 fun e w' => e = .returned (.int .i64 0) ∧ DkAt w' x.dk bn bo gd (wrD d ((x.first : Int) + 2 * n) (lfA c g.l) (lfB c g.l)) ∧ Fr w4.heap.size (Three x.dk bn bo) w4 w') := pwrite_any w4 HX5.out HDK5.out (fun k hk => HAP.out k (.inr hk)) n (by have := HN.out; omega) HFIT5.out g.P g.N g.K g.l c HC5.out HLO.out HLA.out HLB.out
    clear uc
    go_wp2_with fail
    refine HWr.out.mono ?_
    rintro e w6 ⟨rfl, hd6, hf6⟩
    have hx6 : PoAt w6 p x := HX5.out.fr hf6 HX5.out.lp HX5.out.lm (fun e => (HAP.out _ (.inr e)).1 rfl) (fun e => (HAP.out _ (.inr e)).2 rfl)
    have c5 := hx6.c5
    have hl6 : LogAt w6 q bm' t bn bo gd (wrD d ((x.first : Int) + 2 * n) (lfA c g.l) (lfB c g.l)) := by
      have hd := HDP5.out
      refine ⟨TrAt.away HL5.out (by rw [hd]; exact hf6), by rw [hd]; exact hd6, HL5.out.sep, HL5.out.fit⟩
    obtain ⟨w7, r1, r2, r3⟩ := fm_drop hx6.map law3 Tryz.underlying100 Tryz.underlying3 (wf_n (by have := HN.out; omega : n ≤ 1000))
    have hf7 : Fr w6.heap.size (One x.bm) w6 w7 := (Fr.refl _ _ _).turned (Or.inl rfl) r3
    have hx7 : PoAt w7 p { x with recs := Go.Proofs.YtljbhdldfffpfaaGreat.upd x.recs n none } := ⟨hx6.ha.same (hf7.block _ hx6.lp (fun e => hx6.ne e)), r2, hx6.ne, hx6.sf, hx6.sp⟩
    have hne7 : ∀ k, Five q bm' x.dk bn bo k → w7.heap[k]? = w6.heap[k]? := fun k hk => hf7.block k (by
      rcases hk with hk | hk
      · rcases hk with rfl | rfl
        · exact hl6.tr.lt.1
        · exact hl6.tr.lt.2
      · exact hd6.lt hk) (fun e => (HAP.out k hk).2 e)
    have hl7 : LogAt w7 q bm' t bn bo gd (wrD d ((x.first : Int) + 2 * n) (lfA c g.l) (lfB c g.l)) := ⟨⟨(hne7 q (.inl (.inl rfl))).trans hl6.tr.bx, hl6.tr.mp.of_block (hne7 bm' (.inl (.inr rfl))), hl6.tr.ok, hl6.tr.ne⟩, by rw [HDP5.out]; exact hd6.on (fun k hk => hne7 k (.inr hk)), hl6.sep, hl6.fit⟩
    have hf07 : Fr w.heap.size (fun k => Five q bm' x.dk bn bo k ∨ k = x.bm) w w7 := (HF5.out.trans (S' := fun k => Five q bm' x.dk bn bo k ∨ k = x.bm) (fr_mono2 hf6 (fun k h => Or.inl (Or.inr h))) HF5.out.size (fun _ _ h => h)).trans (S' := One x.bm) hf7 (by have := HF5.out.size; have := hf6.size; omega) (fun k _ h => Or.inr h)
    have HE := Lib.hid (And.intro hx7 (And.intro hl7 hf07))
    clear hd6 hf6 hx6 hl6 r2 r3 hf7 hx7 hne7 hl7 hf07 HWr u0 u1 u2 u3 u4
    go_wp2_with (with_reducible refine wpList_delete_run _ rfl (.tmp 69) (.tmp 70) 100 3 rfl _ _ rfl rfl w7 r1 ?_)
    go_ret
    exact ⟨rfl, t, d, HFT5.out, HE.out.1, HE.out.2.1, HE.out.2.2⟩
end Go.Proofs.YtljbhdldfffpfaaGreat.Hp
namespace Go.Proofs.YtljbhdldfffpfaaGreat.Hp
open Go.RowKit Go.Proofs.YtljbhdldfffpfaaGreat Go.Proofs.YtljbhdldfffpfaaGreat.Lf Go.Maps

def zt : List Int := List.replicate 64 0
/-- The cells of a page of zeros. -/
def cz : Nat → List Int := pgL (tL zt zt)
theorem zt_tE : tE zt zt = 0 := by decide +kernel
theorem zt_tK : tK zt zt = 0 := by decide +kernel
theorem zt_cut : ∀ i, i < 4 → cutL (tL zt zt) i = z26 := by
  intro i hi
  match i, hi with
  | 0, _ => decide +kernel
  | 1, _ => decide +kernel
  | 2, _ => decide +kernel
  | 3, _ => decide +kernel
theorem cz_nil : ∀ i, i < 4 → cz i = [] := by
  intro i hi
  show nrm (cutL (tL zt zt) i) = []
  rw [zt_cut i hi]
  decide +kernel
theorem tk_zt : Tk zt zt 0 cz 0 := by
  have h := Tk.ok (la := zt) (lb := zt) zt_tE (by decide +kernel) (fun i hi => by rw [zt_cut i hi]; exact ⟨_, _, _, _, _, _, .empty (.inr rfl)⟩)
  rw [zt_tK] at h
  exact h
theorem tk_only : ∀ er c k, Tk zt zt er c k → er = 0 ∧ c = cz ∧ k = 0 := fun _ _ _ h => Tk.det h tk_zt
theorem cz_len : ∀ i, i < 4 → (cz i).length ≤ 100000 := fun i hi => by rw [cz_nil i hi]; exact Nat.zero_le _
/-- The log and its disk, where their own blocks stay. -/
theorem logAt_five {w w' : World} {q bm bn bo g : Nat} {t : Tr} {d : Dk} (h : LogAt w q bm t bn bo g d) (hb : ∀ k, Five q bm t.dp bn bo k → w'.heap[k]? = w.heap[k]?) : LogAt w' q bm t bn bo g d :=
  ⟨⟨(hb q (.inl (.inl rfl))).trans h.tr.bx, h.tr.mp.of_block (hb bm (.inl (.inr rfl))), h.tr.ok, h.tr.ne⟩, h.dk.on (fun k hk => hb k (.inr hk)), h.sep, h.fit⟩
theorem five_lt {w : World} {q bm bn bo g : Nat} {t : Tr} {d : Dk} (h : LogAt w q bm t bn bo g d) : ∀ k, Five q bm t.dp bn bo k → k < w.heap.size := fun k hk => by
  rcases hk with (rfl | rfl) | hk
  · exact h.tr.lt.1
  · exact h.tr.lt.2
  · exact h.dk.lt hk
theorem lsOf_none {ls : List Int} {m : Int → Option Value} (h : LsOf m ls) (hm : ∀ k, m k = none) : ls = [] := by
  cases ls with
  | nil => rfl
  | cons a r =>
    have := (h.2 a).1 (List.mem_cons_self ..)
    rw [hm a] at this
    cases this
theorem lsOf_one {ls : List Int} {m : Int → Option Value} {n : Int} {v : Value} (h : LsOf m ls) (hm : m = Go.Proofs.YtljbhdldfffpfaaGreat.upd (fun _ => none) n (some v)) : ls = [n] := by
  have hone : ∀ x, x ∈ ls → x = n := fun x hx => by
    have h1 := (h.2 x).1 hx
    rw [hm] at h1
    by_cases e : x = n
    · exact e
    · rw [Go.Proofs.YtljbhdldfffpfaaGreat.upd_other _ e _] at h1
      cases h1
  have hn : n ∈ ls := (h.2 n).2 (by rw [hm, Go.Proofs.YtljbhdldfffpfaaGreat.upd_same]; rfl)
  cases ls with
  | nil => cases hn
  | cons a r =>
    have ha := hone a (List.mem_cons_self ..)
    subst ha
    cases r with
    | nil => rfl
    | cons b s =>
      have hb := hone b (by simp)
      subst hb
      have := List.rel_of_pairwise_cons h.1 (List.mem_cons_self ..)
      omega
/-- Use of a page of zeros that is not in memory. -/
def Came (x : Po) (n : Int) (i : Nat) (x1 : Po) : Prop := ∃ y, x1 = { x with s := { x.s with P := up x.s.P i ⟨true, n, y, true, 0⟩ } }
theorem use_z (w : World) {p bn bo g : Nat} {x : Po} {d : Dk} (hx : PoAt w p x) (h : DkAt w x.dk bn bo g d) (n : Nat) (hn : n < x.pages) (hfit : (x.first : Int) + 2 * n + 1 < d.tiles) (hl : d.has ((x.first : Int) + 2 * n) zt) (hm : d.has ((x.first : Int) + 2 * n + 1) zt) {i : Nat} (hf : First x.s.n (hit x.s n) x.s.n) (hv : First x.s.n (vac x.s) i) (hi : i < x.s.n) :
    Calls Tryz.prog 42 #[.pointer (some ⟨p, 0, none⟩), .int .i64 (n : Int)] w fun e w1 => ∃ x1, Came x n i x1 ∧ UsOk w p cz 0 0 (fun w1 => PoAt w1 p x1) e w1 := by
  refine (use_vac w hx h n hn hfit hl hm (fun er c k hk => (tk_only er c k hk).1) hf hv hi).mono ?_
  rintro e w1 ⟨c, y, htk, rfl, hcs, hx1, hfr⟩
  obtain ⟨_, rfl, hy⟩ := tk_only _ _ _ htk
  refine ⟨_, ⟨y, rfl⟩, y.P, y.N, y.K, ?_, hcs, hx1, hfr⟩
  unfold Pg.v pgV
  rw [hy]
theorem came_S {x x1 : Po} {n : Int} {i : Nat} (h : Came x n i x1) (hi : i < x.s.n) (hf : First x.s.n (hit x.s n) x.s.n) : x1.bm = x.bm ∧ x1.recs = x.recs ∧ First x1.s.n (hit x1.s n) i ∧ i < x1.s.n := by
  obtain ⟨y, rfl⟩ := h
  refine ⟨rfl, rfl, ⟨Nat.le_of_lt hi, fun j hj => ?_, fun _ => ?_⟩, hi⟩
  · have h1 := hf.no j (Nat.lt_trans hj hi)
    show ((up x.s.P i ⟨true, n, y, true, 0⟩ j).u && decide ((up x.s.P i ⟨true, n, y, true, 0⟩ j).k = n)) = false
    rw [up_other _ (by omega)]
    exact h1
  · show ((up x.s.P i ⟨true, n, y, true, 0⟩ i).u && decide ((up x.s.P i ⟨true, n, y, true, 0⟩ i).k = n)) = true
    rw [up_same]
    simp
/-- An empty cache. -/
theorem new_first (m : Nat) (n : Int) : First (newS m).n (hit (newS m) n) (newS m).n := ⟨Nat.le_refl _, fun _ _ => rfl, fun h => absurd h (Nat.lt_irrefl _)⟩
theorem new_vac {m : Nat} : First (newS m).n (vac (newS m)) 0 := ⟨Nat.zero_le _, fun j hj => absurd hj (Nat.not_lt_zero j), fun _ => rfl⟩
theorem tileL_64 (n : Int) {l : List Int} (h : l.length ≤ 60) : (Lf.tileL n l).length = 64 := by
  unfold Lf.tileL
  rw [List.length_append, List.length_append, List.length_replicate]
  have : (head n).length = 4 := rfl
  omega
/-- A page one of whose cells is set is laid well. -/
theorem put_ok {c : Nat → List Int} {n : Int} (hc : okC c = true) (h0 : 0 ≤ n) (h1 : n ≤ 2147483647) : lfE c n = 0 ∧ (lfA c n).length = 64 ∧ (lfB c n).length = 64 := by
  have hl : (cellsL c 4).length = 104 := cellsL_len (k := 4) (fun j hj => okC_iff.1 hc j hj)
  have hb : ¬ PBad n (cellsL c 4) := fun e => by
    rcases e with e | e | e
    · omega
    · omega
    · rw [hl] at e; omega
  unfold lfE lfA lfB
  rw [if_pos hc, if_pos hc, if_pos hc]
  unfold pE pA pB
  rw [if_neg hb, if_neg hb, if_neg hb]
  exact ⟨rfl, tileL_64 n (by rw [List.length_take]; omega), tileL_64 n (by rw [List.length_drop]; omega)⟩
end Go.Proofs.YtljbhdldfffpfaaGreat.Hp
