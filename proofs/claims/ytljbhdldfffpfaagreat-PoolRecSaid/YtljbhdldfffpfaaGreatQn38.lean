/- PoolNone, a part. -/
import Derived.Test.YtljbhdldfffpfaaGreatQn37
import Derived.Test.YtljbhdldfffpfaaGreatQn22
namespace Go.Proofs.YtljbhdldfffpfaaGreat.Hp
open Go.RowKit Go.Proofs.YtljbhdldfffpfaaGreat Go.Proofs.YtljbhdldfffpfaaGreat.Lf Go.Maps

theorem mayA : mayB ⟨#[97]⟩ ⟨#[]⟩ ⟨#[]⟩ = true := by decide
def rwA : List Int := rowL ⟨#[97]⟩ ⟨#[]⟩ ⟨#[]⟩
theorem rwA_len : rwA.length = 26 := rowL_len mayA
/-- The page with that row. -/
def c3A : Nat → List Int := setC cz 0 0 1 rwA
theorem c3A_ok : okC c3A = true := okC_iff.2 fun j hj => by
  unfold okL
  rw [decide_eq_true_eq]
  by_cases h : j = 0
  · subst h; right; exact rwA_len
  · left
    show (Lf.upd cz 0 rwA j).length = 0
    unfold Lf.upd
    rw [if_neg h, cz_nil j hj]
    rfl
theorem c3A_len : ∀ i, i < 4 → (c3A i).length ≤ 100000 := fun j hj => by
  have := okC_iff.1 c3A_ok j hj
  unfold okL at this
  rw [decide_eq_true_eq] at this
  omega
theorem c3A_new : pgSame (setC cz 0 ((0 : Nat) : Int) 1 rwA) cz (setN 0 ((0 : Nat) : Int) 1) 0 = false := by
  unfold pgSame
  rw [show decide (setN 0 ((0 : Nat) : Int) 1 = 0) = false by decide, Bool.and_false]

theorem pg_nou8 {w : World} {g : Nat} {x : Pg} {t : TypeId} (h : w.heap[g]? = some (.cells x.c t (0, 0))) : ∀ j z, w.cell? ⟨g, j, none⟩ ≠ some (.int .u8 z) := by
  intro j z e
  rw [(cell_of h j).1] at e
  match j with
  | 0 => have e2 : some (Value.slice (x.P 0) (x.N 0) (x.K 0)) = some (.int .u8 z) := e; cases e2
  | 1 => have e2 : some (Value.slice (x.P 1) (x.N 1) (x.K 1)) = some (.int .u8 z) := e; cases e2
  | 2 => have e2 : some (Value.slice (x.P 2) (x.N 2) (x.K 2)) = some (.int .u8 z) := e; cases e2
  | 3 => have e2 : some (Value.slice (x.P 3) (x.N 3) (x.K 3)) = some (.int .u8 z) := e; cases e2
  | 4 => have e2 : some (Value.int .i64 x.l) = some (.int .u8 z) := e; cases e2
  | j + 5 => have e2 : (none : Option Value) = some (.int .u8 z) := e; cases e2
/-- The pool of begun, behind its Set. -/
structure XF (x : Po) (pd q bm : Nat) (y : Pg) (r : Int → Option Value) : Prop where
  dk : x.dk = pd
  lg : x.lg = some q
  first : x.first = 0
  pages : x.pages = 4
  bm : x.bm = bm
  n : x.s.n = 2
  v : (x.s.P 0).v = y
  f : First x.s.n (hit x.s 1) 0
  recs : x.recs = r
theorem XF.used {x : Po} {pd q bm : Nat} {y : Pg} {r : Int → Option Value} (h : XF x pd q bm y r) : XF { x with s := { x.s with P := up x.s.P 0 { x.s.P 0 with b := true } } } pd q bm y r := by
  refine ⟨h.dk, h.lg, h.first, h.pages, h.bm, h.n, by show (up x.s.P 0 _ 0).v = y; rw [up_same]; exact h.v, ⟨Nat.zero_le _, fun j hj => absurd hj (Nat.not_lt_zero j), fun _ => ?_⟩, h.recs⟩
  show ((up x.s.P 0 _ 0).u && decide ((up x.s.P 0 _ 0).k = 1)) = true
  rw [up_same]
  exact h.f.yes (by rw [h.n]; omega)
set_option maxRecDepth 100000 in
set_option maxHeartbeats 4000000 in
theorem begun8 (w : World) : Calls Tryz.prog 9 #[] w fun e w' => e = .returned (.bool true) ∧ Below w.heap.size w w' := by
  have HD := Lib.hid (new_any w 20)
  go_enter Tryz.func9, Tryz.ntmps9
  go_wp2_with fail
  refine HD.out.mono ?_
  rintro e w1 ⟨rfl, hd1, hb1⟩
  rw [show clampT 20 = 20 from rfl] at hd1
  obtain ⟨bn, hbn⟩ : ∃ b, b = w.heap.size := ⟨_, rfl⟩
  rw [← hbn] at hd1 ⊢
  have hdk := fresh_dk hd1
  have HO := Lib.hid (topen_any w1 hdk 8 12 (by omega) (by show (8 : Int) + ((12 : Nat) : Int) ≤ 20; omega) (T := zT) (fun i _ => fresh_has _ _))
  have HB1 := Lib.hid hb1
  have HBN := Lib.hid hbn
  have HLT : Hid (∀ k, Three (bn + 1 + 1) bn (bn + 1) k → w.heap.size ≤ k ∧ k < w1.heap.size) := fun k hk => ⟨by rcases hk with rfl | rfl | rfl <;> omega, hdk.lt hk⟩
  clear hd1 hdk hb1 hbn HD
  obtain ⟨pd, hpd⟩ : ∃ b, b = bn + 1 + 1 := ⟨_, rfl⟩
  obtain ⟨bo, hbo⟩ : ∃ b, b = bn + 1 := ⟨_, rfl⟩
  rw [← hbo] at hpd HO HLT
  rw [← hpd] at HO HLT
  rw [show bn + 1 + 1 = pd by omega]
  clear hpd hbo
  go_wp2_with fail
  refine HO.out.mono ?_
  rintro e w2 ⟨q, bm, A, c, d3, rfl, hq, hbm, hl2, hdn, hf2⟩
  rw [rd_zT, opT_nil] at hl2 hdn
  rw [rd_zT, scan_nil]
  simp only [List.length_nil]
  obtain ⟨t, ht⟩ : ∃ t : Tr, t = ⟨pd, 8, ((12 : Nat) : Int), [], 0, 0⟩ := ⟨_, rfl⟩
  rw [← ht] at hl2 hdn
  have hB2 : Below w.heap.size w w2 := bel_fr HB1.out hf2 (fun k hk => (HLT.out k hk).1)
  have hdp : t.dp = pd := by rw [ht]
  have h2a : d3.has 2 zt := hdn.far 2 zt (fun k _ => by rw [ht]; show (2 : Int) ≠ 8 + k; omega) (fresh_has _ _)
  have h3a : d3.has 3 zt := hdn.far 3 zt (fun k _ => by rw [ht]; show (3 : Int) ≠ 8 + k; omega) (fresh_has _ _)
  have htl : d3.tiles = 20 := hdn.tiles
  have HLO : Hid (∀ k, Five q bm pd bn bo k → w.heap.size ≤ k ∧ k < w2.heap.size) := fun k hk => by
    refine ⟨?_, five_lt hl2 k (by rw [hdp]; exact hk)⟩
    have := HB1.out.size
    rcases hk with (rfl | rfl) | hk
    · omega
    · omega
    · exact (HLT.out k hk).1
  have HL2 := Lib.hid hl2
  have HDP := Lib.hid hdp
  have H2a := Lib.hid h2a
  have H3a := Lib.hid h3a
  have HTL := Lib.hid htl
  have HB2 := Lib.hid hB2
  have HN := Lib.hid (pnew_any w2 pd (some q) 0 4 2 (by omega) (by omega))
  clear hl2 hdn hf2 hB2 hdp h2a h3a htl hq hbm HO HLT HB1 HBN ht
  go_upto_region 5 with fail
  go_wp2_with fail
  refine HN.out.mono ?_
  rintro e w3 ⟨p, bmP, rfl, hp, hbmP, hx3, hb3⟩
  rw [show roomOf 2 = 2 from rfl] at hx3
  have hB3 : Below w.heap.size w w3 := HB2.out.trans (hb3.mono HB2.out.size)
  have hl3 : LogAt w3 q bm t bn bo 0 d3 := HL2.out.kept (fun k hk => hb3.block k hk)
  have HPP : Hid (w2.heap.size ≤ p ∧ w2.heap.size ≤ bmP) := ⟨hp, hbmP⟩
  have HX3 := Lib.hid hx3
  have HL3 := Lib.hid hl3
  have HB3 := Lib.hid hB3
  have HRo := Lib.hid (rrow_ok w3 ⟨#[97]⟩ ⟨#[]⟩ ⟨#[]⟩ mayA)
  clear hp hbmP hx3 hb3 hB3 hl3 HN HL2
  go_upto_region 6 with fail
  go_wp2_with fail
  refine HRo.out.mono ?_
  rintro e w4 ⟨v4, rfl, ho4, hb4⟩
  obtain ⟨A4, q4, rfl⟩ := Lf.own_sl ho4
  have hrw : SlK .u8 w4 (.slice A4 rwA.length q4) rwA := by
    have h := own_slK ho4 (rowL_ok mayA)
    rw [rwA_len]
    exact h
  have hx4 := HX3.out.on hb4
  have hl4 : LogAt w4 q bm t bn bo 0 d3 := HL3.out.kept (fun k hk => hb4.block k hk)
  have hB4 : Below w.heap.size w w4 := HB3.out.trans (hb4.mono HB3.out.size)
  have hdk4 : DkAt w4 pd bn bo 0 d3 := by have h := hl4.dk; rw [HDP.out] at h; exact h
  have hU := use_z w4 hx4 (n := 1) hdk4 (by show 1 < 4; omega) (by show (0 : Int) + 2 * 1 + 1 < d3.tiles; rw [HTL.out]; omega) (by show d3.has ((0 : Int) + 2 * 1) zt; exact H2a.out) (by show d3.has ((0 : Int) + 2 * 1 + 1) zt; exact H3a.out) (i := 0) (new_first 2 _) new_vac (by show 0 < 2; omega)
  have hS := set_new w4 hx4 1 0 (by omega) (by omega) (b := rwA) (A0 := A4) (q0 := q4) (lsn := 1) hrw (.inr rwA_len) cz_len (i := 0) (S := Came _ 1 0) (fun x1 h => came_S h (by show 0 < 2; omega) (new_first 2 _)) (fun i v h => by cases h) hU c3A_new
  rw [rwA_len] at hS
  have HS := Lib.hid hS
  have HL4 := Lib.hid hl4
  have HB4 := Lib.hid hB4
  have HZ4 : Hid (w2.heap.size ≤ w4.heap.size) := Nat.le_trans (Nat.le_trans HPP.out.1 (Nat.le_of_lt HX3.out.lp)) hb4.size
  clear ho4 hrw hx4 hl4 hB4 hdk4 hU hS hb4 HRo HL3 HX3 HB3
  go_upto_region 7 with fail
  go_wp2_with fail
  refine HS.out.mono ?_
  rintro e w5 ⟨x1, ⟨y1, rfl⟩, y, hyl, rfl, hx5, hc5, hf5⟩
  obtain ⟨x5, hx5e⟩ : ∃ x5 : Po, x5 = { dk := pd, lg := some q, first := 0, pages := 4, s := ⟨2, up (up (newS 2).P 0 ⟨true, ((1 : Nat) : Int), y1, true, 0⟩) 0 { (up (newS 2).P 0 ⟨true, ((1 : Nat) : Int), y1, true, 0⟩) 0 with v := y, b := true }, 0⟩, bm := bmP, recs := Go.Proofs.YtljbhdldfffpfaaGreat.upd (fun _ => none) ((1 : Nat) : Int) (some (.int .i64 1)) } := ⟨_, rfl⟩
  have hx5' : PoAt w5 p x5 := by rw [hx5e]; exact hx5
  have hxf5 : XF x5 pd q bmP y (Go.Proofs.YtljbhdldfffpfaaGreat.upd (fun _ => none) ((1 : Nat) : Int) (some (.int .i64 1))) := by
    subst hx5e
    refine ⟨rfl, rfl, rfl, rfl, rfl, rfl, ?_, ⟨Nat.zero_le _, fun j hj => absurd hj (Nat.not_lt_zero j), fun _ => ?_⟩, rfl⟩
    · simp [up]
    · simp [hit, up]
  have hsz2 := HB2.out.size
  have hl5 : LogAt w5 q bm t bn bo 0 d3 := logAt_five HL4.out (fun k hk => hf5.block k (five_lt HL4.out k hk) (fun e => by
    have h1 := (HLO.out k (by rw [HDP.out] at hk; exact hk)).2
    have h2 := HPP.out
    rcases e with rfl | e
    · omega
    · have e : k = bmP := e
      omega))
  have hB5 : Below w.heap.size w w5 := bel_fr HB4.out hf5 (fun k hk => by
    have h2 := HPP.out
    rcases hk with rfl | e
    · omega
    · have e : k = bmP := e
      omega)
  have hc5' : Cs w5 y.P y.N y.K c3A := hc5
  have hyl' : y.l = 1 := hyl
  have HX5 := Lib.hid hx5'
  have HXF5 := Lib.hid hxf5
  have HL5 := Lib.hid hl5
  have HB5 := Lib.hid hB5
  have HC5 := Lib.hid hc5'
  have HYL := Lib.hid hyl'
  clear hx5 hx5' hxf5 hl5 hB5 hc5 hc5' hyl hyl' hf5 hsz2 hx5e HL4 HB4 HS HZ4
  -- Page
  have hb50 : Below w5.heap.size w5 (w5.alloc (.cells Pg.zero.c 42)) := (Below.refl _ _).alloc (Nat.le_refl _) _
  have hus := use_hit (w5.alloc (.cells Pg.zero.c 42)) (HX5.out.on hb50) 1 (by rw [HXF5.out.pages]; omega) (i := 0) HXF5.out.f (by rw [HXF5.out.n]; omega)
  obtain ⟨x6, hx6e⟩ : ∃ x6 : Po, x6 = { x5 with s := { x5.s with P := up x5.s.P 0 { x5.s.P 0 with b := true } } } := ⟨_, rfl⟩
  have hxf6 : XF x6 pd q bmP y (Go.Proofs.YtljbhdldfffpfaaGreat.upd (fun _ => none) ((1 : Nat) : Int) (some (.int .i64 1))) := by rw [hx6e]; exact HXF5.out.used
  have hU6 : Calls Tryz.prog 42 #[.pointer (some ⟨p, 0, none⟩), .int .i64 1] (w5.alloc (.cells Pg.zero.c 42)) (UsOk (w5.alloc (.cells Pg.zero.c 42)) p c3A 1 0 (fun w1 => PoAt w1 p x6 ∧ Cs w1 y.P y.N y.K c3A ∧ Fr (w5.alloc (.cells Pg.zero.c 42)).heap.size (One p) (w5.alloc (.cells Pg.zero.c 42)) w1)) := by
    refine hus.mono ?_
    rintro e w1 ⟨rfl, h1, h2⟩
    have hc1 : Cs w1 y.P y.N y.K c3A := fun j hj => ⟨(HC5.out j hj).1, slk_fr h2.size (fun k hk h => h2.block k hk h) (po_nou8 (HX5.out.on hb50)) ((HC5.out j hj).2.below hb50 (Nat.le_refl _))⟩
    refine ⟨y.P, y.N, y.K, ?_, hc1, ⟨by rw [hx6e]; exact h1, hc1, h2⟩, h2⟩
    rw [HXF5.out.v]
    unfold Pg.v pgV
    rw [HYL.out]
  have HPg := Lib.hid (page_of w5 (Nat.ne_of_lt HX5.out.lp) 1 c3A_len hU6)
  have HXF6 := Lib.hid hxf6
  clear hus hU6 hxf6 hx6e hb50
  go_upto_region 8 with fail
  go_wp2_with fail
  refine HPg.out.mono ?_
  rintro e w6 ⟨P, N, K, w15, rfl, hcp, ⟨hx15, hc15, hf15⟩, hf6, hlt6⟩
  unfold pgV
  have hb50 : Below w5.heap.size w5 (w5.alloc (.cells Pg.zero.c 42)) := (Below.refl _ _).alloc (Nat.le_refl _) _
  have hsz2 := HB2.out.size
  have hpl := HX5.out.lp
  have hml := HX5.out.lm
  have hbm5 := HXF5.out.bm
  have hfive : ∀ k, Five q bm t.dp bn bo k → w.heap.size ≤ k ∧ k < w2.heap.size := fun k hk => HLO.out k (by rw [HDP.out] at hk; exact hk)
  have hl6 : LogAt w6 q bm t bn bo 0 d3 := logAt_five HL5.out (fun k hk => by
    have h1 := five_lt HL5.out k hk
    have h2 := (hfive k hk).2
    have h3 := HPP.out
    have hne5 : ¬ One w5.heap.size k := fun e => by have e : k = w5.heap.size := e; omega
    have hnp : ¬ One p k := fun e => by have e : k = p := e; omega
    exact (hf6.block k (by omega) hne5).trans ((hf15.block k (Nat.lt_of_lt_of_le h1 hb50.size) hnp).trans (hb50.block k h1)))
  have hx6 : PoAt w6 p x6 := hx15.fr hf6 hx15.lp hx15.lm (fun e => by have e : p = w5.heap.size := e; omega) (fun e => by have e : x6.bm = w5.heap.size := e; have := HXF6.out.bm; omega)
  have hz15 : w15.heap[w5.heap.size]? = some (.cells Pg.zero.c 42 (0, 0)) := (hf15.block w5.heap.size (by simp) (fun e => by have e : w5.heap.size = p := e; omega)).trans (heap_alloc_new w5 _)
  have hc6 : Cs w6 y.P y.N y.K c3A := fun j hj => ⟨(hc15 j hj).1, slk_fr hf6.size (fun k hk h => hf6.block k hk h) (pg_nou8 hz15) (hc15 j hj).2⟩
  have hB6 : Below w.heap.size w w6 := by
    have h1 : Below w.heap.size w w15 := bel_fr (HB5.out.trans (hb50.mono HB5.out.size)) hf15 (fun k hk => by have e : k = p := hk; have := HPP.out; omega)
    exact bel_fr h1 hf6 (fun k hk => by have e : k = w5.heap.size := hk; have := HB5.out.size; omega)
  have HX6 := Lib.hid hx6
  have HL6 := Lib.hid hl6
  have HC6 := Lib.hid hc6
  have HB6 := Lib.hid hB6
  have HCP := Lib.hid hcp
  clear hx6 hl6 hc6 hB6 hcp hx15 hc15 hf15 hf6 hlt6 hb50 hsz2 hpl hml hbm5 hfive hz15 HX5 HL5 HB5 HC5 HPg
  go_upto_region 9 with fail
  change Code.wp _ _ _ _ (w6.alloc (pgO P N K 1))
  have hb7 : Below w6.heap.size w6 (w6.alloc (pgO P N K 1)) := (Below.refl _ _).alloc (Nat.le_refl _) _
  have HY7 := Lib.hid (heap_alloc_new w6 (pgO P N K 1))
  have HX7 := Lib.hid (HX6.out.on hb7)
  have HL7 := Lib.hid (HL6.out.kept (w' := w6.alloc (pgO P N K 1)) (fun k hk => hb7.block k hk))
  have HC7 := Lib.hid (HC6.out.below hb7 (Nat.le_refl _))
  have HB7 := Lib.hid (HB6.out.trans (hb7.mono HB6.out.size))
  generalize w6.alloc (pgO P N K 1) = w7 at *
  have hrec : Rec1 (Go.Proofs.YtljbhdldfffpfaaGreat.upd (fun _ => none) ((1 : Nat) : Int) (some (.int .i64 1))) := fun i v h => by
    by_cases e : i = ((1 : Nat) : Int)
    · subst e
      rw [Go.Proofs.YtljbhdldfffpfaaGreat.upd_same] at h
      cases h
      exact ⟨by omega, 1, rfl⟩
    · rw [Go.Proofs.YtljbhdldfffpfaaGreat.upd_other _ e _] at h
      cases h
  have HDi := Lib.hid (dirty_any w7 HX7.out (by rw [HXF6.out.recs]; exact hrec))
  clear hb7 hrec HX6 HL6 HC6 HB6
  go_wp2_with fail
  refine HDi.out.mono ?_
  rintro e w8 ⟨Ad, cd, ls, rfl, hls, -, hod, hb8⟩
  rw [HXF6.out.recs] at hls hod
  obtain rfl := lsOf_one hls rfl
  have hX8 := HX7.out.on hb8
  have hL8 := HL7.out.kept (w' := w8) (fun k hk => hb8.block k hk)
  have hC8 := HC7.out.below hb8 (Nat.le_refl _)
  have hB8 := HB7.out.trans (hb8.mono HB7.out.size)
  have hy8 := (hb8.block _ (Array.getElem?_eq_some_iff.1 HY7.out).1).trans HY7.out
  obtain ⟨gd, rfl, d0, d1⟩ : ∃ gd, Ad = some ⟨gd, 0, none⟩ ∧ w8.cell? ⟨gd, 0, none⟩ = some (.int .i64 1) ∧ w8.cell? ⟨gd, 1, none⟩ = some (.int .i64 1) := by
    rcases hod.2 with ⟨_, h0⟩ | ⟨g', cap, cur, h2, -, hg, -, -, -, h7⟩
    · cases h0
    · cases h2
      have hc : ∀ j (h : j < 2), cur[j]? = ([.int .i64 1, .int .i64 1] : List Value)[j]? := fun j hj => by
        have e1 : (cur.toList.take (1 * 2))[j]? = ([.int .i64 1, .int .i64 1] : List Value)[j]? := by
          have h8 : cur.toList.take (1 * 2) = [.int .i64 1, .int .i64 1] := h7
          rw [h8]
        rw [List.getElem?_take, if_pos (by omega)] at e1
        simpa using e1
      exact ⟨g', rfl, (cell_of hg 0).1.trans (hc 0 (by omega)), (cell_of hg 1).1.trans (hc 1 (by omega))⟩
  have HN0 : Hid (N 0 = 26) := ((HCP.out 0 (by omega)).1).trans rwA_len
  obtain ⟨zc, z4, -⟩ := pg_cell hy8
  have z0 := zc 0 (by decide)
  rw [HN0.out] at z0
  have hok := put_ok (n := 1) c3A_ok (by omega) (by omega)
  have HFl := Lib.hid (flush_dirty w8 hX8 HXF6.out.lg hL8 (by rw [HXF6.out.dk]; exact HDP.out) (fun k hk => by
    have h1 := (HLO.out k (by rw [HXF6.out.dk] at hk; exact hk)).2
    have h2 := HPP.out
    have h3 := HXF6.out.bm
    exact ⟨by omega, by omega⟩) 1 (by rw [HXF6.out.pages]; omega) (v := .int .i64 1) (by rw [HXF6.out.recs]; exact Go.Proofs.YtljbhdldfffpfaaGreat.upd_same _ _ _) (i := 0) HXF6.out.f (by rw [HXF6.out.n]; omega) (c := c3A) (by rw [HXF6.out.v]; exact hC8) (by rw [HXF6.out.v, HYL.out]; exact hok.1) (by rw [HXF6.out.v, HYL.out]; exact hok.2.1) (by rw [HXF6.out.v, HYL.out]; exact hok.2.2) (by rw [HXF6.out.first, HTL.out]; show (((0 : Nat) : Int)) + 2 * ((1 : Nat) : Int) + 1 < 20; omega))
  have hfive8 : Hid (∀ k, (Five q bm x6.dk bn bo k ∨ k = x6.bm) → w.heap.size ≤ k) := fun k hk => by
    have h2 := HPP.out
    have h3 := HXF6.out.bm
    have h4 := HB2.out.size
    rcases hk with hk | rfl
    · exact (HLO.out k (by rw [HXF6.out.dk] at hk; exact hk)).1
    · omega
  have HX8 := Lib.hid hX8
  have HB8 := Lib.hid hB8
  clear hls hod hb8 hX8 hL8 hC8 hB8 hy8 zc hok HDi HX7 HL7 HC7 HB7 HY7
  go_wp2_with fail
  refine HFl.out.mono ?_
  rintro e w9 ⟨rfl, t1, d1', -, hx9, -, hf9⟩
  have hrn : ∀ k, (Go.Proofs.YtljbhdldfffpfaaGreat.upd x6.recs ((1 : Nat) : Int) none) k = none := fun k => by
    rw [HXF6.out.recs]
    by_cases e : k = ((1 : Nat) : Int)
    · subst e
      exact Go.Proofs.YtljbhdldfffpfaaGreat.upd_same _ _ _
    · rw [Go.Proofs.YtljbhdldfffpfaaGreat.upd_other _ e _, Go.Proofs.YtljbhdldfffpfaaGreat.upd_other _ e _]
  have hB9 : Below w.heap.size w w9 := bel_fr HB8.out hf9 hfive8.out
  have HDi2 := Lib.hid (dirty_any w9 hx9 (fun i v h => by have h2 := (hrn i).symm.trans h; cases h2))
  have HX9 := Lib.hid hx9
  have HB9 := Lib.hid hB9
  have HRN := Lib.hid hrn
  clear hx9 hf9 hB9 hrn HFl z0 z4 d0 d1 HX8 HB8
  go_wp2_with fail
  refine HDi2.out.mono ?_
  rintro e w10 ⟨Ae, ce, ls, rfl, hls, -, -, hb10⟩
  obtain rfl := lsOf_none hls HRN.out
  have hx10 := HX9.out.on hb10
  have hp10 := pages_any w10 hx10
  have e4 : x6.pages = 4 := HXF6.out.pages
  have HP10 : Hid (Calls Tryz.prog 32 #[.pointer (some ⟨p, 0, none⟩)] w10 fun e w' => e = .returned (.int .i64 4) ∧ w' = w10) := hp10.mono fun e w' ⟨h1, h2⟩ => ⟨by rw [h1]; show Ending.returned (.int .i64 (x6.pages : Int)) = _; rw [e4]; rfl, h2⟩
  have HB10 := Lib.hid (HB9.out.trans (hb10.mono HB9.out.size))
  clear hls hb10 hx10 hp10 e4 HDi2 HX9 HB9
  simp only [List.length_nil]
  go_wp2_with fail
  refine HP10.out.mono ?_
  rintro e w11 ⟨rfl, hw⟩
  obtain rfl := hw.symm
  clear hw HP10
  go_wp2
  go_ret
  exact ⟨rfl, HB10.out⟩
end Go.Proofs.YtljbhdldfffpfaaGreat.Hp
namespace Go.Proofs.YtljbhdldfffpfaaGreat.Hp
open Go.RowKit Go.Proofs.YtljbhdldfffpfaaGreat Go.Proofs.YtljbhdldfffpfaaGreat.Lf Go.Maps

theorem use_out (w : World) (P : Value) (n : Int) (hh : ∀ W : World, Below w.heap.size w W → Calls Tryz.prog 54 #[P, .int .i64 n] W fun e w' => e = .returned (.bool false) ∧ w' = W) : Calls Tryz.prog 42 #[P, .int .i64 n] w fun e w' => e = .returned (.tuple #[Pg.zero.v, .int .i64 1]) ∧ Below w.heap.size w w' := by
  have hb0 : Below w.heap.size w (w.alloc (.cells Pg.zero.c 42)) := (Below.refl _ _).alloc (Nat.le_refl _) _
  have HZ3 := Lib.hid (heap_alloc_new w (.cells Pg.zero.c 42))
  have HB0 := Lib.hid hb0
  have HH := Lib.hid hh
  clear hb0 hh
  go_enter Tryz.func42, Tryz.ntmps42
  go_upto_region 1 with fail
  change Code.wp _ _ _ _ (w.alloc (.cells Pg.zero.c 42))
  generalize w.alloc (.cells Pg.zero.c 42) = w1 at *
  have z0 := (pg_cells HZ3.out).1 0 (by decide)
  have z1 := (pg_cells HZ3.out).1 1 (by decide)
  have z2 := (pg_cells HZ3.out).1 2 (by decide)
  have z3 := (pg_cells HZ3.out).1 3 (by decide)
  have z4 := (pg_cells HZ3.out).2.1
  have y0 := (pg_cells HZ3.out).2.2 0
  have y1 := (pg_cells HZ3.out).2.2 1
  have y2 := (pg_cells HZ3.out).2.2 2
  have y3 := (pg_cells HZ3.out).2.2 3
  have y4 := (pg_cells HZ3.out).2.2 4
  go_wp2_with (go_at_call 54; refine (HH.out _ HB0.out).mono ?_; rintro e w2 ⟨rfl, hw⟩; obtain rfl := hw.symm; clear hw)
  have hz4 := fin5_heap (x := Pg.zero) HZ3.out
  have hb4 : Below w.heap.size w (fin5 w1 w.heap.size Pg.zero) := ((((HB0.out.setCell (p := ⟨w.heap.size, 0, none⟩) (Nat.le_refl _) _).setCell (p := ⟨w.heap.size, 1, none⟩) (Nat.le_refl _) _).setCell (p := ⟨w.heap.size, 2, none⟩) (Nat.le_refl _) _).setCell (p := ⟨w.heap.size, 3, none⟩) (Nat.le_refl _) _).setCell (p := ⟨w.heap.size, 4, none⟩) (Nat.le_refl _) _
  clear z0 z1 z2 z3 z4 y0 y1 y2 y3 y4
  change bodyPost _ _ _ _ _ (fin5 w1 w.heap.size Pg.zero)
  generalize fin5 w1 w.heap.size Pg.zero = w4 at hz4 hb4 ⊢
  exact bodyPost_ret (use_end rfl rfl (W := w4) hz4) rfl ⟨rfl, hb4⟩
theorem refuse_out (w : World) (P : Value) (n : Int) (hh : ∀ W : World, Below w.heap.size w W → Calls Tryz.prog 54 #[P, .int .i64 n] W fun e w' => e = .returned (.bool false) ∧ w' = W) : Calls Tryz.prog 47 #[P, .int .i64 n] w fun e w' => e = .returned (.int .i64 1) ∧ w' = w := by
  have HH := Lib.hid hh
  clear hh
  go_enter Tryz.func47, Tryz.ntmps47
  go_wp2_with (go_at_call 54; refine (HH.out _ (Below.refl _ _)).mono ?_; rintro e w2 ⟨rfl, hw⟩; obtain rfl := hw.symm; clear hw)
  go_ret
  exact ⟨rfl, rfl⟩
theorem cs_zero (w : World) : Cs w Pg.zero.P Pg.zero.N Pg.zero.K noC := fun _ _ => ⟨rfl, slK_nil w⟩
/-- Page of a page that is none. -/
theorem page_out (w : World) (P : Value) (n : Int) (hh : ∀ W : World, Below w.heap.size w W → Calls Tryz.prog 54 #[P, .int .i64 n] W fun e w' => e = .returned (.bool false) ∧ w' = W) :
    Calls Tryz.prog 14 #[P, .int .i64 n] w fun e w' => ∃ P' N' K', e = .returned (.tuple #[pgV P' N' K' 0, .int .i64 1]) ∧ Below w.heap.size w w' := by
  have hb0 : Below w.heap.size w (w.alloc (.cells Pg.zero.c 42)) := (Below.refl _ _).alloc (Nat.le_refl _) _
  have hU : Calls Tryz.prog 42 #[P, .int .i64 n] (w.alloc (.cells Pg.zero.c 42)) (UsOk (w.alloc (.cells Pg.zero.c 42)) (w.heap.size + 5) noC 0 1 (fun w1 => Below (w.alloc (.cells Pg.zero.c 42)).heap.size (w.alloc (.cells Pg.zero.c 42)) w1)) := by
    refine (use_out _ P n (fun W hW => hh W (hb0.trans (hW.mono hb0.size)))).mono ?_
    rintro e w1 ⟨rfl, hb⟩
    exact ⟨Pg.zero.P, Pg.zero.N, Pg.zero.K, rfl, cs_zero w1, hb, Fr.ofB hb⟩
  refine (page_of w (p := w.heap.size + 5) (by omega) n (fun _ _ => Nat.zero_le _) hU).mono ?_
  rintro e w' ⟨P', N', K', w1, rfl, -, hb, hf, hlt⟩
  exact ⟨P', N', K', rfl, bel_fr (hb0.trans (hb.mono hb0.size)) hf (fun k hk => Nat.le_of_eq hk.symm)⟩
set_option maxRecDepth 100000 in
set_option maxHeartbeats 1000000 in
/-- Set where its page is none. -/
theorem set_out (w : World) (P : Value) (n : Int) (hh : ∀ W : World, Below w.heap.size w W → Calls Tryz.prog 54 #[P, .int .i64 n] W fun e w' => e = .returned (.bool false) ∧ w' = W) :
    Calls Tryz.prog 17 #[P, .int .i64 n, .int .i64 0, .slice none 0 0, .int .i64 1] w fun e w' => e = .returned (.int .i64 1) ∧ Below w.heap.size w w' := by
  have HU := Lib.hid (use_out w P n hh)
  clear hh
  unfold Pg.v at HU
  go_enter Tryz.func17, Tryz.ntmps17
  go_upto_region 3 with fail
  go_wp2_with (go_at_call 42; refine HU.out.mono ?_; rintro e w1 ⟨rfl, hb1⟩; have HB1 := Lib.hid hb1; clear hb1)
  go_ret
  exact ⟨rfl, HB1.out.trans ((((Below.refl _ _).alloc (Nat.le_refl _) _)).mono HB1.out.size)⟩
set_option maxHeartbeats 1000000 in
/-- Set of a cell that no page has. -/
theorem set_four (w : World) (P : Value) (n : Int) {R : World → Prop} (hR : Calls Tryz.prog 47 #[P, .int .i64 n] w fun e w' => e = .returned (.int .i64 1) ∧ R w') :
    Calls Tryz.prog 17 #[P, .int .i64 n, .int .i64 4, .slice none 0 0, .int .i64 9] w fun e w' => e = .returned (.int .i64 1) ∧ R w' := by
  have HR := Lib.hid hR
  clear hR
  go_enter Tryz.func17, Tryz.ntmps17
  go_wp2_with (go_at_call 47; refine HR.out.mono ?_; rintro e w1 ⟨rfl, hr1⟩)
  go_ret
  exact ⟨rfl, hr1⟩
end Go.Proofs.YtljbhdldfffpfaaGreat.Hp
