/- The log: settle, walked. -/
import Derived.Test.YtemmhligohebfaaTrS
namespace Go.Proofs.Ytemmhligohebfaa
open Go.RowKit Go.Maps

theorem pt_row {W : World} {g : Nat} {L : List Int} {t : TypeId} (h : W.heap[g]? = some (.cells (byteV L).toArray t (0, 0))) {n : Nat} (hn : L.length = n) : Pt W (.slice (some ⟨g, 0, none⟩) n n) L := by
  subst hn
  refine ⟨g, 0, L.length, rfl, Nat.le_refl _, (Array.getElem?_eq_some_iff.1 h).1, fun j hj => ?_⟩
  rw [Nat.zero_add, (cell_of h j).1]
  simp [byteV, hj]
theorem slB_row {W : World} {g : Nat} {L : List Int} {t : TypeId} (h : W.heap[g]? = some (.cells (byteV L).toArray t (0, 0))) (hn : L.length = 64) : SlB W (.slice (some ⟨g, 0, none⟩) 64 64) L g := by
  refine ⟨_, _, _, rfl, hn.symm, Nat.le_refl _, by omega, (fun e => by cases e), fun a e _ => ?_⟩
  cases e
  refine ⟨rfl, rfl, fun j hj => ?_⟩
  rw [Nat.zero_add, (cell_of h j).1]
  simp [byteV, hj]

def ivT : Value → Nat
  | .int _ x => x.toNat
  | _ => 0
def StRel (w : World) (p bm : Nat) (t : Tr) (bn bo g : Nat) (d : Dk) (k : Nat) (wr : World) : Prop := ∃ d', LogAt wr p bm t bn bo g d' ∧ Done t d d' k ∧ Fr w.heap.size (Five p bm t.dp bn bo) w wr
def StPost (w : World) (p bm : Nat) (t : Tr) (bn bo g : Nat) (d : Dk) (e : Ending) (w' : World) : Prop := e = .returned (.int .i64 0) ∧ ∃ d', LogAt w' p bm { t with stable := t.count } bn bo g d' ∧ Done t d d' t.tiles.toNat ∧ Fr w.heap.size (Five p bm t.dp bn bo) w w'
theorem below_five {w w1 w2 : World} {S : Nat → Prop} (h : Fr w.heap.size S w w1) (hb : Below w1.heap.size w1 w2) : Fr w.heap.size S w w2 :=
  h.trans (below_fr (S := S) hb) h.size (fun _ _ h => h)

/-- The end: what is stable. -/
theorem settle_end {w wr : World} {p bm bn bo g : Nat} {t : Tr} {d d' : Dk} (h : LogAt wr p bm t bn bo g d') (hd : Done t d d' t.tiles.toNat) (hf : Fr w.heap.size (Five p bm t.dp bn bo) w wr) : StPost w p bm t bn bo g d (.returned (.int .i64 0)) (wr.setCell ⟨p, 6, none⟩ (.int .i64 t.count)) := by
  refine ⟨rfl, d', ⟨⟨?_, h.tr.mp.of_block (setCell_far _ _ _ _ (fun e => h.tr.ne e.symm)), ⟨h.tr.ok.ok, h.tr.ok.f0, h.tr.ok.f1, h.tr.ok.t0, h.tr.ok.t1, h.tr.ok.len, h.tr.ok.c0, h.tr.ok.c1⟩, h.tr.ne⟩, h.dk.on fun k hk => setCell_far _ _ _ _ (fun e => h.sep k hk (Or.inl e)), h.sep, h.fit⟩, ⟨hd.tiles, hd.own, hd.far⟩, hf.setCell (Or.inl (Or.inl (Or.inl rfl))) _⟩
  rw [heap_setCell_same wr p 6 _ _ _ h.tr.bx]
  rfl

set_option maxRecDepth 100000 in
set_option maxHeartbeats 1000000 in
theorem settle_any (w : World) {p bm bn bo g : Nat} {t : Tr} {d : Dk} (h : LogAt w p bm t bn bo g d) : Calls Try.prog 27 #[.pointer (some ⟨p, 0, none⟩)] w (StPost w p bm t bn bo g d) := by
  have t0 := h.tr.ok.t0
  have t1 := h.tr.ok.t1
  have t2 := h.tr.ok.f0
  have t3 := h.tr.ok.f1
  have x2 : w.cell? ⟨p, 2, none⟩ = some (.int .i64 t.tiles) := h.tr.c 2
  obtain ⟨K, hK⟩ : ∃ K : Nat, t.tiles = (K : Int) := ⟨t.tiles.toNat, by omega⟩
  have H1 : Hid (StRel w p bm t bn bo g d 0 w) := Lib.hid ⟨d, h, Done.zero t d, Fr.refl _ _ _⟩
  have HK := Lib.hid hK
  rw [hK] at x2
  have hK0 : K ≤ 2000 := by omega
  clear h t0 t1 hK
  go_enter Try.func27, Try.ntmps27
  go_wp2
  go_loopw [3, 14] (fun b i wr => ∃ (q : Bool) (n : Nat), n ≤ K ∧ i = .int .i64 n ∧ b = .bool q ∧ Hid (StRel w p bm t bn bo g d n wr)) (fun _ i _ => K - ivT i)
  case atStart => exact ⟨false, 0, Nat.zero_le _, rfl, rfl, H1⟩
  case round =>
    obtain ⟨q, n, hn, rfl, rfl, HR⟩ := hrel
    obtain ⟨d', hl, hd, hf⟩ := HR.out
    clear x2 H1
    by_cases hlt : n < K
    · have x0 : wr.drew.cell? ⟨p, 0, none⟩ = some (.pointer (some ⟨t.dp, 0, none⟩)) := hl.tr.c 0
      have x1 : wr.drew.cell? ⟨p, 1, none⟩ = some (.int .i64 t.first) := hl.tr.c 1
      have q1 : IntKind.i64.wrap (t.first + (n : Int)) = t.first + (n : Int) := IntWalk.i64_in _ (by omega)
      obtain ⟨l, hh⟩ := d'.has_any hl.dk.dk.ok (t.first + n)
      have hlt2 : (n : Int) < (K : Int) := by omega
      have hin : t.first + (n : Int) < d'.tiles := by have := hl.fit; have := HK.out; omega
      have HRd : Hid (∀ W, Below wr.heap.size wr W → Calls Try.prog 19 #[.pointer (some ⟨t.dp, 0, none⟩), .int .i64 (t.first + n)] W fun e w' => ∃ g1, e = .returned (.tuple #[.slice (some ⟨g1, 0, none⟩) 64 64, .int .i64 0]) ∧ SlK .u8 w' (.slice (some ⟨g1, 0, none⟩) 64 64) l ∧ Below wr.heap.size wr w') := Lib.hid fun W hW =>
        (read_ok W (hl.kept fun k hk => hW.block k hk).dk.dk hl.dk.dead _ (by omega) hin l hh.1 hh.2.1).mono fun e w' ⟨h1, h2⟩ => ⟨_, h1, by rw [h2]; exact (pt_row (heap_alloc_new W _) hh.2.1).slK hh.2.2, by rw [h2]; exact hW.alloc hW.size _⟩
      have HL := Lib.hid hl
      have HD := Lib.hid hd
      have HF := Lib.hid hf
      have HH := Lib.hid hh
      have HIN := Lib.hid hin
      have D0 := (Below.refl wr.heap.size wr).drew
      clear hl hd hf hh hin HR
      go_upto_region 5 with (fail)
      go_cut [5, 6] (fun u v wx => ∃ g1, u = .slice (some ⟨g1, 0, none⟩) 64 64 ∧ v = .int .i64 0 ∧ SlK .u8 wx (.slice (some ⟨g1, 0, none⟩) 64 64) l ∧ Below wr.heap.size wr wx)
      case first =>
        go_region_with (go_at_call 19; refine (HRd.out _ D0).mono ?_; rintro e w1 ⟨g1, rfl, hs1, hb1⟩; have HQ := Lib.hid (And.intro hs1 hb1); clear hs1 hb1)
        all_goals go_wp2
        all_goals go_meet
        all_goals exact ⟨g1, rfl, rfl, HQ.out.1, HQ.out.2⟩
      case rest =>
        obtain ⟨g1, rfl, rfl, hs1, hb1⟩ := hcut
        generalize wc = w1 at *
        have hl1 := HL.out.kept (w' := w1) fun k hk => hb1.block k hk
        have x3 : w1.cell? ⟨p, 3, none⟩ = some (.map (some bm)) := hl1.tr.c 3
        have wi : (Lit.int .i64 (n : Int)).wf = true := WalkArith.wf_i64 (by omega)
        have k4 := hl1.tr.mp.look law3 Try.underlying62 Try.underlying3 (zeroT w1) wi
        rw [zb_eq, blkM_get] at k4
        have hsz : (byteV (tileL t.S n)).toArray.size = 64 := by simp [byteV, tileL_len]
        have k2 := st_newT w1 (byteV (tileL t.S n)).toArray hsz (by simpa using byteV_one (tileL t.S n))
        obtain ⟨co, hco⟩ : ∃ co, co = (byteV (tileL t.S n)).toArray := ⟨_, rfl⟩
        rw [← hco] at k4 k2 hsz
        have HCO := Lib.hid hco
        have HS1 := Lib.hid hs1
        have HB1 := Lib.hid hb1
        clear hco hs1 hb1 hl1 x0 x1 D0 HRd
        go_upto_region 9 with (fail)
        obtain ⟨w2, HW2, hc2, hb2⟩ : ∃ W, Hid (w1.alloc (.cells co 81) = W) ∧ W.heap[w1.heap.size]? = some (.cells co 81 (0, 0)) ∧ Below w1.heap.size w1 W := ⟨_, Lib.hid rfl, heap_alloc_new w1 _, (Below.refl _ _).alloc (Nat.le_refl _) _⟩
        rw [HW2.out]
        obtain ⟨gc, hgc⟩ : ∃ g, g = w1.heap.size := ⟨_, rfl⟩
        rw [← hgc] at hc2 ⊢
        have hb12 : Below wr.heap.size wr w2 := HB1.out.trans (hb2.mono HB1.out.size)
        have hl2 := HL.out.kept (w' := w2) fun k hk => hb12.block k hk
        rw [HCO.out] at hc2
        have hs2 : SlK .u8 w2 (.slice (some ⟨gc, 0, none⟩) 64 64) (tileL t.S n) := (pt_row hc2 (tileL_len _ _)).slK (tileL_ok hl2.tr.ok.ok n)
        have HE := Lib.hid (equalE_any w2 _ _ _ _ (HS1.out.below hb2 (Nat.le_refl _)) hs2)
        have HC2 := Lib.hid hc2
        have HL2 := Lib.hid hl2
        have HB2 := Lib.hid hb12
        clear hc2 hb2 hb12 hl2 hs2 hgc k4 k2 HCO HW2 x3 hsz HS1 HB1
        cases hq : decide (l = tileL t.S n) with
        | true =>
          rw [hq] at HE
          have hle : l = tileL t.S n := of_decide_eq_true hq
          have HR2 : Hid (StRel w p bm t bn bo g d (n + 1) w2) := Lib.hid ⟨d', HL2.out, HD.out.keep (by rw [← hle]; exact HH.out), below_five HF.out HB2.out⟩
          clear hq hle
          go_wp2_with (go_at_call 40; refine HE.out.mono ?_; rintro e w3 ⟨rfl, rfl⟩)
          go_roundw
          all_goals first
            | exact ⟨q, n + 1, hlt, by go_num, rfl, HR2⟩
            | (simp [ivT]; omega)
        | false =>
          rw [hq] at HE
          have x0 : w2.drew.cell? ⟨p, 0, none⟩ = some (.pointer (some ⟨t.dp, 0, none⟩)) := HL2.out.tr.c 0
          have x1 : w2.drew.cell? ⟨p, 1, none⟩ = some (.int .i64 t.first) := HL2.out.tr.c 1
          have HWr : Hid (∀ W, Below w2.heap.size w2 W → Calls Try.prog 18 #[.pointer (some ⟨t.dp, 0, none⟩), .int .i64 (t.first + n), .slice (some ⟨gc, 0, none⟩) 64 64] W fun e w' => e = .returned (.int .i64 0) ∧ StRel w p bm t bn bo g d (n + 1) w') := Lib.hid fun W hW => by
            have hlW := HL2.out.kept fun k hk => hW.block k hk
            have hcW := (hW.block gc (Array.getElem?_eq_some_iff.1 HC2.out).1).trans HC2.out
            refine (write_plain W hlW.dk.dk hlW.dk.dead _ (by omega) HIN.out _ (tileL t.S n) (slB_row hcW (tileL_len _ _)) (tileL_len _ _) (tileL_ok hlW.tr.ok.ok n) hlW.dk.set).mono ?_
            rintro e w' ⟨h1, h2, h3⟩
            refine ⟨h1, _, ⟨?_, ⟨h2, hlW.dk.dead, hlW.dk.set, hlW.dk.mv, hlW.dk.mask⟩, hlW.sep, hlW.fit⟩, HD.out.store hlW.tr.ok.ok, ?_⟩
            · have hk : ∀ k, k < W.heap.size → Two p bm k → w'.heap[k]? = W.heap[k]? := fun k hk h => h3.block k hk (fun e => hlW.sep k e h)
              exact ⟨(hk p hlW.tr.lt.1 (Or.inl rfl)).trans hlW.tr.bx, hlW.tr.mp.of_block (hk bm hlW.tr.lt.2 (Or.inr rfl)), hlW.tr.ok, hlW.tr.ne⟩
            · have f2 := below_five HF.out (HB2.out.trans (hW.mono HB2.out.size))
              exact f2.trans h3 f2.size (fun x _ h => Or.inr h)
          have D0 := (Below.refl w2.heap.size w2).drew
          clear hq HL2 HC2 HH HD HIN
          go_upto_region 10 with (go_at_call 40; refine HE.out.mono ?_; rintro e w3 ⟨rfl, rfl⟩)
          go_region_with (go_at_call 18; refine (HWr.out _ D0).mono ?_; rintro e w4 ⟨rfl, hr4⟩; have HR4 := Lib.hid hr4; clear hr4)
          all_goals
            clear x0 x1 D0 HWr
            go_wp2
            go_roundw
            all_goals first
              | exact ⟨true, n + 1, hlt, by go_num, rfl, HR4⟩
              | (simp [ivT]; omega)
    · obtain rfl : n = K := by omega
      have hkt : n = t.tiles.toNat := by have := HK.out; omega
      rw [hkt] at hd
      cases q with
      | false =>
        have x5 : wr.cell? ⟨p, 5, none⟩ = some (.int .i64 t.count) := hl.tr.c 5
        have y6 : wr.cell? ⟨p, 6, none⟩ = some (.int .i64 t.stable) := hl.tr.c 6
        have z6 := hl.tr.fz 6
        have HE := Lib.hid (settle_end hl hd hf)
        clear hl hd hf HR hkt
        go_wp2
        go_ret
        exact HE.out
      | true =>
        have x0 : wr.cell? ⟨p, 0, none⟩ = some (.pointer (some ⟨t.dp, 0, none⟩)) := hl.tr.c 0
        have HY := Lib.hid (sync_plain wr hl.dk.dk hl.dk.dead hl.dk.set)
        have HL := Lib.hid hl
        have HD := Lib.hid hd
        have HF := Lib.hid hf
        clear hl hd hf HR hkt
        go_wp2_with fail
        refine HY.out.mono ?_
        rintro e w2 ⟨rfl, h2, h3⟩
        have hl2 : LogAt w2 p bm t bn bo g d'.synced := by
          have hlW := HL.out
          have hk : ∀ k, k < wr.heap.size → Two p bm k → w2.heap[k]? = wr.heap[k]? := fun k hk h => h3.block k hk (fun e => hlW.sep k e h)
          exact ⟨⟨(hk p hlW.tr.lt.1 (Or.inl rfl)).trans hlW.tr.bx, hlW.tr.mp.of_block (hk bm hlW.tr.lt.2 (Or.inr rfl)), hlW.tr.ok, hlW.tr.ne⟩, ⟨h2, hlW.dk.dead, hlW.dk.set, hlW.dk.mv, hlW.dk.mask⟩, hlW.sep, hlW.fit⟩
        have hf2 : Fr w.heap.size (Five p bm t.dp bn bo) w w2 := HF.out.trans h3 HF.out.size (fun x _ h => Or.inr h)
        have hd2 : Done t d d'.synced t.tiles.toNat := ⟨HD.out.tiles, HD.out.own, HD.out.far⟩
        have x5 : w2.cell? ⟨p, 5, none⟩ = some (.int .i64 t.count) := hl2.tr.c 5
        have y6 : w2.cell? ⟨p, 6, none⟩ = some (.int .i64 t.stable) := hl2.tr.c 6
        have z6 := hl2.tr.fz 6
        have HE := Lib.hid (settle_end hl2 hd2 hf2)
        clear h2 h3 hl2 hf2 hd2 HL HD HF HY x0
        go_wp2
        go_ret
        exact HE.out
end Go.Proofs.Ytemmhligohebfaa
