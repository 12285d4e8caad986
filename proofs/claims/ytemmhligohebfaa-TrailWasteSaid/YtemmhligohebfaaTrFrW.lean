/- TrailFront: its walk. -/
import Derived.Test.YtemmhligohebfaaTrSa
import Derived.Deep.OwnRows
namespace Go.Proofs.Ytemmhligohebfaa.trailFront
open Go.ChangeShapes Go.WideShapes Go.ChangeAt Go.RowKit Go.Maps
open Go.Proofs.Ytemmhligohebfaa.trailTwice (SS getD_bd SS_len app_some someE_I someE_S Lst lst_of)

def Fin (w : World) (e : Ending) (w' : World) : Prop := e = .returned (.bool true) ∧ Below w.heap.size w w'
def zL : List Int := List.replicate 64 0
theorem slk_cells {w : World} {g : Nat} {l : List Int} {t : TypeId} (h : w.heap[g]? = some (.cells (byteV l).toArray t (0, 0))) (hl : bytesOk l) : SlK .u8 w (.slice (some ⟨g, 0, none⟩) l.length l.length) l := by
  have hp : Pt w (.slice (some ⟨g, 0, none⟩) l.length l.length) l := by
    refine ⟨g, 0, l.length, rfl, Nat.le_refl _, (Array.getElem?_eq_some_iff.1 h).1, fun j hj => ?_⟩
    rw [Nat.zero_add, (cell_of h _).1]
    simp [byteV, hj]
  exact hp.slK hl
theorem slb_blk {w : World} {g : Nat} {l : List Int} (h : Blk w g l) (hl : l.length ≤ 1000000) : SlB w (.slice (some ⟨g, 0, none⟩) l.length l.length) l g := by
  refine ⟨_, _, _, rfl, rfl, Nat.le_refl _, hl, ⟨fun e => (by cases e), fun a e hne => ?_⟩⟩
  cases e
  refine ⟨rfl, rfl, fun j hj => ?_⟩
  show w.cell? ⟨g, 0 + j, none⟩ = _
  rw [Nat.zero_add, (cell_of h _).1]
  simp [byteV, hj]
/-- The disk amid the first writes. -/
structure FD (f j : Nat) (T : Int) (d : Dk) : Prop where
  tiles : d.tiles = T
  own : ∀ i : Nat, i < j → d.has i (fillL 64)
  rest : ∀ i : Int, (j : Int) ≤ i → d.has i zL
theorem FD.zero (f : Nat) (T : Int) : FD f 0 T (.fresh T) := ⟨rfl, fun i h => by omega, fun i _ => fresh_has T i⟩
theorem FD.store {f j : Nat} {T : Int} {d : Dk} (h : FD f j T d) : FD f (j + 1) T (d.store j (blkOf (fillL 64))) := by
  refine ⟨h.tiles, fun i hi => Dk.has_store (fillL_len 64) (fillL_ok 64) ?_, fun i hi => Dk.has_store (fillL_len 64) (fillL_ok 64) ?_⟩
  · by_cases e : (i : Int) = (j : Int)
    · rw [if_pos e]
    · rw [if_neg e]; exact h.own i (by omega)
  · rw [if_neg (by omega)]
    exact h.rest i (by omega)
/-- The disk that the log is opened on. -/
structure FE (f : Nat) (T : Int) (d : Dk) : Prop where
  tiles : d.tiles = T
  own : ∀ i : Int, (0 ≤ i ∧ i < f ∨ i = (f : Int) + 32) → d.has i (fillL 64)
  rest : ∀ i : Nat, i < 32 → d.has ((f : Int) + i) zL
theorem FD.last {f : Nat} {T : Int} {d : Dk} (h : FD f f T d) : FE f T (d.store ((f : Int) + 32) (blkOf (fillL 64))) := by
  refine ⟨h.tiles, fun i hi => Dk.has_store (fillL_len 64) (fillL_ok 64) ?_, fun i hi => Dk.has_store (fillL_len 64) (fillL_ok 64) ?_⟩
  · by_cases e : i = (f : Int) + 32
    · rw [if_pos e]
    · rw [if_neg e]
      rcases hi with hi | hi
      · have := h.own i.toNat (by omega)
        rwa [show ((i.toNat : Nat) : Int) = i by omega] at this
      · exact absurd hi e
  · rw [if_neg (by omega)]
    exact h.rest _ (by omega)

/-- Force, and what the tiles have then, whether there was something new or not. -/
theorem force2 (w : World) {p bm bn bo g : Nat} {t : Tr} {d : Dk} (h : LogAt w p bm t bn bo g d) (hD : t.stable = t.count → ∀ k : Nat, k < t.tiles.toNat → d.has (t.first + k) (tileL t.S k)) :
    Calls Try.prog 11 #[.pointer (some ⟨p, 0, none⟩)] w fun e w' => e = .returned (.int .i64 0) ∧ ∃ d', LogAt w' p bm { t with stable := t.count } bn bo g d' ∧ Done t d d' t.tiles.toNat ∧ Fr w.heap.size (Five p bm t.dp bn bo) w w' := by
  by_cases hc : t.stable = t.count
  · refine (force_no w h.tr hc).mono fun e w' ⟨h1, h2⟩ => ⟨h1, d, ?_, ⟨rfl, hD hc, fun _ _ _ h => h⟩, below_fr h2⟩
    rw [tr_same t hc]
    exact h.kept fun k hk => h2.block k hk
  · refine (force_any w h).mono ?_
    rintro e w' ⟨h1, d', h2, h3, h4⟩
    exact ⟨h1, d', h2, h3 hc, h4⟩

def TRel (w : World) (p bm pd bn bo gb f : Nat) (l : List Int) (d : Dk) (w4 : World) (B : Nat) (j : Nat) (wr : World) : Prop := LogAt wr p bm ⟨pd, f, 32, SS l j, (j : Int), 0⟩ bn bo 0 d ∧ Below w.heap.size w wr ∧ Kpt B w4 wr ∧ Blk wr gb (fillL 64)

set_option maxRecDepth 100000 in
set_option maxHeartbeats 4000000 in
theorem walk (w : World) (vl : Value) (l : List Int) (n8 : Nat) (hn8 : n8 < 256) (hl : SlK .u8 w vl l) : Calls Try.prog 5 #[vl, .int .u8 n8] w (Fin w) := by
  obtain ⟨A0, c0, rfl, hlc⟩ := hl.form
  have HL := Lib.hid hl
  have hok := hl.ok
  have HOK := Lib.hid hok
  have HBG := Lib.hid (begun_any w)
  obtain ⟨iu, hiu, hzu, hyu, hxu⟩ := info_parts infoU8
  have HMK := Lib.hid (show iu.bytes * 64 ≤ 281474976710656 by omega)
  clear hl hok
  go_enter Try.func5, Try.ntmps5
  go_wp2_with fail
  refine HBG.out.mono ?_
  rintro r9 w1 ⟨rfl, hb1⟩
  have HB1 := Lib.hid hb1
  clear hb1 HBG
  by_cases h12 : 12 < l.length
  · have h12i : (12 : Int) < (l.length : Int) := by omega
    go_wp2
    go_ret
    exact ⟨rfl, HB1.out⟩
  · have h12i : ¬ (12 : Int) < (l.length : Int) := by omega
    go_upto_region 6 with (fail)
    obtain ⟨f, hf⟩ : ∃ f : Nat, (n8 : Int) % 8 = (f : Int) ∧ f < 8 := ⟨n8 % 8, by omega, by omega⟩
    obtain ⟨hf, hf8⟩ := hf
    rw [hf]
    clear hf
    have HN := Lib.hid (new_any w1 ((f : Int) + 33))
    go_wp2_with fail
    refine HN.out.mono ?_
    rintro r9 w2 ⟨rfl, hd2, hb2⟩
    have hcl : clampT ((f : Int) + 33) = (f : Int) + 33 := by unfold clampT; rw [if_neg (by omega), if_neg (by omega)]
    rw [hcl] at hd2
    have hs1 := HB1.out.size
    obtain ⟨bn, hbn⟩ : ∃ b, b = w1.heap.size := ⟨_, rfl⟩
    rw [← hbn] at hd2 ⊢
    have HTH : Hid (∀ k, Three (bn + 1 + 1) bn (bn + 1) k → w.heap.size ≤ k) := fun k hk => by rcases hk with h | h | h <;> omega
    have HB2 := Lib.hid (HB1.out.trans (hb2.mono HB1.out.size))
    have HD2 := Lib.hid (fresh_dk hd2)
    clear hd2 hb2 hs1 hbn HN HB1 h12i hcl
    obtain ⟨pd, hpd⟩ : ∃ pd, pd = bn + 1 + 1 := ⟨_, rfl⟩
    rw [← hpd] at HD2 HTH ⊢
    clear hpd
    go_upto_region 8 with (at_make; go_loud (refine wpList_make_row _ rfl _ _ 34 rfl 5 iu (.int .u8 0) Try.underlying34 hiu hzu hyu rfl .i64 .i64 64 rfl rfl HMK.out (by decide) ?_))
    obtain ⟨gb, hgb⟩ : ∃ gb, gb = w2.heap.size := ⟨_, rfl⟩
    have hb0 : Blk (w2.alloc (.cells (madeCells #[.int .u8 0] 64) 5)) gb (fillL 0) := by
      rw [hgb]
      have h1 := heap_alloc_new w2 (.cells (madeCells #[.int .u8 0] 64) 5)
      have h2 : madeCells #[.int .u8 0] 64 = (byteV (fillL 0)).toArray := by kernel_rfl
      unfold Blk
      rw [← h2]
      exact h1
    have hal := (Below.refl w2.heap.size w2).alloc (Nat.le_refl _) (.cells (madeCells #[.int .u8 0] 64) 5)
    have HG : Hid (∀ k, Three pd bn (bn + 1) k → k ≠ gb) := fun k hk => by have := HD2.out.lt hk; omega
    have HGW : Hid (w.heap.size ≤ gb) := by rw [hgb]; exact HB2.out.size
    have HF0 : Hid (Blk (w2.alloc (.cells (madeCells #[.int .u8 0] 64) 5)) gb (fillL 0) ∧ DkAt (w2.alloc (.cells (madeCells #[.int .u8 0] 64) 5)) pd bn (bn + 1) 0 (.fresh ((f : Int) + 33)) ∧ Below w.heap.size w (w2.alloc (.cells (madeCells #[.int .u8 0] 64) 5))) :=
      ⟨hb0, HD2.out.on (fun k hk => hal.block k (HD2.out.lt hk)), HB2.out.trans (hal.mono HB2.out.size)⟩
    rw [← hgb]
    generalize w2.alloc (.cells (madeCells #[.int .u8 0] 64) 5) = w3 at *
    clear hb0 hal HD2 HB2 hgb
    go_wp2_with fail
    go_loopw [8] (fun i wr => ∃ j : Nat, j ≤ 64 ∧ i = .int .i64 j ∧ Hid (Blk wr gb (fillL j) ∧ DkAt wr pd bn (bn + 1) 0 (.fresh ((f : Int) + 33)) ∧ Below w.heap.size w wr)) (fun i _ => 64 - ivT i)
    case atStart => exact ⟨0, Nat.zero_le _, rfl, HF0⟩
    case round =>
      obtain ⟨j, hj, rfl, HR⟩ := hrel
      clear HF0
      by_cases hlt : j < 64
      · have hltI : (j : Int) < 64 := by omega
        have hm : (j : Int) % 50 = ((j % 50 : Nat) : Int) := by omega
        have hcell := (cell_of HR.out.1 j).1
        have hfz := (cell_of HR.out.1 j).2
        rw [show (byteV (fillL j)).toArray[j]? = some (.int .u8 ((fillL j).getD j 0)) by simp [byteV, fillL_at j j hlt, List.getD_eq_getElem?_getD]] at hcell
        have HF1 : Hid (Blk (wr.setCell ⟨gb, j, none⟩ (.int .u8 (200 + ((j % 50 : Nat) : Int)))) gb (fillL (j + 1)) ∧ DkAt (wr.setCell ⟨gb, j, none⟩ (.int .u8 (200 + ((j % 50 : Nat) : Int)))) pd bn (bn + 1) 0 (.fresh ((f : Int) + 33)) ∧ Below w.heap.size w (wr.setCell ⟨gb, j, none⟩ (.int .u8 (200 + ((j % 50 : Nat) : Int))))) :=
          ⟨blk_fill HR.out.1 hlt, HR.out.2.1.on (fun k hk => Below.heap_setCell _ _ _ _ (HG.out k hk)), HR.out.2.2.setCell HGW.out _⟩
        obtain ⟨q, hq⟩ : ∃ q : Int, ((j % 50 : Nat) : Int) = q := ⟨_, rfl⟩
        have hq0 : 0 ≤ q ∧ q < 50 := by omega
        obtain ⟨hq0, hq5⟩ := hq0
        rw [hq] at hm HF1
        clear HR hq
        go_wp2_with fail
        go_roundw
        case rel => exact ⟨j + 1, by omega, by go_num, HF1⟩
        case measure => simp [ivT]; omega
      · have hltI : ¬ (j : Int) < 64 := by omega
        have e64 : j = 64 := by omega
        have HF1 : Hid (∃ d, DkAt wr pd bn (bn + 1) 0 d ∧ FD f 0 ((f : Int) + 33) d ∧ Blk wr gb (fillL 64) ∧ Below w.heap.size w wr) := ⟨_, HR.out.2.1, FD.zero f _, e64 ▸ HR.out.1, HR.out.2.2⟩
        clear HR hlt e64
        go_wp2_with fail
        go_loopw [9] (fun i wr => ∃ k : Nat, k ≤ f ∧ i = .int .i64 k ∧ Hid (∃ d, DkAt wr pd bn (bn + 1) 0 d ∧ FD f k ((f : Int) + 33) d ∧ Blk wr gb (fillL 64) ∧ Below w.heap.size w wr)) (fun i _ => f - ivT i)
        case atStart => exact ⟨0, Nat.zero_le _, rfl, HF1⟩
        case round =>
          obtain ⟨k, hk, rfl, HR⟩ := hrel
          clear HF1
          obtain ⟨d, hd, hfd, hbk, hbl⟩ := HR.out
          have HW := Lib.hid (fun i h0 h1 => write_plain wr hd.dk hd.dead i h0 h1 (.slice (some ⟨gb, 0, none⟩) 64 64) (fillL 64) (by have := slb_blk hbk (by rw [fillL_len]; decide); rwa [fillL_len] at this) (fillL_len 64) (fillL_ok 64) hd.set)
          have HD := Lib.hid hd
          have HFD := Lib.hid hfd
          have HBK := Lib.hid hbk
          have HBL := Lib.hid hbl
          have HTI := Lib.hid hfd.tiles
          clear hd hfd hbk hbl HR
          by_cases hlt : k < f
          · have hltI : (k : Int) < (f : Int) := by omega
            go_wp2_with fail
            refine (HW.out k (by omega) (by rw [HTI.out]; omega)).mono ?_
            rintro e w5 ⟨rfl, d5, f5⟩
            have HF2 : Hid (∃ d, DkAt w5 pd bn (bn + 1) 0 d ∧ FD f (k + 1) ((f : Int) + 33) d ∧ Blk w5 gb (fillL 64) ∧ Below w.heap.size w w5) :=
              ⟨_, ⟨d5, HD.out.dead, HD.out.set, HD.out.mv, HD.out.mask⟩, HFD.out.store, (f5.block gb HBK.out.lt (fun e => HG.out _ e rfl)).trans HBK.out, bel_fr HBL.out f5 HTH.out⟩
            clear d5 f5 HD HFD HBK HBL HTI HW
            go_wp2_with fail
            go_roundw
            case rel => exact ⟨k + 1, by omega, by go_num, HF2⟩
            case measure => simp [ivT]; omega
          · have hltI : ¬ (k : Int) < (f : Int) := by omega
            have ek : k = f := by omega
            go_wp2_with fail
            refine (HW.out ((f : Int) + 32) (by omega) (by rw [HTI.out]; omega)).mono ?_
            rintro e w5 ⟨rfl, d5, f5⟩
            rw [ek] at HFD
            have HF2 : Hid (∃ d, DkAt w5 pd bn (bn + 1) 0 d ∧ FE f ((f : Int) + 33) d ∧ Blk w5 gb (fillL 64) ∧ Below w.heap.size w w5) :=
              ⟨_, ⟨d5, HD.out.dead, HD.out.set, HD.out.mv, HD.out.mask⟩, HFD.out.last, (f5.block gb HBK.out.lt (fun e => HG.out _ e rfl)).trans HBK.out, bel_fr HBL.out f5 HTH.out⟩
            clear d5 f5 HD HFD HBK HBL HTI HW
            obtain ⟨d, hd, hfe, hbk, hbl⟩ := HF2.out
            have HO := Lib.hid (topen_any w5 hd f 32 (by omega) (by rw [hfe.tiles]; omega) (T := zT) (fun i hi => hfe.rest i hi))
            have HFE := Lib.hid hfe
            have HBK := Lib.hid hbk
            have HBL := Lib.hid hbl
            have HDL := Lib.hid (fun k hk => hd.lt (k := k) hk)
            clear hd hfe hbk hbl HF2
            go_wp2_with fail
            refine HO.out.mono ?_
            rintro r9 w6 ⟨p, bm, A, c, d6, rfl, hp, hbm, hl6, hdn, hf6⟩
            rw [rd_zT, opT_nil] at hl6 hdn
            have HTW : Hid (∀ k, Two p bm k → w.heap.size ≤ k ∧ k ≠ gb) := fun k hk => by
              have h1 := HBL.out.size
              have h2 := HBK.out.lt
              rcases hk with h | h <;> exact ⟨by omega, by omega⟩
            have hb6 := bel_fr HBL.out hf6 HTH.out
            have HFAR6 : Hid (∀ i : Int, (0 ≤ i ∧ i < f ∨ i = (f : Int) + 32) → d6.has i (fillL 64)) := fun i hi => hdn.far i _ (fun k hk => by show i ≠ (f : Int) + k; omega) (HFE.out.own i hi)
            have HOWN6 : Hid (∀ k : Nat, k < 32 → d6.has ((f : Int) + k) (tileL [] k)) := hdn.own
            have HT6 : Hid (d6.tiles = (f : Int) + 33) := hdn.tiles.trans HFE.out.tiles
            have HBK6 : Hid (Blk w6 gb (fillL 64)) := (hf6.block gb HBK.out.lt (fun e => HG.out _ e rfl)).trans HBK.out
            have HSO := Lib.hid (some_any w6 (HL.out.below hb6 (Nat.le_refl _)) (by omega))
            have HLT : Hid (∀ k, (Two p bm k ∨ Three pd bn (bn + 1) k) → k < w6.heap.size) := fun k hk => by
              rcases hk with h | h
              · rcases h with h | h
                · have := hl6.tr.lt.1; omega
                · have := hl6.tr.lt.2; omega
              · exact Nat.lt_of_lt_of_le (HDL.out k h) hf6.size
            have HB6 := Lib.hid hb6
            have HL6 := Lib.hid hl6
            clear hp hbm hl6 hdn hf6 hb6 HO HFE HBK HBL HDL HL hk hlt ek hltI
            go_wp2_with fail
            refine HSO.out.mono ?_
            rintro r9 w7 ⟨v, rfl, hsm⟩
            have hb67 : Below w6.heap.size w6 w7 := by obtain ⟨es, _, _, _, _, hb⟩ := hsm; exact hb
            have hm7 : ∃ A m c, v = .slice A m c ∧ m = l.length := by
              obtain ⟨es, hes, _, ho, _, _⟩ := hsm
              obtain ⟨A, m, c, rfl⟩ := own_shape ho
              exact ⟨A, m, c, rfl, own_n ho⟩
            obtain ⟨Av, mv, cv, rfl, rfl⟩ := hm7
            have H0 : Hid (TRel w p bm pd bn (bn + 1) gb f l d6 w7 w6.heap.size 0 w7) := Lib.hid ⟨HL6.out.kept (w' := w7) fun k hk => hb67.block k hk, HB6.out.trans (hb67.mono HB6.out.size), ⟨Nat.le_refl _, fun _ _ _ => rfl⟩, (hb67.block gb HBK6.out.lt).trans HBK6.out⟩
            have HSM := Lib.hid hsm
            clear hb67 hsm HSO HL6 HB6 HBK6
            go_wp2
            go_loopw [14] (fun i wr => ∃ j : Nat, j ≤ l.length ∧ i = .int .i64 j ∧ Hid (TRel w p bm pd bn (bn + 1) gb f l d6 w7 w6.heap.size j wr)) (fun i _ => l.length - ivT i)
            case atStart => exact ⟨0, Nat.zero_le _, rfl, H0⟩
            case round =>
              obtain ⟨j, hj, rfl, HR⟩ := hrel
              obtain ⟨hlr, hb, hk, hbk⟩ := HR.out
              clear H0 HR
              have hj12 : (j : Int) ≤ 12 := by omega
              by_cases hlt : j < l.length
              · have hlti : (j : Int) < (l.length : Int) := by omega
                obtain ⟨gg, cap, es, hv, hlst, -⟩ := lst_of (fun e => by rw [e] at hlt; cases hlt) HSM.out
                injection hv with hv1 hv2 hv3
                subst hv1 hv3
                have hlr2 := hlst.at hk
                have hje : j < es.length := by rw [hlst.len]; exact hlt
                have hx := getD_bd HOK.out j
                obtain ⟨x, hxe⟩ : ∃ x, x = l.getD j 0 := ⟨_, rfl⟩
                rw [← hxe] at hx
                have hel : (es[j]).1 = someE j x := by rw [hxe]; exact hlst.el j hje
                have hin := (hlr2.inn es[j] (List.getElem_mem hje)).1
                rw [hel] at hin
                obtain ⟨vn, hvn⟩ : ∃ v, v = (es[j]).2 := ⟨_, rfl⟩
                rw [← hvn] at hin
                have hES := someE_S (j := j) (x := x) hin
                have hcells : ∀ i u, (entC (someE j x) (.slice none 0 0) vn (.slice none 0 0) (.slice none 0 0) (.slice none 0 0) (.slice none 0 0))[i]? = some u → wr.cell? ⟨gg, j * 16 + i, none⟩ = some u := fun i u hu => hlr2.cells j hje i u (by unfold enN; rw [hel, ← hvn]; simpa using hu)
                have HA := Lib.hid (append_any wr hlr.tr (someE j x) hES (someE_I j (by omega) x hx))
                have HCE := Lib.hid hcells
                have HXE := Lib.hid hxe
                have HLR := Lib.hid hlr
                have HB := Lib.hid hb
                have HK := Lib.hid hk
                have HX := Lib.hid hx
                have HBK := Lib.hid hbk
                have HZI := Lib.hid (infoEntC (someE j x) (.slice none 0 0) vn (.slice none 0 0) (.slice none 0 0) (.slice none 0 0) (.slice none 0 0))
                clear hlst hlr2 hxe hel hin hvn hES hcells hlr hb hk hx hje hv2 hbk
                go_wp2_with (with_reducible refine wpList_load_at rfl 40 (.tmp 84) rfl gg (j * 16) rfl (entC (someE j x) (.slice none 0 0) vn (.slice none 0 0) (.slice none 0 0) (.slice none 0 0) (.slice none 0 0)) _ HCE.out Try.underlying40 rfl HZI.out ?_)
                refine HA.out.mono ?_
                rintro r9 w5 ⟨he, ht5, hf5⟩
                obtain ⟨a1, a2, a3⟩ := app_some (t := ⟨pd, f, 32, SS l j, (j : Int), 0⟩) (j := j) (x := x) (by omega) HX.out (by
                  show ((((SS l j).length + 51 : Nat)) : Int) ≤ 63 * 32
                  rw [SS_len HOK.out j (by omega)]
                  omega)
                rw [a1, a2] at he
                rw [a3] at ht5
                subst he
                have hl5 := HLR.out.app ht5 hf5 rfl rfl rfl
                have hT : TRel w p bm pd bn (bn + 1) gb f l d6 w7 w6.heap.size (j + 1) w5 := by
                  refine ⟨?_, bel_fr HB.out hf5 (fun k hk => (HTW.out k hk).1), HK.out.trans ⟨hf5.size, fun b h1 h2 => hf5.block b h2 (fun e => by have := HLT.out b (.inl e); omega)⟩, (hf5.block gb HBK.out.lt (fun e => (HTW.out gb e).2 rfl)).trans HBK.out⟩
                  rw [SS, ← HXE.out, show ((j + 1 : Nat) : Int) = (j : Int) + 1 by omega]
                  exact hl5
                have HT := Lib.hid hT
                clear a1 a2 a3 ht5 hf5 hl5 hT HA HCE HLR HB HK HBK
                go_wp2
                go_roundw
                all_goals first
                  | exact ⟨j + 1, by omega, by go_num, HT⟩
                  | (simp [ivT]; omega)
              · have hlti : ¬ (j : Int) < (l.length : Int) := by omega
                have ejl : j = l.length := by omega
                have HFO := Lib.hid (force2 wr hlr (fun e k hk => by
                  have e1 : j = 0 := by
                    have e2 : (0 : Int) = (j : Int) := e
                    omega
                  rw [e1]
                  exact HOWN6.out k hk))
                have HB := Lib.hid hb
                have HK := Lib.hid hk
                have HBK := Lib.hid hbk
                clear hlr hb hk hbk
                go_wp2_with fail
                refine HFO.out.mono ?_
                rintro r9 w8 ⟨rfl, d8, hl8, hdn8, hf8'⟩
                have HB8 := Lib.hid (bel_fr HB.out hf8' (fun k hk => by rcases hk with h | h; exact (HTW.out k h).1; exact HTH.out k h))
                have HBK8 : Hid (Blk w8 gb (fillL 64)) := (hf8'.block gb HBK.out.lt (fun e => by rcases e with h | h; exact (HTW.out gb h).2 rfl; exact HG.out gb h rfl)).trans HBK.out
                have HK8 := Lib.hid (HK.out.trans ⟨hf8'.size, fun b h1 h2 => hf8'.block b h2 (fun e => by have := HLT.out b e; omega)⟩)
                have HFAR8 : Hid (∀ i : Int, (0 ≤ i ∧ i < f ∨ i = (f : Int) + 32) → d8.has i (fillL 64)) := fun i hi => hdn8.far i _ (fun k hk => by have hk' : k < 32 := hk; show i ≠ (f : Int) + k; omega) (HFAR6.out i hi)
                have HOWN8 : Hid (∀ k : Nat, k < 32 → d8.has ((f : Int) + k) (tileL (SS l l.length) k)) := ejl ▸ hdn8.own
                have HT8 : Hid (d8.tiles = (f : Int) + 33) := hdn8.tiles.trans HT6.out
                have HD8 : Hid (DkAt w8 pd bn (bn + 1) 0 d8) := hl8.dk
                clear hl8 hdn8 hf8' HFO HB HK HBK HFAR6 HOWN6 HT6
                go_wp2
                go_loopw [15] (fun i wr => ∃ k : Nat, k ≤ f + 33 ∧ i = .int .i64 k ∧ Hid (Below w8.heap.size w8 wr)) (fun i _ => f + 33 - ivT i)
                case atStart => exact ⟨0, Nat.zero_le _, rfl, Below.refl _ _⟩
                case round =>
                  obtain ⟨k, hk, rfl, HW⟩ := hrel
                  by_cases hkt : k < f + 33
                  · have hkti : (k : Int) < (f : Int) + 33 := by omega
                    have hdk := HD8.out.on (fun k hk => HW.out.block k (HD8.out.lt hk))
                    obtain ⟨L, hL, hLB⟩ : ∃ L, d8.has (k : Int) L ∧ ((k < f ∨ k = f + 32) → L = fillL 64) := by
                      by_cases h : k < f ∨ k = f + 32
                      · exact ⟨_, HFAR8.out k (by omega), fun _ => rfl⟩
                      · obtain ⟨L, hL⟩ := Dk.has_any d8 hdk.dk.ok (k : Int)
                        exact ⟨L, hL, fun e => absurd e h⟩
                    have HRD := Lib.hid (read_ok wr hdk.dk hdk.dead (k : Int) (by omega) (by rw [HT8.out]; exact hkti) L hL.1 hL.2.1)
                    have hal := (Below.refl wr.heap.size wr).alloc (Nat.le_refl _) (.cells (byteV L).toArray 73)
                    have HX := Lib.hid (slk_cells (heap_alloc_new wr (.cells (byteV L).toArray 73)) hL.2.2)
                    have HBX : Hid (SlK .u8 (wr.alloc (.cells (byteV L).toArray 73)) (.slice (some ⟨gb, 0, none⟩) 64 64) (fillL 64)) := by
                      have h1 := slk_cells (hal.block gb (Nat.lt_of_lt_of_le HBK8.out.lt HW.out.size) |>.trans ((HW.out.block gb HBK8.out.lt).trans HBK8.out)) (fillL_ok 64)
                      rwa [fillL_len] at h1
                    have HW2 := Lib.hid (HW.out.trans (hal.mono HW.out.size))
                    have HLL := Lib.hid hL.2.1
                    have HLB := Lib.hid hLB
                    clear hdk hL hal hLB HW
                    go_wp2_with fail
                    refine HRD.out.mono ?_
                    rintro e w9 ⟨rfl, hw9⟩
                    rw [← hw9] at HX HBX HW2
                    rw [HLL.out] at HX
                    have hcx := conv_slK HX.out
                    have hcb := conv_slK HBX.out
                    clear hw9 HRD HX HBX HLL
                    by_cases h1 : k < f
                    · have h1i : (k : Int) < (f : Int) := by omega
                      rw [HLB.out (.inl h1)] at hcx
                      go_wp2
                      go_roundw
                      case rel => exact ⟨k + 1, by omega, by go_num, HW2⟩
                      case measure => simp [ivT]; omega
                    · have h1i : ¬ (k : Int) < (f : Int) := by omega
                      by_cases h2 : k = f + 32
                      · have h2i : ((k : Int) == (f : Int) + 32) = true := beq_iff_eq.2 (by omega)
                        rw [HLB.out (.inr h2)] at hcx
                        clear h2
                        go_wp2
                        go_roundw
                        case rel => exact ⟨k + 1, by omega, by go_num, HW2⟩
                        case measure => simp [ivT]; omega
                      · have h2i : ((k : Int) == (f : Int) + 32) = false := beq_eq_false_iff_ne.2 (by omega)
                        clear h2 hcx hcb
                        go_wp2
                        go_roundw
                        case rel => exact ⟨k + 1, by omega, by go_num, HW2⟩
                        case measure => simp [ivT]; omega
                  · have hkti : ¬ (k : Int) < (f : Int) + 33 := by omega
                    have hdk := HD8.out.on (fun k hk => HW.out.block k (HD8.out.lt hk))
                    have hSl := SS_len HOK.out l.length (by omega)
                    have hR : rdL (tileL (SS l l.length)) 32 0 = SS l l.length := by rw [rd_tile _ 32 0 (by omega)]; rfl
                    have hsc : scan (SS l l.length) = BSm l l.length := by rw [SS_bsm HOK.out _ (by omega), scan_frs _ (BSm_ok HOK.out (by omega))]
                    have HO := topenE_any wr hdk (f : Int) 32 (by omega) (by rw [HT8.out]; omega) (T := tileL (SS l l.length)) HOWN8.out
                    rw [hR] at HO
                    have HO := Lib.hid HO
                    have HSC := Lib.hid hsc
                    clear hdk hSl hR hsc
                    go_wp2_with fail
                    refine HO.out.mono ?_
                    rintro r9 w9 ⟨p2, bm2, A2, c2, d9, es2, rfl, -, -, -, -, hf9, hes9, hels9, heg9⟩
                    have hW7 := HW.out
                    have hb89 : Kpt w6.heap.size w8 w9 := ⟨Nat.le_trans HW.out.size hf9.size, fun b h1 h2 => (hf9.block b (Nat.lt_of_lt_of_le h2 HW.out.size) (fun e => by have := HLT.out b (.inr e); omega)).trans (HW.out.block b h2)⟩
                    have hkp := HK8.out.trans hb89
                    have hr1 := rowE_els hels9 heg9
                    rw [hes9, HSC.out, BSm_tk HOK.out (by omega)] at hr1
                    have hln : (BSm l l.length).length = l.length := by unfold BSm; rw [List.length_map, ESm_len]
                    have hr2 : RowE w9 (.slice Av l.length cv) (ESm l l.length) := by
                      by_cases hl0 : l = []
                      · subst hl0
                        exact rowE_nil w9 Av cv
                      · obtain ⟨gg, cap, es, hv, hlst, -⟩ := lst_of hl0 HSM.out
                        rw [hv]
                        have h3 := rowE_lst (hlst.at hkp)
                        rw [lst_esm hlst] at h3
                        exact h3
                    have HSA := Lib.hid (sames_any w9 hr1 hr2 (by rw [ESm_len]; omega) ESm_L)
                    have HB9 := Lib.hid (bel_fr (HB8.out.trans (HW.out.mono HB8.out.size)) hf9 HTH.out)
                    rw [hln] at HSA
                    rw [HSC.out, hln]
                    clear hW7 hb89 hkp hr1 hr2 hln hf9 hes9 hels9 heg9 HO
                    go_wp2_with fail
                    refine HSA.out.mono ?_
                    rintro e w10 ⟨rfl, hb10⟩
                    have HB10 := Lib.hid (HB9.out.trans (hb10.mono HB9.out.size))
                    clear hb10 HSA HB9
                    go_wp2
                    go_ret
                    exact ⟨rfl, HB10.out⟩
end Go.Proofs.Ytemmhligohebfaa.trailFront
