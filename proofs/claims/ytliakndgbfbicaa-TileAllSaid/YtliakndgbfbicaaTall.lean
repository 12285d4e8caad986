/- TileAll: the law's walk. -/
import Derived.Test.YtliakndgbfbicaaPair2
import Derived.Test.YtliakndgbfbicaaRow
import Derived.Deep.CutBlock
namespace Go.Proofs.Ytliakndgbfbicaa.tileAll
open Go.ChangeShapes Go.WideShapes Go.ChangeAt Go.RowKit Go.Maps

def MaskOk (W : World) (p0 : Option Addr) (ln cp : Nat) : Prop := ∃ ms gx, SlB W (.slice p0 ln cp) ms gx ∧ bytesOk ms ∧ gx < W.heap.size ∧ (p0 = none → ln = 0 ∧ cp = 0)
/-- Deed number i. -/
def DeedAt (W : World) (b off i : Nat) (kd at_ fl : Int) (sh : Bool) (p0 : Option Addr) (ln cp : Nat) : Prop :=
  W.cell? ⟨b, off + i * 5, none⟩ = some (.int .i64 kd) ∧ W.cell? ⟨b, off + i * 5 + 1, none⟩ = some (.int .i64 at_) ∧ W.cell? ⟨b, off + i * 5 + 2, none⟩ = some (.int .u8 fl) ∧ W.cell? ⟨b, off + i * 5 + 3, none⟩ = some (.bool sh) ∧ W.cell? ⟨b, off + i * 5 + 4, none⟩ = some (.slice p0 ln cp) ∧
  (-9223372036854775808 ≤ kd ∧ kd ≤ 9223372036854775807) ∧ (at_ ≤ 9223372036854775807) ∧ (0 ≤ fl ∧ fl < 256) ∧ ln ≤ cp ∧ (cp : Int) ≤ 9223372036854775807 ∧ (ln ≤ 10 → MaskOk W p0 ln cp)
@[reducible] def DeedO (kd at_ fl : Int) (sh : Bool) (p0 : Option Addr) (ln cp : Nat) : Obj := .cells #[.int .i64 kd, .int .i64 at_, .int .u8 fl, .bool sh, .slice p0 ln cp] 30

theorem fulV_0' : (List.replicate 64 (Value.int .u8 0)).toArray = zcs := rfl
/-- 64 zero bytes, as they are made. -/
theorem row_new (w : World) : RowF (w.alloc (.cells zcs 5)) w.heap.size 5 64 (fun _ => .int .u8 0) :=
  ⟨zcs, heap_alloc_new w _, fun i hi => by
    rw [← fulV_0']
    rw [List.getElem?_toArray, List.getElem?_replicate, if_pos hi]⟩

theorem rowF_eq {W : World} {g k : Nat} {t : TypeId} {f f' : Nat → Value} (h : RowF W g t k f) (he : ∀ j, f j = f' j) : RowF W g t k f' := by
  obtain rfl : f = f' := funext he
  exact h
theorem slB_row {W : World} {g : Nat} {z : Nat → Int} (h : RowF W g 5 64 (fun j => .int .u8 (z j))) (s : Nat) : SlB W (.slice (some ⟨g, s, none⟩) (64 - s) (64 - s)) ((List.range (64 - s)).map (fun j => z (s + j))) g :=
  ⟨_, _, _, rfl, by simp, Nat.le_refl _, by omega, (fun e => by cases e), fun a e _ => by
    cases e
    refine ⟨rfl, rfl, fun j hj => ?_⟩
    simp at hj
    rw [(h.cell (i := s + j) (by omega)).1]
    simp⟩

def Fin (w : World) (e : Ending) (w' : World) : Prop := e = .returned (.bool true) ∧ Below w.heap.size w w'

theorem below_undrew {B : Nat} {w w' : World} (h : Below B w.drew w') : Below B w w' := ⟨h.os, h.tape, h.output, h.size, h.block⟩
macro "below_auto" : tactic => `(tactic| first | exact Below.refl _ _ | exact (Below.refl _ _).drew | exact (Below.refl _ _).drew.drew | exact (Below.refl _ _).drew.drew.drew | exact (Below.refl _ _).drew.drew.drew.drew)
set_option maxRecDepth 100000 in
set_option maxHeartbeats 4000000 in
theorem walk (w : World) (n : Int) (n0 : 0 ≤ n) (n1 : n < 256) (A : Option Addr) (len cap : Nat) (b off : Nat) (hA : 0 < len → A = some ⟨b, off, none⟩) (hb : 0 < len → b < w.heap.size)
    (hd : ∀ i, i < len → ∃ kd at_ fl sh p0 ln cp, DeedAt w b off i kd at_ fl sh p0 ln cp) : Calls Try.prog 3 #[.int .u8 n, .slice A len cap] w (Fin w) := by
  have HD := Lib.hid hd
  have HA := Lib.hid hA
  have HBk := Lib.hid hb
  clear hd hA hb
  go_enter Try.func3, Try.ntmps3
  go_wp2_with fail
  refine (begun_true w).mono ?_
  rintro e w1 ⟨rfl, hb1⟩
  have HB1 := Lib.hid hb1
  clear hb1
  by_cases hlen : 30 < len
  · go_wp2
    go_ret
    exact ⟨rfl, HB1.out⟩
  · go_upto_region 6 with (fail)
    obtain ⟨k, hk⟩ := Int.eq_ofNat_of_zero_le (show 0 ≤ n % 20 by omega)
    have hk20 : k < 20 := by omega
    have hs1 := HB1.out.size
    go_wp2_with fail
    refine (new_pair w1 k (by omega)).mono ?_
    rintro e w2 ⟨p, rfl, hb2, hN⟩
    have HB2 := Lib.hid hb2
    have HN := Lib.hid hN
    clear hb2 hN
    go_wp2_with fail
    refine HN.out.mono ?_
    rintro e w3 ⟨r, rfl, hb3, hI⟩
    have HB3 := Lib.hid (HB2.out.trans hb3)
    have HI := Lib.hid hI
    clear hb3 hI HN HB2 hk
    have hlen30 : len ≤ 30 := by omega
    clear hlen
    go_wp2
    go_loopw [6, 8] (fun dv iv wr => ∃ (i p : Nat), i ≤ len ∧ dv = .pointer (some ⟨p, 0, none⟩) ∧ iv = .int .i64 i ∧ Inv w1.heap.size wr p r ∧ Below w1.heap.size w1 wr) (fun dv iv _ => len - ivN iv)
    case atStart => exact ⟨0, p, by omega, rfl, rfl, HI.out, HB3.out⟩
    case round =>
      obtain ⟨i, p, hi, rfl, rfl, hI, hbr⟩ := hrel
      clear HI HB3
      have HI := Lib.hid hI
      have HBr := Lib.hid hbr
      clear hI hbr
      by_cases hlt : i < len
      · obtain rfl := HA.out (by omega)
        have hbb := HBk.out (by omega)
        obtain ⟨kd, at_, fl, sh, p0, ln, cp, d0, d1, d2, d3, d4, ⟨z1, z2⟩, z3, ⟨z4, z5⟩, z6, z7, hmask⟩ := HD.out i hlt
        have hc : ∀ o v, w.cell? ⟨b, o, none⟩ = some v → wr.cell? ⟨b, o, none⟩ = some v := fun o v hv => (HBr.out.cell (p := ⟨b, o, none⟩) (show b < w1.heap.size by omega)).trans ((HB1.out.cell (p := ⟨b, o, none⟩) hbb).trans hv)
        replace d0 := hc _ _ d0
        replace d1 := hc _ _ d1
        replace d2 := hc _ _ d2
        replace d3 := hc _ _ d3
        replace d4 := hc _ _ d4
        have HMask := Lib.hid hmask
        clear hc hmask
        go_upto_region 11 with (fail)
        have hg := heap_alloc_new wr (DeedO kd at_ fl sh p0 ln cp)
        have hb4 : Below wr.heap.size wr (wr.alloc (DeedO kd at_ fl sh p0 ln cp)) := (Below.refl _ _).alloc (Nat.le_refl _) _
        clear d0 d1 d2 d3 d4
        generalize wr.alloc (DeedO kd at_ fl sh p0 ln cp) = w4 at hg hb4 ⊢
        have hs4 : wr.heap.size < w4.heap.size := (Array.getElem?_eq_some_iff.1 hg).1
        have HB4 := Lib.hid hb4
        have HG := Lib.hid hg
        have hsr := HBr.out.size
        have e3 : w4.cell? ⟨wr.heap.size, 3, none⟩ = some (.bool sh) := (cell_of hg 3).1
        have e4 : w4.cell? ⟨wr.heap.size, 4, none⟩ = some (.slice p0 ln cp) := (cell_of hg 4).1
        clear hg hb4
        by_cases hln : 10 < ln
        · go_wp2_with fail
          go_ret
          exact ⟨rfl, HB1.out.trans ((HBr.out.mono (by omega)).trans (HB4.out.mono (by omega)))⟩
        · have hmk : ∀ W, (Instr.makeSlice 28 (.int .i64 64) (.int .i64 64)).run Try.prog W = .ok (.slice (some ⟨W.heap.size, 0, none⟩) 64 64) (W.alloc (.cells zcs 5)) := fun _ => by kernel_rfl
          go_upto_region 14 with (fail)
          have hrow := row_new w4
          have hb5 : Below w4.heap.size w4 (w4.alloc (.cells zcs 5)) := (Below.refl _ _).alloc (Nat.le_refl _) _
          clear hmk e4
          generalize w4.alloc (.cells zcs 5) = w5 at hrow hb5 ⊢
          have HG5 := Lib.hid ((hb5.block _ hs4).trans HG.out)
          replace e3 := (hb5.cell (p := ⟨wr.heap.size, 3, none⟩) hs4).trans e3
          have HB5 := Lib.hid (HB4.out.trans (hb5.mono (by omega)))
          have HRow := Lib.hid hrow
          clear hrow hb5 HG
          go_upto_if 41 with (fail)
          go_cut [10] (fun u wx => ∃ s : Nat, s ≤ 1 ∧ u = .slice (some ⟨w4.heap.size, s, none⟩) (64 - s) (64 - s) ∧ wx = w5)
          case first =>
            cases sh with
            | true =>
              go_wp2_with fail
              go_meet
              exact ⟨1, by omega, rfl, rfl⟩
            | false =>
              go_wp2_with fail
              go_meet
              exact ⟨0, by omega, rfl, rfl⟩
          case rest =>
            obtain ⟨s, hs1', rfl, rfl⟩ := hcut
            clear e3
            have hgd : wr.heap.size < w4.heap.size := hs4
            generalize hgb : w4.heap.size = gb at *
            generalize hgdd : wr.heap.size = gd at *
            clear hgb hs4
            have HGD := Lib.hid hgdd
            clear hgdd
            have e2 : wc.cell? ⟨gd, 2, none⟩ = some (.int .u8 fl) := (cell_of HG5.out 2).1
            go_wp2_with fail
            go_loopw [11] (fun mv wx => ∃ (m : Nat) (z : Nat → Int), m + s ≤ 64 ∧ mv = .int .i64 m ∧ RowF wx gb 5 64 (fun j => .int .u8 (z j)) ∧ (∀ j, 0 ≤ z j ∧ z j < 256) ∧ wx.heap[gd]? = wc.heap[gd]? ∧ Below gd wr wx) (fun mv _ => 64 - ivN mv)
            case atStart => exact ⟨0, fun _ => 0, by omega, rfl, HRow.out, fun j => by simp, rfl, HB5.out⟩
            case round =>
              obtain ⟨m, z, hm, rfl, hR, hz, hh, hb6⟩ := hrel
              by_cases hms : m + s < 64
              · have HH := Lib.hid hh
                have e2' : wr.cell? ⟨gd, 2, none⟩ = some (.int .u8 fl) := (World.cell?_of_block hh).trans e2
                obtain ⟨q1, q2⟩ := hR.cell hms
                have HRx := Lib.hid hR
                have HZ := Lib.hid hz
                have HB6 := Lib.hid hb6
                clear hh hR hz hb6 e2
                rw [Nat.add_comm] at q1 q2
                go_wp2_with fail
                go_roundw
                case rel =>
                  refine ⟨m + 1, fun j => if j = s + m then (fl + m) % 256 else z j, by omega, by go_num, ?_, ?_, ?_, HB6.out.setCell (p := ⟨gb, s + m, none⟩) (by show gd ≤ gb; omega) _⟩
                  · refine rowF_eq (HRx.out.set (s + m) _) (fun j => ?_)
                    unfold updN
                    show _ = Value.int .u8 (if j = s + m then (fl + m) % 256 else z j)
                    split <;> rfl
                  · intro j
                    have := HZ.out j
                    show 0 ≤ (if j = s + m then (fl + m) % 256 else z j) ∧ (if j = s + m then (fl + m) % 256 else z j) < 256
                    split
                    · omega
                    · exact this
                  · exact (Below.heap_setCell _ _ _ _ (by show gd ≠ gb; omega)).trans HH.out
                case measure => simp only [ivN]; omega
              · have hln' : ln ≤ 10 := by omega
                clear e2
                obtain ⟨ms, gx, hsm, hokm, hgx, hnil⟩ := HMask.out hln'
                obtain ⟨bn, bo, g, gn, gw, gt, gm, vn, vw, vt, d, f, hP⟩ := HI.out
                have hsz := hb6.size
                rw [HGD.out] at hsz
                have hlt3 := hP.dk.lt
                have hrs := hP.size
                rw [HGD.out] at hlt3 hrs
                have hB := HB1.out.size
                have h3d : ¬ Three p bn bo gd := by rintro (e | e | e) <;> omega
                have h3b : ¬ Three p bn bo gb := by rintro (e | e | e) <;> omega
                have hm3 : ¬ Three p bn bo gx := fun e => by have := hP.three gx e; omega
                have hm4 : ¬ Four r gn gw gt gx := fun e => by have := hP.four gx e; omega
                have hsl : SlB wr (.slice (some ⟨gb, s, none⟩) (64 - s) (64 - s)) ((List.range (64 - s)).map (fun j => z (s + j))) gb := slB_row hR s
                have hbo : bytesOk ((List.range (64 - s)).map (fun j => z (s + j))) := by
                  intro x hx
                  obtain ⟨j, _, rfl⟩ := List.mem_map.1 hx
                  exact hz _
                have HP := Lib.hid (hP.grow (HGD.out ▸ hb6))
                have hfw : Below w.heap.size w wr := HB1.out.trans ((HBr.out.mono hs1).trans (hb6.mono (by omega)))
                have HM := Lib.hid (hsm.kept hfw.block)
                have HFw := Lib.hid (HBr.out.trans (hb6.mono hsr))
                have HSl := Lib.hid hsl
                have HBo := Lib.hid hbo
                have HG6 := Lib.hid (hh.trans HG5.out)
                have e0 : wr.cell? ⟨gd, 0, none⟩ = some (.int .i64 kd) := (cell_of HG6.out 0).1
                have hs6 : w1.heap.size ≤ wr.heap.size := HFw.out.size
                have hgs : gd < wr.heap.size := (Array.getElem?_eq_some_iff.1 HG6.out).1
                clear hsm hP hh hb6 hsl hbo hR hz hfw HG5 HRow HB5 HB4 HBr HI HMask HD HBk HA hm
                clear HGD
                go_upto_region 20 with (fail)
                go_cut [62] (fun q wx => ∃ q' : Int, 0 ≤ q' ∧ q' < 9 ∧ q = .int .i64 q' ∧ wx = wr)
                case first =>
                  go_wp2_with fail
                  go_meet
                  have y1 := Int.lt_tmod_of_pos kd (show (0:Int) < 9 by omega)
                  have y2 := Int.tmod_lt_of_pos kd (show (0:Int) < 9 by omega)
                  have y3 : wrap64 (kd.tmod 9 + 9) = kd.tmod 9 + 9 := by unfold wrap64; omega
                  refine ⟨_, ?_, ?_, rfl, rfl⟩
                  · rw [y3]; exact Int.tmod_nonneg 9 (by omega)
                  · exact Int.tmod_lt_of_pos _ (by omega)
                case rest =>
                  obtain ⟨q', hq0, hq9, rfl, rfl⟩ := hcut
                  clear e0
                  have hgr : gb ≠ r := by omega
                  have hat : -9223372036854775808 ≤ at_ ∨ True := Or.inr trivial
                  clear hat
                  go_upto_block 4 with (fail)
                  go_cut [6] (fun pv wx => ∃ p', pv = .pointer (some ⟨p', 0, none⟩) ∧ Inv w1.heap.size wx p' r ∧ Below w1.heap.size w1 wx)
                  case first =>
                    have e1 := (show wc.cell? ⟨gd, 1, none⟩ = some (.int .i64 at_) from (cell_of HG6.out 1).1)
                    have e4 := (show wc.cell? ⟨gd, 4, none⟩ = some (.slice p0 ln cp) from (cell_of HG6.out 4).1)
                    have fin : ∀ (W1 W2 : World), Below w1.heap.size w1 W1 → Fr W1.heap.size (Three p bn bo) W1 W2 → w1.heap.size ≤ W1.heap.size → Below w1.heap.size w1 W2 := fun _ _ h1 h2 h3 => h1.trans (below_of_fr h2 HP.out.three h3)
                    by_cases hq4 : q' < 4
                    · have HW := Lib.hid (fun V (hV : Below wc.heap.size wc V) => write_pair (HP.out.grow hV) (Nat.le_trans hs6 hV.size) at_ (HSl.out.kept hV.block) HBo.out h3b hgr)
                      have HFin := Lib.hid fin
                      clear e4 fin
                      rcases (show q' = 0 ∨ q' = 1 ∨ q' = 2 ∨ q' = 3 by omega) with rfl | rfl | rfl | rfl <;> (
                        go_upto_region 29 with (fail)
                        go_region_with (first
                          | (go_at_call 7; refine (HW.out _ (by below_auto)).mono ?_; rintro e w7 ⟨er, rfl, hf7, hC⟩; have c7 := (World.cell?_of_block (hf7.block gd hgs h3d)).trans e1; have HC := Lib.hid hC; have HF7 := Lib.hid hf7; clear hC hf7)
                          | (go_at_call 8; refine (HC.out _ (by below_auto)).mono ?_; rintro e w8 ⟨rfl, hb8, hI8⟩; have HB8 := Lib.hid hb8; have HI8 := Lib.hid hI8; clear hb8 hI8))
                        all_goals (go_wp2_with fail; go_meet; exact ⟨p, rfl, HI8.out, (HFin.out _ _ (by first | exact HFw.out | exact HFw.out.drew | exact HFw.out.drew.drew | exact HFw.out.drew.drew.drew) HF7.out hs6).trans (by first | exact HB8.out | exact below_undrew HB8.out)⟩))
                    · have HFin := Lib.hid fin
                      clear fin
                      rcases (show q' = 4 ∨ q' = 5 ∨ q' = 6 ∨ q' = 7 ∨ q' = 8 by omega) with rfl | rfl | rfl | rfl | rfl
                      · clear e1 e4
                        go_wp2_with fail
                        refine (sync_pair HP.out hs6).mono ?_
                        rintro e w7 ⟨er, rfl, hb7, hC⟩
                        go_wp2_with fail
                        refine hC.mono ?_
                        rintro e w8 ⟨rfl, hb8, hI8⟩
                        clear hC
                        have HI8 := Lib.hid hI8
                        clear hI8
                        go_wp2_with fail
                        go_meet
                        exact ⟨p, rfl, HI8.out, HFw.out.trans (hb7.trans hb8)⟩
                      · clear e1
                        go_wp2_with fail
                        refine (crash_pair HP.out hs6 HM.out hokm hm3 hm4).mono ?_
                        rintro e w7 ⟨rfl, hf7, hC⟩
                        have c7 := (World.cell?_of_block (hf7.block gd hgs h3d)).trans e4
                        have HC := Lib.hid hC
                        have HF7 := Lib.hid hf7
                        clear hC hf7 e4
                        go_wp2_with fail
                        refine HC.out.mono ?_
                        rintro e w8 ⟨rfl, hb8, hI8⟩
                        have HI8 := Lib.hid hI8
                        clear hI8
                        go_wp2_with fail
                        go_meet
                        exact ⟨p, rfl, HI8.out, (HFin.out _ _ HFw.out HF7.out hs6).trans hb8⟩
                      · go_wp2_with fail
                        refine (arm_pair HP.out hs6 at_ z3 HM.out hokm hnil hm3).mono ?_
                        rintro e w7 ⟨rfl, hf7, hC⟩
                        have c7 := (World.cell?_of_block (hf7.block gd hgs h3d)).trans e4
                        have c7' := (World.cell?_of_block (hf7.block gd hgs h3d)).trans e1
                        have HC := Lib.hid hC
                        have HF7 := Lib.hid hf7
                        clear hC hf7 e4 e1
                        go_wp2_with fail
                        refine HC.out.mono ?_
                        rintro e w8 ⟨rfl, hb8, hI8⟩
                        have HI8 := Lib.hid hI8
                        clear hI8
                        go_wp2_with fail
                        go_meet
                        exact ⟨p, rfl, HI8.out, (HFin.out _ _ HFw.out HF7.out hs6).trans hb8⟩
                      · clear e1 e4
                        obtain ⟨pi1, pi2⟩ := power_inv HP.out
                        have HPI := Lib.hid pi1
                        have hpr : p ≠ r := fun e => (HP.out.ap p (Or.inl rfl)).1 (Or.inl e)
                        have r3 := (HP.out.rf' (fr_poke wc.heap.size p (Three p bn bo) (Or.inl rfl) wc 3 (.bool false))).c3
                        have r3f := (HP.out.rf' (fr_poke wc.heap.size p (Three p bn bo) (Or.inl rfl) wc 3 (.bool false))).fz 3
                        have HPJ := Lib.hid pi2
                        clear pi1 pi2
                        go_wp2_with fail
                        refine (power_any wc HP.out.dk).mono ?_
                        rintro e w7 ⟨rfl, rfl⟩
                        go_wp2_with fail
                        go_meet
                        exact ⟨p, rfl, HPI.out, HFw.out.trans HPJ.out⟩
                      · clear e1 e4
                        have hmk : ∀ W, (Instr.makeSlice 28 (.int .i64 64) (.int .i64 64)).run Try.prog W = .ok (.slice (some ⟨W.heap.size, 0, none⟩) 64 64) (W.alloc (.cells zcs 5)) := fun _ => by kernel_rfl
                        go_wp2_with fail
                        refine (copy_pair HP.out hs6).mono ?_
                        rintro e w7 ⟨p', rfl, hb7, hC⟩
                        have hsl7 := slB_row (row_new w7) 0
                        have hb7' : Below w7.heap.size w7 (w7.alloc (.cells zcs 5)) := (Below.refl _ _).alloc (Nat.le_refl _) _
                        have HC := Lib.hid (hC _ hb7' _ _ _ _ _ hsl7 (by intro x hx; obtain ⟨j, _, rfl⟩ := List.mem_map.1 hx; omega))
                        have HS7 := Lib.hid hb7.size
                        have HB7 := Lib.hid (hb7.trans (hb7'.mono (Nat.le_trans hs6 hb7.size)))
                        clear hC hsl7 hb7 hb7'
                        go_wp2_with fail
                        refine HC.out.mono ?_
                        rintro e w8 ⟨er, rfl, hb8, hC8⟩
                        have HC8 := Lib.hid hC8
                        have HB8 := Lib.hid (HB7.out.trans hb8)
                        clear hC8 hb8 HC
                        go_wp2_with fail
                        refine HC8.out.mono ?_
                        rintro e w9 ⟨rfl, hb9, hI9⟩
                        have HI9 := Lib.hid hI9
                        have HB9 := Lib.hid (HB8.out.trans hb9)
                        clear hI9 hb9 HC8
                        go_wp2_with fail
                        go_meet
                        exact ⟨p', rfl, HI9.out, HFw.out.trans HB9.out⟩
                  case rest =>
                    obtain ⟨p', rfl, hI, hbw⟩ := hcut
                    clear HP HM HSl HBo HG6 HFw
                    obtain ⟨bn', bo', g', gn', gw', gt', gm', vn', vw', vt', d', f', hP'⟩ := hI
                    have HP' := Lib.hid hP'
                    have HBw := Lib.hid hbw
                    clear hP' hbw
                    go_wp2_with fail
                    refine (same_true HP'.out.dk HP'.out.rf HP'.out.like).mono ?_
                    rintro e w9 ⟨rfl, hb9⟩
                    have HB9 := Lib.hid hb9
                    clear hb9
                    go_wp2_with fail
                    go_roundw
                    case rel => exact ⟨i + 1, p', by omega, rfl, by go_num, (HP'.out.grow HB9.out).inv, HBw.out.trans (HB9.out.mono HBw.out.size)⟩
                    case measure => simp only [ivN]; omega
      · clear HI
        go_wp2_with fail
        go_ret
        exact ⟨rfl, HB1.out.trans (HBr.out.mono hs1)⟩
end Go.Proofs.Ytliakndgbfbicaa.tileAll
