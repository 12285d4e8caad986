/- TrailKeeps: its walk. -/
import Derived.Test.YthhnmpobkekbbaaGreatTrKl
import Derived.Test.YthhnmpobkekbbaaGreatArm
namespace Go.Proofs.YthhnmpobkekbbaaGreat
open Go.RowKit Go.Maps

theorem slk_slb {w : World} {v : Value} {l : List Int} (h : SlK .u8 w v l) (hl : l.length ≤ 1000000) (p : Nat) (hp : w.heap.size ≤ p) : ∃ g, g ≠ p ∧ SlB w v l g ∧ (v = .slice none 0 0 ∨ ∃ a n c, v = .slice (some a) n c) := by
  obtain ⟨q, cap, rfl, hc, hwf, h1, h2⟩ := h
  cases q with
  | none =>
    obtain ⟨rfl, rfl⟩ := h1 rfl
    exact ⟨p + 1, by omega, nil_SlB w _, .inl rfl⟩
  | some a =>
    obtain ⟨h3, h4, h5⟩ := h2 a rfl
    exact ⟨a.block, by omega, ⟨_, _, _, rfl, rfl, hc, hl, (fun e => by cases e), fun a' e _ => by cases e; exact ⟨rfl, h3, h5⟩⟩, .inr ⟨_, _, _, rfl⟩⟩
theorem LogD.app {w w' : World} {p bm bn bo g : Nat} {t t' : Tr} {d : Dk} (h : LogD w p bm t bn bo g d) (ht : TrAt w' p bm t') (hf : Fr w.heap.size (Two p bm) w w') (e1 : t'.dp = t.dp) (e2 : t'.first = t.first) (e3 : t'.tiles = t.tiles) : LogD w' p bm t' bn bo g d :=
  ⟨ht, by rw [e1]; exact disk_on h.dk (fun k hk => hf.block k (lt_three h.dk hk) (fun e => h.sep k hk e)) (fun hg => hf.block g hg h.sepg), by rw [e1]; exact h.sep, h.sepg, by rw [e2, e3]; exact h.fit⟩
theorem Settled.tiles {S : List Int} {first : Int} {K : Nat} {d d' : Dk} {e : Int} (h : Settled S first K d e d') : d'.tiles = d.tiles := by
  rcases h with ⟨n, q, _, h2, _⟩ | ⟨n, q, d1, l', _, h2, _, _, _, h6, _⟩ | ⟨h1, _⟩ | ⟨d1, h1, h2⟩
  · exact h2.tiles
  · exact h6.tiles.trans h2.tiles
  · exact h1.tiles
  · exact h2.tiles.trans h1.tiles
theorem power_at {w : World} {p bn bo g : Nat} {d : Dk} (h : DiskAt w p bn bo g d) : DiskAt (w.setCell ⟨p, 3, none⟩ (.bool false)) p bn bo g { d with dead := false } :=
  h.poke (d' := { d with dead := false }) 3 _ rfl rfl rfl h.mask ⟨h.ok.lo, h.ok.hi, h.ok.now, h.ok.old, h.ok.llo, h.ok.lhi, h.ok.mok⟩
theorem mixed_T {d : Dk} {S0 S : List Int} (h : Mixed d 0 60 S0 S) : ∃ T : Nat → List Int, ∀ k : Nat, k < 60 → d.has ((0 : Int) + k) (T k) ∧ (T k = tileL S k ∨ T k = tileL S0 k) := by
  refine Classical.axiomOfChoice (r := fun k L => k < 60 → d.has ((0 : Int) + (k : Nat)) L ∧ (L = tileL S k ∨ L = tileL S0 k)) fun k => ?_
  by_cases hk : k < 60
  · rcases h k hk with h | h
    · exact ⟨_, fun _ => ⟨h, Or.inl rfl⟩⟩
    · exact ⟨_, fun _ => ⟨h, Or.inr rfl⟩⟩
  · exact ⟨[], fun h => absurd h hk⟩
theorem force3 (w : World) {p bm bn bo g : Nat} {t : Tr} {d : Dk} (h : LogD w p bm t bn bo g d) (hd : d.dead = false) (hset : d.set = false) (h0 : t.stable = t.count → ∀ k : Nat, k < t.tiles.toNat → d.has (t.first + k) (tileL t.S k)) : Calls Tryz.prog 14 #[.pointer (some ⟨p, 0, none⟩)] w fun e w' => e = .returned (.int .i64 0) ∧ ∃ d', DiskAt w' t.dp bn bo g d' ∧ d'.dead = false ∧ d'.set = false ∧ d'.tiles = d.tiles ∧ (∀ k : Nat, k < t.tiles.toNat → d'.has (t.first + k) (tileL t.S k)) ∧ Fr w.heap.size (Five p bm t.dp bn bo) w w' := by
  by_cases hc : t.stable = t.count
  · refine (force_no w h.tr hc).mono fun e w' ⟨h1, h2⟩ => ⟨h1, d, (h.dk.kept fun k hk => h2.block k hk), hd, hset, rfl, h0 hc, below_fr h2⟩
  · refine (force_rel w h hc).mono ?_
    rintro r w' ⟨e, d', rfl, h1, h2, h3⟩
    obtain ⟨rfl, q1, q2, q3⟩ := settled_free h.tr.ok.ok hd hset h1
    rw [if_pos rfl] at h2
    exact ⟨rfl, d', h2.dk, q1, q2, h1.tiles, q3, h3⟩
theorem fresh_says (n first : Int) (K : Nat) : Says (Dk.fresh n) first K [] := by
  have e : ∀ k, tileL [] k = List.replicate 64 0 := fun k => tile_none (by simp)
  refine ⟨fun k _ => by rw [e]; exact fresh_has n _, fun k _ => by rw [e]; exact ⟨(fresh_has n (first + k)).1, (fresh_has n (first + k)).2⟩⟩
end Go.Proofs.YthhnmpobkekbbaaGreat
namespace Go.Proofs.YthhnmpobkekbbaaGreat.trailKeeps
open Go.ChangeShapes Go.WideShapes Go.ChangeAt Go.RowKit Go.Maps
open Go.Proofs.YthhnmpobkekbbaaGreat.trailTwice (SS getD_bd SS_len app_some someE_I someE_S Lst lst_of)

def Fin (w : World) (e : Ending) (w' : World) : Prop := e = .returned (.bool true) ∧ Below w.heap.size w w'
/-- What the disk has at j entries, of which st are stable. -/
def Has (l : List Int) (j st : Nat) (d : Dk) : Prop := (d.dead = false ∧ Says d 0 60 (SS l st)) ∨ (Down d ∧ Mixed d 0 60 (SS l st) (SS l j))
def KR (w : World) (p bm pd bn bo g : Nat) (l : List Int) (w4 : World) (B : Nat) (j : Nat) (st : Nat) (wr : World) : Prop := ∃ d, LogD wr p bm ⟨pd, 0, 60, SS l j, (j : Int), (st : Int)⟩ bn bo g d ∧ st ≤ j ∧ d.tiles = 60 ∧ Has l j st d ∧ Below w.heap.size w wr ∧ Kpt B w4 wr

def KS (w : World) (p bm pd bn bo g : Nat) (S0 : List Int) (c0 : Nat) (l : List Int) (d : Dk) (w4 : World) (B B0 : Nat) (j : Nat) (wr : World) : Prop := LogD wr p bm ⟨pd, 0, 60, S0 ++ SS l j, ((c0 + j : Nat) : Int), (c0 : Int)⟩ bn bo g d ∧ Below w.heap.size w wr ∧ Kpt B w4 wr ∧ ∀ b, B0 ≤ b → b < w4.heap.size → ¬ Two p bm b → wr.heap[b]? = w4.heap[b]?

set_option maxRecDepth 100000 in
set_option maxHeartbeats 8000000 in
theorem walk (w : World) (vl vk vm : Value) (fo : Int) (a8 : Nat) (l mk mo : List Int) (_hfo : 0 ≤ fo ∧ fo < 4294967296) (ha8 : a8 < 256) (hl : SlK .u8 w vl l) (hk : SlK .u8 w vk mk) (hm : SlK .u8 w vm mo) : Calls Tryz.prog 5 #[vl, .int .u32 fo, .int .u8 a8, vk, vm] w (Fin w) := by
  obtain ⟨A0, c0, rfl, hlc⟩ := hl.form
  obtain ⟨A1, c1, rfl, hkc⟩ := hk.form
  obtain ⟨A2, c2, rfl, hmc⟩ := hm.form
  have HL := Lib.hid hl
  have HM := Lib.hid hm
  have HMK := Lib.hid hk
  have HOK := Lib.hid hl.ok
  have HOM := Lib.hid hm.ok
  have HOMK := Lib.hid hk.ok
  have HBG := Lib.hid (begun_any w)
  clear hl hm hk hlc hmc hkc
  go_enter Tryz.func5, Tryz.ntmps5
  go_wp2_with fail
  refine HBG.out.mono ?_
  rintro r9 w1 ⟨rfl, hb1⟩
  have HB1 := Lib.hid hb1
  clear hb1 HBG
  by_cases hall : l.length ≤ 20 ∧ mk.length ≤ 8 ∧ mo.length ≤ 10
  rotate_left
  · by_cases h1 : (20 : Int) < (l.length : Int)
    · clear hall
      go_wp2
      go_ret
      exact ⟨rfl, HB1.out⟩
    · by_cases h2 : (8 : Int) < (mk.length : Int)
      · clear hall
        go_wp2
        go_ret
        exact ⟨rfl, HB1.out⟩
      · have h3 : (10 : Int) < (mo.length : Int) := by omega
        clear hall
        go_wp2
        go_ret
        exact ⟨rfl, HB1.out⟩
  · obtain ⟨l20, k8, m10⟩ := hall
    have h1 : ¬ (20 : Int) < (l.length : Int) := by omega
    have h2 : ¬ (8 : Int) < (mk.length : Int) := by omega
    have h3 : ¬ (10 : Int) < (mo.length : Int) := by omega
    have HN := Lib.hid (new_any w1 60)
    go_wp2_with fail
    refine HN.out.mono ?_
    rintro r9 w2 ⟨rfl, hd2, hb2⟩
    have hs1 := HB1.out.size
    obtain ⟨bn, hbn⟩ : ∃ b, b = w1.heap.size := ⟨_, rfl⟩
    rw [show clampT 60 = 60 from rfl] at hd2
    rw [← hbn] at hd2 ⊢
    have HTH : Hid (∀ k, Three (bn + 1 + 1) bn (bn + 1) k → w.heap.size ≤ k) := fun k hk => by rcases hk with h | h | h <;> omega
    have HO := Lib.hid (topen_rel w2 hd2 (Nat.lt_of_le_of_lt (Nat.zero_le _) (lt_three hd2 (Or.inl rfl))) rfl 0 60 (Int.le_refl _) (by decide) (T := zT) (fun i _ => fresh_has _ _))
    have HDL := Lib.hid (fun k hk => lt_three (k := k) hd2 hk)
    have HB2 := Lib.hid (HB1.out.trans (hb2.mono HB1.out.size))
    clear hd2 hb2 hs1 hbn HN HB1 h1 h2 h3
    obtain ⟨pd, hpd⟩ : ∃ pd, pd = bn + 1 + 1 := ⟨_, rfl⟩
    rw [← hpd] at HO HTH HDL ⊢
    clear hpd
    go_wp2_with fail
    refine HO.out.mono ?_
    rintro r9 w3 ⟨e3, d3, hs3, hc3, hf3⟩
    rw [rd_zT, scan_nil] at hs3
    obtain ⟨rfl, hdd3, hset3, -⟩ := settled_free (by intro x hx; simp at hx) rfl rfl hs3
    have hsy3 : Says d3 0 60 [] := by
      rcases settled_mix (by intro x hx; simp at hx) (fresh_says 60 0 60) rfl hs3 with ⟨_, h, _⟩ | ⟨h, _⟩
      · exact h
      · exact absurd h (by decide)
    rcases hc3 with ⟨_, p, bm, A, c, es, rfl, hp, hbm, hl3, -⟩ | ⟨h, _⟩
    rotate_left
    · exact absurd h (by decide)
    rw [rd_zT, opT_nil] at hl3
    rw [rd_zT]
    have HTW : Hid (∀ k, Two p bm k → w.heap.size ≤ k) := fun k hk => by have := HB2.out.size; rcases hk with h | h <;> omega
    have hb3 := bel_fr HB2.out hf3 HTH.out
    have HSO := Lib.hid (some_any w3 (HL.out.below hb3 (Nat.le_refl _)) (by omega))
    have HLT : Hid (∀ k, (Two p bm k ∨ Three pd bn (bn + 1) k) → k < w3.heap.size) := fun k hk => by
      rcases hk with h | h
      · rcases h with h | h
        · have := hl3.tr.lt.1; omega
        · have := hl3.tr.lt.2; omega
      · exact Nat.lt_of_lt_of_le (HDL.out k h) hf3.size
    have HT3 : Hid (d3.tiles = 60) := hs3.tiles
    have HSY3 := Lib.hid hsy3
    have HDD3 := Lib.hid (And.intro hdd3 hset3)
    have HB3 := Lib.hid hb3
    have HL3 := Lib.hid hl3
    clear hp hbm hl3 hf3 hb3 HO HB2 HDL hs3 hdd3 hset3 hsy3
    go_wp2_with fail
    refine HSO.out.mono ?_
    rintro r9 w4 ⟨v, rfl, hsm⟩
    have hb34 : Below w3.heap.size w3 w4 := by obtain ⟨es, _, _, _, _, hb⟩ := hsm; exact hb
    have hm4 : ∃ A m c, v = .slice A m c ∧ m = l.length := by
      obtain ⟨es, hes, _, ho, _, _⟩ := hsm
      obtain ⟨A, m, c, rfl⟩ := own_shape ho
      exact ⟨A, m, c, rfl, own_n ho⟩
    obtain ⟨Av, mv, cv, rfl, rfl⟩ := hm4
    have hl4 := HL3.out.kept (w' := w4) fun k hk => hb34.block k hk
    have hb4 := HB3.out.trans (hb34.mono HB3.out.size)
    obtain ⟨gs, hgs, hsb0, hz⟩ := slk_slb HMK.out (by omega) pd (HTH.out pd (Or.inl rfl))
    have HSB0 := Lib.hid hsb0
    have hsb : SlB w4 (.slice A1 mk.length c1) mk gs := hsb0.kept fun k hk => hb4.block k hk
    obtain ⟨m1, hm1⟩ : ∃ m1, a8 % 40 = m1 := ⟨_, rfl⟩
    have hm40 : m1 < 40 := by omega
    have ha40 : (a8 : Int) % 40 = (m1 : Int) := by omega
    have HAR := Lib.hid (arm_pos w4 hl4.dk (m1 : Int) (by omega) (by omega) hsb hgs hz HOMK.out)
    have HSM := Lib.hid hsm
    have HS34 := Lib.hid hb34.size
    have HB4 := Lib.hid hb4
    have HL4 := Lib.hid hl4
    clear hb34 hsm HSO HL3 HB3 hl4 hb4 hgs hsb0 hsb hz hm1
    go_wp2_with fail
    refine HAR.out.mono ?_
    rintro r9 w5 ⟨rfl, mv, g, hd5, hg5, hf5⟩
    have hl5 : LogD w5 p bm ⟨pd, 0, 60, [], 0, 0⟩ bn (bn + 1) g (d3.armed m1 mv mk) := by
      have h := HL4.out
      have hk : ∀ k, k < w4.heap.size → Two p bm k → w5.heap[k]? = w4.heap[k]? := fun k hk h2 => hf5.block k hk (fun e => h.sep k e h2)
      refine ⟨⟨(hk p h.tr.lt.1 (Or.inl rfl)).trans h.tr.bx, h.tr.mp.of_block (hk bm h.tr.lt.2 (Or.inr rfl)), h.tr.ok, h.tr.ne⟩, hd5, h.sep, fun h2 => ?_, h.fit⟩
      rcases h2 with h2 | h2
      · have := h.tr.lt.1; omega
      · have := h.tr.lt.2; omega
    have H0 : Hid (KR w p bm pd bn (bn + 1) g l w4 w3.heap.size 0 0 w5) := Lib.hid ⟨_, hl5, Nat.le_refl _, HT3.out, Or.inl ⟨HDD3.out.1, ⟨HSY3.out.has, HSY3.out.had⟩⟩, bel_fr HB4.out hf5 HTH.out, ⟨hf5.size, fun b h1 h2 => hf5.block b h2 (fun e => by have := HLT.out b (.inr e); omega)⟩⟩
    clear hd5 hg5 hf5 hl5 HAR HL4 HB4 HSY3 HDD3 HT3
    go_upto_block 0 with (fail)
    go_cut [16, 17, 18, 19] from 66 to 105 (fun s i n f wx => ∃ j st : Nat, j ≤ l.length ∧ s = .int .i64 st ∧ Hid (KR w p bm pd bn (bn + 1) g l w4 w3.heap.size j st wx))
    case first =>
      go_wp2_with fail
      go_loopw [16, 17] (fun s i wr => ∃ j st : Nat, j ≤ l.length ∧ i = .int .i64 j ∧ s = .int .i64 st ∧ Hid (KR w p bm pd bn (bn + 1) g l w4 w3.heap.size j st wr)) (fun _ i _ => l.length - ivT i)
      case atStart => exact ⟨0, 0, Nat.zero_le _, rfl, rfl, H0⟩
      case round =>
        obtain ⟨j, st, hj, rfl, rfl, HR⟩ := hrel
        obtain ⟨d, hlr, hst, htl, hhas, hb, hk⟩ := HR.out
        clear H0 HR
        have hj20 : (j : Int) ≤ 20 := by omega
        have HLR := Lib.hid hlr
        have HB := Lib.hid hb
        have HK := Lib.hid hk
        have HTL := Lib.hid htl
        have HHAS := Lib.hid hhas
        have HDE := Lib.hid (dead_any wr hlr.dk)
        clear hlr hb hk htl hhas
        by_cases hgo : j < l.length ∧ d.dead = false
        · obtain ⟨hlt, hdd⟩ := hgo
          have hlti : (j : Int) < (l.length : Int) := by omega
          rw [hdd] at HDE
          obtain ⟨gg, cap, es, hv, hlst, -⟩ := lst_of (fun e => by rw [e] at hlt; cases hlt) HSM.out
          injection hv with hv1 hv2 hv3
          subst hv1 hv3
          have hlr2 := hlst.at HK.out
          have hje : j < es.length := by rw [hlst.len]; exact hlt
          have hx := getD_bd HOK.out j
          obtain ⟨x, hxe2⟩ : ∃ x, x = l.getD j 0 := ⟨_, rfl⟩
          rw [← hxe2] at hx
          have hel : (es[j]).1 = someE j x := by rw [hxe2]; exact hlst.el j hje
          have hin := (hlr2.inn es[j] (List.getElem_mem hje)).1
          rw [hel] at hin
          obtain ⟨vn, hvn⟩ : ∃ v, v = (es[j]).2 := ⟨_, rfl⟩
          rw [← hvn] at hin
          have hES := someE_S (j := j) (x := x) hin
          have hcells : ∀ i u, (entC (someE j x) (.slice none 0 0) vn (.slice none 0 0) (.slice none 0 0) (.slice none 0 0) (.slice none 0 0))[i]? = some u → wr.cell? ⟨gg, j * 16 + i, none⟩ = some u := fun i u hu => hlr2.cells j hje i u (by unfold enN; rw [hel, ← hvn, Array.getElem?_toList]; exact hu)
          have HA := Lib.hid (append_any wr HLR.out.tr (someE j x) hES (someE_I j (by omega) x hx))
          have HCE := Lib.hid hcells
          have HXE := Lib.hid hxe2
          have HX := Lib.hid hx
          have HDD := Lib.hid hdd
          have HFIT : Hid ((((SS l j).length + 51 : Nat) : Int) ≤ 63 * (60 : Int)) := by
            have e1 := SS_len HOK.out j (by omega)
            exact Lib.hid (by omega)
          have HZI := Lib.hid (infoEntC (someE j x) (.slice none 0 0) vn (.slice none 0 0) (.slice none 0 0) (.slice none 0 0) (.slice none 0 0))
          clear hlst hlr2 hxe2 hel hin hvn hES hcells hx hje hv2 hdd
          go_upto_region 15 with (go_at_call 22; refine HDE.out.mono ?_; rintro e w6 ⟨rfl, hw⟩; obtain rfl := hw.symm; clear hw)
          go_wp2_with (with_reducible refine wpList_load_at rfl 44 (.tmp 81) rfl gg (j * 16) rfl (entC (someE j x) (.slice none 0 0) vn (.slice none 0 0) (.slice none 0 0) (.slice none 0 0) (.slice none 0 0)) _ HCE.out Tryz.underlying44 rfl HZI.out ?_)
          refine HA.out.mono ?_
          rintro r9 w5 ⟨he, ht5, hf5⟩
          obtain ⟨a1, a2, a3⟩ := app_some (t := ⟨pd, 0, 60, SS l j, (j : Int), (st : Int)⟩) (j := j) (x := x) (by omega) HX.out HFIT.out
          rw [a1, a2] at he
          rw [a3] at ht5
          subst he
          have hl5 := HLR.out.app ht5 hf5 rfl rfl rfl
          have hT : LogD w5 p bm ⟨pd, 0, 60, SS l (j + 1), ((j + 1 : Nat) : Int), (st : Int)⟩ bn (bn + 1) g d := by
            rw [SS, ← HXE.out, show ((j + 1 : Nat) : Int) = (j : Int) + 1 by omega]
            exact hl5
          have HT := Lib.hid hT
          have HB5 := Lib.hid (bel_fr HB.out hf5 HTW.out)
          have HK5 : Hid (Kpt w3.heap.size w4 w5) := HK.out.trans ⟨hf5.size, fun b h1 h2 => hf5.block b h2 (fun e => by have := HLT.out b (.inl e); omega)⟩
          have hsy : Says d 0 60 (SS l st) := by
            rcases HHAS.out with ⟨_, h⟩ | ⟨h, _⟩
            · exact h
            · have := HDD.out; rw [h.1] at this; cases this
          have HSY := Lib.hid hsy
          have HOK5 : Hid (bytesOk (SS l (j + 1))) := Lib.hid hT.tr.ok.ok
          have HFO := Lib.hid (force_rel w5 hT (by show (st : Int) ≠ ((j + 1 : Nat) : Int); omega))
          clear a1 a2 a3 ht5 hf5 hl5 hT HA HCE HLR HB HK hsy HHAS
          go_upto_region 18 with (fail)
          by_cases hbit : bits BinOp.and IntKind.u32 (fo / 2 ^ j) 1 = 1
          · go_wp2_with fail
            refine HFO.out.mono ?_
            rintro r9 w6 ⟨e, d6, rfl, hs6, hl6, hf6⟩
            have HB6 := Lib.hid (bel_fr HB5.out hf6 (fun k hk => by rcases hk with h | h; exact HTW.out k h; exact HTH.out k h))
            have HK6 : Hid (Kpt w3.heap.size w4 w6) := HK5.out.trans ⟨hf6.size, fun b h1 h2 => hf6.block b h2 (fun e => by have := HLT.out b e; omega)⟩
            have ht6 : d6.tiles = 60 := hs6.tiles.trans HTL.out
            rcases settled_mix HOK5.out HSY.out HDD.out hs6 with ⟨rfl, hq1, hq2⟩ | ⟨rfl, hq1, hq2⟩
            · rw [if_pos rfl] at hl6
              have H6 : Hid (KR w p bm pd bn (bn + 1) g l w4 w3.heap.size (j + 1) (j + 1) w6) := Lib.hid ⟨d6, hl6, Nat.le_refl _, ht6, Or.inl ⟨hq2, hq1⟩, HB6.out, HK6.out⟩
              clear hs6 hl6 hf6 ht6 hq1 hq2 HFO HB6 HK6 HB5 HK5 HT HSY HOK5
              go_wp2
              go_roundw
              all_goals first
                | exact ⟨j + 1, j + 1, by omega, by go_num, by go_num, H6⟩
                | (simp [ivT]; omega)
            · rw [if_neg (by decide)] at hl6
              have H6 : Hid (KR w p bm pd bn (bn + 1) g l w4 w3.heap.size (j + 1) st w6) := Lib.hid ⟨d6, hl6, by omega, ht6, Or.inr ⟨hq1, hq2⟩, HB6.out, HK6.out⟩
              clear hs6 hl6 hf6 ht6 hq1 hq2 HFO HB6 HK6 HB5 HK5 HT HSY HOK5
              go_wp2
              go_roundw
              all_goals first
                | exact ⟨j + 1, st, by omega, by go_num, rfl, H6⟩
                | (simp [ivT]; omega)
          · have H6 : Hid (KR w p bm pd bn (bn + 1) g l w4 w3.heap.size (j + 1) st w5) := Lib.hid ⟨d, HT.out, by omega, HTL.out, Or.inl ⟨HDD.out, HSY.out⟩, HB5.out, HK5.out⟩
            clear HFO HB5 HK5 HT HSY HOK5
            go_wp2
            go_roundw
            all_goals first
              | exact ⟨j + 1, st, by omega, by go_num, rfl, H6⟩
              | (simp [ivT]; omega)
        · have hcond : ¬ (j : Int) < (l.length : Int) ∨ d.dead = true := by
            by_cases h1 : j < l.length
            · right
              cases hd : d.dead with
              | true => rfl
              | false => exact absurd ⟨h1, hd⟩ hgo
            · left; omega
          clear hgo
          have HR2 : Hid (KR w p bm pd bn (bn + 1) g l w4 w3.heap.size j st wr) := Lib.hid ⟨d, HLR.out, hst, HTL.out, HHAS.out, HB.out, HK.out⟩
          clear HLR HB HK HTL HHAS
          by_cases hlti : (j : Int) < (l.length : Int)
          · rcases hcond with hc | hc
            · exact absurd hlti hc
            · rw [hc] at HDE
              go_wp2_with (go_at_call 22; refine HDE.out.mono ?_; rintro e w6 ⟨rfl, hw⟩; obtain rfl := hw.symm; clear hw)
              go_meet
              exact ⟨j, st, hj, rfl, HR2⟩
          · clear hcond
            go_wp2_with (fail)
            go_meet
            exact ⟨j, st, hj, rfl, HR2⟩
    case rest =>
      obtain ⟨j, st, hj, rfl, HR⟩ := hcut
      generalize hwc : wc = wr at *
      obtain ⟨d, hlr, hst, htl, hhas, hb, hk⟩ := HR.out
      obtain ⟨dd, hdd⟩ : ∃ b, b = d.dead := ⟨_, rfl⟩
      have HDE := dead_any wr hlr.dk
      rw [← hdd] at HDE
      have HDE := Lib.hid HDE
      have HDD := Lib.hid hdd
      have HDK := Lib.hid hlr.dk
      have HB := Lib.hid hb
      have HK := Lib.hid hk
      have HTL := Lib.hid htl
      have HHAS := Lib.hid hhas
      clear H0 HR hlr hb hk htl hhas hdd hwc
      go_upto_if 108 with (go_at_call 22; refine HDE.out.mono ?_; rintro e w6 ⟨rfl, hw⟩; obtain rfl := hw.symm; clear hw)
      go_cut [] (fun wx => ∃ jj d7, st ≤ jj ∧ jj ≤ l.length ∧ DiskAt wx pd bn (bn + 1) g d7 ∧ Down d7 ∧ Mixed d7 0 60 (SS l st) (SS l jj) ∧ d7.tiles = 60 ∧ Below w.heap.size w wx ∧ Kpt w3.heap.size w4 wx)
      case first =>
        cases dd with
        | true =>
          rcases HHAS.out with ⟨h, _⟩ | ⟨h1, h2⟩
          · have := HDD.out; rw [h] at this; cases this
          · have HF : Hid (∃ jj d7, st ≤ jj ∧ jj ≤ l.length ∧ DiskAt wr pd bn (bn + 1) g d7 ∧ Down d7 ∧ Mixed d7 0 60 (SS l st) (SS l jj) ∧ d7.tiles = 60 ∧ Below w.heap.size w wr ∧ Kpt w3.heap.size w4 wr) := Lib.hid ⟨j, d, hst, hj, HDK.out, h1, h2, HTL.out, HB.out, HK.out⟩
            clear h1 h2 HDE
            go_wp2
            go_meet
            exact HF.out
        | false =>
          rcases HHAS.out with ⟨_, h⟩ | ⟨h1, _⟩
          · have hsm : SlB wr (.slice A1 mk.length c1) mk gs := HSB0.out.kept fun k hk => HB.out.block k hk
            have HC := Lib.hid (crash_to wr HDK.out hsm HOMK.out)
            have HSY := Lib.hid h
            clear h hsm HDE
            go_wp2_with fail
            refine HC.out.mono ?_
            rintro r9 w6 ⟨rfl, d7, hc7, hd7, hf7⟩
            have HF : Hid (∃ jj d7, st ≤ jj ∧ jj ≤ l.length ∧ DiskAt w6 pd bn (bn + 1) g d7 ∧ Down d7 ∧ Mixed d7 0 60 (SS l st) (SS l jj) ∧ d7.tiles = 60 ∧ Below w.heap.size w w6 ∧ Kpt w3.heap.size w4 w6) := Lib.hid ⟨st, d7, Nat.le_refl _, by omega, hd7, hc7.down, crash_says HSY.out hc7, by obtain ⟨_, _, rfl⟩ := hc7; exact HTL.out, bel_fr HB.out hf7 HTH.out, HK.out.trans ⟨hf7.size, fun b h1 h2 => hf7.block b h2 (fun e => by have := HLT.out b (.inr e); omega)⟩⟩
            clear hc7 hd7 hf7 HC
            go_wp2
            go_meet
            exact HF.out
          · have := HDD.out; rw [h1.1] at this; cases this
      case rest =>
        obtain ⟨jj, d7, hjj, hjl, hd7, hdn7, hmx7, ht7, hb7, hk7⟩ := hcut
        generalize hwc : wc = w7 at *
        have HPO := Lib.hid (power_any w7 hd7)
        have hd8 := power_at hd7
        obtain ⟨w8, hw8⟩ : ∃ W, W = w7.setCell ⟨pd, 3, none⟩ (.bool false) := ⟨_, rfl⟩
        rw [← hw8] at HPO hd8
        have hb8 : Below w.heap.size w w8 := by rw [hw8]; exact hb7.setCell (HTH.out pd (Or.inl rfl)) _
        have hk8 : Kpt w3.heap.size w4 w8 := by
          rw [hw8]
          refine hk7.trans ⟨by simp, fun b h1 h2 => setCell_far _ _ _ _ (fun e => ?_)⟩
          have := HLT.out pd (.inr (.inl rfl))
          omega
        obtain ⟨g8, hg8, hd8', -⟩ := disk_low hd8
        obtain ⟨T, hT⟩ := mixed_T hmx7
        obtain ⟨q, hq1, hq2, hsc, hfn, htk⟩ := found HOK.out hjj (by omega) (fun k hk => (hT k hk).2)
        have HO := Lib.hid (topen_rel w8 hd8' hg8 rfl 0 60 (Int.le_refl _) (by show (0 : Int) + ((60 : Nat) : Int) ≤ d7.tiles; rw [ht7]; decide) (T := T) (fun k hk => (hT k hk).1))
        obtain ⟨R, hR⟩ : ∃ R, R = rdL T 60 0 := ⟨_, rfl⟩
        rw [← hR] at HO hsc hfn htk
        have HR := Lib.hid (And.intro hsc (And.intro hfn htk))
        have HB8 := Lib.hid hb8
        have HK8 := Lib.hid hk8
        have HQ := Lib.hid (And.intro hq1 hq2)
        have HS8 : Hid (d7.set = false ∧ d7.tiles = 60) := Lib.hid ⟨hdn7.2.1, ht7⟩
        clear hd8 hd8' hb8 hk8 hT hsc hfn htk hR hw8 hwc hd7 hdn7 hmx7 ht7 hb7 hk7 hg8 HDE HDK HB HK HTL HHAS HDD hst hj HSB0
        go_wp2_with fail
        refine HPO.out.mono ?_
        rintro r9 wz ⟨rfl, hwz⟩
        obtain rfl := hwz.symm
        clear hwz HPO
        go_wp2_with fail
        refine HO.out.mono ?_
        rintro r9 w9 ⟨e9, d9, hs9, hc9, hf9⟩
        rw [HR.out.2.1, HR.out.2.2] at hs9
        have hokq : bytesOk (SS l q) := by
          rw [SS_bsm HOK.out q (by omega)]
          intro x hx
          obtain ⟨b, hb, hx⟩ := List.mem_flatMap.1 hx
          exact frB_ok (by
            unfold BSm at hb
            obtain ⟨en, hen, rfl⟩ := List.mem_map.1 hb
            obtain ⟨i, hi, rfl⟩ := ESm_in hen
            exact entL_okE (by intro y hy; cases hy) (someK_ok _ (getD_bd HOK.out i))) (BSm_ok HOK.out (by omega) b hb).1 x hx
        obtain ⟨rfl, hdd9, hset9, hown9⟩ := settled_free (d := { d7 with dead := false }) hokq rfl HS8.out.1 hs9
        rcases hc9 with ⟨_, p2, bm2, A9, c9, es9, rfl, hp2, hbm2, hl9, hes9, hels9, heo9, heg9⟩ | ⟨h, _⟩
        rotate_left
        · exact absurd h (by decide)
        have hbl : (BSm l q).length = q := by unfold BSm; rw [List.length_map, ESm_len]
        have hln : (scan R).length = q := by rw [HR.out.1, hbl]
        have hop : opT pd 0 60 R = ⟨pd, 0, 60, SS l q, (q : Int), (q : Int)⟩ := by
          unfold opT
          rw [HR.out.2.1, HR.out.2.2, hln]
          rfl
        rw [hop] at hl9

        rw [hln] at hels9 heo9 ⊢
        rw [HR.out.1, BSm_tk HOK.out (by omega)] at hes9
        have hkp9 : Kpt w3.heap.size w4 w9 := HK8.out.trans ⟨hf9.size, fun b h1 h2 => hf9.block b h2 (fun e => by have := HLT.out b (.inr e); omega)⟩
        have hr1 := rowE_els hels9 heg9
        rw [hes9] at hr1
        have HR1 := Lib.hid hr1
        have HW8 : Hid (w3.heap.size ≤ w8.heap.size) := Lib.hid (Nat.le_trans HS34.out HK8.out.size)
        have HK9 := Lib.hid hkp9
        have HB9 := Lib.hid (bel_fr HB8.out hf9 HTH.out)
        have HL9 := Lib.hid hl9
        have HT9 : Hid (d9.tiles = 60) := Lib.hid (hs9.tiles.trans HS8.out.2)
        have HOWN9 : Hid (∀ k : Nat, k < 60 → d9.has ((0 : Int) + k) (tileL (SS l q) k)) := Lib.hid hown9
        have HDS9 : Hid (d9.dead = false ∧ d9.set = false) := Lib.hid ⟨hdd9, hset9⟩
        have HEG9 := Lib.hid (And.intro hels9 (And.intro heo9 heg9))
        have HES9 := Lib.hid hes9
        have HTW2 : Hid (∀ k, Two p2 bm2 k → w.heap.size ≤ k ∧ w8.heap.size ≤ k) := Lib.hid fun k hk => by have := HB8.out.size; rcases hk with h | h <;> omega
        clear hp2 hbm2 hf9 hkp9 hr1 hl9 hown9 hdd9 hset9 hs9 hes9 hels9 heo9 heg9 hbl hln hop hokq HO HB8 HK8 HS8
        go_upto_region 24 with (fail)
        have hq1i : ¬ (q : Int) < (st : Int) := by have := HQ.out.1; omega
        have hq2i : ¬ (l.length : Int) < (q : Int) := by have := HQ.out.2; omega
        have hq20 : q ≤ 20 := by have := HQ.out.2; omega
        go_cut [147] (fun c wx => c = .bool false ∧ Below w9.heap.size w9 wx)
        case first =>
          have hsh : (Av = none ∧ l.length = 0 ∧ cv = 0) ∨ (∃ gg, Av = some ⟨gg, 0, none⟩ ∧ l.length ≤ cv) := by
            obtain ⟨es, _, _, ho, _, _⟩ := HSM.out
            rcases ho.2 with ⟨h1, h2⟩ | ⟨g, cap, cur, h1, _, _, h3, _⟩
            · injection h1 with h1 h2 h3
              exact .inl ⟨h1, h2, h3⟩
            · injection h1 with h1 h2 h3
              exact .inr ⟨g, h1, by rw [h3]; assumption⟩
          rcases hsh with ⟨rfl, hl0, rfl⟩ | ⟨gg, rfl, hcap⟩
          · obtain rfl : q = 0 := by omega
            have HSA := Lib.hid (sames_any w9 HR1.out (rowE_nil w9 none 0) (by rw [ESm_len]; omega) ESm_L)
            clear HR1 HEG9 HES9 HL9 HOWN9 hl0
            go_wp2_with (go_at_call 24; refine HSA.out.mono ?_; rintro e w10 ⟨rfl, hb10⟩; have HB10 := Lib.hid hb10; clear hb10)
            go_meet
            exact ⟨by rw [decide_eq_false (by have := HQ.out.1; omega), decide_eq_false (by omega)]; rfl, HB10.out⟩
          · have hr2 : RowE w9 (.slice (some ⟨gg, 0, none⟩) q cv) (ESm l q) := by
              by_cases hl0 : l = []
              · obtain rfl : q = 0 := by have := hq2i; rw [hl0] at this; simp at this; omega
                exact rowE_nil w9 _ cv
              · obtain ⟨gg', cap, es, hv, hlst, -⟩ := lst_of hl0 HSM.out
                injection hv with hv1 hv2 hv3
                injection hv1 with hv1
                injection hv1 with hv1
                subst hv1 hv3
                exact rowE_pre (hlst.at HK9.out) (by omega)
            have HSA := Lib.hid (sames_any w9 HR1.out hr2 (by rw [ESm_len]; omega) ESm_L)
            have i1 : (q : Int) ≤ (cv : Int) := by omega
            have i2 : q ≤ cv := by omega
            clear HR1 HEG9 HES9 HL9 HOWN9 hr2 hcap
            go_wp2_with (go_at_call 24; refine HSA.out.mono ?_; rintro e w10 ⟨rfl, hb10⟩; have HB10 := Lib.hid hb10; clear hb10)
            go_meet
            exact ⟨rfl, HB10.out⟩
        case rest =>
          obtain ⟨rfl, hb10⟩ := hcut
          generalize hwc : wc = w10 at *
          clear hwc
          have HSO2 := Lib.hid (some_any w10 (HM.out.below (HB9.out.trans (hb10.mono HB9.out.size)) (Nat.le_refl _)) (by omega))
          have HB10 := Lib.hid (HB9.out.trans (hb10.mono HB9.out.size))
          have HL10 := Lib.hid (HL9.out.kept (w' := w10) fun k hk => hb10.block k hk)
          have HEG10 : Hid (Els w10 (.slice A9 q c9) 16 (es9.map enV) ∧ (∀ b, (Value.slice A9 q c9).ownBlock = some b → w8.heap.size ≤ b ∧ ¬ Two p2 bm2 b) ∧ ∀ o ∈ es9, EnG w10 (fun b => w8.heap.size ≤ b ∧ b < w10.heap.size ∧ ¬ Two p2 bm2 b) o) := Lib.hid ⟨HEG9.out.1.at fun _ b _ h => hb10.block b h, HEG9.out.2.1, fun o ho => ((HEG9.out.2.2 o ho).at hb10.size fun b hb => hb10.block b hb.2.1).mono fun b hb => ⟨hb.1, Nat.lt_of_lt_of_le hb.2.1 hb10.size, hb.2.2⟩⟩
          have HS910 : Hid (w9.heap.size ≤ w10.heap.size) := Lib.hid hb10.size
          clear hb10 HL9 HEG9 HR1 hq1i hq2i HSM HK9 HR HB9 HDE
          go_wp2_with fail
          refine HSO2.out.mono ?_
          rintro r9 w11 ⟨vo, rfl, hsm⟩
          have hb11 : Below w10.heap.size w10 w11 := by obtain ⟨es, _, _, _, _, hb⟩ := hsm; exact hb
          have hm11 : ∃ A m c, vo = .slice A m c ∧ m = mo.length := by
            obtain ⟨es, hes, _, ho, _, _⟩ := hsm
            obtain ⟨A, m, c, rfl⟩ := own_shape ho
            exact ⟨A, m, c, rfl, own_n ho⟩
          obtain ⟨Ao, mm, co, rfl, rfl⟩ := hm11
          have HLT2 : Hid (∀ k, (Two p2 bm2 k ∨ Three pd bn (bn + 1) k) → k < w10.heap.size) := Lib.hid fun k hk => by
            rcases hk with h | h
            · rcases h with h | h
              · have := HL10.out.tr.lt.1; omega
              · have := HL10.out.tr.lt.2; omega
            · exact lt_three HL10.out.dk h
          have HX8 : Hid (∀ k, Three pd bn (bn + 1) k → k < w8.heap.size) := Lib.hid fun k hk => by have := HLT.out k (.inr hk); have := HW8.out; omega
          have H0 : Hid (KS w p2 bm2 pd bn (bn + 1) g8 (SS l q) q mo d9 w11 w10.heap.size w8.heap.size 0 w11) := by
            refine Lib.hid ⟨?_, HB10.out.trans (hb11.mono HB10.out.size), ⟨Nat.le_refl _, fun _ _ _ => rfl⟩, fun _ _ _ _ => rfl⟩
            have := HL10.out.kept (w' := w11) fun k hk => hb11.block k hk
            show LogD w11 p2 bm2 ⟨pd, 0, 60, SS l q ++ [], _, _⟩ bn (bn + 1) g8 d9
            rw [List.append_nil]
            exact this
          have HSM2 := Lib.hid hsm
          have HEG11 : Hid (Els w11 (.slice A9 q c9) 16 (es9.map enV) ∧ (∀ b, (Value.slice A9 q c9).ownBlock = some b → w8.heap.size ≤ b ∧ ¬ Two p2 bm2 b) ∧ ∀ o ∈ es9, EnG w11 (fun b => w8.heap.size ≤ b ∧ b < w11.heap.size ∧ ¬ Two p2 bm2 b) o) := Lib.hid ⟨HEG10.out.1.at fun _ b _ h => hb11.block b h, HEG10.out.2.1, fun o ho => ((HEG10.out.2.2 o ho).at hb11.size fun b hb => hb11.block b hb.2.1).mono fun b hb => ⟨hb.1, Nat.lt_of_lt_of_le hb.2.1 hb11.size, hb.2.2⟩⟩
          have HS11 := Lib.hid hb11.size
          clear hb11 hsm HSO2 HL10 HB10 HEG10
          have HTWa : Hid (∀ k, Two p2 bm2 k → w.heap.size ≤ k) := Lib.hid fun k hk => (HTW2.out k hk).1
          go_wp2
          go_loopw [24] (fun i wr => ∃ j : Nat, j ≤ mo.length ∧ i = .int .i64 j ∧ Hid (KS w p2 bm2 pd bn (bn + 1) g8 (SS l q) q mo d9 w11 w10.heap.size w8.heap.size j wr)) (fun i _ => mo.length - ivT i)
          case atStart => exact ⟨0, Nat.zero_le _, rfl, H0⟩
          case round =>
            obtain ⟨j, hj, rfl, HR⟩ := hrel
            obtain ⟨hlr, hb, hk, hkz⟩ := HR.out
            clear H0 HR
            have hj12 : (j : Int) ≤ 12 := by omega
            by_cases hlt : j < mo.length
            · have hlti : (j : Int) < (mo.length : Int) := by omega
              obtain ⟨gg, cap, es, hv, hlst, -⟩ := lst_of (fun e => by rw [e] at hlt; cases hlt) HSM2.out
              injection hv with hv1 hv2 hv3
              subst hv1 hv3
              have hlr2 := hlst.at hk
              have hje : j < es.length := by rw [hlst.len]; exact hlt
              have hx := getD_bd HOM.out j
              obtain ⟨x, hxe2⟩ : ∃ x, x = mo.getD j 0 := ⟨_, rfl⟩
              rw [← hxe2] at hx
              have hel : (es[j]).1 = someE j x := by rw [hxe2]; exact hlst.el j hje
              have hin := (hlr2.inn es[j] (List.getElem_mem hje)).1
              rw [hel] at hin
              obtain ⟨vn, hvn⟩ : ∃ v, v = (es[j]).2 := ⟨_, rfl⟩
              rw [← hvn] at hin
              have hES := someE_S (j := j) (x := x) hin
              have hcells : ∀ i u, (entC (someE j x) (.slice none 0 0) vn (.slice none 0 0) (.slice none 0 0) (.slice none 0 0) (.slice none 0 0))[i]? = some u → wr.cell? ⟨gg, j * 16 + i, none⟩ = some u := fun i u hu => hlr2.cells j hje i u (by unfold enN; rw [hel, ← hvn, Array.getElem?_toList]; exact hu)
              have HA := Lib.hid (append_any wr hlr.tr (someE j x) hES (someE_I j (by omega) x hx))
              have HCE := Lib.hid hcells
              have HXE := Lib.hid hxe2
              have HLR := Lib.hid hlr
              have HB := Lib.hid hb
              have HK := Lib.hid hk
              have HKZ := Lib.hid hkz
              have HX := Lib.hid hx
              have HFIT : Hid ((((SS l q ++ SS mo j).length + 51 : Nat) : Int) ≤ 63 * (60 : Int)) := by
                have e1 := SS_len HOM.out j (by omega)
                have e2 : (SS l q ++ SS mo j).length = (SS l q).length + (SS mo j).length := List.length_append
                have e3 := SS_len HOK.out q (by omega)
                exact Lib.hid (by omega)
              have HZI := Lib.hid (infoEntC (someE j x) (.slice none 0 0) vn (.slice none 0 0) (.slice none 0 0) (.slice none 0 0) (.slice none 0 0))
              clear hlst hlr2 hxe2 hel hin hvn hES hcells hlr hb hk hkz hx hje hv2
              go_wp2_with (with_reducible refine wpList_load_at rfl 44 (.tmp 160) rfl gg (j * 16) rfl (entC (someE j x) (.slice none 0 0) vn (.slice none 0 0) (.slice none 0 0) (.slice none 0 0) (.slice none 0 0)) _ HCE.out Tryz.underlying44 rfl HZI.out ?_)
              refine HA.out.mono ?_
              rintro r9 w12 ⟨he, ht5, hf5⟩
              obtain ⟨a1, a2, a3⟩ := app_some (t := ⟨pd, 0, 60, SS l q ++ SS mo j, ((q + j : Nat) : Int), (q : Int)⟩) (j := j) (x := x) (by omega) HX.out HFIT.out
              rw [a1, a2] at he
              rw [a3] at ht5
              subst he
              have hl5 := HLR.out.app ht5 hf5 rfl rfl rfl
              have hT : KS w p2 bm2 pd bn (bn + 1) g8 (SS l q) q mo d9 w11 w10.heap.size w8.heap.size (j + 1) w12 := by
                refine ⟨?_, bel_fr HB.out hf5 HTWa.out, HK.out.trans ⟨hf5.size, fun b h1 h2 => hf5.block b h2 (fun e => by have := HLT2.out b (.inl e); omega)⟩, fun b h1 h2 h3 => (hf5.block b (Nat.lt_of_lt_of_le h2 HK.out.size) h3).trans (HKZ.out b h1 h2 h3)⟩
                rw [SS, ← HXE.out, ← List.append_assoc, show ((q + (j + 1) : Nat) : Int) = ((q + j : Nat) : Int) + 1 by omega]
                exact hl5
              have HT := Lib.hid hT
              clear a1 a2 a3 ht5 hf5 hl5 hT HA HCE HLR HB HK HKZ
              go_wp2
              go_roundw
              all_goals first
                | exact ⟨j + 1, by omega, by go_num, HT⟩
                | (simp [ivT]; omega)
            · have hlti : ¬ (j : Int) < (mo.length : Int) := by omega
              obtain ejl : j = mo.length := by omega
              have HFO := Lib.hid (force3 wr hlr HDS9.out.1 HDS9.out.2 (fun e k hk => by
                have e1 : j = 0 := by
                  have e2 : (q : Int) = ((q + j : Nat) : Int) := e
                  omega
                rw [e1]
                show d9.has _ (tileL (SS l q ++ []) k)
                rw [List.append_nil]
                exact HOWN9.out k hk))
              have HB := Lib.hid hb
              have HK := Lib.hid hk
              have HKZ := Lib.hid hkz
              have HOKS := Lib.hid hlr.tr.ok.ok
              clear hlr hb hk hkz
              go_wp2_with fail
              refine HFO.out.mono ?_
              rintro r9 w14 ⟨rfl, d14, hd14, hdd14, hset14, ht14, hown14, hf14⟩
              have HB14 := Lib.hid (bel_fr HB.out hf14 (fun k hk => by rcases hk with h | h; exact HTWa.out k h; exact HTH.out k h))
              have HKo14 : Hid (Kpt w10.heap.size w11 w14) := Lib.hid (HK.out.trans ⟨hf14.size, fun b h1 h2 => hf14.block b h2 (fun e => by have := HLT2.out b e; omega)⟩)
              have HZ14 : Hid (∀ b, w8.heap.size ≤ b → b < w11.heap.size → ¬ Two p2 bm2 b → w14.heap[b]? = w11.heap[b]?) := Lib.hid fun b h1 h2 h3 => (hf14.block b (Nat.lt_of_lt_of_le h2 HK.out.size) (fun e => by
                rcases e with e | e
                · exact h3 e
                · have := HX8.out b e; omega)).trans (HKZ.out b h1 h2 h3)
              obtain ⟨g14, hg14, hd14', -⟩ := disk_low hd14
              have hS2len : (SS l q ++ SS mo mo.length).length ≤ 3780 := by
                have e1 := SS_len HOM.out mo.length (by omega)
                have e2 : (SS l q ++ SS mo mo.length).length = (SS l q).length + (SS mo mo.length).length := List.length_append
                have e3 := SS_len HOK.out q (by omega)
                omega
              have hsc2 : scan (SS l q ++ SS mo mo.length) = BSm l q ++ BSm mo mo.length := by
                rw [SS_bsm HOK.out _ (by omega), SS_bsm HOM.out _ (by omega), ← List.flatMap_append]
                exact scan_frs _ (fun b hb => by
                  rcases List.mem_append.1 hb with h | h
                  · exact BSm_ok HOK.out (by omega) b h
                  · exact BSm_ok HOM.out (by omega) b h)
              have hown14' : ∀ k : Nat, k < 60 → d14.has ((0 : Int) + k) (tileL (SS l q ++ SS mo mo.length) k) := by rw [← ejl]; exact hown14
              have hoks : bytesOk (SS l q ++ SS mo mo.length) := by rw [← ejl]; exact HOKS.out
              obtain ⟨S2, hS2⟩ : ∃ S2, SS l q ++ SS mo mo.length = S2 := ⟨_, rfl⟩
              rw [hS2] at hown14' hS2len hsc2 hoks
              have hR : rdL (tileL S2) 60 0 = S2 := by rw [rd_tile _ 60 0 (by omega)]; rfl
              have HO := topen_rel w14 hd14' hg14 hdd14 0 60 (Int.le_refl _) (by rw [ht14, HT9.out]; decide) (T := tileL S2) hown14'
              rw [hR] at HO
              have HO := Lib.hid HO
              have HSC2 := Lib.hid hsc2
              have HD14 : Hid (d14.dead = false ∧ d14.set = false ∧ bytesOk (S2.take (frsN (scan S2)))) := Lib.hid ⟨hdd14, hset14, ok_take hoks _⟩
              clear hR hsc2 hS2 hS2len hown14 hown14' hoks hd14 hd14' hg14 hdd14 hset14 ht14 hf14 HFO HB HK HKZ HOKS HOWN9 HT9 HDS9
              go_wp2_with fail
              refine HO.out.mono ?_
              rintro r9 w15 ⟨e15, d15, hs15, hc15, hf15⟩
              obtain ⟨rfl, -, -, -⟩ := settled_free HD14.out.2.2 HD14.out.1 HD14.out.2.1 hs15
              rcases hc15 with ⟨_, p3, bm3, A3', c3', es3, rfl, -, -, -, hes15, hels15, -, heg15⟩ | ⟨h, _⟩
              rotate_left
              · exact absurd h (by decide)
              have hr1 := rowE_els hels15 heg15
              rw [hes15, HSC2.out, List.map_append, BSm_tk HOK.out (by omega), BSm_tk HOM.out (by omega)] at hr1
              have hln : (BSm l q ++ BSm mo mo.length).length = q + mo.length := by unfold BSm; rw [List.length_append, List.length_map, List.length_map, ESm_len, ESm_len]
              rw [hln] at hr1
              rw [HSC2.out, hln]
              have hko15 : Kpt w10.heap.size w11 w15 := HKo14.out.trans ⟨hf15.size, fun b h1 h2 => hf15.block b h2 (fun e => by have := HLT2.out b (.inr e); omega)⟩
              have hz15 : ∀ b, w8.heap.size ≤ b → b < w11.heap.size → ¬ Two p2 bm2 b → w15.heap[b]? = w11.heap[b]? := fun b h1 h2 h3 => (hf15.block b (Nat.lt_of_lt_of_le h2 HKo14.out.size) (fun e => by have := HX8.out b e; omega)).trans (HZ14.out b h1 h2 h3)
              obtain ⟨e2, x2, k2⟩ := sm6 HSM2.out
              have s2 := k2 w15 hko15
              have s1 : Sr6 w15 (.slice A9 q c9) q es9 := sr6_els (HEG11.out.1.at fun _ b hb hlt => hz15 b (HEG11.out.2.1 b hb).1 hlt (HEG11.out.2.1 b hb).2) (fun o ho => (HEG11.out.2.2 o ho).at hko15.size fun b hb => hz15 b hb.1 hb.2.1 hb.2.2)
              obtain ⟨y1, W1, y2, W2, a1, a2, hrow, hbW⟩ := cat6 w15 s1 s2 (by omega) (by omega)
              rw [HES9.out, x2] at hrow
              have HB15 := bel_fr HB14.out hf15 HTH.out
              have HBW2 := Lib.hid (HB15.trans (hbW.mono HB15.size))
              have HSA := Lib.hid (sames_any W2 (hr1.up hbW) hrow (by rw [List.length_append, ESm_len, ESm_len]; omega) (fun e he => (List.mem_append.1 he).elim (ESm_L e) (ESm_L e)))
              have HA1 := Lib.hid a1
              have HA2 := Lib.hid a2
              clear hr1 hln x2 k2 hko15 hz15 s1 s2 a1 a2 hrow hbW HB15 hf15 hes15 hels15 heg15 hs15 HO HKo14 HB14 HZ14
              go_wp2_with (at_builtin; first | (refine wpList_append_runG _ (by rfl) _ _ _ _ rfl _ _ rfl rfl _ _ (HA1.out _) ?_) | (refine wpList_append_runG _ (by rfl) _ _ _ _ rfl _ _ rfl rfl _ _ (HA2.out _) ?_))
              refine HSA.out.mono ?_
              rintro e w16 ⟨rfl, hb16⟩
              have HB16 := Lib.hid (HBW2.out.trans (hb16.mono HBW2.out.size))
              clear hb16 HSA HBW2
              go_wp2
              go_ret
              exact ⟨rfl, HB16.out⟩
end Go.Proofs.YthhnmpobkekbbaaGreat.trailKeeps
