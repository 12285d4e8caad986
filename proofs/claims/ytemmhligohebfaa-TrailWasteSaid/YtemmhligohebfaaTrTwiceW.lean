/- TrailTwice: its walk. -/
import Derived.Test.YtemmhligohebfaaTrSm
import Derived.Test.YtemmhligohebfaaLoadAt
import Derived.Test.YtemmhligohebfaaArm
namespace Go.Proofs.Ytemmhligohebfaa.trailTwice
open Go.ChangeShapes Go.WideShapes Go.ChangeAt Go.RowKit Go.Maps

def Fin (w : World) (e : Ending) (w' : World) : Prop := e = .returned (.bool true) ∧ Below w.heap.size w w'
def SS (l : List Int) : Nat → List Int
  | 0 => []
  | j + 1 => SS l j ++ frL (someE j (l.getD j 0))
theorem getD_bd {l : List Int} (h : bytesOk l) (j : Nat) : 0 ≤ l.getD j 0 ∧ l.getD j 0 < 256 := by
  by_cases hj : j < l.length
  · have := h l[j] (List.getElem_mem hj)
    simpa [List.getD_eq_getElem?_getD, hj] using this
  · rw [List.getD_eq_getElem?_getD, List.getElem?_eq_none (by omega)]
    decide
theorem frL_some (j : Nat) (hj : j < 100) (x : Int) (hx : 0 ≤ x ∧ x < 256) : (frL (someE j x)).length = 51 := by
  rw [frL_yes (someE_B j hj x hx), frB_len, someE_len j x hx]
theorem SS_len {l : List Int} (h : bytesOk l) : ∀ j, j ≤ 50 → (SS l j).length = 51 * j
  | 0, _ => rfl
  | j + 1, hj => by rw [SS, List.length_append, SS_len h j (by omega), frL_some j (by omega) _ (getD_bd h j)]; omega
theorem app_some {t : Tr} {j : Nat} (hj : j < 100) {x : Int} (hx : 0 ≤ x ∧ x < 256) (h : ((t.S.length + 51 : Nat) : Int) ≤ 63 * t.tiles) : apE t (someE j x) = 0 ∧ apN t (someE j x) = t.count + 1 ∧ apT t (someE j x) = { t with S := t.S ++ frL (someE j x), count := t.count + 1 } := by
  have e1 : apE t (someE j x) = 0 := by
    unfold apE
    rw [if_neg (by rw [someE_B j hj x hx]; decide), if_neg (by rw [frL_some j hj x hx]; omega)]
  exact ⟨e1, by unfold apN; rw [e1]; rfl, by unfold apT; rw [e1]; rfl⟩
theorem someE_I (j : Nat) (hj : j < 100) (x : Int) (_ : 0 ≤ x ∧ x < 256) : EntI (someE j x) := by
  have z : I64 0 := ⟨by decide, by decide⟩
  exact ⟨⟨by show _ ≤ 1 + x % 9; omega, by show 1 + x % 9 ≤ _; omega⟩, ⟨by show _ ≤ x % 7; omega, by show x % 7 ≤ _; omega⟩, z, z, ⟨by show _ ≤ (j : Int); omega, by show (j : Int) ≤ _; omega⟩, z, ⟨by show _ ≤ x % 32; omega, by show x % 32 ≤ _; omega⟩, ⟨by show _ ≤ x % 4; omega, by show x % 4 ≤ _; omega⟩, z, z, (fun m hm => by cases hm), (fun m hm => by cases hm), (fun m hm => by cases hm), (fun m hm => by cases hm)⟩
theorem someE_S {w : World} {j : Nat} {x : Int} {v : Value} (h : SlK .u8 w v (someK x)) : EntS w (.slice none 0 0) v (.slice none 0 0) (.slice none 0 0) (.slice none 0 0) (.slice none 0 0) (someE j x) := by
  have h0 := (ent0_F w 0).entS
  exact ⟨h0.old, h, h0.moves, h0.lives, h0.dirty, h0.opens⟩

/-- The entries of Some, in any world that keeps what lies from block B on. -/
structure Lst (B : Nat) (l : List Int) (g cap : Nat) (es : List (Ent × Value)) (w : World) : Prop where
  len : es.length = l.length
  el : ∀ k (h : k < es.length), (es[k]).1 = someE k (l.getD k 0)
  cells : ∀ i (h : i < es.length) j v, (enN es[i])[j]? = some v → w.cell? ⟨g, i * 16 + j, none⟩ = some v
  inn : ∀ o ∈ es, SlF w B o.2 o.1.new
  gB : B ≤ g
theorem Lst.at {B g cap : Nat} {l : List Int} {es : List (Ent × Value)} {w w' : World} (h : Lst B l g cap es w) (hk : Kpt B w w') : Lst B l g cap es w' := by
  refine ⟨h.len, h.el, fun i hi j v hv => ?_, fun o ho => (h.inn o ho).at hk, h.gB⟩
  have hc := h.cells i hi j v hv
  exact (World.cell?_of_block (hk.block g h.gB (block_lt_of_cell hc))).trans hc
theorem lst_of {w w' : World} {l : List Int} {v : Value} (hl : l ≠ []) (h : SmRel w l l.length v w') : ∃ g cap es, v = .slice (some ⟨g, 0, none⟩) l.length cap ∧ Lst w.heap.size l g cap es w' ∧ Below w.heap.size w w' := by
  obtain ⟨es, hes, hel, ho, hin, hb⟩ := h
  have hpos : 0 < l.length := List.length_pos_iff.2 hl
  obtain ⟨h1, ⟨_, h0⟩ | ⟨g, cap, cur, rfl, hB, hg, hle, hm, hsz, htake⟩⟩ := ho
  · omega
  · refine ⟨g, cap, es, rfl, ⟨hes, hel, fun i hi j u hu => ?_, fun o ho => ⟨(hin o ho).1, fun b hb => ((hin o ho).2 b hb).1⟩, hB⟩, hb⟩
    have hj : j < 16 := by
      have := (List.getElem?_eq_some_iff.1 hu).1
      rwa [enN_len] at this
    have e1 : (es.flatMap enN)[i * 16 + j]? = some u := by
      rw [flat_at (f := enN) (fun x => enN_len x) es i j hi hj, List.getElem?_map, List.getElem?_eq_getElem hi]
      exact hu
    rw [← htake, List.getElem?_take] at e1
    split at e1
    · rw [(cell_of hg _).1]
      simpa using e1
    · cases e1

def TRel (w : World) (p bm pd bn bo : Nat) (l : List Int) (d : Dk) (w4 : World) (B : Nat) (j : Nat) (wr : World) : Prop := LogAt wr p bm ⟨pd, 0, 40, SS l j, (j : Int), 0⟩ bn bo 0 d ∧ Below w.heap.size w wr ∧ Kpt B w4 wr

set_option maxRecDepth 100000 in
set_option maxHeartbeats 2000000 in
theorem walk (w : World) (vl : Value) (l : List Int) (hl : SlK .u8 w vl l) : Calls Try.prog 4 #[vl] w (Fin w) := by
  obtain ⟨A0, c0, rfl, hlc⟩ := hl.form
  have HL := Lib.hid hl
  have hok := hl.ok
  have HOK := Lib.hid hok
  have HBG := Lib.hid (begun_any w)
  clear hl hok
  go_enter Try.func4, Try.ntmps4
  go_wp2_with fail
  refine HBG.out.mono ?_
  rintro r9 w1 ⟨rfl, hb1⟩
  have HB1 := Lib.hid hb1
  clear hb1 HBG
  by_cases h12 : 12 < l.length
  · have h12i : (12 : Int) < (l.length : Int) := by omega
    go_wp2
    go_ret
    exact ⟨rfl, HB1.out⟩
  · have h12i : ¬ (12 : Int) < (l.length : Int) := by omega
    have HN := Lib.hid (new_any w1 40)
    go_wp2_with fail
    refine HN.out.mono ?_
    rintro r9 w2 ⟨rfl, hd2, hb2⟩
    have hs1 := HB1.out.size
    obtain ⟨bn, hbn⟩ : ∃ b, b = w1.heap.size := ⟨_, rfl⟩
    rw [show clampT 40 = 40 from rfl] at hd2
    rw [← hbn] at hd2 ⊢
    have hthree : ∀ k, Three (bn + 1 + 1) bn (bn + 1) k → w.heap.size ≤ k := fun k hk => by rcases hk with h | h | h <;> omega
    have HTH := Lib.hid hthree
    have HO := Lib.hid (topen_any w2 (fresh_dk hd2) 0 40 (Int.le_refl _) (by decide) (T := zT) (fun i _ => fresh_has _ _))
    have HB2 := Lib.hid (HB1.out.trans (hb2.mono HB1.out.size))
    clear hd2 hb2 hthree hs1 hbn HN HB1 h12i
    obtain ⟨pd, hpd⟩ : ∃ pd, pd = bn + 1 + 1 := ⟨_, rfl⟩
    rw [← hpd] at HO HTH ⊢
    clear hpd
    go_wp2_with fail
    refine HO.out.mono ?_
    rintro r9 w3 ⟨p, bm, A, c, d3, rfl, hp, hbm, hl3, -, hf3⟩
    rw [rd_zT, opT_nil] at hl3
    have htwo : ∀ k, Two p bm k → w.heap.size ≤ k := fun k hk => by have := HB2.out.size; rcases hk with h | h <;> omega
    have HTW := Lib.hid htwo
    have hb3 := bel_fr HB2.out hf3 HTH.out
    have HSO := Lib.hid (some_any w3 (HL.out.below hb3 (Nat.le_refl _)) (by omega))
    have HB3 := Lib.hid hb3
    have HL3 := Lib.hid hl3
    clear hp hbm hl3 hf3 htwo hb3 HO HB2 HL
    go_wp2_with fail
    refine HSO.out.mono ?_
    rintro r9 w4 ⟨v, rfl, hsm⟩
    have hb34 : Below w3.heap.size w3 w4 := by obtain ⟨es, _, _, _, _, hb⟩ := hsm; exact hb
    have hm4 : ∃ A m c, v = .slice A m c ∧ m = l.length := by
      obtain ⟨es, hes, _, ho, _, _⟩ := hsm
      obtain ⟨A, m, c, rfl⟩ := own_shape ho
      exact ⟨A, m, c, rfl, own_n ho⟩
    obtain ⟨Av, mv, cv, rfl, rfl⟩ := hm4
    have hl4 := HL3.out.kept (w' := w4) fun k hk => hb34.block k hk
    have H0 : Hid (TRel w p bm pd bn (bn + 1) l d3 w4 w3.heap.size 0 w4) := Lib.hid ⟨hl4, HB3.out.trans (hb34.mono HB3.out.size), ⟨Nat.le_refl _, fun _ _ _ => rfl⟩⟩
    have HLT : Hid (p < w3.heap.size ∧ bm < w3.heap.size) := Lib.hid HL3.out.tr.lt
    have HSM := Lib.hid hsm
    clear hb34 hl4 hsm HSO HL3 HB3
    go_wp2
    go_loopw [8] (fun i wr => ∃ j : Nat, j ≤ l.length ∧ i = .int .i64 j ∧ Hid (TRel w p bm pd bn (bn + 1) l d3 w4 w3.heap.size j wr)) (fun i _ => l.length - ivT i)
    case atStart => exact ⟨0, Nat.zero_le _, rfl, H0⟩
    case round =>
      obtain ⟨j, hj, rfl, HR⟩ := hrel
      obtain ⟨hlr, hb, hk⟩ := HR.out
      clear H0 HR
      have hj12 : (j : Int) ≤ 12 := by omega
      by_cases hlt : j < l.length
      · have hlti : (j : Int) < (l.length : Int) := by omega
        obtain ⟨gg, cap, es, hv, hlst, -⟩ := lst_of (fun e => by rw [e] at hlt; cases hlt) HSM.out
        injection hv with hv1 hv2 hv3
        subst hv1 hv3
        have hlr2 := hlst.at hk
        have hje : j < es.length := by rw [hlst.len]; exact hlt
        have hx := getD_bd HOK.out j
        obtain ⟨x, hxe⟩ : ∃ x, x = l.getD j 0 := ⟨_, rfl⟩
        rw [← hxe] at hx
        have hel : (es[j]).1 = someE j x := by rw [hxe]; exact hlst.el j hje
        have hin := (hlr2.inn es[j] (List.getElem_mem hje)).1
        rw [hel] at hin
        obtain ⟨vn, hvn⟩ : ∃ v, v = (es[j]).2 := ⟨_, rfl⟩
        rw [← hvn] at hin
        have hES := someE_S (j := j) (x := x) hin
        have hcells : ∀ i u, (entC (someE j x) (.slice none 0 0) vn (.slice none 0 0) (.slice none 0 0) (.slice none 0 0) (.slice none 0 0))[i]? = some u → wr.cell? ⟨gg, j * 16 + i, none⟩ = some u := fun i u hu => hlr2.cells j hje i u (by unfold enN; rw [hel, ← hvn]; simpa using hu)
        have HA := Lib.hid (append_any wr hlr.tr (someE j x) hES (someE_I j (by omega) x hx))
        have HCE := Lib.hid hcells
        have HXE := Lib.hid hxe
        have HLR := Lib.hid hlr
        have HB := Lib.hid hb
        have HK := Lib.hid hk
        have HX := Lib.hid hx
        have HZI := Lib.hid (infoEntC (someE j x) (.slice none 0 0) vn (.slice none 0 0) (.slice none 0 0) (.slice none 0 0) (.slice none 0 0))
        clear hlst hlr2 hxe hel hin hvn hES hcells hlr hb hk hx hje hv2
        go_wp2_with (with_reducible refine wpList_load_at rfl 40 (.tmp 38) rfl gg (j * 16) rfl (entC (someE j x) (.slice none 0 0) vn (.slice none 0 0) (.slice none 0 0) (.slice none 0 0) (.slice none 0 0)) _ HCE.out Try.underlying40 rfl HZI.out ?_)
        refine HA.out.mono ?_
        rintro r9 w5 ⟨he, ht5, hf5⟩
        obtain ⟨a1, a2, a3⟩ := app_some (t := ⟨pd, 0, 40, SS l j, (j : Int), 0⟩) (j := j) (x := x) (by omega) HX.out (by
          show ((((SS l j).length + 51 : Nat)) : Int) ≤ 63 * 40
          rw [SS_len HOK.out j (by omega)]
          omega)
        rw [a1, a2] at he
        rw [a3] at ht5
        subst he
        have hl5 := HLR.out.app ht5 hf5 rfl rfl rfl
        have hT : TRel w p bm pd bn (bn + 1) l d3 w4 w3.heap.size (j + 1) w5 := by
          refine ⟨?_, bel_fr HB.out hf5 HTW.out, HK.out.trans ⟨hf5.size, fun b h1 h2 => hf5.block b h2 (fun e => by have := HLT.out; rcases e with e | e <;> omega)⟩⟩
          rw [SS, ← HXE.out, show ((j + 1 : Nat) : Int) = (j : Int) + 1 by omega]
          exact hl5
        have HT := Lib.hid hT
        clear a1 a2 a3 ht5 hf5 hl5 hT HA HCE HLR HB HK
        go_wp2
        go_roundw
        all_goals first
          | exact ⟨j + 1, by omega, by go_num, HT⟩
          | (simp [ivT]; omega)
      · obtain rfl : j = l.length := by omega
        have HS := Lib.hid (stable_any wr hlr.tr)
        have HF := Lib.hid (force_any wr hlr)
        have HB := Lib.hid hb
        clear hlr hb hk HSM
        go_wp2_with fail
        refine HS.out.mono ?_
        rintro r9 w5 ⟨rfl, hw⟩
        obtain rfl := hw.symm
        clear hw HS
        go_wp2_with fail
        refine HF.out.mono ?_
        rintro r9 w5 ⟨rfl, d5, hl5, -, hf5⟩
        have hb5 := bel_fr HB.out hf5 (fun k hk => by rcases hk with h | h; exact HTW.out k h; exact HTH.out k h)
        have HS5 := Lib.hid (stable_any w5 hl5.tr)
        have HC5 := Lib.hid (count_any w5 hl5.tr)
        have HAR := Lib.hid (arm_pos w5 hl5.dk.dk 0 (Int.le_refl _) (by decide) (nil_SlB w5 (pd + 1)) (by show pd + 1 ≠ pd; omega) (Or.inl rfl) (fun x hx => by cases hx))
        have HL5 := Lib.hid hl5
        have HB5 := Lib.hid hb5
        clear hl5 hf5 hb5 HF HB
        go_wp2_with fail
        refine HS5.out.mono ?_
        rintro r9 w6 ⟨rfl, hw⟩
        obtain rfl := hw.symm
        clear hw HS5
        go_wp2_with fail
        refine HC5.out.mono ?_
        rintro r9 w6 ⟨rfl, hw⟩
        obtain rfl := hw.symm
        clear hw HC5
        go_wp2_with fail
        refine HAR.out.mono ?_
        rintro r9 w6 ⟨rfl, mv, g', hd6, -, hf6⟩
        have ht6 := TrAt.away HL5.out hf6
        have HB6 := Lib.hid (bel_fr HB5.out hf6 HTH.out)
        have HFN := Lib.hid (force_no w6 ht6 rfl)
        have hdead : (d5.armed 0 mv []).dead = false := HL5.out.dk.dead
        have HD6 := Lib.hid hd6
        have HDE := Lib.hid hdead
        clear hd6 hf6 ht6 hdead HL5 HB5 HAR
        go_wp2_with fail
        refine HFN.out.mono ?_
        rintro r9 w7 ⟨rfl, hb7⟩
        have hdd := dead_any w7 (HD6.out.kept fun k hk => hb7.block k hk)
        rw [HDE.out] at hdd
        have HDD := Lib.hid hdd
        have HB7 := Lib.hid (HB6.out.trans (hb7.mono HB6.out.size))
        clear hb7 hdd HFN HD6
        go_wp2_with fail
        refine HDD.out.mono ?_
        rintro r9 w8 ⟨rfl, hw⟩
        obtain rfl := hw.symm
        clear hw
        go_wp2
        go_ret
        exact ⟨rfl, HB7.out⟩
end Go.Proofs.Ytemmhligohebfaa.trailTwice
