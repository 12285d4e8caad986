/- TileSynced: for every list of writes and mask the law answers true; no condition. -/
import Derived.Test.YtimmbalmealkaaaState
namespace Go.Proofs.Ytimmbalmealkaaa.tileSynced
open Go.ChangeShapes Go.WideShapes Go.ChangeAt Go.RowKit

/-- The loops' relation: the disk is calm and says what the list says. -/
def St (w : World) (p bn bo L : Nat) (wr : World) (last : List Int) : Prop := ∃ d, DiskAt wr p bn bo 0 d ∧ Calm d 16 ∧ Says d last ∧ last.length = 16 ∧ Rest 60 w p bn bo L wr last

theorem st_grown {w wr w' : World} {p bn bo L : Nat} {last : List Int} (h : St w p bn bo L wr last) (hb : Below wr.heap.size wr w') : St w p bn bo L w' last := by
  obtain ⟨d, h1, h2, h3, h4, h5⟩ := h
  exact ⟨d, h1.kept (fun k hk => hb.block k hk), h2, h3, h4, h5.grown hb⟩

theorem crash_calm {d d' : Dk} {ms : List Int} (h : Crashes d.synced ms d') : d' = d.synced.crashed d.now := by
  obtain ⟨ls, hl, rfl⟩ := h
  obtain rfl : ls = [] := List.eq_nil_iff_forall_not_mem.2 (fun x hx => by have := (hl.2 x).1 hx; cases this)
  rfl

theorem begin16 {w w2 : World} {p bn bo : Nat} (hD : DiskAt w2 p bn bo 0 (.fresh 16)) (hB : Below w.heap.size w w2) (hO : Own w.heap.size p bn bo) (hl : p < w2.heap.size ∧ bn < w2.heap.size ∧ bo < w2.heap.size) :
    St w p bn bo w2.heap.size (w2.alloc (.cells (byteV (List.replicate 16 0)).toArray 60)) (List.replicate 16 0) :=
  ⟨_, hD.kept (fun k hk => Below.heap_alloc w2 _ k hk), calm_fresh 16, says_fresh 16 16, by simp, ⟨by unfold bytesOk; simp, heap_alloc_new w2 _, hB.alloc hB.size _, hO, hB.size, by rintro (e | e | e) <;> omega⟩⟩

set_option maxRecDepth 100000 in
set_option maxHeartbeats 8000000 in
theorem walk (v mv : Value) (l ms : List Int) (w : World) (hv : SlK .u8 w v l) (hm : SlK .u8 w mv ms) : Calls Try.prog 8 #[v, mv] w fun e w' => e = .returned (.bool true) ∧ Below w.heap.size w w' := by
  obtain ⟨p0, cap, rfl, hx, hp0, hcell⟩ := sl_u8 hv
  have HX := Lib.hid hx
  have HC := Lib.hid hcell
  have HP := Lib.hid hp0
  clear hx hcell hp0 hv
  have HM := Lib.hid hm
  obtain ⟨pm, mcap, rfl, hmx, _, _⟩ := sl_u8 hm
  have HMX := Lib.hid hmx
  clear hm hmx
  by_cases h20 : 20 < l.length
  · go_enter Try.func8, Try.ntmps8
    go_wp2_with fail
    refine (begun_true w).mono ?_
    rintro e w1 ⟨rfl, hB1⟩
    go_wp2_with fail
    go_ret
    exact ⟨rfl, hB1⟩
  · have h20b : decide ((20 : Int) < (l.length : Int)) = false := by simp; omega
    by_cases h8 : 8 < ms.length
    · go_enter Try.func8, Try.ntmps8
      go_wp2_with fail
      refine (begun_true w).mono ?_
      rintro e w1 ⟨rfl, hB1⟩
      go_wp2_with fail
      go_ret
      exact ⟨rfl, hB1⟩
    · have h8b : decide ((8 : Int) < (ms.length : Int)) = false := by simp; omega
      go_enter Try.func8, Try.ntmps8
      go_wp2_with fail
      refine (begun_true w).mono ?_
      rintro e w1 ⟨rfl, hB1⟩
      have hz1 : w.heap.size ≤ w1.heap.size := hB1.size
      go_wp2_with fail
      refine (new_any w1 16).mono ?_
      rintro e w2 ⟨rfl, hD2, hB2⟩
      rw [show clampT 16 = 16 from rfl] at hD2
      have hl2 := hD2.lt
      have hO : Own w.heap.size (w1.heap.size + 1 + 1) w1.heap.size (w1.heap.size + 1) := ⟨by omega, by omega, by omega⟩
      have hB2' : Below w.heap.size w w2 := hB1.trans (hB2.mono hz1)
      have hS := begin16 hD2 hB2' hO hl2
      rw [show (byteV (List.replicate 16 0)).toArray = #[.int .u8 0, .int .u8 0, .int .u8 0, .int .u8 0, .int .u8 0, .int .u8 0, .int .u8 0, .int .u8 0, .int .u8 0, .int .u8 0, .int .u8 0, .int .u8 0, .int .u8 0, .int .u8 0, .int .u8 0, .int .u8 0] from rfl] at hS
      generalize w1.heap.size + 1 + 1 = p at *
      generalize w1.heap.size + 1 = bo at *
      generalize w1.heap.size = bn at *
      clear hB1 hB2 hD2 hB2' hl2
      go_wp2_with fail
      generalize w2.heap.size = L at *
      go_loopw [7] (fun i wr => ∃ (j : Nat) (last : List Int), j ≤ l.length ∧ i = .int .i64 j ∧ St w p bn bo L wr last) (fun i _ => l.length - (intOf i).toNat)
      case atStart => exact ⟨0, _, by omega, rfl, hS⟩
      case round =>
        obtain ⟨j, last, hj, rfl, hT⟩ := hrel
        clear hS
        by_cases hlt : j < l.length
        · obtain ⟨a0, rfl⟩ : ∃ a0, p0 = some a0 := by
            cases p0
            · have := HP.out rfl; rw [this] at hlt; simp at hlt
            · exact ⟨_, rfl⟩
          obtain ⟨hsp, hab, hcell⟩ := HC.out _ rfl
          obtain ⟨ab, ao, _⟩ := a0
          cases hsp
          have hcj := hcell j hlt
          have hxj := HX.out _ (List.getElem_mem hlt)
          generalize l[j] = x at hcj hxj
          obtain ⟨y, rfl⟩ := Int.eq_ofNat_of_zero_le hxj.1
          have hy : y < 256 := by omega
          obtain ⟨d, hd, dC, dS, hl16, hR⟩ := hT
          have hm16 := Nat.mod_lt y (show 0 < 16 by omega)
          have hLc := hR.cell (n := y % 16) (by omega)
          have hLf := hR.fz (y % 16)
          generalize last[y % 16]'_ = lo at hLc
          change ab < w.heap.size at hab
          have hcw : wr.cell? ⟨ab, ao + j, none⟩ = some (.int .u8 y) := by rw [← hcj]; exact hR.below.cell (p := ⟨ab, ao + j, none⟩) hab
          have hR3 := hR.put (y % 16) (c := (j : Int) + 1) (by omega) (by omega)
          have hd3 := hR.disk hd dC (y % 16) (.int .u8 ((j : Int) + 1))
          have dS3 := dS.store (y % 16) ((j : Int) + 1)
          have hc3 : (wr.setCell ⟨L, y % 16, none⟩ (.int .u8 ((j : Int) + 1))).cell? ⟨ab, ao + j, none⟩ = some (.int .u8 y) := by
            rw [← hcw]
            exact World.cell?_of_block (Below.heap_setCell _ _ _ _ (show ab ≠ L by have := hR.base; omega))
          have hab3 : ab < (wr.setCell ⟨L, y % 16, none⟩ (.int .u8 ((j : Int) + 1))).heap.size := block_lt_of_cell hc3
          have HR3 := Lib.hid hR3
          clear hcell hcj hxj hR hd hR3
          go_upto_region 11 with fail
          generalize wr.setCell ⟨L, y % 16, none⟩ (.int .u8 ((j : Int) + 1)) = w3 at *
          have hl2 : (last.set (y % 16) ((j : Int) + 1)).length = 16 := by rw [List.length_set]; exact hl16
          generalize last.set (y % 16) ((j : Int) + 1) = last2 at *
          clear hLc hLf hcw hl16 dS
          have hj0 : (0 : Int) ≤ (j : Int) + 1 := by omega
          have hj1 : (j : Int) + 1 < 256 := by omega
          have hd3' := hd3.drew
          have t1 : ((y : Int).tmod 16) = (y : Int) % 16 := IntWalk.rem_in _ _ (by omega)
          have t2 : IntKind.i64.wrap ((y : Int) % 16) = (y : Int) % 16 := IntWalk.i64_in _ (by omega)
          have t3 : IntKind.i64.wrap ((j : Int) + 1) = (j : Int) + 1 := IntWalk.i64_in _ (by omega)
          have t4 : IntKind.u8.wrap ((j : Int) + 1) = (j : Int) + 1 := IntWalk.u8_in _ (by omega)
          have b0 : (0 : Int) ≤ (y : Int) % 16 := by omega
          have b1 : (y : Int) % 16 < d.tiles := by rw [dC.tiles]; omega
          go_region_with (first
            | (go_at_call 24; refine (full_b _ _).mono ?_; rintro e w4 ⟨gn, rfl, hb4, hg4⟩; have hc4 : w4.cell? ⟨ab, ao + j, none⟩ = some (.int .u8 y) := (hb4.cell (p := ⟨ab, ao + j, none⟩) hab3).trans hc3; have hd4 := hd3'.kept (fun k hk => hb4.block k hk); have hs4 := slB_of hg4 (rep_len _))
            | (go_at_call 13; refine (write_plain w4 hd4 dC.dead _ b0 b1 _ _ hs4 (rep_len _) (rep_ok _ hj0 hj1) dC.set).mono ?_; rintro e w5 ⟨rfl, hD5, hF5⟩))
          all_goals
            have hD5' : DiskAt w5 p bn bo 0 (d.store ((y % 16 : Nat) : Int) (blkOf (rep ((j : Int) + 1)))) := by rw [show ((y % 16 : Nat) : Int) = (y : Int) % 16 by omega]; exact hD5
            have hS5 : St w p bn bo L w5 last2 := ⟨_, hD5', dC.store _ _, dS3, hl2, (HR3.out.grown (below_undrew hb4)).fr hF5⟩
            have HS5 := Lib.hid hS5
            clear hS5 hD5' hD5 hF5 hb4 hg4 hc4 hd4 hs4 t1 t2 t3 t4 b0 b1
            go_wp2_with fail
            go_roundw
            case rel => exact ⟨j + 1, last2, by omega, by go_num, HS5.out⟩
            case measure => simp [intOf]; omega
        · obtain rfl : j = l.length := by omega
          obtain ⟨d, hd, dC, dS, hl16, hR⟩ := hT
          go_wp2_with fail
          refine (sync_plain wr hd dC.dead dC.set).mono ?_
          rintro e w3 ⟨rfl, hD3, hF3⟩
          have hR3 := hR.fr hF3
          clear hd hR hF3
          obtain ⟨gm, hm0, _, _⟩ := slK_B HM.out (by omega)
          have hm3 := hm0.kept (fun k hk => hR3.below.block k hk)
          clear hm0
          go_wp2_with fail
          refine (crash_to w3 hD3 hm3 HMX.out).mono ?_
          rintro e w4 ⟨rfl, d4, hc4, hD4, hF4⟩
          have hd4 := crash_calm hc4
          subst hd4
          have hR4 := hR3.fr hF4
          clear hD3 hR3 hF4 hc4 hm3
          go_wp2_with fail
          refine (read_dead w4 hD4 rfl 0).mono ?_
          rintro e wa ⟨rfl, rfl⟩
          go_wp2_with fail
          refine (dead_any wa hD4).mono ?_
          rintro e wb ⟨rfl, rfl⟩
          go_wp2_with fail
          refine (sync_dead wb hD4 rfl).mono ?_
          rintro e wc ⟨rfl, rfl⟩
          go_wp2_with fail
          refine (full_b _ _).mono ?_
          rintro e w5 ⟨gn, rfl, hb5, hg5⟩
          have hD5 := hD4.kept (fun k hk => hb5.block k hk)
          have hR5 := hR4.grown hb5
          clear hb5 hg5 hD4 hR4
          go_wp2_with fail
          refine (write_dead w5 hD5 rfl 0 _).mono ?_
          rintro e w6 ⟨rfl, rfl⟩
          go_wp2_with fail
          refine (power_any w6 hD5).mono ?_
          rintro e w7 ⟨rfl, hw7⟩
          have hD7 : DiskAt w7 p bn bo 0 { d.synced.crashed d.now with dead := false } := by
            rw [hw7]
            have ok := hD5.ok
            exact hD5.poke 3 _ rfl rfl rfl hD5.mask ⟨ok.lo, ok.hi, ok.now, ok.old, ok.llo, ok.lhi, ok.mok⟩
          have hR7 : Rest 60 w p bn bo L w7 last := by
            rw [hw7]
            exact hR5.fr ((Fr.refl _ _ _).setCell (p := ⟨p, 3, none⟩) (Or.inl (Or.inl rfl)) _)
          have hS7 : St w p bn bo L w7 last := ⟨_, hD7, ⟨dC.tiles, rfl, rfl, rfl, rfl⟩, dS, hl16, hR7⟩
          clear hw7 hD5 hR5 hD7 hR7 dC dS hl16
          go_wp2_with fail
          go_loopw [10] (fun i wq => ∃ n : Nat, n ≤ 16 ∧ i = .int .i64 n ∧ St w p bn bo L wq last) (fun i _ => 16 - (intOf i).toNat)
          case atStart => exact ⟨0, by omega, rfl, hS7⟩
          case round =>
            obtain ⟨n, hn, rfl, hT⟩ := hrel
            clear hS7
            by_cases hn8 : n < 16
            · obtain ⟨d, hd, dC, dS, hl16, hR⟩ := hT
              have hnl : n < last.length := by omega
              have hnow := dS n hnl
              have hcl := hR.cell hnl
              obtain ⟨b, hb⟩ : ∃ b, last[n] = b := ⟨_, rfl⟩
              rw [hb] at hnow hcl
              obtain ⟨tx, htx⟩ : ∃ tx, bstr (rep b) = tx := ⟨_, rfl⟩
              have hlL := hR.lt
              have HT : Hid (St w p bn bo L wr last) := ⟨d, hd, dC, dS, hl16, hR⟩
              have HX := Lib.hid htx
              clear dS hb hnl htx hR hl16
              go_wp2_with fail
              refine (read_ok wr hd dC.dead n (by omega) (by rw [dC.tiles]; omega) (rep b) hnow (rep_len b)).mono ?_
              rintro e w8 ⟨rfl, hw8⟩
              have HT8 : Hid (St w p bn bo L w8 last) := st_grown HT.out (by rw [hw8]; exact (Below.refl _ _).alloc (Nat.le_refl _) _)
              have hg8 : w8.heap[wr.heap.size]? = some (.cells (byteV (rep b)).toArray 70 (0, 0)) := by rw [hw8]; exact heap_alloc_new wr _
              have hc8 : w8.cell? ⟨L, n, none⟩ = some (.int .u8 b) := by rw [hw8, ← hcl]; exact World.cell?_of_block (Below.heap_alloc wr _ L hlL)
              have hl8 : L < w8.heap.size := by rw [hw8]; simp; omega
              clear hw8 hd dC hnow hcl HT hlL
              generalize wr.heap.size = gx at *
              go_upto_region 23 with fail
              go_cut [103] (fun t wx => t = .bool false ∧ St w p bn bo L wx last)
              case first =>
                have v1 := conv_all (g := gx) (t := 70) (rep_len b) HX.out w8.drew hg8
                go_region_with (go_at_call 24; refine (full_b _ _).mono ?_; rintro e w9 ⟨gn, rfl, hb9, hg9⟩; have v2 := conv_all (rep_len b) HX.out w9 hg9; have v3 := conv_all (rep_len b) HX.out w9 (below_old hb9 hg8 (Nat.le_refl _)))
                all_goals (go_wp2_with fail; go_meet; exact ⟨rfl, st_grown HT8.out (below_undrew hb9)⟩)
              case rest =>
                obtain ⟨rfl, hTr⟩ := hcut
                go_wp2_with fail
                go_roundw
                case rel => exact ⟨n + 1, by omega, by go_num, hTr⟩
                case measure => simp [intOf]; omega
            · obtain ⟨d, hd, dC, dS, hl16, hR⟩ := hT
              have hB := Lib.hid hR.below
              have hdd := Lib.hid dC.dead
              clear dC dS hR
              go_wp2_with fail
              refine (dead_any wr hd).mono ?_
              rintro e wz ⟨rfl, rfl⟩
              rw [hdd.out]
              go_wp2_with fail
              go_ret
              exact ⟨rfl, hB.out⟩

theorem own : ownKnob Try.prog.godebug = none := by kernel_rfl
theorem laidOut : laidOutB Try.prog = true := by kernel_rfl

set_option maxRecDepth 100000 in
theorem lifted (os : Os) (started : os.Started) (H : Type) (enc : TypeId × Value → H) :
    ReturnsInHanded {} Try.checked os 8 .any (Rows.tileSyncedSpec.pre6 enc Try.prog Try.f8 Rows.tileSyncedRow.domain false) (Rows.tileSyncedSpec.post enc Try.prog Try.f8 false true false false) := by
  refine returnsInHanded_of_change (C := Try.checked) own started (by kernel_rfl) Try.func8
    (ChangeSpec.witness6 (enc := enc) (C := Try.checked) false ⟨#[], #[.slice none 0 0, .slice none 0 0], []⟩ 8 (by kernel_rfl) (by kernel_rfl) (by kernel_rfl) (by kernel_rfl)) ?_
  intro W base args ds gs before hval0 hW hcnd _
  have hval : ∀ (j : Nat) t v, Try.f8.params[j]? = some t → args[j]? = some v → Value.okWide Try.prog W .any base t v := hval0
  have hW' := hW
  obtain ⟨p, q, hA0, hV, rfl, hfz, hnd⟩ := hW
  obtain ⟨rfl, rfl⟩ := trodVars_none hV
  have hA : DataW.TrodAll enc Try.prog W 0 (fun _ => true) true Try.f8.params.toList args.toList ds p := hA0
  rw [Try.params8] at hA hval
  obtain ⟨v0, vs0, d0, ds0, p0, q0, hargs, rfl, rfl, h0, r0⟩ := trodAll_cons hA
  obtain ⟨v1, vs1, d1, ds1, p1, q1, rfl, rfl, rfl, h1, r1⟩ := trodAll_cons r0
  obtain ⟨rfl, rfl, rfl⟩ := trodAll_nil r1
  obtain rfl : args = #[v0, v1] := by cases args; simp_all
  have ok0 := hval 0 28 v0 rfl rfl
  have ok1 := hval 1 28 v1 rfl rfl
  obtain ⟨l, hl⟩ := open_sl Try.underlying28 Try.underlying5 (by kernel_rfl) ok0 h0
  obtain ⟨ms, hm⟩ := open_sl Try.underlying28 Try.underlying5 (by kernel_rfl) ok1 h1
  refine (walk v0 v1 l ms W hl hm).mono fun e W' ⟨he, hg⟩ => ?_
  subst he
  exact ⟨_, rfl, law_post laidOut Try.underlying4 rfl (by rw [Try.params8]; intro t ht; simp at ht; subst ht; exact ⟨by kernel_rfl, of_decide_eq_true (by kernel_rfl)⟩) rfl hW' rfl hg⟩

theorem proved : Rows.TileSyncedSaid :=
  OpenClaim.holds_of_wide 8 Try.f8 rfl rfl rfl rfl rfl rfl rfl ⟨rfl, rfl, rfl, rfl, rfl⟩ rfl rfl rfl rfl rfl (by kernel_rfl) Try.func8 (by kernel_rfl)
    (of_decide_eq_true (by kernel_rfl)) (by unfold Func.isWrapper; first | (rw [if_pos (by decide +kernel)]; kernel_rfl) | (rw [if_neg (by decide +kernel)]; exact ⟨rfl, rfl⟩))
    (fun os started H enc _ => lifted os started H enc)
#print axioms proved

end Go.Proofs.Ytimmbalmealkaaa.tileSynced
