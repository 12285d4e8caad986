/- TileLast: for every list of writes and number sync the law answers true; no condition. -/
import Derived.Test.YtimmbalmealkaaaFull
import Derived.Test.YtimmbalmealkaaaRow
namespace Go.Proofs.Ytimmbalmealkaaa.tileLast
open Go.ChangeShapes Go.WideShapes Go.ChangeAt Go.RowKit

/-- Tile n says byte last[n]; the disk is alive and nothing is armed; the list lies in block L. -/
structure St (w : World) (p bn bo L : Nat) (wr : World) (last : List Int) : Prop where
  disk : ∃ d, DiskAt wr p bn bo 0 d ∧ Calm d 8 ∧ ∀ n, (h : n < last.length) → (d.now n).getD zb = blkOf (rep last[n])
  len : last.length = 8
  ok : bytesOk last
  at_ : wr.heap[L]? = some (.cells (byteV last).toArray 58 (0, 0))
  below : Below w.heap.size w wr
  own : Own w.heap.size p bn bo
  base : w.heap.size ≤ L
  ne : ¬ Three p bn bo L

theorem St.cell {w wr : World} {p bn bo L : Nat} {last : List Int} (h : St w p bn bo L wr last) {n : Nat} (hn : n < last.length) : wr.cell? ⟨L, n, none⟩ = some (.int .u8 last[n]) := by
  rw [(cell_of h.at_ n).1]
  simp [byteV, hn]

/-- Nothing that was there has turned. -/
theorem St.grown {w wr w' : World} {p bn bo L : Nat} {last : List Int} (h : St w p bn bo L wr last) (hb : Below wr.heap.size wr w') : St w p bn bo L w' last := by
  obtain ⟨d, hd, r⟩ := h.disk
  exact ⟨⟨d, hd.kept (fun k hk => hb.block k hk), r⟩, h.len, h.ok, below_old hb h.at_ (Nat.le_refl _), h.below.trans (hb.mono h.below.size), h.own, h.base, h.ne⟩

/-- The list's new byte, and the tile's. -/
theorem St.step {w wr w4 w5 : World} {p bn bo L k : Nat} {last : List Int} {c : Int} (h : St w p bn bo L wr last) (c0 : 0 ≤ c) (c1 : c < 256)
    (hb : Below (wr.setCell ⟨L, k, none⟩ (.int .u8 c)).heap.size (wr.setCell ⟨L, k, none⟩ (.int .u8 c)) w4) {d : Dk} (hd : DiskAt w5 p bn bo 0 (d.store k (blkOf (rep c))))
    (hT : Calm d 8) (hn : ∀ n, (h : n < last.length) → (d.now n).getD zb = blkOf (rep last[n])) (hf : Fr w4.heap.size (Three p bn bo) w4 w5) : St w p bn bo L w5 (last.set k c) := by
  have hB3 : Below w.heap.size w (wr.setCell ⟨L, k, none⟩ (.int .u8 c)) := h.below.setCell h.base _
  have hB4 : Below w.heap.size w w4 := hB3.trans (hb.mono hB3.size)
  have hL : (wr.setCell ⟨L, k, none⟩ (.int .u8 c)).heap[L]? = some (.cells (byteV (last.set k c)).toArray 58 (0, 0)) := by
    rw [heap_setCell_same wr L k _ _ _ h.at_]
    simp [byteV, List.map_set]
  have hL4 := below_old hb hL (Nat.le_refl _)
  refine ⟨⟨_, hd, hT.store _ _, fun n hn' => ?_⟩, by rw [List.length_set]; exact h.len, ?_, ?_, h.own.fr hB4 hB4.size hf, h.own, h.base, h.ne⟩
  · rw [List.length_set] at hn'
    show ((upd d.now k (some (blkOf (rep c)))) n).getD zb = _
    rw [List.getElem_set]
    by_cases e : k = n
    · subst e; rw [upd_same, if_pos rfl]; rfl
    · rw [upd_other _ (by omega), if_neg e]; exact hn n hn'
  · intro x hx
    rcases List.mem_or_eq_of_mem_set hx with h1 | rfl
    · exact h.ok x h1
    · exact ⟨c0, c1⟩
  · exact (hf.block L (by have := (Array.getElem?_eq_some_iff.1 hL4).1; omega) h.ne).trans hL4

theorem St.sync {w wr w' : World} {p bn bo L : Nat} {last : List Int} {d : Dk} (h : St w p bn bo L wr last) (hd : DiskAt w' p bn bo 0 d.synced) (hc : Calm d 8) (hn : ∀ n, (h : n < last.length) → (d.now n).getD zb = blkOf (rep last[n])) (hf : Fr wr.heap.size (Three p bn bo) wr w') : St w p bn bo L w' last :=
  ⟨⟨_, hd, hc.synced, hn⟩, h.len, h.ok, (hf.block L (by have := (Array.getElem?_eq_some_iff.1 h.at_).1; omega) h.ne).trans h.at_, h.own.fr h.below h.below.size hf, h.own, h.base, h.ne⟩

theorem sl_u16 {w : World} {v : Value} {l : List Int} (h : SlK .u16 w v l) : ∃ p cap, v = .slice p l.length cap ∧ (∀ x ∈ l, 0 ≤ x ∧ x < 65536) ∧ (p = none → l = []) ∧ ∀ a, p = some a → a.spot = none ∧ ∀ j (h : j < l.length), w.cell? ⟨a.block, a.off + j, none⟩ = some (.int .u16 l[j]) := by
  obtain ⟨p, cap, e, _, hw, h1, h2⟩ := h
  exact ⟨p, cap, e, fun x hx => by have := bounds_u16 (hw x hx); omega, fun e => (h1 e).1, fun a e => ⟨(h2 a e).1, (h2 a e).2.2⟩⟩

set_option maxRecDepth 100000 in
set_option maxHeartbeats 2000000 in
theorem walk (v : Value) (l : List Int) (w : World) (hv : SlK .u16 w v l) (s : Int) : Calls Try.prog 7 #[v, .int .u32 s] w fun e w' => e = .returned (.bool true) ∧ Below w.heap.size w w' := by
  obtain ⟨p0, cap, rfl, hx, hp0, hcell⟩ := sl_u16 hv
  clear hv
  have HX := Lib.hid hx
  have HC := Lib.hid hcell
  have HP := Lib.hid hp0
  clear hx hcell hp0
  by_cases h20 : 20 < l.length
  · go_enter Try.func7, Try.ntmps7
    go_wp2_with fail
    refine (begun_true w).mono ?_
    rintro e w1 ⟨rfl, hB1⟩
    go_wp2_with fail
    go_ret
    exact ⟨rfl, hB1⟩
  · go_enter Try.func7, Try.ntmps7
    go_wp2_with fail
    refine (begun_true w).mono ?_
    rintro e w1 ⟨rfl, hB1⟩
    have hz1 : w.heap.size ≤ w1.heap.size := hB1.size
    go_wp2_with fail
    refine (new_any w1 8).mono ?_
    rintro e w2 ⟨rfl, hD2, hB2⟩
    rw [show clampT 8 = 8 from rfl] at hD2
    have hl2 := hD2.lt
    have hO : Own w.heap.size (w1.heap.size + 1 + 1) w1.heap.size (w1.heap.size + 1) := ⟨by omega, by omega, by omega⟩
    have hB2' : Below w.heap.size w w2 := hB1.trans (hB2.mono hz1)
    have hz2 : w.heap.size ≤ w2.heap.size := hB2'.size
    generalize w1.heap.size + 1 + 1 = p at *
    generalize w1.heap.size + 1 = bo at *
    generalize w1.heap.size = bn at *
    clear hB1 hB2
    have h20b : decide ((20 : Int) < (l.length : Int)) = false := by simp; omega
    go_wp2_with fail
    have hS : St w p bn bo w2.heap.size (w2.alloc (.cells (byteV (List.replicate 8 0)).toArray 58)) (List.replicate 8 0) :=
      ⟨⟨_, hD2.kept (fun k hk => Below.heap_alloc w2 _ k hk), calm_fresh 8, fun n h => by rw [List.getElem_replicate]; exact zb_of⟩, by simp, by unfold bytesOk; simp, heap_alloc_new w2 _, hB2'.alloc hz2 _, hO, hz2, by rintro (e | e | e) <;> omega⟩
    rw [show (byteV (List.replicate 8 0)).toArray = #[.int .u8 0, .int .u8 0, .int .u8 0, .int .u8 0, .int .u8 0, .int .u8 0, .int .u8 0, .int .u8 0] from rfl] at hS
    generalize w2.heap.size = L at *
    clear hD2 hl2 hO hB2' hz2
    go_loopw [7] (fun i wr => ∃ (j : Nat) (last : List Int), j ≤ l.length ∧ i = .int .i64 j ∧ St w p bn bo L wr last) (fun i _ => l.length - (intOf i).toNat)
    case atStart => exact ⟨0, _, by omega, rfl, hS⟩
    case round =>
      obtain ⟨j, last, hj, rfl, hT⟩ := hrel
      clear hS
      by_cases hlt : j < l.length
      · obtain ⟨a0, rfl⟩ : ∃ a0, p0 = some a0 := by
          cases p0
          · have := HP.out rfl; rw [this] at hlt; simp at hlt
          · exact ⟨_, rfl⟩
        obtain ⟨hsp, hcell⟩ := HC.out _ rfl
        obtain ⟨ab, ao, _⟩ := a0
        cases hsp
        have hcj := hcell j hlt
        have hab := block_lt_of_cell hcj
        have hxj := HX.out _ (List.getElem_mem hlt)
        generalize l[j] = x at hcj hxj
        obtain ⟨y, rfl⟩ := Int.eq_ofNat_of_zero_le hxj.1
        have hy : y < 65536 := by omega
        clear hxj
        have hm8 := Nat.mod_lt y (show 0 < 8 by omega)
        have hLc := (cell_of hT.at_ (y % 8)).1
        have hLf := (cell_of hT.at_ (y % 8)).2
        rw [show (byteV last).toArray[y % 8]? = some (.int .u8 (last[y % 8]'(by rw [hT.len]; omega))) from by simp [byteV, hT.len, hm8]] at hLc
        generalize last[y % 8]'_ = lo at hLc
        have hd8 : ((y : Int) / 256) < 256 := by omega
        have hd0 : (0 : Int) ≤ (y : Int) / 256 := by omega
        rw [← hT.below.cell (p := ⟨ab, ao + j, none⟩) hab] at hcj
        clear hcell
        go_wp2_with fail
        obtain ⟨d, hd, dC, dN⟩ := hT.disk
        have hd3 : DiskAt (wr.setCell ⟨L, y % 8, none⟩ (.int .u8 ((y : Int) / 256))) p bn bo 0 d := hd.away (fun k hk => Below.heap_setCell _ _ _ _ (fun (e : k = L) => hT.ne (e ▸ hk))) (dC.slB _ _)
        have HT := Lib.hid hT
        clear hT hd hLc hLf hcj
        refine (full_b _ _).mono ?_
        rintro e w4 ⟨gn, rfl, hb4, hg4⟩
        have hd4 := hd3.kept (fun k hk => hb4.block k hk)
        have hs4 := slB_of hg4 (rep_len _)
        have HB4 := Lib.hid hb4
        clear hb4 hg4 hd3
        go_wp2_with fail
        refine (write_plain w4 hd4 dC.dead ((y : Int) % 8) (by omega) (by rw [dC.tiles]; omega) _ _ hs4 (rep_len _) (rep_ok _ hd0 hd8) dC.set).mono ?_
        rintro e w5 ⟨rfl, hD5, hF5⟩
        rw [show ((y : Int) % 8) = ((y % 8 : Nat) : Int) by omega] at hD5
        have hT5 := HT.out.step hd0 hd8 HB4.out hD5 dC dN hF5
        have HT5 := Lib.hid hT5
        clear HB4 hd4 hs4 hD5 hF5 hT5 dN dC
        generalize last.set (y % 8) ((y : Int) / 256) = last2 at HT5
        generalize (y : Int) / 256 = c at *
        go_upto_region 14 with fail
        go_cut [61] (fun t wx => t = .bool false ∧ St w p bn bo L wx last2)
        case first =>
          cases hb : (bits BinOp.and IntKind.u32 (s / 2 ^ j) 1 == 1) with
          | false =>
            go_wp2_with fail
            go_meet
            exact ⟨rfl, HT5.out⟩
          | true =>
            go_wp2_with fail
            obtain ⟨d, hd, dC, dN⟩ := HT5.out.disk
            refine (sync_plain w5 hd dC.dead dC.set).mono ?_
            rintro e w6 ⟨rfl, hD6, hF6⟩
            have HT6 := Lib.hid (HT5.out.sync hD6 dC dN hF6)
            clear hF6 dN dC hd
            go_wp2_with fail
            refine (loose_any w6 hD6).mono ?_
            rintro e w7 ⟨v, ls, rfl, hls, _, hsl, hb7⟩
            obtain rfl : ls = [] := List.eq_nil_iff_forall_not_mem.2 (fun x hx => by have := (hls.2 x).1 hx; cases this)
            obtain ⟨q0, cap', rfl, _, _⟩ := hsl.shape
            have HT7 := Lib.hid (HT6.out.grown hb7)
            clear hls hsl hb7 hD6
            go_wp2_with fail
            go_meet
            exact ⟨rfl, HT7.out⟩
        case rest =>
          obtain ⟨rfl, hTc⟩ := hcut
          clear HT HT5
          go_wp2_with fail
          go_loopw [9] (fun i wq => ∃ n : Nat, n ≤ 8 ∧ i = .int .i64 n ∧ St w p bn bo L wq last2) (fun i _ => 8 - (intOf i).toNat)
          case atStart => exact ⟨0, by omega, rfl, hTc⟩
          case round =>
            obtain ⟨n, hn, rfl, hT⟩ := hrel
            clear hTc
            by_cases hn8 : n < 8
            · obtain ⟨d, hd, dC, dN⟩ := hT.disk
              have hnl : n < last2.length := by rw [hT.len]; exact hn8
              have hnow := dN n hnl
              have hcl := hT.cell hnl
              obtain ⟨b, hb⟩ : ∃ b, last2[n] = b := ⟨_, rfl⟩
              rw [hb] at hnow hcl
              obtain ⟨tx, htx⟩ : ∃ tx, bstr (rep b) = tx := ⟨_, rfl⟩
              have hlL := (Array.getElem?_eq_some_iff.1 hT.at_).1
              have HT := Lib.hid hT
              have HX := Lib.hid htx
              clear hT dN hb hnl htx
              go_wp2_with fail
              refine (read_ok wr hd dC.dead n (by omega) (by rw [dC.tiles]; omega) (rep b) hnow (rep_len b)).mono ?_
              rintro e w6 ⟨rfl, hw6⟩
              have HT6 : Hid (St w p bn bo L w6 last2) := by
                have := HT.out.grown (w' := w6) (by rw [hw6]; exact (Below.refl _ _).alloc (Nat.le_refl _) _)
                exact this
              have hg6 : w6.heap[wr.heap.size]? = some (.cells (byteV (rep b)).toArray 70 (0, 0)) := by rw [hw6]; exact heap_alloc_new wr _
              have hc6 : w6.cell? ⟨L, n, none⟩ = some (.int .u8 b) := by rw [hw6, ← hcl]; exact World.cell?_of_block (Below.heap_alloc wr _ L hlL)
              have hl6 : L < w6.heap.size := by rw [hw6]; simp; omega
              clear hw6 hd dC hnow hcl HT hlL
              generalize wr.heap.size = gx at *
              go_upto_region 20 with fail
              go_cut [83] (fun t wx => t = .bool false ∧ St w p bn bo L wx last2)
              case first =>
                have v1 := conv_all (g := gx) (t := 70) (rep_len b) HX.out w6.drew hg6
                go_region_with (go_at_call 24; refine (full_b _ _).mono ?_; rintro e w7 ⟨gn, rfl, hb7, hg7⟩; have v2 := conv_all (rep_len b) HX.out w7 hg7; have v3 := conv_all (rep_len b) HX.out w7 (below_old hb7 hg6 (Nat.le_refl _)))
                all_goals (go_wp2_with fail; go_meet; exact ⟨rfl, HT6.out.grown (below_undrew hb7)⟩)
              case rest =>
                obtain ⟨rfl, hTr⟩ := hcut
                go_wp2_with fail
                go_roundw
                case rel => exact ⟨n + 1, by omega, by go_num, hTr⟩
                case measure => simp [intOf]; omega
            · obtain rfl : n = 8 := by omega
              go_wp2_with fail
              go_roundw
              case rel => exact ⟨j + 1, last2, by omega, by go_num, hT⟩
              case measure => simp [intOf]; omega
      · obtain rfl : j = l.length := by omega
        go_wp2_with fail
        go_ret
        exact ⟨rfl, hT.below⟩
theorem own : ownKnob Try.prog.godebug = none := by kernel_rfl
theorem laidOut : laidOutB Try.prog = true := by kernel_rfl

set_option maxRecDepth 100000 in
theorem lifted (os : Os) (started : os.Started) (H : Type) (enc : TypeId × Value → H) :
    ReturnsInHanded {} Try.checked os 7 .any (Rows.tileLastSpec.pre6 enc Try.prog Try.f7 Rows.tileLastRow.domain false) (Rows.tileLastSpec.post enc Try.prog Try.f7 false true false false) := by
  refine returnsInHanded_of_change (C := Try.checked) own started (by kernel_rfl) Try.func7
    (ChangeSpec.witness6 (enc := enc) (C := Try.checked) false ⟨#[], #[.slice none 0 0, .int .u32 0], []⟩ 8 (by kernel_rfl) (by kernel_rfl) (by kernel_rfl) (by kernel_rfl)) ?_
  intro W base args ds gs before hval0 hW hcnd _
  have hval : ∀ (j : Nat) t v, Try.f7.params[j]? = some t → args[j]? = some v → Value.okWide Try.prog W .any base t v := hval0
  have hW' := hW
  obtain ⟨p, q, hA0, hV, rfl, hfz, hnd⟩ := hW
  obtain ⟨rfl, rfl⟩ := trodVars_none hV
  have hA : DataW.TrodAll enc Try.prog W 0 (fun _ => true) true Try.f7.params.toList args.toList ds p := hA0
  rw [Try.params7] at hA hval
  obtain ⟨v0, vs0, d0, ds0, p0, q0, hargs, rfl, rfl, h0, r0⟩ := trodAll_cons hA
  obtain ⟨v1, vs1, d1, ds1, p1, q1, rfl, rfl, rfl, h1, r1⟩ := trodAll_cons r0
  obtain ⟨rfl, rfl, rfl⟩ := trodAll_nil r1
  obtain rfl : args = #[v0, v1] := by cases args; simp_all
  have ok0 := hval 0 56 v0 rfl rfl
  obtain ⟨a1, rfl, rfl, rfl, w1⟩ := open_int Try.underlying57 (hval 1 57 v1 rfl rfl) h1
  obtain ⟨l, hl⟩ := open_sl Try.underlying56 Try.underlying43 (by kernel_rfl) ok0 h0
  refine (walk v0 l W hl a1).mono fun e W' ⟨he, hg⟩ => ?_
  subst he
  exact ⟨_, rfl, law_post laidOut Try.underlying4 rfl (by rw [Try.params7]; intro t ht; simp at ht; rcases ht with rfl | rfl <;> exact ⟨by kernel_rfl, of_decide_eq_true (by kernel_rfl)⟩) rfl hW' rfl hg⟩

theorem proved : Rows.TileLastSaid :=
  OpenClaim.holds_of_wide 7 Try.f7 rfl rfl rfl rfl rfl rfl rfl ⟨rfl, rfl, rfl, rfl, rfl⟩ rfl rfl rfl rfl rfl (by kernel_rfl) Try.func7 (by kernel_rfl)
    (of_decide_eq_true (by kernel_rfl)) (by unfold Func.isWrapper; first | (rw [if_pos (by decide +kernel)]; kernel_rfl) | (rw [if_neg (by decide +kernel)]; exact ⟨rfl, rfl⟩))
    (fun os started H enc _ => lifted os started H enc)
#print axioms proved

end Go.Proofs.Ytimmbalmealkaaa.tileLast
