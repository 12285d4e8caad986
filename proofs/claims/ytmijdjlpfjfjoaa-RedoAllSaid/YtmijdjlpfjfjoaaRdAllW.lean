/- RedoAll's walk. -/
import Derived.Test.YtmijdjlpfjfjoaaRdL7
import Derived.Test.YtmijdjlpfjfjoaaRfA
import Derived.Test.YtmijdjlpfjfjoaaRfP
import Derived.Deep.DeepCutAuto
import Derived.Deep.CutBlock
import Derived.Deep.QuietTactic
import Derived.BigQuiet
namespace Go.Proofs.Ytmijdjlpfjfjoaa.Rx
open Go.RowKit

/-- An entry that comes in. -/
structure EnRaw (w : World) (e : En) (x : Ex) : Prop where
  new : SlK .u8 w (.slice x.NA e.new.length x.NK) e.new
  mv : Els w (.slice x.MA e.mv.length x.MK) 4 (e.mv.map mvV)
theorem flat_ints (l : List Nat) : (l.map fun (n : Nat) => [Value.int .i64 (n : Int)]).flatten = intV l := by
  unfold intV
  induction l with
  | nil => rfl
  | cons a t ih => rw [List.map_cons, List.flatten_cons, List.map_cons]; simpa using ih
theorem own_ints {w : World} {B : Nat} {v : Value} {l : List Nat} (h : w.ownsRow B 3 1 v l.length (intV l)) : Els w v 1 (l.map fun (n : Nat) => [Value.int .i64 (n : Int)]) := by
  refine own_els (n := l.length) (B := B) (e := 3) ?_ (by simp) (fun y hy => by obtain ⟨n, _, rfl⟩ := List.mem_map.1 hy; rfl)
  rw [flat_ints]
  exact h
theorem pgs_len (l : List Gv) : (pgs l).length ≤ 32 := pk_len l 32
theorem pgSame_refl (c : Nat → List Int) (n : Int) : pgSame c c n n = true := by
  rw [pgSame_all (fun j _ => by simp [sameB])]
  simp

set_option maxRecDepth 100000 in
set_option maxHeartbeats 4000000 in
theorem redoAll_any (w : World) (v : Value) (l : List Int) (lsn n : Int) (e : En) (x : Ex) (now : Int) (hl : SlK .u8 w v l) (h0 : 0 ≤ lsn ∧ lsn ≤ 65535) (hR : EnRaw w e x) :
    Calls Try.prog 3 #[v, .int .u16 lsn, .int .i64 n, .agg (enC e x), .int .i64 now] w fun r w' => r = .returned (.bool true) ∧ Below w.heap.size w w' := by
  obtain ⟨A, cap, rfl, -⟩ := id hl
  have hb0 : Below w.heap.size w (w.alloc (.cells (enC e x) 31)) := (Below.refl _ _).alloc (Nat.le_refl _) _
  have HX := Lib.hid (show (w.alloc (.cells (enC e x) 31)).heap[w.heap.size]? = some (.cells (enC e x) 31 (0, 0)) from heap_alloc_new w _)
  have HB := Lib.hid hb0
  have HS : Hid ((w.alloc (.cells (enC e x) 31)).heap.size = w.heap.size + 1) := by show _ = _; simp
  have HL := Lib.hid hl
  have HR := Lib.hid hR
  have HI := Lib.hid (infoE2 e x)
  have HN := Lib.hid h0
  clear hl hR hb0 h0
  go_enter Try.func3, Try.ntmps3
  go_upto_region 1 with (fail)
  generalize w.alloc (.cells (enC e x) 31) = w1 at *
  go_upto_region 3 with (go_at_call 7; refine (begun16 _).mono ?_; rintro r w2 ⟨rfl, hb2⟩)
  have HX2 := Lib.hid ((hb2.block _ (by have := HS.out; omega)).trans HX.out)
  have HB2 := Lib.hid (HB.out.trans (hb2.mono HB.out.size))
  have HS2 : Hid (w.heap.size < w2.heap.size) := (Array.getElem?_eq_some_iff.1 HX2.out).1
  have c11 : w2.cell? ⟨w.heap.size, 11, none⟩ = some (.slice x.NA e.new.length x.NK) := (cell_of HX2.out 11).1
  have c12 : w2.cell? ⟨w.heap.size, 12, none⟩ = some (.slice x.MA e.mv.length x.MK) := (cell_of HX2.out 12).1
  clear hb2 HX HB HS
  by_cases hl4 : 4 < l.length
  · go_wp2
    go_ret
    exact ⟨rfl, HB2.out⟩
  by_cases hn40 : 40 < e.new.length
  · go_wp2
    go_ret
    exact ⟨rfl, HB2.out⟩
  by_cases hm20 : 20 < e.mv.length
  · go_wp2
    go_ret
    exact ⟨rfl, HB2.out⟩
  have HE2 : Hid (EnIn w2 e x) := ⟨HR.out.new.below HB2.out (Nat.le_refl _), HR.out.mv.below HB2.out (Nat.le_refl _), by omega, by omega⟩
  have hw16 : IntKind.i64.wrap lsn = lsn := IntWalk.i64_in _ (by have := HN.out; omega)
  have HM := Lib.hid (made_any w2 (.slice A l.length cap) l lsn (HL.out.below HB2.out (Nat.le_refl _)) (by omega))
  go_upto_region 6 with (go_at_call 8; refine HM.out.mono ?_; rintro r w3 ⟨P3, N3, K3, rfl, hc3, hb3⟩; clear HM; unfold pgV)
  clear c11 c12 hw16
  show Code.wp _ _ _ _ (w3.alloc (pgO P3 N3 K3 lsn))
  have hal := (Below.refl w3.heap.size w3).alloc (Nat.le_refl _) (pgO P3 N3 K3 lsn)
  have hb4 := hb3.trans (hal.mono hb3.size)
  have HC4 := Lib.hid (hc3.below hal (Nat.le_refl _))
  have HP4 := Lib.hid (show (w3.alloc (pgO P3 N3 K3 lsn)).heap[w3.heap.size]? = some (pgO P3 N3 K3 lsn) from heap_alloc_new w3 _)
  have HX4 := Lib.hid ((hb4.block _ HS2.out).trans HX2.out)
  have HB4 := Lib.hid (HB2.out.trans (hb4.mono HB2.out.size))
  have HE4 := Lib.hid (HE2.out.below hb4 (Nat.le_refl _))
  have HW4 : Hid (w3.heap.size < (w3.alloc (pgO P3 N3 K3 lsn)).heap.size ∧ w.heap.size < w3.heap.size) := ⟨by simp, by have := hb3.size; have := HS2.out; omega⟩
  generalize w3.alloc (pgO P3 N3 K3 lsn) = w4 at *
  obtain ⟨c0, c1, c2, c3, c4⟩ := pg5 HP4.out
  have HLe : Hid (∀ i, i < 4 → (madeC l i).length ≤ 100000) := fun i _ => by have := (madeC_rd l i).2.2.2; omega
  have HA := Lib.hid (apply_any w4 P3 N3 K3 lsn _ n e x now HC4.out HLe.out HE4.out)
  unfold pgV at HA
  clear hal hb4 hc3 hb3 HX2 HE2 HB2 HS2
  go_upto_region 7 with (first
    | (with_reducible refine wpList_load_row rfl 31 (.tmp 8) rfl w.heap.size rfl 31 _ (0, 0) _ HX4.out Try.underlying31 rfl HI.out ?_)
    | (go_at_call 9; refine HA.out.mono ?_; rintro r w5 ⟨P5, N5, K5, rfl, hc5, hb5⟩; clear HA; unfold pgV))
  show Code.wp _ _ _ _ (w5.alloc (pgO P5 N5 K5 (apN lsn n e now)))
  have hal := (Below.refl w5.heap.size w5).alloc (Nat.le_refl _) (pgO P5 N5 K5 (apN lsn n e now))
  have hb6 := hb5.trans (hal.mono hb5.size)
  have HC6 := Lib.hid (hc5.below hal (Nat.le_refl _))
  have HC6o := Lib.hid (HC4.out.below hb6 (Nat.le_refl _))
  have HP6 := Lib.hid ((hb6.block _ HW4.out.1).trans HP4.out)
  have HQ6 := Lib.hid (show (w5.alloc (pgO P5 N5 K5 (apN lsn n e now))).heap[w5.heap.size]? = some (pgO P5 N5 K5 (apN lsn n e now)) from heap_alloc_new w5 _)
  have HX6 := Lib.hid ((hb6.block _ (by have := HW4.out; omega)).trans HX4.out)
  have HB6 := Lib.hid (HB4.out.trans (hb6.mono HB4.out.size))
  have HE6 := Lib.hid (HE4.out.below hb6 (Nat.le_refl _))
  have HW6 : Hid (w5.heap.size < (w5.alloc (pgO P5 N5 K5 (apN lsn n e now))).heap.size ∧ w.heap.size < w5.heap.size) := ⟨by simp, by have := hb5.size; have := HW4.out; omega⟩
  clear c0 c1 c2 c3 c4
  generalize w5.alloc (pgO P5 N5 K5 (apN lsn n e now)) = w6 at *
  obtain ⟨c0, c1, c2, c3, c4⟩ := pg5 HP6.out
  have HA := Lib.hid (rapply_any w6 P3 N3 K3 lsn _ n e x now HC6o.out HE6.out)
  unfold pgV at HA
  clear hal hb6 hc5 hb5 HX4 HE4 HB4 HP4 HC4
  go_upto_region 8 with (first
    | (with_reducible refine wpList_load_row rfl 31 (.tmp 8) rfl w.heap.size rfl 31 _ (0, 0) _ HX6.out Try.underlying31 rfl HI.out ?_)
    | (go_at_call 10; refine HA.out.mono ?_; rintro r w7 ⟨P7, N7, K7, rfl, hc7, hb7⟩; clear HA; unfold pgV))
  show Code.wp _ _ _ _ (w7.alloc (pgO P7 N7 K7 (apN lsn n e now)))
  have hal := (Below.refl w7.heap.size w7).alloc (Nat.le_refl _) (pgO P7 N7 K7 (apN lsn n e now))
  have hb8 := hb7.trans (hal.mono hb7.size)
  have HSm := Lib.hid (samePage_any (w7.alloc (pgO P7 N7 K7 (apN lsn n e now))) P5 N5 K5 (apN lsn n e now) _ P7 N7 K7 (apN lsn n e now) _ (HC6.out.below hb8 (Nat.le_refl _)) (hc7.below hal (Nat.le_refl _)))
  rw [pgSame_refl] at HSm
  unfold pgV at HSm
  have HQ8 := Lib.hid ((hb8.block _ HW6.out.1).trans HQ6.out)
  have HP8 := Lib.hid (show (w7.alloc (pgO P7 N7 K7 (apN lsn n e now))).heap[w7.heap.size]? = some (pgO P7 N7 K7 (apN lsn n e now)) from heap_alloc_new w7 _)
  have HX8 := Lib.hid ((hb8.block _ (by have := HW6.out; omega)).trans HX6.out)
  have HB8 := Lib.hid (HB6.out.trans (hb8.mono HB6.out.size))
  have HE8 := Lib.hid (HE6.out.below hb8 (Nat.le_refl _))
  have HW8 : Hid (w.heap.size < (w7.alloc (pgO P7 N7 K7 (apN lsn n e now))).heap.size) := (Array.getElem?_eq_some_iff.1 HX8.out).1
  clear c0 c1 c2 c3 c4
  generalize w7.alloc (pgO P7 N7 K7 (apN lsn n e now)) = w8 at *
  obtain ⟨c0, c1, c2, c3, c4⟩ := pg5 HQ8.out
  obtain ⟨d0, d1, d2, d3, d4⟩ := pg5 HP8.out
  clear hal hb8 hc7 hb7 HX6 HE6 HB6 HP6 HC6 HC6o HQ6
  generalize apc lsn n e now = ab at *
  cases ab
  all_goals
    go_upto_region 10 with (go_at_call 11; refine HSm.out.mono ?_; rintro r w9 ⟨rfl, hb9⟩)
    --R10
    have HX9 := Lib.hid ((hb9.block _ HW8.out).trans HX8.out)
    have HE9 := Lib.hid (HE8.out.below hb9 (Nat.le_refl _))
    have HB9w := Lib.hid (HB8.out.trans (hb9.mono HB8.out.size))
    have HLT9 : Hid (w.heap.size < w9.heap.size) := (Array.getElem?_eq_some_iff.1 HX9.out).1
    clear hb9 c0 c1 c2 c3 c4 d0 d1 d2 d3 d4 HSm
    go_cut [16, 17] (fun u v wx => Hid (Els wx u 1 ((pgs (tl e)).map fun (n : Nat) => [Value.int .i64 (n : Int)]) ∧ Els wx v 1 ((pgs (tl e)).map fun (n : Nat) => [Value.int .i64 (n : Int)]) ∧ Below w.heap.size w wx))
    case first =>
      refine wp_region_G (fun Z : World => Z.heap[w.heap.size]? = some (.cells (enC e x) 31 (0, 0))) (fun _ => false) (by kernel_rfl) ?_
      have hS0 : (fun Z : World => Z.heap[w.heap.size]? = some (.cells (enC e x) 31 (0, 0))) w9.drew := HX9.out
      have HBz0 : Hid (Below w9.heap.size w9 w9.drew) := (Below.refl _ _).drew
      generalize w9.drew = z0 at *
      refine wpAnyG_take (i := 0) (oi := ⟨_, _, _, _, _, _⟩) (v := .agg (enC e x)) rfl (by kernel_rfl) (by kernel_rfl) (by kernel_rfl) (by kernel_rfl) (fun _ _ _ h => h) hS0 (Or.inl ⟨by rfl, fun W hW => held_row 31 (.tmp 8) rfl w.heap.size rfl 31 _ (0, 0) _ hW Try.underlying31 rfl HI.out⟩) ?_
      try simp only [Act.put, List.setIfInBounds_toArray, List.set_cons_zero, List.set_cons_succ]
      refine wpAnyG_take (i := 2) (oi := ⟨_, _, _, _, _, _⟩) (v := .agg (enC e x)) rfl (by kernel_rfl) (by kernel_rfl) (by kernel_rfl) (by kernel_rfl) (fun _ _ _ h => h) hS0 (Or.inl ⟨by rfl, fun W hW => held_row 31 (.tmp 8) rfl w.heap.size rfl 31 _ (0, 0) _ hW Try.underlying31 rfl HI.out⟩) ?_
      try simp only [Act.put, List.setIfInBounds_toArray, List.set_cons_zero, List.set_cons_succ]
      clear hS0
      refine wpAnyG_ready (rs := [1]) (by kernel_rfl) (by simp) ?_
      refine AllReadyG.cons (o := ⟨_, _, _, _, _, _⟩) rfl (fun K hK => ?_) AllReadyG.nil
      go_simp
      go_at_call 12
      refine ((callsIn_wide (n := 8)).1 (pages_in z0 e x (HE9.out.below HBz0.out (Nat.le_refl _)))).mono ?_
      rintro r z1 ⟨va, rfl, ho_va, hb_va⟩
      have HBz1 := Lib.hid (HBz0.out.trans (hb_va.mono HBz0.out.size))
      have HO_va := Lib.hid (And.intro (own_ints ho_va) hb_va)
      clear ho_va hb_va
      go_wp2_with fail
      refine hK.out _ _ (fun _ _ => (HBz1.out.block _ HLT9.out).trans HX9.out) ?_
      clear hK K
      try simp only [Act.put, List.setIfInBounds_toArray, List.set_cons_zero, List.set_cons_succ]
      refine wpAnyG_ready (rs := [3]) (by kernel_rfl) (by simp) ?_
      refine AllReadyG.cons (o := ⟨_, _, _, _, _, _⟩) rfl (fun K hK => ?_) AllReadyG.nil
      go_simp
      go_at_call 13
      refine (rpages_any z1 e x (HE9.out.below HBz1.out (Nat.le_refl _))).mono ?_
      rintro r z2 ⟨vb, rfl, ho_vb, hb_vb⟩
      have HBz2 := Lib.hid (HBz1.out.trans (hb_vb.mono HBz1.out.size))
      have HO_vb := Lib.hid (And.intro (own_ints ho_vb) hb_vb)
      clear ho_vb hb_vb
      go_wp2_with fail
      refine hK.out _ _ (fun _ _ => (HBz2.out.block _ HLT9.out).trans HX9.out) ?_
      clear hK K
      try simp only [Act.put, List.setIfInBounds_toArray, List.set_cons_zero, List.set_cons_succ]
      refine wpAnyG_take0 (i := 4) (oi := ⟨_, _, _, _, _, _⟩) (v := ?_) rfl (by kernel_rfl) (by kernel_rfl) (by kernel_rfl) (fun _ _ _ h => h) (Or.inl ⟨by rfl, ?_⟩) ?_
      rotate_left
      · intro W _
        go_simp
        try with_reducible rfl
      rotate_left
      try simp only [Act.put, List.setIfInBounds_toArray, List.set_cons_zero, List.set_cons_succ]
      refine wpAnyG_take0 (i := 5) (oi := ⟨_, _, _, _, _, _⟩) (v := ?_) rfl (by kernel_rfl) (by kernel_rfl) (by kernel_rfl) (fun _ _ _ h => h) (Or.inl ⟨by rfl, ?_⟩) ?_
      rotate_left
      · intro W _
        go_simp
        try with_reducible rfl
      rotate_left
      try simp only [Act.put, List.setIfInBounds_toArray, List.set_cons_zero, List.set_cons_succ]
      refine wpAnyG_done (by kernel_rfl) ?_ _
      go_wp2_with fail
      go_meet
      exact ⟨HO_va.out.1.below HO_vb.out.2 (Nat.le_refl _), HO_vb.out.1, HB9w.out.trans (HBz2.out.mono HB9w.out.size)⟩
    case rest =>
      obtain ⟨hX, hY, hbc⟩ := hcut.out
      obtain ⟨m, hm⟩ : ∃ m, m = (pgs (tl e)).length := ⟨_, rfl⟩
      obtain ⟨A1, q1, rfl, -⟩ := id hX
      obtain ⟨A2, q2, rfl, -⟩ := id hY
      rw [List.length_map, ← hm] at hX hY ⊢
      have hm32 : m ≤ 32 := by rw [hm]; exact pgs_len _
      have HXe := Lib.hid hX
      have HYe := Lib.hid hY
      have HBc := Lib.hid hbc
      have HM := Lib.hid hm
      have HR0 : Hid (Below wc.heap.size wc wc) := Below.refl _ _
      clear hX hY hbc hm hcut
      go_wp2
      go_loopw [18] (fun i wr => Hid (∃ j : Nat, j ≤ m ∧ i = .int .i64 (j : Int) ∧ Below wc.heap.size wc wr)) (fun i _ => m - (RowKit.intOf i).toNat)
      case atStart => exact ⟨0, Nat.zero_le _, rfl, HR0.out⟩
      case round =>
        obtain ⟨j, hj, rfl, hb⟩ := hrel.out
        clear hrel
        by_cases hlt : j < m
        · obtain ⟨b1, o1, rfl, _, hc1⟩ := (HXe.out.below hb (Nat.le_refl _)).one (i := j) (by rw [List.length_map, ← HM.out]; exact hlt)
          obtain ⟨b2, o2, rfl, _, hc2⟩ := (HYe.out.below hb (Nat.le_refl _)).one (i := j) (by rw [List.length_map, ← HM.out]; exact hlt)
          have k1 : wr.cell? ⟨b1, o1 + j, none⟩ = some (.int .i64 (((pgs (tl e))[j]'(by rw [← HM.out]; exact hlt) : Nat) : Int)) := by simpa using hc1 0 (by omega)
          have k2 : wr.cell? ⟨b2, o2 + j, none⟩ = some (.int .i64 (((pgs (tl e))[j]'(by rw [← HM.out]; exact hlt) : Nat) : Int)) := by simpa using hc2 0 (by omega)
          obtain ⟨p, hp⟩ : ∃ p : Int, p = (((pgs (tl e))[j]'(by rw [← HM.out]; exact hlt) : Nat) : Int) := ⟨_, rfl⟩
          rw [← hp] at k1 k2
          have HBj := Lib.hid (hb.trans ((Below.refl wr.heap.size wr).drew.mono hb.size))
          have HLT := Lib.hid hlt
          clear hc1 hc2 hp hb
          go_upto_region 16 with (fail)
          go_region
          all_goals
            go_wp2
            go_roundw
            case rel => exact ⟨j + 1, HLT.out, by go_num, HBj.out⟩
            case measure => have := HLT.out; simp [RowKit.intOf]; omega
        · obtain rfl : j = m := by omega
          have HBj := Lib.hid (HBc.out.trans (hb.mono HBc.out.size))
          clear hb
          go_wp2
          go_ret
          exact ⟨rfl, HBj.out⟩
end Go.Proofs.Ytmijdjlpfjfjoaa.Rx
