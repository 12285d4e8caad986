/- SheetForms: the closed law answers true; no condition. -/
import Derived.Test.YtmaamneebdejhaaBeg
import Derived.Test.YtmaamneebdejhaaRow
namespace Go.Proofs.Ytmaamneebdejhaa.sheetForms
open Go.ChangeShapes Go.WideShapes Go.ChangeAt Go.RowKit

def zs (n : Nat) : List Int := List.replicate n 0
theorem zs_ok (n : Nat) : bytesOk (zs n) := by intro x hx; rw [zs, List.mem_replicate] at hx; omega
def hi : List Int := 128 :: zs 63
theorem hi_ok : bytesOk hi := by
  intro x hx
  rcases List.mem_cons.1 hx with rfl | h
  · omega
  · exact zs_ok _ x h

set_option maxRecDepth 100000 in
set_option maxHeartbeats 1000000 in
theorem walk (w : World) : Calls Try.prog 5 #[] w fun e w' => e = .returned (.bool true) ∧ Below w.heap.size w w' := by
  have hmk : ∀ W, (Instr.makeSlice 22 (.int .i64 64) (.int .i64 64)).run Try.prog W = .ok (.slice (some ⟨W.heap.size, 0, none⟩) 64 64) (W.alloc (.cells (byteV (zs 64)).toArray 5)) := fun _ => by kernel_rfl
  have hmk1 : ∀ W, (Instr.makeSlice 22 (.int .i64 121) (.int .i64 121)).run Try.prog W = .ok (.slice (some ⟨W.heap.size, 0, none⟩) 121 121) (W.alloc (.cells (byteV (zs 121)).toArray 5)) := fun _ => by kernel_rfl
  have hmk2 : ∀ W, (Instr.makeSlice 22 (.int .i64 120) (.int .i64 120)).run Try.prog W = .ok (.slice (some ⟨W.heap.size, 0, none⟩) 120 120) (W.alloc (.cells (byteV (zs 120)).toArray 5)) := fun _ => by kernel_rfl
  go_enter Try.func5, Try.ntmps5
  go_wp2_with fail
  refine (begun_true w).mono ?_
  rintro e w1 ⟨rfl, hB1⟩
  go_upto_region 3 with fail
  go_cut [1, 2] (fun s t wx => ∃ g1 g2, s = .slice (some ⟨g1, 0, none⟩) 64 64 ∧ t = .slice (some ⟨g2, 0, none⟩) 64 64 ∧ g1 ≠ g2 ∧ w1.heap.size ≤ g1 ∧ w1.heap.size ≤ g2 ∧ Blk wx g1 (zs 64) ∧ Blk wx g2 (zs 64) ∧ Below w1.heap.size w1 wx)
  case first =>
    go_region
    all_goals (go_wp2; go_meet)
    · exact ⟨_, _, rfl, rfl, by omega, Nat.le_refl _, by omega, (blk_new _ _).old (B := w1.heap.size + 1) ((Below.refl _ _).alloc (by simp) _).drew (by omega), blk_new2 _ _ _, (((Below.refl _ _).alloc (Nat.le_refl _) _).alloc (by simp) _).drew⟩
    · exact ⟨_, _, rfl, rfl, by omega, by omega, Nat.le_refl _, blk_new2 _ _ _, (blk_new _ _).old (B := w1.heap.size + 1) ((Below.refl _ _).alloc (by simp) _).drew (by omega), (((Below.refl _ _).alloc (Nat.le_refl _) _).alloc (by simp) _).drew⟩
  case rest =>
    obtain ⟨g1, g2, rfl, rfl, hne, hg1, hg2, k1, k2, hb2⟩ := hcut
    have hB2 := hB1.trans (hb2.mono hB1.size)
    have hz := hB1.size
    clear hB1 hb2
    have c0 := k2.cell (j := 0) (by decide)
    have f0 := (cell_of k2 0).2
    go_wp2_with fail
    have k3 : Blk (wc.setCell ⟨g2, 0, none⟩ (.int .u8 128)) g2 hi := k2.set 0 128
    have k4 : Blk (wc.setCell ⟨g2, 0, none⟩ (.int .u8 128)) g1 (tileL 0 []) := k1.other hne
    have hB3 : Below w.heap.size w (wc.setCell ⟨g2, 0, none⟩ (.int .u8 128)) := hB2.setCell (Nat.le_trans hz hg2) _
    generalize wc.setCell ⟨g2, 0, none⟩ (.int .u8 128) = w3 at *
    clear k1 k2 c0 f0 hB2
    have nilok : bytesOk [] := by intro x hx; cases hx
    refine (take_same w3 k4 k4 (by omega) (by omega) nilok nilok (by simp) (by simp) rfl).mono ?_
    rintro e w4 ⟨g, cap, rfl, a1, a2, a3, a4, a5, hb4⟩
    have k5 := k4.old hb4 k4.lt
    have k6 := k3.old hb4 k3.lt
    have hB4 := hB3.trans (hb4.mono hB3.size)
    clear k3 k4 hb4 hB3 a5
    go_wp2_with fail
    refine (take_form w4 _ _ hi hi (k6.pt rfl (Nat.le_refl _)) (k6.pt rfl (Nat.le_refl _)) rfl rfl hi_ok hi_ok rfl (by decide)).mono ?_
    rintro e w5 ⟨rfl, rfl⟩
    go_wp2_with fail
    refine (take_torn w5 _ _ hi (tileL 0 []) (k6.pt rfl (Nat.le_refl _)) (k5.pt rfl (Nat.le_refl _)) rfl rfl hi_ok (tile_ok (by omega) (by omega) nilok) (by decide)).mono ?_
    rintro e w6 ⟨rfl, rfl⟩
    go_wp2_with fail
    have k7 : SlK .u8 w6 (.slice (some ⟨g1, 1, none⟩) 63 63) (zs 63) := by
      refine Pt.slK ⟨g1, 1, 63, rfl, Nat.le_refl _, k5.lt, fun j hj => ?_⟩ (zs_ok _)
      have := k5.cell (j := 1 + j) (by simp [zs] at hj; simp [tileL, head]; omega)
      rw [this]
      simp only [zero_tile, zs, List.getElem_replicate]
    refine (take_bad w6 _ _ (tileL 0 []) (zs 63) ((k5.pt rfl (Nat.le_refl _)).slK (tile_ok (by omega) (by omega) nilok)) k7 (Or.inr (by decide))).mono ?_
    rintro e w7 ⟨rfl, rfl⟩
    go_wp2_with fail
    refine (put_bad w7 (-1) _ [] (slK_nil _) (Or.inl (by omega))).mono ?_
    rintro e w8 ⟨rfl, rfl⟩
    go_wp2_with fail
    refine (put_bad w8 2147483648 _ [] (slK_nil _) (Or.inr (Or.inl (by omega)))).mono ?_
    rintro e w9 ⟨rfl, rfl⟩
    clear k5 k6 k7
    go_wp2_with fail
    have k8 := ((blk_new w9 (zs 121)).pt (n := 121) (c := 121) rfl (Nat.le_refl _)).slK (zs_ok _)
    have hB5 : Below w.heap.size w (w9.alloc (.cells (byteV (zs 121)).toArray 5)) := hB4.alloc hB4.size _
    generalize w9.alloc (.cells (byteV (zs 121)).toArray 5) = wa at *
    refine (put_bad wa 0 _ _ k8 (Or.inr (Or.inr (by decide)))).mono ?_
    rintro e wb ⟨rfl, rfl⟩
    clear k8
    go_wp2_with fail
    have k9 := ((blk_new wb (zs 120)).pt (n := 120) (c := 120) rfl (Nat.le_refl _)).slK (zs_ok _)
    have hB6 : Below w.heap.size w (wb.alloc (.cells (byteV (zs 120)).toArray 5)) := hB5.alloc hB5.size _
    generalize wb.alloc (.cells (byteV (zs 120)).toArray 5) = wd at *
    refine (put_ok wd 2147483647 (by omega) (by omega) _ _ k9 (by decide)).mono ?_
    rintro e we ⟨ga, gb, rfl, _, _, hb7, _, _⟩
    have hB7 := hB6.trans (hb7.mono hB6.size)
    go_wp2
    go_ret
    exact ⟨rfl, hB7⟩

theorem own : ownKnob Try.prog.godebug = none := by kernel_rfl
theorem laidOut : laidOutB Try.prog = true := by kernel_rfl

set_option maxRecDepth 100000 in
theorem lifted (os : Os) (started : os.Started) (H : Type) (enc : TypeId × Value → H) :
    ReturnsInHanded {} Try.checked os 5 .any (Rows.sheetFormsSpec.pre6 enc Try.prog Try.f5 Rows.sheetFormsRow.domain false) (Rows.sheetFormsSpec.post enc Try.prog Try.f5 false true false false) := by
  refine returnsInHanded_of_change (C := Try.checked) own started (by kernel_rfl) Try.func5
    (ChangeSpec.witness6 (enc := enc) (C := Try.checked) false ⟨#[], #[], []⟩ 8 (by kernel_rfl) (by kernel_rfl) (by kernel_rfl) (by kernel_rfl)) ?_
  intro W base args ds gs before hval0 hW hcnd _
  have hval : ∀ (j : Nat) t v, Try.f5.params[j]? = some t → args[j]? = some v → Value.okWide Try.prog W .any base t v := hval0
  have hW' := hW
  obtain ⟨p, q, hA0, hV, rfl, hfz, hnd⟩ := hW
  obtain ⟨rfl, rfl⟩ := trodVars_none hV
  have hA : DataW.TrodAll enc Try.prog W 0 (fun _ => true) true Try.f5.params.toList args.toList ds p := hA0
  rw [Try.params5] at hA hval
  obtain ⟨hargs, rfl, rfl⟩ := trodAll_nil hA
  obtain rfl : args = #[] := by cases args; simp_all
  refine (walk W).mono fun e W' ⟨he, hg⟩ => ?_
  subst he
  exact ⟨_, rfl, law_post laidOut Try.underlying4 rfl (by rw [Try.params5]; intro t ht; cases ht) rfl hW' rfl hg⟩

theorem proved : Rows.SheetFormsSaid :=
  OpenClaim.holds_of_wide 5 Try.f5 rfl rfl rfl rfl rfl rfl rfl ⟨rfl, rfl, rfl, rfl, rfl⟩ rfl rfl rfl rfl rfl (by kernel_rfl) Try.func5 (by kernel_rfl)
    (of_decide_eq_true (by kernel_rfl)) (by unfold Func.isWrapper; first | (rw [if_pos (by decide +kernel)]; kernel_rfl) | (rw [if_neg (by decide +kernel)]; exact ⟨rfl, rfl⟩))
    (fun os started H enc _ => lifted os started H enc)
#print axioms proved

end Go.Proofs.Ytmaamneebdejhaa.sheetForms
