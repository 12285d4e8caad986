/- TileLent: for every byte c and number at the law answers true; no condition. -/
import Derived.Test.YtimmbalmealkaaaFull
import Derived.Test.YtimmbalmealkaaaRow
import Derived.Deep.RegionWith
namespace Go.Proofs.Ytimmbalmealkaaa.tileLent
open Go.ChangeShapes Go.WideShapes Go.ChangeAt Go.RowKit

theorem below_alloc {B : Nat} {w W : World} (h : Below B w W) (hB : B ≤ W.heap.size) (o : Obj) : Below B w (W.alloc o) ∧ B ≤ (W.alloc o).heap.size := ⟨h.alloc hB o, by simp; omega⟩

set_option maxRecDepth 100000 in
set_option maxHeartbeats 1000000 in
theorem walk (c : Int) (c0 : 0 ≤ c) (c1 : c < 256) (a : Nat) (ha : a < 256) (w : World) : Calls Try.prog 9 #[.int .u8 c, .int .u8 a] w fun e w' => e = .returned (.bool true) ∧ Below w.heap.size w w' := by
  have HA := Lib.hid (Nat.mod_lt a (show 0 < 64 by omega))
  go_enter Try.func9, Try.ntmps9
  go_wp2_with fail
  refine (begun_true w).mono ?_
  rintro e w1 ⟨rfl, hB1⟩
  have hz1 : w.heap.size ≤ w1.heap.size := hB1.size
  go_wp2_with fail
  refine (new_any w1 2).mono ?_
  rintro e w2 ⟨rfl, hD2, hB2⟩
  rw [show clampT 2 = 2 from rfl] at hD2
  have hl2 := hD2.lt
  have hO : Own w.heap.size (w1.heap.size + 1 + 1) w1.heap.size (w1.heap.size + 1) := ⟨by omega, by omega, by omega⟩
  have hB2' : Below w.heap.size w w2 := hB1.trans (hB2.mono hz1)
  have hz2 : w.heap.size ≤ w2.heap.size := hB2'.size
  generalize w1.heap.size + 1 + 1 = p at *
  generalize w1.heap.size + 1 = bo at *
  generalize w1.heap.size = bn at *
  clear hB1 hB2
  go_wp2_with fail
  refine (full_any w2 c).mono ?_
  rintro e w3 ⟨rfl, hw3⟩
  have hs3 : SlB w3 (.slice (some ⟨w2.heap.size, 0, none⟩) 64 64) (rep c) w2.heap.size := by
    have := slB_new w2 (rep c) 5 (by rw [rep_len]; omega)
    rw [rep_len] at this; rw [hw3]; exact this
  have hD3 : DiskAt w3 p bn bo 0 (.fresh 2) := by rw [hw3]; exact hD2.kept (fun k hk => Below.heap_alloc w2 _ k hk)
  have hB3 : Below w.heap.size w w3 := by rw [hw3]; exact hB2'.alloc hz2 _
  have hz3 : w.heap.size ≤ w3.heap.size := hB3.size
  have hg3 : w3.heap[w2.heap.size]? = some (.cells (byteV (rep c)).toArray 5 (0, 0)) := by rw [hw3]; exact heap_alloc_new w2 _
  have hgs : w2.heap.size < w3.heap.size := by rw [hw3]; simp
  have hng : ¬ Three p bn bo w2.heap.size := by rintro (e | e | e) <;> omega
  clear hw3 hB2' hD2
  generalize w2.heap.size = gb at *
  clear hl2
  go_wp2_with fail
  refine (write_plain w3 hD3 rfl 1 (by omega) (by decide) _ _ hs3 (rep_len c) (rep_ok c c0 c1) rfl).mono ?_
  rintro e w4 ⟨rfl, hD4, hF4⟩
  have hB4 := hO.fr hB3 hz3 hF4
  have hz4 : w.heap.size ≤ w4.heap.size := hB4.size
  have hg4 : w4.heap[gb]? = some (.cells (byteV (rep c)).toArray 5 (0, 0)) := (hF4.block gb hgs hng).trans hg3
  have hgb4 : gb < w4.heap.size := by have := hF4.size; omega
  clear hF4 hB3 hz3 hD3 hs3 hg3 hgs
  have hc4 := (cell_of hg4 (a % 64)).1
  have hf4 := (cell_of hg4 (a % 64)).2
  rw [rep_get c HA.out] at hc4
  have HG := Lib.hid hg4
  clear hg4
  go_wp2_with fail
  have hD5 : DiskAt (w4.setCell ⟨gb, a % 64, none⟩ (.int .u8 (bits BinOp.xor .u8 c 1))) p bn bo 0 ((Dk.fresh 2).store 1 (blkOf (rep c))) := hD4.away (fun k hk => Below.heap_setCell _ _ _ _ (fun (e : k = gb) => hng (e ▸ hk))) (nil_SlB _ _)
  have hB5 : Below w.heap.size w (w4.setCell ⟨gb, a % 64, none⟩ (.int .u8 (bits BinOp.xor .u8 c 1))) := hB4.setCell (by omega) _
  generalize w4.setCell ⟨gb, a % 64, none⟩ (.int .u8 (bits BinOp.xor .u8 c 1)) = w5 at *
  have hz5 : w.heap.size ≤ w5.heap.size := hB5.size
  clear hB4 hz4 hD4 hc4 hf4 HG
  refine (read_ok w5 hD5 rfl 1 (by omega) (show (1 : Int) < 2 by decide) (rep c) rfl (rep_len c)).mono ?_
  rintro e w6 ⟨rfl, hw6⟩
  have hD6 : DiskAt w6 p bn bo 0 ((Dk.fresh 2).store 1 (blkOf (rep c))) := by rw [hw6]; exact hD5.kept (fun k hk => Below.heap_alloc w5 _ k hk)
  have hB6 : Below w.heap.size w w6 := by rw [hw6]; exact hB5.alloc hz5 _
  have hg6 : w6.heap[w5.heap.size]? = some (.cells (byteV (rep c)).toArray 70 (0, 0)) := by rw [hw6]; exact heap_alloc_new w5 _
  have hgs6 : w5.heap.size < w6.heap.size := by rw [hw6]; simp
  have HNX : Hid (¬ Three p bn bo w5.heap.size) := by have := hD5.lt; rintro (e | e | e) <;> omega
  clear hw6 hD5 hB5
  generalize w5.heap.size = gx at *
  obtain ⟨tx, htx⟩ : ∃ tx, bstr (rep c) = tx := ⟨_, rfl⟩
  go_upto_region 10 with fail
  go_cut [46] (fun s wx => s = .bool false ∧ Below w6.heap.size w6 wx)
  case first =>
    have v1 := conv_all (g := gx) (t := 70) (rep_len c) htx w6.drew hg6
    go_region_with (go_at_call 24; refine (full_b _ _).mono ?_; rintro e w7 ⟨gn, rfl, hb7, hg7⟩; have v2 := conv_all (rep_len c) htx w7 hg7; have v3 := conv_all (rep_len c) htx w7 (below_old hb7 hg6 (Nat.le_refl _)))
    all_goals (go_wp2_with fail; go_meet; exact ⟨rfl, below_undrew hb7⟩)
  case rest =>
    obtain ⟨rfl, hb7⟩ := hcut
    have hB7 : Below w.heap.size w wc := hB6.trans (hb7.mono hB6.size)
    have hz7 : w.heap.size ≤ wc.heap.size := hB7.size
    have hD7 : DiskAt wc p bn bo 0 ((Dk.fresh 2).store 1 (blkOf (rep c))) := hD6.kept (fun k hk => hb7.block k hk)
    have hg7 := below_old hb7 hg6 (Nat.le_refl _)
    have hc7 := (cell_of hg7 (a % 64)).1
    have hf7 := (cell_of hg7 (a % 64)).2
    rw [rep_get c HA.out] at hc7
    have hl7 := hD6.lt
    have hngx : ¬ Three p bn bo gx := HNX.out
    clear hb7 hB6 hD6 hg6 hg7
    go_wp2_with fail
    have hD8 : DiskAt (wc.setCell ⟨gx, a % 64, none⟩ (.int .u8 (bits BinOp.xor .u8 c 1))) p bn bo 0 ((Dk.fresh 2).store 1 (blkOf (rep c))) := hD7.away (fun k hk => Below.heap_setCell _ _ _ _ (fun (e : k = gx) => hngx (e ▸ hk))) (nil_SlB _ _)
    have hB8 : Below w.heap.size w (wc.setCell ⟨gx, a % 64, none⟩ (.int .u8 (bits BinOp.xor .u8 c 1))) := hB7.setCell (by omega) _
    generalize wc.setCell ⟨gx, a % 64, none⟩ (.int .u8 (bits BinOp.xor .u8 c 1)) = w8 at *
    have hz8 : w.heap.size ≤ w8.heap.size := hB8.size
    clear hB7 hz7 hD7 hc7 hf7
    refine (read_ok w8 hD8 rfl 1 (by omega) (show (1 : Int) < 2 by decide) (rep c) rfl (rep_len c)).mono ?_
    rintro e w9 ⟨rfl, hw9⟩
    have hB9 : Below w.heap.size w w9 := by rw [hw9]; exact hB8.alloc hz8 _
    have hg9 : w9.heap[w8.heap.size]? = some (.cells (byteV (rep c)).toArray 70 (0, 0)) := by rw [hw9]; exact heap_alloc_new w8 _
    clear hw9 hD8 hB8
    generalize w8.heap.size = gy at *
    go_upto_region 14 with fail
    go_cut [4] (fun s wx => s = .bool true ∧ Below w9.heap.size w9 wx)
    case first =>
      have v1 := conv_all (g := gy) (t := 70) (rep_len c) htx w9.drew hg9
      go_region_with (go_at_call 24; refine (full_b _ _).mono ?_; rintro e wa ⟨gn, rfl, hba, hga⟩; have v2 := conv_all (rep_len c) htx wa hga; have v3 := conv_all (rep_len c) htx wa (below_old hba hg9 (Nat.le_refl _)))
      all_goals (go_wp2_with fail; go_meet; exact ⟨rfl, below_undrew hba⟩)
    case rest =>
      obtain ⟨rfl, hba⟩ := hcut
      go_wp2_with fail
      go_ret
      exact ⟨rfl, hB9.trans (hba.mono hB9.size)⟩

theorem own : ownKnob Try.prog.godebug = none := by kernel_rfl
theorem laidOut : laidOutB Try.prog = true := by kernel_rfl

set_option maxRecDepth 100000 in
theorem lifted (os : Os) (started : os.Started) (H : Type) (enc : TypeId × Value → H) :
    ReturnsInHanded {} Try.checked os 9 .any (Rows.tileLentSpec.pre6 enc Try.prog Try.f9 Rows.tileLentRow.domain false) (Rows.tileLentSpec.post enc Try.prog Try.f9 false true false false) := by
  refine returnsInHanded_of_change (C := Try.checked) own started (by kernel_rfl) Try.func9
    (ChangeSpec.witness6 (enc := enc) (C := Try.checked) false ⟨#[], #[.int .u8 0, .int .u8 0], []⟩ 8 (by kernel_rfl) (by kernel_rfl) (by kernel_rfl) (by kernel_rfl)) ?_
  intro W base args ds gs before hval0 hW hcnd _
  have hval : ∀ (j : Nat) t v, Try.f9.params[j]? = some t → args[j]? = some v → Value.okWide Try.prog W .any base t v := hval0
  have hW' := hW
  obtain ⟨p, q, hA0, hV, rfl, hfz, hnd⟩ := hW
  obtain ⟨rfl, rfl⟩ := trodVars_none hV
  have hA : DataW.TrodAll enc Try.prog W 0 (fun _ => true) true Try.f9.params.toList args.toList ds p := hA0
  rw [Try.params9] at hA hval
  obtain ⟨v0, vs0, d0, ds0, p0, q0, hargs, rfl, rfl, h0, r0⟩ := trodAll_cons hA
  obtain ⟨v1, vs1, d1, ds1, p1, q1, rfl, rfl, rfl, h1, r1⟩ := trodAll_cons r0
  obtain ⟨rfl, rfl, rfl⟩ := trodAll_nil r1
  obtain rfl : args = #[v0, v1] := by cases args; simp_all
  obtain ⟨a0, rfl, rfl, rfl, w0⟩ := open_int Try.underlying5 (hval 0 5 v0 rfl rfl) h0
  obtain ⟨a1, rfl, rfl, rfl, w1⟩ := open_int Try.underlying5 (hval 1 5 v1 rfl rfl) h1
  have b0 := bounds_u8 w0
  have b1 := bounds_u8 w1
  obtain ⟨n, rfl⟩ := Int.eq_ofNat_of_zero_le b1.1
  refine (walk a0 b0.1 (by omega) n (by omega) W).mono fun e W' ⟨he, hg⟩ => ?_
  subst he
  exact ⟨_, rfl, law_post laidOut Try.underlying4 rfl (by rw [Try.params9]; intro t ht; simp at ht; subst ht; exact ⟨by kernel_rfl, of_decide_eq_true (by kernel_rfl)⟩) rfl hW' rfl hg⟩

theorem proved : Rows.TileLentSaid :=
  OpenClaim.holds_of_wide 9 Try.f9 rfl rfl rfl rfl rfl rfl rfl ⟨rfl, rfl, rfl, rfl, rfl⟩ rfl rfl rfl rfl rfl (by kernel_rfl) Try.func9 (by kernel_rfl)
    (of_decide_eq_true (by kernel_rfl)) (by unfold Func.isWrapper; first | (rw [if_pos (by decide +kernel)]; kernel_rfl) | (rw [if_neg (by decide +kernel)]; exact ⟨rfl, rfl⟩))
    (fun os started H enc _ => lifted os started H enc)
#print axioms proved

end Go.Proofs.Ytimmbalmealkaaa.tileLent
