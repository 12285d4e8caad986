/- CellLengths: for all three lengths the law answers true; no condition. -/
import Derived.Test.YtpgpcihcmjibmaaCellT
import Derived.Test.YtpgpcihcmjibmaaRow
namespace Go.Proofs.Ytpgpcihcmjibmaa.cellLengths
open Go.ChangeShapes Go.WideShapes Go.ChangeAt Go.RowKit

def txt : ByteArray := ⟨#[97, 98, 99, 100, 101, 102, 103, 104, 105, 106, 107, 108, 109, 110, 111, 112]⟩

theorem boolV {a b : Bool} (h : a = b) : Value.bool a = Value.bool b := by rw [h]
theorem txt_size {n : Nat} (h : n ≤ 16) : (txt.extract 0 n).size = n := by
  rw [ByteArray.size_extract]
  show min n 16 - 0 = n
  omega

set_option maxRecDepth 100000 in
set_option maxHeartbeats 2000000 in
theorem walk (w : World) (k s v : Int) (k0 : 0 ≤ k) (k1 : k < 256) (s0 : 0 ≤ s) (s1 : s < 256) (v0 : 0 ≤ v) (v1 : v < 256) : Calls Try.prog 7 #[.int .u8 k, .int .u8 s, .int .u8 v] w fun e w' => e = .returned (.bool true) ∧ Below w.heap.size w w' := by
  go_enter Try.func7, Try.ntmps7
  go_wp2_with fail
  refine (begun_true w).mono ?_
  rintro e w1 ⟨rfl, hB1⟩
  go_upto_region 4 with (fail)
  go_cut [8] (fun u wx => ∃ a b c : ByteArray, (a.size : Int) = k % 12 ∧ (b.size : Int) = s % 12 ∧ (c.size : Int) = v % 12 ∧ u = .pointer (some ⟨w1.heap.size, 0, none⟩) ∧ wx.heap[w1.heap.size]? = some (rowO a b c) ∧ Below w1.heap.size w1 wx)
  case first =>
    have hk1 : k.tmod 12 = k % 12 := IntWalk.rem_in _ _ k0
    have hs1 : s.tmod 12 = s % 12 := IntWalk.rem_in _ _ s0
    have hv1 : v.tmod 12 = v % 12 := IntWalk.rem_in _ _ v0
    have hk2 : IntKind.u8.wrap (k % 12) = k % 12 := IntWalk.u8_in _ (by omega)
    have hs2 : IntKind.u8.wrap (s % 12) = s % 12 := IntWalk.u8_in _ (by omega)
    have hv2 : IntKind.u8.wrap (v % 12) = v % 12 := IntWalk.u8_in _ (by omega)
    have hk3 : k % 12 ≤ 16 := by omega
    have hs3 : s % 12 ≤ 16 := by omega
    have hv3 : v % 12 ≤ 16 := by omega
    have hk4 : 0 ≤ k % 12 := by omega
    have hs4 : 0 ≤ s % 12 := by omega
    have hv4 : 0 ≤ v % 12 := by omega
    go_region
    all_goals (go_wp2; go_meet)
    have hB2 : Below w1.heap.size w1 (w1.alloc (rowO (txt.extract 0 (k % 12).toNat) (txt.extract 0 (s % 12).toNat) (txt.extract 0 (v % 12).toNat))).drew := ((Below.refl _ _).alloc (Nat.le_refl _) _).drew
    exact ⟨txt.extract 0 (k % 12).toNat, txt.extract 0 (s % 12).toNat, txt.extract 0 (v % 12).toNat, by rw [txt_size (by omega)]; omega, by rw [txt_size (by omega)]; omega, by rw [txt_size (by omega)]; omega, rfl, heap_alloc_new w1 _, hB2⟩
  case rest =>
    obtain ⟨a, b, c, ea, eb, ec, rfl, kr, hB2⟩ := hcut
    have KR := Lib.hid kr
    have HB2 := Lib.hid (hB1.trans (hB2.mono hB1.size))
    obtain ⟨x, hx⟩ : ∃ x, k % 12 = x := ⟨_, rfl⟩
    obtain ⟨y, hy⟩ : ∃ x, s % 12 = x := ⟨_, rfl⟩
    obtain ⟨z, hz⟩ : ∃ x, v % 12 = x := ⟨_, rfl⟩
    have hmE : Hid (mayB a b c = true ↔ (1 ≤ x ∧ x ≤ 8 ∧ y ≤ 6 ∧ z ≤ 8)) := by
      show mayB a b c = true ↔ _
      unfold mayB
      rw [decide_eq_true_eq]; omega
    have bx : 0 ≤ x ∧ x < 12 := by omega
    have by' : 0 ≤ y ∧ y < 12 := by omega
    have bz : 0 ≤ z ∧ z < 12 := by omega
    obtain ⟨bx0, bx1⟩ := bx
    obtain ⟨by0, by1⟩ := by'
    obtain ⟨bz0, bz1⟩ := bz
    generalize wc = w2 at *
    generalize w1.heap.size = g at *
    have x0 := (cell_of (cs := #[.string a, .string b, .string c]) KR.out 0).1
    have x1 := (cell_of (cs := #[.string a, .string b, .string c]) KR.out 1).1
    have x2 := (cell_of (cs := #[.string a, .string b, .string c]) KR.out 2).1
    clear kr hB2 hB1 ea eb ec
    obtain ⟨q, hq⟩ : ∃ q, mayB a b c = q := ⟨_, rfl⟩
    have HQ := Lib.hid hq
    go_upto_region 5 with (fail)
    go_cut [9] (fun u wx => u = .bool q ∧ w2 = wx)
    case first =>
      rw [hq] at hmE
      have HM := Lib.hid hmE.out
      clear hmE hq
      go_wp2
      all_goals go_meet
      all_goals
        refine ⟨boolV ?_, rfl⟩
        first
          | (rw [Bool.eq_iff_iff, decide_eq_true_eq, HM.out]; omega)
          | (cases q with
             | false => rfl
             | true => have := HM.out.1 rfl; omega)
    case rest =>
      obtain ⟨rfl, rfl⟩ := hcut
      have hr := row_T w2 a b c
      have hE : rowE a b c = if q = true then 0 else 1 := by rw [rowE, hq]
      rw [hE] at hr
      have hM : ∀ W, Calls Try.prog 16 #[.agg #[.string a, .string b, .string c]] W fun e w' => e = .returned (.bool q) ∧ w' = W.alloc (rowO a b c) := fun W => by
        have := may_any W a b c
        rw [hq] at this; exact this
      have HR := Lib.hid hr
      have HM := Lib.hid hM
      clear hr hE hM hq hmE
      go_wp2_with fail
      refine HR.out.mono ?_
      rintro e w3 ⟨x', rfl, -, hb3⟩
      have hB3 := HB2.out.trans (hb3.mono HB2.out.size)
      have hlt := (Array.getElem?_eq_some_iff.1 KR.out).1
      have kr3 := (hb3.block _ hlt).trans KR.out
      have HB3 := Lib.hid hB3
      clear x0 x1 x2 hb3 hB3 KR HB2 HR hlt
      have x0 := (cell_of (cs := #[.string a, .string b, .string c]) kr3 0).1
      have x1 := (cell_of (cs := #[.string a, .string b, .string c]) kr3 1).1
      have x2 := (cell_of (cs := #[.string a, .string b, .string c]) kr3 2).1
      clear kr3
      cases q
      all_goals
        go_wp2_with fail
        refine (HM.out _).mono ?_
        rintro e w4 ⟨rfl, rfl⟩
        go_wp2
        go_ret
        exact ⟨rfl, HB3.out.alloc HB3.out.size _⟩

theorem own : ownKnob Try.prog.godebug = none := by kernel_rfl
theorem laidOut : laidOutB Try.prog = true := by kernel_rfl

set_option maxRecDepth 100000 in
theorem lifted (os : Os) (started : os.Started) (H : Type) (enc : TypeId × Value → H) :
    ReturnsInHanded {} Try.checked os 7 .any (Rows.cellLengthsSpec.pre6 enc Try.prog Try.f7 Rows.cellLengthsRow.domain false) (Rows.cellLengthsSpec.post enc Try.prog Try.f7 false true false false) := by
  refine returnsInHanded_of_change (C := Try.checked) own started (by kernel_rfl) Try.func7
    (ChangeSpec.witness6 (enc := enc) (C := Try.checked) false ⟨#[], #[.int .u8 0, .int .u8 0, .int .u8 0], []⟩ 8 (by kernel_rfl) (by kernel_rfl) (by kernel_rfl) (by kernel_rfl)) ?_
  intro W base args ds gs before hval0 hW hcnd _
  have hval : ∀ (j : Nat) t v, Try.f7.params[j]? = some t → args[j]? = some v → Value.okWide Try.prog W .any base t v := hval0
  have hW' := hW
  obtain ⟨p, q, hA0, hV, rfl, hfz, hnd⟩ := hW
  obtain ⟨rfl, rfl⟩ := trodVars_none hV
  have hA : DataW.TrodAll enc Try.prog W 0 (fun _ => true) true Try.f7.params.toList args.toList ds p := hA0
  rw [Try.params7] at hA hval
  obtain ⟨v0, vs0, d0, ds0, p0, q0, hargs, rfl, rfl, h0, r0⟩ := trodAll_cons hA
  obtain ⟨v1, vs1, d1, ds1, p1, q1, rfl, rfl, rfl, h1, r1⟩ := trodAll_cons r0
  obtain ⟨v2, vs2, d2, ds2, p2, q2, rfl, rfl, rfl, h2, r2⟩ := trodAll_cons r1
  obtain ⟨rfl, rfl, rfl⟩ := trodAll_nil r2
  obtain rfl : args = #[v0, v1, v2] := by cases args; simp_all
  obtain ⟨a0, rfl, rfl, rfl, w0⟩ := open_int Try.underlying5 (hval 0 5 v0 rfl rfl) h0
  obtain ⟨a1, rfl, rfl, rfl, w1⟩ := open_int Try.underlying5 (hval 1 5 v1 rfl rfl) h1
  obtain ⟨a2, rfl, rfl, rfl, w2⟩ := open_int Try.underlying5 (hval 2 5 v2 rfl rfl) h2
  have b0 := bounds_u8 w0
  have b1 := bounds_u8 w1
  have b2 := bounds_u8 w2
  refine (walk W a0 a1 a2 b0.1 (by omega) b1.1 (by omega) b2.1 (by omega)).mono fun e W' ⟨he, hg⟩ => ?_
  subst he
  exact ⟨_, rfl, law_post laidOut Try.underlying4 rfl (by rw [Try.params7]; intro t ht; simp at ht; subst ht; exact ⟨by kernel_rfl, of_decide_eq_true (by kernel_rfl)⟩) rfl hW' rfl hg⟩

theorem proved : Rows.CellLengthsSaid :=
  OpenClaim.holds_of_wide 7 Try.f7 rfl rfl rfl rfl rfl rfl rfl ⟨rfl, rfl, rfl, rfl, rfl⟩ rfl rfl rfl rfl rfl (by kernel_rfl) Try.func7 (by kernel_rfl)
    (of_decide_eq_true (by kernel_rfl)) (by unfold Func.isWrapper; first | (rw [if_pos (by decide +kernel)]; kernel_rfl) | (rw [if_neg (by decide +kernel)]; exact ⟨rfl, rfl⟩))
    (fun os started H enc _ => lifted os started H enc)
#print axioms proved

end Go.Proofs.Ytpgpcihcmjibmaa.cellLengths
