/- CellBack: for all rows, places and slices of bytes the law answers true; no condition. -/
import Derived.Test.YtpgpcihcmjibmaaLaw3
namespace Go.Proofs.Ytpgpcihcmjibmaa.cellBack
open Go.ChangeShapes Go.WideShapes Go.ChangeAt Go.RowKit

def Fin (w : World) (e : Ending) (w' : World) : Prop := e = .returned (.bool true) ∧ Below w.heap.size w w'
theorem boolV {a b : Bool} (h : a = b) : Value.bool a = Value.bool b := by rw [h]
theorem neq_row (W : World) (k s v : ByteArray) : (binOp .neq 23 (.agg #[.string k, .string s, .string v]) (.agg #[.string k, .string s, .string v])).run Try.prog W = .ok (.bool false) W := by
  have hS : Try.prog.underlying 23 = some (.struct (Try.prog.fieldsOf 23)) := by kernel_rfl
  have hH : Try.prog.stoodInHeld 23 = false := by kernel_rfl
  have hu : Try.prog.underlying 9 = some .string := Try.underlying9
  rw [run_neq_struct, show (10000 : Nat) = 9999 + 1 from rfl, run_equalIn_agg W 9999 _ _ _ hS hH]
  simp only [Program.fieldsOf, Try.underlying23]
  go_simp

set_option maxRecDepth 100000 in
set_option maxHeartbeats 2000000 in
theorem walk (w : World) (k s v : ByteArray) (p c : Int) (vb : Value) (l : List Int) (hb : SlK .u8 w vb l) : Calls Try.prog 4 #[.agg #[.string k, .string s, .string v], .agg #[.int .i64 p, .int .i64 c], vb] w (Fin w) := by
  have HSb := Lib.hid hb
  have hbx := bx_new w (rowO k s v) (ridO p c)
  obtain ⟨pb, cb, rfl, -⟩ := hb
  have HBx := Lib.hid hbx
  clear hbx
  go_enter Try.func4, Try.ntmps4
  go_upto_region 1 with (fail)
  show Code.wp _ _ _ _ ((w.alloc (rowO k s v)).alloc (ridO p c))
  generalize (w.alloc (rowO k s v)).alloc (ridO p c) = w1 at *
  go_wp2_with fail
  refine (begun_true w1).mono ?_
  rintro e w2 ⟨rfl, hb2⟩
  have HB2 := Lib.hid (HBx.out.on hb2)
  have x0 := (cell_of (cs := #[.string k, .string s, .string v]) HB2.out.2.1 0).1
  have x1 := (cell_of (cs := #[.string k, .string s, .string v]) HB2.out.2.1 1).1
  have x2 := (cell_of (cs := #[.string k, .string s, .string v]) HB2.out.2.1 2).1
  clear HBx hb2
  by_cases hlong : 30 < k.size ∨ 30 < s.size ∨ 30 < v.size ∨ 30 < l.length
  · have HF : Hid (Fin w (.returned (.bool true)) w2) := ⟨rfl, HB2.out.1⟩
    by_cases h1 : 30 < k.size
    · go_wp2
      go_ret
      exact HF.out
    · by_cases h2 : 30 < s.size
      · go_wp2
        go_ret
        exact HF.out
      · by_cases h3 : 30 < v.size
        · go_wp2
          go_ret
          exact HF.out
        · have h4 : 30 < l.length := by omega
          go_wp2
          go_ret
          exact HF.out
  · have h1 : ¬ 30 < k.size := by omega
    have h2 : ¬ 30 < s.size := by omega
    have h3 : ¬ 30 < v.size := by omega
    have h4 : ¬ 30 < l.length := by omega
    have hl100 : l.length ≤ 100000 := by omega
    clear hlong
    go_upto_region 5 with (fail)
    clear h4
    obtain ⟨q, hq⟩ : ∃ q, mayB k s v = q := ⟨_, rfl⟩
    have HQ := Lib.hid hq
    have HD := Lib.hid (show (mayB k s v = true ↔ (1 ≤ k.size ∧ k.size ≤ 8 ∧ s.size ≤ 6 ∧ v.size ≤ 8)) by unfold mayB; rw [decide_eq_true_eq])
    clear hq
    go_cut [7] (fun u wx => u = .bool q ∧ w2 = wx)
    case first =>
      have hd := HD.out
      rw [HQ.out] at hd
      have HD2 := Lib.hid hd
      clear hd HD h1 h2 h3
      go_wp2
      all_goals go_meet
      all_goals
        refine ⟨boolV ?_, rfl⟩
        first
          | (rw [Bool.eq_iff_iff, decide_eq_true_eq, HD2.out]; omega)
          | (cases q with
             | false => rfl
             | true => have := HD2.out.1 rfl; omega)
    case rest =>
      obtain ⟨rfl, rfl⟩ := hcut
      clear h1 h2 h3 HD
      go_wp2_with fail
      refine (row_T w2 k s v).mono ?_
      rintro e w3 ⟨y1, rfl, s1, hb⟩
      have HB3 := Lib.hid (HB2.out.on hb)
      have S1 := Lib.hid s1
      clear HB2 hb s1 x0 x1 x2
      obtain ⟨e1, he1⟩ : ∃ e, rowE k s v = e := ⟨_, rfl⟩
      rw [he1]
      have HE := Lib.hid he1
      clear he1
      go_upto_if 72 with (fail)
      go_cut [8] (fun _ wx => Bx w wx (rowO k s v) (ridO p c))
      case first =>
        cases q
        · obtain rfl : e1 = 1 := by rw [← HE.out, rowE, HQ.out]; rfl
          have s1 := S1.out
          rw [rowP, if_neg (by rw [HQ.out]; decide)] at s1
          obtain ⟨pa, ca, rfl, -⟩ := s1
          rw [List.length_nil]
          clear S1
          go_wp2
          go_meet
          exact HB3.out
        · obtain rfl : e1 = 0 := by rw [← HE.out, rowE, if_pos HQ.out]
          have s1 := S1.out
          rw [rowP, if_pos HQ.out] at s1
          obtain ⟨pa, ca, rfl, -⟩ := id s1
          rw [rowL_len HQ.out] at s1 ⊢
          have S1' := Lib.hid s1
          clear S1 s1
          go_wp2_with fail
          refine (read_row w3 _ HQ.out S1'.out).mono ?_
          rintro e w4 ⟨rfl, hb⟩
          have HB4 := HB3.out.on hb
          have hb5 : Below w4.heap.size w4 ((w4.alloc (rowO k s v)).alloc (ridO 0 0)) := ((Below.refl _ _).alloc (Nat.le_refl _) _).alloc (by simp) _
          have HB5 := Lib.hid (HB4.on hb5)
          have HX5 := Lib.hid (bx_new w4 (rowO k s v) (ridO 0 0))
          clear HB3 HB4 hb hb5 S1'
          go_upto_region 9 with (fail)
          show Code.wp _ _ _ _ ((w4.alloc (rowO k s v)).alloc (ridO 0 0))
          generalize (w4.alloc (rowO k s v)).alloc (ridO 0 0) = w5 at *
          have x0 := (cell_of (cs := #[.string k, .string s, .string v]) HB5.out.2.1 0).1
          have x1 := (cell_of (cs := #[.string k, .string s, .string v]) HB5.out.2.1 1).1
          have x2 := (cell_of (cs := #[.string k, .string s, .string v]) HB5.out.2.1 2).1
          have z0 := (cell_of (cs := #[.string k, .string s, .string v]) HX5.out.2.1 0).1
          have z1 := (cell_of (cs := #[.string k, .string s, .string v]) HX5.out.2.1 1).1
          have z2 := (cell_of (cs := #[.string k, .string s, .string v]) HX5.out.2.1 2).1
          have nq := fun W => neq_row W k s v
          generalize w4.heap.size = g4 at *
          go_wp2
          go_meet
          exact HB5.out
      case rest =>
        have HB6 := Lib.hid hcut
        have SB6 := Lib.hid (HSb.out.below hcut.1 (Nat.le_refl _))
        clear hcut HB3 S1 HE HQ
        generalize wc = w6 at *
        go_wp2_with fail
        refine (read_any w6 _ l SB6.out).mono ?_
        rintro e w7 ⟨a, k1, s1, v1, p1, c1, er, hr, rfl, hb⟩
        have HB7 := HB6.out.on hb
        have hb8 : Below w7.heap.size w7 ((w7.alloc (rowO k1 s1 v1)).alloc (ridO p1 c1)) := ((Below.refl _ _).alloc (Nat.le_refl _) _).alloc (by simp) _
        have HB8 := Lib.hid (HB7.on hb8)
        have HX8 := Lib.hid (bx_new w7 (rowO k1 s1 v1) (ridO p1 c1))
        clear HB6 HB7 SB6 hb hb8
        go_upto_region 14 with (fail)
        show Code.wp _ _ _ _ ((w7.alloc (rowO k1 s1 v1)).alloc (ridO p1 c1))
        generalize (w7.alloc (rowO k1 s1 v1)).alloc (ridO p1 c1) = w8 at *
        have SB8 := Lib.hid (HSb.out.below HB8.out.1 (Nat.le_refl _))
        cases hr with
        | empty h =>
          have HH := Lib.hid h
          clear h
          go_upto_region 18 with (fail)
          by_cases hl0 : l = []
          · obtain rfl := hl0
            go_region
            all_goals
              go_wp2
              go_ret
              exact ⟨rfl, HB8.out.1.drew⟩
          · have hz : Hid (l = z26) := by
              rcases HH.out with h | h
              · exact absurd h hl0
              · exact h
            have d0 : ((l.length : Int) == 0) = false := by
              have : l.length ≠ 0 := fun e => hl0 (List.length_eq_zero_iff.1 e)
              simp; exact hl0
            have hmk : ∀ W, (Instr.makeSlice 26 (.int .i64 26) (.int .i64 26)).run Try.prog W = .ok (.slice (some ⟨W.heap.size, 0, none⟩) 26 26) (W.alloc (.cells (byteV z26).toArray 5)) := fun W => make_bytes W 26 26 (by omega) (by omega)
            have HS : Hid (∀ W, Below w8.heap.size w8 W → (convert 26 9 (.slice pb l.length cb)).run Try.prog W = .ok (.string (bstr l)) W) := fun W hW => conv_slK (SB8.out.below hW (Nat.le_refl _))
            have v0 := HS.out w8 (Below.refl _ _)
            have v1' := HS.out w8.drew (Below.refl _ _).drew
            have v2' := HS.out (w8.alloc (.cells (byteV z26).toArray 5)).drew ((Below.refl _ _).alloc (Nat.le_refl _) _).drew
            have u2 : (convert 26 9 (.slice (some ⟨w8.heap.size, 0, none⟩) 26 26)).run Try.prog (w8.alloc (.cells (byteV z26).toArray 5)).drew = .ok (.string (bstr z26)) (w8.alloc (.cells (byteV z26).toArray 5)).drew := conv_slK (((blk_new w8.drew z26).pt (n := 26) (c := 26) rfl (Nat.le_refl _)).slK z26_ok)
            have eX : bstr z26 = bstr l := by rw [hz.out]
            rw [eX] at u2
            clear eX
            have hbz : Hid (Below w.heap.size w (w8.alloc (.cells (byteV z26).toArray 5)).drew) := (HB8.out.1.alloc HB8.out.1.size _).drew
            have X0 : bstr l = bstr l := rfl
            generalize bstr l = X at *
            clear X0 HH hl0 HX8 SB8 HS
            go_region
            all_goals
              go_wp2
              go_ret
              exact ⟨rfl, hbz.out⟩
        | row k1 s1 v1 hm h =>
          have hHM := Lib.hid hm
          have hH := Lib.hid h
          clear hm h
          have z0 := (cell_of (cs := #[.string k1, .string s1, .string v1]) HX8.out.2.1 0).1
          have z1 := (cell_of (cs := #[.string k1, .string s1, .string v1]) HX8.out.2.1 1).1
          have z2 := (cell_of (cs := #[.string k1, .string s1, .string v1]) HX8.out.2.1 2).1
          go_wp2_with fail
          refine (row_ok w8 k1 s1 v1 hHM.out).mono ?_
          rintro e w9 ⟨y2, rfl, ho, hb⟩
          have HB9 := Lib.hid (HB8.out.on hb)
          have v1' := conv_slK (own_slK ho (rowL_ok hHM.out))
          have v2' := conv_slK (SB8.out.below hb (Nat.le_refl _))
          rw [← hH.out] at v1'
          generalize bstr l = X at *
          clear hb ho z0 z1 z2 HB8 SB8 HX8
          go_wp2
          go_ret
          exact ⟨rfl, HB9.out.1⟩
        | stub p1 c1 hp h =>
          have hHP := Lib.hid hp
          have hH := Lib.hid h
          clear hp h
          have z0 := (cell_of (cs := #[.int .i64 p1, .int .i64 c1]) HX8.out.2.2 0).1
          have z1 := (cell_of (cs := #[.int .i64 p1, .int .i64 c1]) HX8.out.2.2 1).1
          go_wp2_with fail
          refine (stub_ok w8 p1 c1 hHP.out).mono ?_
          rintro e w9 ⟨g, rfl, hg, kg, hb⟩
          have HB9 := Lib.hid (HB8.out.on hb)
          have v1' := conv_slK ((kg.pt (n := 26) (c := 26) rfl (Nat.le_refl _)).slK (stubL_ok hHP.out))
          have v2' := conv_slK (SB8.out.below hb (Nat.le_refl _))
          rw [← hH.out] at v1'
          generalize bstr l = X at *
          clear hb hg kg z0 z1 HB8 SB8 HX8
          go_wp2
          go_ret
          exact ⟨rfl, HB9.out.1⟩
        | none h1 h2 h3 h4 =>
          clear h1 h2 h3 h4
          go_wp2
          go_ret
          exact ⟨rfl, HB8.out.1⟩

theorem own : ownKnob Try.prog.godebug = none := by kernel_rfl
theorem laidOut : laidOutB Try.prog = true := by kernel_rfl

set_option maxRecDepth 100000 in
theorem lifted (os : Os) (started : os.Started) (H : Type) (enc : TypeId × Value → H) :
    ReturnsInHanded {} Try.checked os 4 .any (Rows.cellBackSpec.pre6 enc Try.prog Try.f4 Rows.cellBackRow.domain false) (Rows.cellBackSpec.post enc Try.prog Try.f4 false true false false) := by
  refine returnsInHanded_of_change (C := Try.checked) own started (by kernel_rfl) Try.func4
    (ChangeSpec.witness6 (enc := enc) (C := Try.checked) false ⟨#[], #[.agg #[.string ⟨#[]⟩, .string ⟨#[]⟩, .string ⟨#[]⟩], .agg #[.int .i64 0, .int .i64 0], .slice none 0 0], []⟩ 8 (by kernel_rfl) (by kernel_rfl) (by kernel_rfl) (by kernel_rfl)) ?_
  intro W base args ds gs before hval0 hW hcnd _
  have hval : ∀ (j : Nat) t v, Try.f4.params[j]? = some t → args[j]? = some v → Value.okWide Try.prog W .any base t v := hval0
  have hW' := hW
  obtain ⟨p, q, hA0, hV, rfl, hfz, hnd⟩ := hW
  obtain ⟨rfl, rfl⟩ := trodVars_none hV
  have hA : DataW.TrodAll enc Try.prog W 0 (fun _ => true) true Try.f4.params.toList args.toList ds p := hA0
  rw [Try.params4] at hA hval
  obtain ⟨v0, vs0, d0, ds0, p0, q0, hargs, rfl, rfl, h0, r0⟩ := trodAll_cons hA
  obtain ⟨v1, vs1, d1, ds1, p1, q1, rfl, rfl, rfl, h1, r1⟩ := trodAll_cons r0
  obtain ⟨v2, vs2, d2, ds2, p2, q2, rfl, rfl, rfl, h2, r2⟩ := trodAll_cons r1
  obtain ⟨rfl, rfl, rfl⟩ := trodAll_nil r2
  obtain rfl : args = #[v0, v1, v2] := by cases args; simp_all
  obtain ⟨k0, s0, t0, rfl⟩ := open_row (hval 0 23 v0 rfl rfl) h0
  obtain ⟨x1, y1, rfl⟩ := open_rid (hval 1 25 v1 rfl rfl) h1
  have ok2 := hval 2 26 v2 rfl rfl
  obtain ⟨l, hl⟩ := open_sl Try.underlying26 Try.underlying5 (by kernel_rfl) ok2 h2
  refine (walk W k0 s0 t0 x1 y1 v2 l hl).mono fun e W' ⟨he, hg⟩ => ?_
  subst he
  exact ⟨_, rfl, law_post laidOut Try.underlying4 rfl (by rw [Try.params4]; intro t ht; simp at ht; rcases ht with rfl | rfl | rfl <;> exact ⟨by kernel_rfl, of_decide_eq_true (by kernel_rfl)⟩) rfl hW' rfl hg⟩

theorem proved : Rows.CellBackSaid :=
  OpenClaim.holds_of_wide 4 Try.f4 rfl rfl rfl rfl rfl rfl rfl ⟨rfl, rfl, rfl, rfl, rfl⟩ rfl rfl rfl rfl rfl (by kernel_rfl) Try.func4 (by kernel_rfl)
    (of_decide_eq_true (by kernel_rfl)) (by unfold Func.isWrapper; first | (rw [if_pos (by decide +kernel)]; kernel_rfl) | (rw [if_neg (by decide +kernel)]; exact ⟨rfl, rfl⟩))
    (fun os started H enc _ => lifted os started H enc)
#print axioms proved

end Go.Proofs.Ytpgpcihcmjibmaa.cellBack
