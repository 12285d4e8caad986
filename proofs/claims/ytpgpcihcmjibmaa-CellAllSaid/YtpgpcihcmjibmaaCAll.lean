/- CellAll: for all rows, places and slices of bytes the law answers true; no condition. -/
import Derived.Test.YtpgpcihcmjibmaaLaw3
import Derived.Test.YtpgpcihcmjibmaaLent2
import Derived.Deep.RegionHeld3
namespace Go.Proofs.Ytpgpcihcmjibmaa.cellAll
open Go.ChangeShapes Go.WideShapes Go.ChangeAt Go.RowKit

def Fin (w : World) (e : Ending) (w' : World) : Prop := e = .returned (.bool true) ∧ Below w.heap.size w w'

set_option maxRecDepth 100000 in
set_option maxHeartbeats 2000000 in
theorem walk (w : World) (k s v : ByteArray) (p c : Int) (vb : Value) (l : List Int) (hb : SlK .u8 w vb l) : Calls Try.prog 3 #[.agg #[.string k, .string s, .string v], .agg #[.int .i64 p, .int .i64 c], vb] w (Fin w) := by
  have HSb := Lib.hid hb
  have hbx := bx_new w (rowO k s v) (ridO p c)
  obtain ⟨pb, cb, rfl, -⟩ := hb
  have HBx := Lib.hid hbx
  clear hbx
  go_enter Try.func3, Try.ntmps3
  go_upto_region 1 with (fail)
  show Code.wp _ _ _ _ ((w.alloc (rowO k s v)).alloc (ridO p c))
  generalize (w.alloc (rowO k s v)).alloc (ridO p c) = w1 at *
  go_wp2_with fail
  refine (begun_true w1).mono ?_
  rintro e w2 ⟨rfl, hb2⟩
  have HB2 := Lib.hid (HBx.out.on hb2)
  have x0 := (cell_of (cs := #[.string k, .string s, .string v]) HB2.out.2.1 0).1
  have x1 := (cell_of (cs := #[.string k, .string s, .string v]) HB2.out.2.1 1).1
  have x2 := (cell_of (cs := #[.string k, .string s, .string v]) HB2.out.2.1 2).1
  clear HBx hb2
  by_cases hlong : 30 < k.size ∨ 30 < s.size ∨ 30 < v.size ∨ 30 < l.length
  · have HF : Hid (Fin w (.returned (.bool true)) w2) := ⟨rfl, HB2.out.1⟩
    by_cases h1 : 30 < k.size
    · go_wp2
      go_ret
      exact HF.out
    · by_cases h2 : 30 < s.size
      · go_wp2
        go_ret
        exact HF.out
      · by_cases h3 : 30 < v.size
        · go_wp2
          go_ret
          exact HF.out
        · have h4 : 30 < l.length := by omega
          go_wp2
          go_ret
          exact HF.out
  · have h1 : ¬ 30 < k.size := by omega
    have h2 : ¬ 30 < s.size := by omega
    have h3 : ¬ 30 < v.size := by omega
    have h4 : ¬ 30 < l.length := by omega
    have hl100 : l.length ≤ 100000 := by omega
    clear hlong
    go_upto_region 5 with (fail)
    clear h1 h2 h3 h4
    go_wp2_with fail
    refine (row_T w2 k s v).mono ?_
    rintro e w3 ⟨y1, rfl, s1, hb⟩
    have HB3 := Lib.hid (HB2.out.on hb)
    have S1 := Lib.hid s1
    clear HB2 hb s1 x0 x1 x2
    have x0 := (cell_of (cs := #[.string k, .string s, .string v]) HB3.out.2.1 0).1
    have x1 := (cell_of (cs := #[.string k, .string s, .string v]) HB3.out.2.1 1).1
    have x2 := (cell_of (cs := #[.string k, .string s, .string v]) HB3.out.2.1 2).1
    go_wp2_with fail
    refine (rrow_T w3 k s v).mono ?_
    rintro e w4 ⟨y2, rfl, s2, hb⟩
    have HB4 := Lib.hid (HB3.out.on hb)
    have S1 := Lib.hid (S1.out.below hb (Nat.le_refl _))
    have S2 := Lib.hid s2
    clear HB3 hb s2 x0 x1 x2
    have x0 := (cell_of (cs := #[.int .i64 p, .int .i64 c]) HB4.out.2.2 0).1
    have x1 := (cell_of (cs := #[.int .i64 p, .int .i64 c]) HB4.out.2.2 1).1
    go_wp2_with fail
    refine (stub_T w4 p c).mono ?_
    rintro e w5 ⟨y3, rfl, s3, hb⟩
    have HB5 := Lib.hid (HB4.out.on hb)
    have S1 := Lib.hid (S1.out.below hb (Nat.le_refl _))
    have S2 := Lib.hid (S2.out.below hb (Nat.le_refl _))
    have S3 := Lib.hid s3
    clear HB4 hb s3 x0 x1
    have x0 := (cell_of (cs := #[.int .i64 p, .int .i64 c]) HB5.out.2.2 0).1
    have x1 := (cell_of (cs := #[.int .i64 p, .int .i64 c]) HB5.out.2.2 1).1
    go_wp2_with fail
    refine (rstub_T w5 p c).mono ?_
    rintro e w6 ⟨y4, rfl, s4, hb⟩
    have HB6 := Lib.hid (HB5.out.on hb)
    have S1 := Lib.hid (S1.out.below hb (Nat.le_refl _))
    have S2 := Lib.hid (S2.out.below hb (Nat.le_refl _))
    have S3 := Lib.hid (S3.out.below hb (Nat.le_refl _))
    have S4 := Lib.hid s4
    clear HB5 hb s4 x0 x1
    have SB6 := Lib.hid (HSb.out.below HB6.out.1 (Nat.le_refl _))
    go_wp2_with fail
    refine (lent_any w6 _ l SB6.out hl100).mono ?_
    rintro e w7 ⟨g, rfl, hg, kg, hb⟩
    have HB7 := Lib.hid (HB6.out.on hb)
    have S1 := Lib.hid (S1.out.below hb (Nat.le_refl _))
    have S2 := Lib.hid (S2.out.below hb (Nat.le_refl _))
    have S3 := Lib.hid (S3.out.below hb (Nat.le_refl _))
    have S4 := Lib.hid (S4.out.below hb (Nat.le_refl _))
    have KG := Lib.hid kg
    have SG := Lib.hid (show SlK .u8 w7 (.slice (some ⟨g, 0, none⟩) l.length (l.length + 4)) l from by
      have := (kg.pt (n := (l ++ [7, 7, 7, 7]).length) (c := l.length + 4) rfl (by simp)).first (k := l.length) (c' := l.length + 4) (by simp) (by omega)
      rw [List.take_left'] at this
      · exact this.slK HSb.out.ok
      · rfl)
    clear HB6 hb hg kg SB6
    go_wp2_with fail
    refine (read_any w7 _ l SG.out).mono ?_
    rintro e w8 ⟨a, k1, s1, v1, p1, c1, er, hr, rfl, hb⟩
    have HR := Lib.hid hr
    have HB8 := HB7.out.on hb
    have kg8 := (hb.block _ KG.out.lt).trans KG.out
    have hb9 : Below w8.heap.size w8 ((w8.alloc (rowO k1 s1 v1)).alloc (ridO p1 c1)) := ((Below.refl _ _).alloc (Nat.le_refl _) _).alloc (by simp) _
    have HB9 := Lib.hid (HB8.on hb9)
    have S1 := Lib.hid ((S1.out.below hb (Nat.le_refl _)).below hb9 (Nat.le_refl _))
    have S2 := Lib.hid ((S2.out.below hb (Nat.le_refl _)).below hb9 (Nat.le_refl _))
    have S3 := Lib.hid ((S3.out.below hb (Nat.le_refl _)).below hb9 (Nat.le_refl _))
    have S4 := Lib.hid ((S4.out.below hb (Nat.le_refl _)).below hb9 (Nat.le_refl _))
    have KG := Lib.hid (show Blk ((w8.alloc (rowO k1 s1 v1)).alloc (ridO p1 c1)) g (l ++ [7, 7, 7, 7]) from (hb9.block _ (by have := Blk.lt (l := l ++ [7, 7, 7, 7]) kg8; exact this)).trans kg8)
    have HX9 := Lib.hid (bx_new w8 (rowO k1 s1 v1) (ridO p1 c1))
    clear HB7 HB8 hb hb9 kg8 SG hr
    go_upto_region 11 with (fail)
    show Code.wp _ _ _ _ ((w8.alloc (rowO k1 s1 v1)).alloc (ridO p1 c1))
    generalize (w8.alloc (rowO k1 s1 v1)).alloc (ridO p1 c1) = w9 at *
    have SB9 := Lib.hid (HSb.out.below HB9.out.1 (Nat.le_refl _))
    go_wp2_with fail
    refine (rread_any w9 _ l SB9.out).mono ?_
    rintro e wa ⟨a', k', s', v', p', c', er', hr, rfl, hb⟩
    obtain ⟨rfl, rfl, rfl, rfl, rfl, rfl, rfl⟩ := HR.out.det hr
    have HBa := HB9.out.on hb
    have kga := (hb.block _ KG.out.lt).trans KG.out
    have HXa := HX9.out.on hb
    have hbb : Below wa.heap.size wa ((wa.alloc (rowO k1 s1 v1)).alloc (ridO p1 c1)) := ((Below.refl _ _).alloc (Nat.le_refl _) _).alloc (by simp) _
    have HBb := Lib.hid (HBa.on hbb)
    have S1 := Lib.hid ((S1.out.below hb (Nat.le_refl _)).below hbb (Nat.le_refl _))
    have S2 := Lib.hid ((S2.out.below hb (Nat.le_refl _)).below hbb (Nat.le_refl _))
    have S3 := Lib.hid ((S3.out.below hb (Nat.le_refl _)).below hbb (Nat.le_refl _))
    have S4 := Lib.hid ((S4.out.below hb (Nat.le_refl _)).below hbb (Nat.le_refl _))
    have KG := Lib.hid (show Blk ((wa.alloc (rowO k1 s1 v1)).alloc (ridO p1 c1)) g (l ++ [7, 7, 7, 7]) from (hbb.block _ (by have := Blk.lt (l := l ++ [7, 7, 7, 7]) kga; exact this)).trans kga)
    have HX := Lib.hid (HXa.on hbb)
    have HY := Lib.hid (bx_new wa (rowO k1 s1 v1) (ridO p1 c1))
    clear HB9 HBa HXa HX9 hb hbb kga hr HR SB9
    go_upto_region 12 with (fail)
    show Code.wp _ _ _ _ ((wa.alloc (rowO k1 s1 v1)).alloc (ridO p1 c1))
    generalize (wa.alloc (rowO k1 s1 v1)).alloc (ridO p1 c1) = wb at *
    have q1 := fun W => eql_row W k1 s1 v1 k1 s1 v1
    have q2 := fun W => eql_rid W p1 c1 p1 c1
    rw [show decide (k1 = k1 ∧ s1 = s1 ∧ v1 = v1) = true by simp] at q1
    rw [show decide (p1 = p1 ∧ c1 = c1) = true by simp] at q2
    obtain ⟨X, hX⟩ : ∃ X, bstr (rowP k s v) = X := ⟨_, rfl⟩
    obtain ⟨Y, hY⟩ : ∃ X, bstr (stubP p c) = X := ⟨_, rfl⟩
    have HS : Hid (∀ W, Below wb.heap.size wb W → (fun W : World => Below wb.heap.size wb W ∧ (W.cell? ⟨w.heap.size, 0, none⟩ = some (.string k) ∧ W.cell? ⟨w.heap.size, 1, none⟩ = some (.string s) ∧ W.cell? ⟨w.heap.size, 2, none⟩ = some (.string v)) ∧
      (W.cell? ⟨w8.heap.size, 0, none⟩ = some (.string k1) ∧ W.cell? ⟨w8.heap.size, 1, none⟩ = some (.string s1) ∧ W.cell? ⟨w8.heap.size, 2, none⟩ = some (.string v1)) ∧
      (W.cell? ⟨wa.heap.size, 0, none⟩ = some (.string k1) ∧ W.cell? ⟨wa.heap.size, 1, none⟩ = some (.string s1) ∧ W.cell? ⟨wa.heap.size, 2, none⟩ = some (.string v1)) ∧
      (W.cell? ⟨w8.heap.size + 1, 0, none⟩ = some (.int .i64 p1) ∧ W.cell? ⟨w8.heap.size + 1, 1, none⟩ = some (.int .i64 c1)) ∧
      (W.cell? ⟨wa.heap.size + 1, 0, none⟩ = some (.int .i64 p1) ∧ W.cell? ⟨wa.heap.size + 1, 1, none⟩ = some (.int .i64 c1)) ∧
      ((convert 26 9 y1).run Try.prog W = .ok (.string X) W ∧ (convert 26 9 y2).run Try.prog W = .ok (.string X) W ∧ (convert 26 9 y3).run Try.prog W = .ok (.string Y) W ∧ (convert 26 9 y4).run Try.prog W = .ok (.string Y) W) ∧
      ((binOp .eql 23 (.agg #[.string k1, .string s1, .string v1]) (.agg #[.string k1, .string s1, .string v1])).run Try.prog W = .ok (.bool true) W ∧ (binOp .eql 25 (.agg #[.int .i64 p1, .int .i64 c1]) (.agg #[.int .i64 p1, .int .i64 c1])).run Try.prog W = .ok (.bool true) W)) W) := fun W hW => by
      have hB := HBb.out.on hW
      have hX2 := HX.out.on hW
      have hY2 := HY.out.on hW
      refine ⟨hW, ⟨(cell_of hB.2.1 0).1, (cell_of hB.2.1 1).1, (cell_of hB.2.1 2).1⟩, ⟨(cell_of hX2.2.1 0).1, (cell_of hX2.2.1 1).1, (cell_of hX2.2.1 2).1⟩, ⟨(cell_of hY2.2.1 0).1, (cell_of hY2.2.1 1).1, (cell_of hY2.2.1 2).1⟩, ⟨(cell_of hX2.2.2 0).1, (cell_of hX2.2.2 1).1⟩, ⟨(cell_of hY2.2.2 0).1, (cell_of hY2.2.2 1).1⟩, ⟨?_, ?_, ?_, ?_⟩, q1 W, q2 W⟩
      · rw [← hX]; exact conv_slK (S1.out.below hW (Nat.le_refl _))
      · rw [← hX]; exact conv_slK (S2.out.below hW (Nat.le_refl _))
      · rw [← hY]; exact conv_slK (S3.out.below hW (Nat.le_refl _))
      · rw [← hY]; exact conv_slK (S4.out.below hW (Nat.le_refl _))
    have hlt : w.heap.size < wb.heap.size := by have := HBb.out.lt; omega
    have hgl := KG.out.lt
    have hbk : ∀ W, Below wb.heap.size wb W → Calls Try.prog 18 #[.slice (some ⟨g, 0, none⟩) l.length (l.length + 4), .slice pb l.length cb] W fun e w' => e = .returned (.bool true) ∧ w' = W := fun W hW =>
      back_true W g _ l (KG.out.old hW hgl) (HSb.out.below (HBb.out.1.trans (hW.mono (by omega))) (Nat.le_refl _)) hl100
    have D0 := (Below.refl wb.heap.size wb).drew
    have D1 := ((Below.refl wb.heap.size wb).alloc (Nat.le_refl _) (rowO k s v)).drew
    have D2 := (((Below.refl wb.heap.size wb).alloc (Nat.le_refl _) (rowO k s v)).alloc (by simp) (rowO k s v)).drew
    have B2 := Lib.hid (hbk _ D2)
    have HM := Lib.hid (fun W => may_any W k s v)
    have HMr := Lib.hid (fun W => rmay_any W k s v)
    generalize rowE k s v = e1 at *
    generalize stubE p c = e2 at *
    generalize mayB k s v = q at *
    clear hbk hgl S1 S2 S3 S4 HX HY KG hX hY q1 q2
    go_region_held3 (fun W : World => Below wb.heap.size wb W ∧ (W.cell? ⟨w.heap.size, 0, none⟩ = some (.string k) ∧ W.cell? ⟨w.heap.size, 1, none⟩ = some (.string s) ∧ W.cell? ⟨w.heap.size, 2, none⟩ = some (.string v)) ∧
      (W.cell? ⟨w8.heap.size, 0, none⟩ = some (.string k1) ∧ W.cell? ⟨w8.heap.size, 1, none⟩ = some (.string s1) ∧ W.cell? ⟨w8.heap.size, 2, none⟩ = some (.string v1)) ∧
      (W.cell? ⟨wa.heap.size, 0, none⟩ = some (.string k1) ∧ W.cell? ⟨wa.heap.size, 1, none⟩ = some (.string s1) ∧ W.cell? ⟨wa.heap.size, 2, none⟩ = some (.string v1)) ∧
      (W.cell? ⟨w8.heap.size + 1, 0, none⟩ = some (.int .i64 p1) ∧ W.cell? ⟨w8.heap.size + 1, 1, none⟩ = some (.int .i64 c1)) ∧
      (W.cell? ⟨wa.heap.size + 1, 0, none⟩ = some (.int .i64 p1) ∧ W.cell? ⟨wa.heap.size + 1, 1, none⟩ = some (.int .i64 c1)) ∧
      ((convert 26 9 y1).run Try.prog W = .ok (.string X) W ∧ (convert 26 9 y2).run Try.prog W = .ok (.string X) W ∧ (convert 26 9 y3).run Try.prog W = .ok (.string Y) W ∧ (convert 26 9 y4).run Try.prog W = .ok (.string Y) W) ∧
      ((binOp .eql 23 (.agg #[.string k1, .string s1, .string v1]) (.agg #[.string k1, .string s1, .string v1])).run Try.prog W = .ok (.bool true) W ∧ (binOp .eql 25 (.agg #[.int .i64 p1, .int .i64 c1]) (.agg #[.int .i64 p1, .int .i64 c1])).run Try.prog W = .ok (.bool true) W))
      (first | exact HS.out _ D0 | exact HS.out _ D1 | exact HS.out _ D2)
      (first
        | (go_at_call 16; refine (HM.out _).mono ?_; rintro e w5 ⟨rfl, rfl⟩)
        | (go_at_call 17; refine (HMr.out _).mono ?_; rintro e w5 ⟨rfl, rfl⟩)
        | (go_at_call 18; refine B2.out.mono ?_; rintro e w5 ⟨rfl, rfl⟩))
    all_goals
      go_wp2
      go_ret
      exact ⟨rfl, HBb.out.1.trans (D2.mono (by have := HBb.out.lt; omega))⟩

theorem own : ownKnob Try.prog.godebug = none := by kernel_rfl
theorem laidOut : laidOutB Try.prog = true := by kernel_rfl

set_option maxRecDepth 100000 in
theorem lifted (os : Os) (started : os.Started) (H : Type) (enc : TypeId × Value → H) :
    ReturnsInHanded {} Try.checked os 3 .any (Rows.cellAllSpec.pre6 enc Try.prog Try.f3 Rows.cellAllRow.domain false) (Rows.cellAllSpec.post enc Try.prog Try.f3 false true false false) := by
  refine returnsInHanded_of_change (C := Try.checked) own started (by kernel_rfl) Try.func3
    (ChangeSpec.witness6 (enc := enc) (C := Try.checked) false ⟨#[], #[.agg #[.string ⟨#[]⟩, .string ⟨#[]⟩, .string ⟨#[]⟩], .agg #[.int .i64 0, .int .i64 0], .slice none 0 0], []⟩ 8 (by kernel_rfl) (by kernel_rfl) (by kernel_rfl) (by kernel_rfl)) ?_
  intro W base args ds gs before hval0 hW hcnd _
  have hval : ∀ (j : Nat) t v, Try.f3.params[j]? = some t → args[j]? = some v → Value.okWide Try.prog W .any base t v := hval0
  have hW' := hW
  obtain ⟨p, q, hA0, hV, rfl, hfz, hnd⟩ := hW
  obtain ⟨rfl, rfl⟩ := trodVars_none hV
  have hA : DataW.TrodAll enc Try.prog W 0 (fun _ => true) true Try.f3.params.toList args.toList ds p := hA0
  rw [Try.params3] at hA hval
  obtain ⟨v0, vs0, d0, ds0, p0, q0, hargs, rfl, rfl, h0, r0⟩ := trodAll_cons hA
  obtain ⟨v1, vs1, d1, ds1, p1, q1, rfl, rfl, rfl, h1, r1⟩ := trodAll_cons r0
  obtain ⟨v2, vs2, d2, ds2, p2, q2, rfl, rfl, rfl, h2, r2⟩ := trodAll_cons r1
  obtain ⟨rfl, rfl, rfl⟩ := trodAll_nil r2
  obtain rfl : args = #[v0, v1, v2] := by cases args; simp_all
  obtain ⟨k0, s0, t0, rfl⟩ := open_row (hval 0 23 v0 rfl rfl) h0
  obtain ⟨x1, y1, rfl⟩ := open_rid (hval 1 25 v1 rfl rfl) h1
  have ok2 := hval 2 26 v2 rfl rfl
  obtain ⟨l, hl⟩ := open_sl Try.underlying26 Try.underlying5 (by kernel_rfl) ok2 h2
  refine (walk W k0 s0 t0 x1 y1 v2 l hl).mono fun e W' ⟨he, hg⟩ => ?_
  subst he
  exact ⟨_, rfl, law_post laidOut Try.underlying4 rfl (by rw [Try.params3]; intro t ht; simp at ht; rcases ht with rfl | rfl | rfl <;> exact ⟨by kernel_rfl, of_decide_eq_true (by kernel_rfl)⟩) rfl hW' rfl hg⟩

theorem proved : Rows.CellAllSaid :=
  OpenClaim.holds_of_wide 3 Try.f3 rfl rfl rfl rfl rfl rfl rfl ⟨rfl, rfl, rfl, rfl, rfl⟩ rfl rfl rfl rfl rfl (by kernel_rfl) Try.func3 (by kernel_rfl)
    (of_decide_eq_true (by kernel_rfl)) (by unfold Func.isWrapper; first | (rw [if_pos (by decide +kernel)]; kernel_rfl) | (rw [if_neg (by decide +kernel)]; exact ⟨rfl, rfl⟩))
    (fun os started H enc _ => lifted os started H enc)
#print axioms proved

end Go.Proofs.Ytpgpcihcmjibmaa.cellAll
