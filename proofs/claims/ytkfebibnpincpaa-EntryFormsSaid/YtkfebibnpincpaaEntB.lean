/- begun. -/
import Derived.Test.YtkfebibnpincpaaEntI
namespace Go.Proofs.Ytkfebibnpincpaa
open Go.RowKit

def e05 : Ent := ⟨5, 2, 0, 0, 0, 0, 0, 0, 0, 0, [], [], [], [], [], []⟩
theorem e05_B : entB e05 = true := by decide
theorem e05_len : (entL e05).length = 21 := by decide
theorem e05_I : EntI e05 := ⟨⟨by decide, by decide⟩, ⟨by decide, by decide⟩, ⟨by decide, by decide⟩, ⟨by decide, by decide⟩, ⟨by decide, by decide⟩, ⟨by decide, by decide⟩, ⟨by decide, by decide⟩, ⟨by decide, by decide⟩, ⟨by decide, by decide⟩, ⟨by decide, by decide⟩, (fun m h => by cases h), (fun m h => by cases h), (fun m h => by cases h), (fun m h => by cases h)⟩
theorem ent00_I : EntI ent00 := ⟨⟨by decide, by decide⟩, ⟨by decide, by decide⟩, ⟨by decide, by decide⟩, ⟨by decide, by decide⟩, ⟨by decide, by decide⟩, ⟨by decide, by decide⟩, ⟨by decide, by decide⟩, ⟨by decide, by decide⟩, ⟨by decide, by decide⟩, ⟨by decide, by decide⟩, (fun m h => by cases h), (fun m h => by cases h), (fun m h => by cases h), (fun m h => by cases h)⟩
theorem ent00_B : entB ent00 = false := by decide
theorem nil_S (w : World) (e : Ent) (h1 : e.old = []) (h2 : e.new = []) (h3 : e.moves = []) (h4 : e.lives = []) (h5 : e.dirty = []) (h6 : e.opens = []) : EntS w (.slice none 0 0) (.slice none 0 0) (.slice none 0 0) (.slice none 0 0) (.slice none 0 0) (.slice none 0 0) e := by
  have h := (ent0_F w 0).entS
  exact ⟨by rw [h1]; exact h.old, by rw [h2]; exact h.new, by rw [h3]; exact h.moves, by rw [h4]; exact h.lives, by rw [h5]; exact h.dirty, by rw [h6]; exact h.opens⟩
theorem one_no : tkB [1] = false := by decide +kernel
theorem e05_same : sameE e05 e05 = true := (sameE_iff _ _).2 rfl
theorem e05_not : sameE e05 ent00 = false := by decide
theorem e05_Len : EntLen e05 := ⟨by decide, by decide, by decide, by decide, fun o h => by cases h⟩
theorem Below.kpt {w w' : World} {B : Nat} (h : Below w.heap.size w w') : Kpt B w w' := ⟨h.size, fun b _ hl => h.block b hl⟩

/-- A whole struct out of a variable, behind a guard that holds. -/
theorem wpList_load_rowG {P : Program} {ops : Array Oper} {rest : List Oper} {o : Oper} {a : Act} {w : World} {Q : Exit → Act → World → Prop} (hw : Region.wanted o (yielded ops a.tmps) = true) (ty : TypeId) (x : Operand) (ho : o.op = .load ty x)
    (g : Nat) (hx : a.eval x = .pointer (some ⟨g, 0, none⟩)) (t : TypeId) (cs : Array Value) (fr : Nat × Nat) (d : TypeDesc) (hg : w.heap[g]? = some (.cells cs t fr))
    (hu : P.underlying ty = some d) (hd : (match d with | .struct _ | .array _ _ => true | _ => false) = true) (hi : (P.info? ty).map (·.size) = some cs.size)
    (h : wpList P ops Q rest (a.put o.dst (.agg cs)) w) : wpList P ops Q (o :: rest) a w :=
  wpList_step fun _ hK => by
    rw [if_pos hw]
    exact wp_load_row ty x ho g hx t cs fr d hg hu hd hi (hK _ _ h)

set_option maxRecDepth 100000 in
set_option maxHeartbeats 4000000 in
theorem begun_any (w : World) : Calls Try.prog 9 #[] w fun e w' => e = .returned (.bool true) ∧ Below w.heap.size w w' := by
  have HP := Lib.hid (put_any w e05 (nil_S w e05 rfl rfl rfl rfl rfl rfl) e05_I)
  go_enter Try.func9, Try.ntmps9
  go_wp2_with fail
  refine HP.out.mono ?_
  rintro r w1 ⟨A, m, c, rfl, ho1, hb1⟩
  rw [putL_yes e05_B] at ho1
  have hm : m = 21 := by rw [own_n ho1, e05_len]
  subst hm
  have hs1 : SlK .u8 w1 (.slice A 21 c) (entL e05) := own_slK ho1 (entL_okE (fun x h => by cases h) (fun x h => by cases h))
  have HT := Lib.hid (take_ok w1 hs1)
  have HB1 := Lib.hid hb1
  clear ho1 hb1 hs1 HP
  go_wp2_with fail
  refine HT.out.mono ?_
  rintro r w2 ⟨A1, n1, c1, A2, n2, c2, A3, n3, c3, A4, n4, c4, A5, n5, c5, A6, n6, c6, hr, hE, hb2⟩
  obtain ⟨_, t2, t3⟩ := tkB_entL e05_B
  rw [t2, t3] at hr
  rw [t2] at hE
  subst hr
  have HBo := Lib.hid (heap_alloc_new w2 (.cells #[.int .i64 0, .int .i64 0, .int .i64 0, .int .i64 0, .int .i64 0, .int .i64 0, .int .i64 0, .int .i64 0, .int .i64 0, .int .i64 0, .slice none 0 0, .slice none 0 0, .slice none 0 0, .slice none 0 0, .slice none 0 0, .slice none 0 0] 30))
  have HZI := Lib.hid (infoEntC e05 (.slice A1 n1 c1) (.slice A2 n2 c2) (.slice A3 n3 c3) (.slice A4 n4 c4) (.slice A5 n5 c5) (.slice A6 n6 c6))
  have HZA := Lib.hid (entC_all e05 A1 A2 A3 A4 A5 A6 n1 c1 n2 c2 n3 c3 n4 c4 n5 c5 n6 c6)
  have HZN := Lib.hid (show (#[.int .i64 0, .int .i64 0, .int .i64 0, .int .i64 0, .int .i64 0, .int .i64 0, .int .i64 0, .int .i64 0, .int .i64 0, .int .i64 0, .slice none 0 0, .slice none 0 0, .slice none 0 0, .slice none 0 0, .slice none 0 0, .slice none 0 0] : Array Value).size = (entC e05 (.slice A1 n1 c1) (.slice A2 n2 c2) (.slice A3 n3 c3) (.slice A4 n4 c4) (.slice A5 n5 c5) (.slice A6 n6 c6)).size from rfl)
  have HSA := Lib.hid (setRow_alloc w2 #[.int .i64 0, .int .i64 0, .int .i64 0, .int .i64 0, .int .i64 0, .int .i64 0, .int .i64 0, .int .i64 0, .int .i64 0, .int .i64 0, .slice none 0 0, .slice none 0 0, .slice none 0 0, .slice none 0 0, .slice none 0 0, .slice none 0 0] (entC e05 (.slice A1 n1 c1) (.slice A2 n2 c2) (.slice A3 n3 c3) (.slice A4 n4 c4) (.slice A5 n5 c5) (.slice A6 n6 c6)) 30)
  have hb3 : Below w2.heap.size w2 (w2.alloc (.cells (entC e05 (.slice A1 n1 c1) (.slice A2 n2 c2) (.slice A3 n3 c3) (.slice A4 n4 c4) (.slice A5 n5 c5) (.slice A6 n6 c6)) 30)) := (Below.refl _ _).alloc (Nat.le_refl _) _
  have HE3 := Lib.hid (hE.at (Below.kpt hb3))
  have HBE := Lib.hid (heap_alloc_new w2 (.cells (entC e05 (.slice A1 n1 c1) (.slice A2 n2 c2) (.slice A3 n3 c3) (.slice A4 n4 c4) (.slice A5 n5 c5) (.slice A6 n6 c6)) 30))
  have hz2 : w.heap.size ≤ w2.heap.size := Nat.le_trans HB1.out.size hb2.size
  have HB3 := Lib.hid (HB1.out.trans ((hb2.mono HB1.out.size).trans (hb3.mono hz2)))
  have HZ2 := Lib.hid hz2
  clear hE hb2 hb3 hz2 t2 t3 HT
  go_upto_region 3 with (with_reducible refine wpList_store_row rfl 30 (.tmp 2) (.tmp 11) rfl w2.heap.size _ rfl rfl 30 _ HBo.out HZI.out HZN.out HZA.out ?_)
  rw [HSA.out]
  have HW3 : Hid (w2.heap.size < (w2.alloc (.cells (entC e05 (.slice A1 n1 c1) (.slice A2 n2 c2) (.slice A3 n3 c3) (.slice A4 n4 c4) (.slice A5 n5 c5) (.slice A6 n6 c6)) 30)).heap.size) := by show _ < _; simp
  generalize w2.alloc (.cells (entC e05 (.slice A1 n1 c1) (.slice A2 n2 c2) (.slice A3 n3 c3) (.slice A4 n4 c4) (.slice A5 n5 c5) (.slice A6 n6 c6)) 30) = w3 at *
  have hone : SlK .u8 (w3.alloc (.cells #[.int .u8 1] 5)) (.slice (some ⟨w3.heap.size, 0, none⟩) 1 1) [1] := (Blk.pt (l := [1]) (blk_new w3 [1]) rfl (Nat.le_refl _)).slK (fun x h => by simp at h; omega)
  have HT := Lib.hid (take_ok _ hone)
  have hb4 : Below w3.heap.size w3 (w3.alloc (.cells #[.int .u8 1] 5)) := (Below.refl _ _).alloc (Nat.le_refl _) _
  have HB4 := Lib.hid hb4
  clear hone hb4
  go_wp2_with fail
  refine HT.out.mono ?_
  rintro r w5 ⟨B1, m1, d1, B2, m2, d2, B3, m3, d3, B4, m4, d4, B5, m5, d5, B6, m6, d6, hr, hE5, hb5⟩
  obtain ⟨t2, t3⟩ := tk_no one_no
  rw [t2, t3] at hr
  subst hr
  have hb35 : Below w3.heap.size w3 w5 := HB4.out.trans (hb5.mono HB4.out.size)
  have HBo2 := Lib.hid (heap_alloc_new w5 (.cells #[.int .i64 0, .int .i64 0, .int .i64 0, .int .i64 0, .int .i64 0, .int .i64 0, .int .i64 0, .int .i64 0, .int .i64 0, .int .i64 0, .slice none 0 0, .slice none 0 0, .slice none 0 0, .slice none 0 0, .slice none 0 0, .slice none 0 0] 30))
  have HZI2 := Lib.hid (infoEntC ent00 (.slice B1 m1 d1) (.slice B2 m2 d2) (.slice B3 m3 d3) (.slice B4 m4 d4) (.slice B5 m5 d5) (.slice B6 m6 d6))
  have HZA2 := Lib.hid (entC_all ent00 B1 B2 B3 B4 B5 B6 m1 d1 m2 d2 m3 d3 m4 d4 m5 d5 m6 d6)
  have HZN2 := Lib.hid (show (#[.int .i64 0, .int .i64 0, .int .i64 0, .int .i64 0, .int .i64 0, .int .i64 0, .int .i64 0, .int .i64 0, .int .i64 0, .int .i64 0, .slice none 0 0, .slice none 0 0, .slice none 0 0, .slice none 0 0, .slice none 0 0, .slice none 0 0] : Array Value).size = (entC ent00 (.slice B1 m1 d1) (.slice B2 m2 d2) (.slice B3 m3 d3) (.slice B4 m4 d4) (.slice B5 m5 d5) (.slice B6 m6 d6)).size from rfl)
  have HSA2 := Lib.hid (setRow_alloc w5 #[.int .i64 0, .int .i64 0, .int .i64 0, .int .i64 0, .int .i64 0, .int .i64 0, .int .i64 0, .int .i64 0, .int .i64 0, .int .i64 0, .slice none 0 0, .slice none 0 0, .slice none 0 0, .slice none 0 0, .slice none 0 0, .slice none 0 0] (entC ent00 (.slice B1 m1 d1) (.slice B2 m2 d2) (.slice B3 m3 d3) (.slice B4 m4 d4) (.slice B5 m5 d5) (.slice B6 m6 d6)) 30)
  have hb6 : Below w5.heap.size w5 (w5.alloc (.cells (entC ent00 (.slice B1 m1 d1) (.slice B2 m2 d2) (.slice B3 m3 d3) (.slice B4 m4 d4) (.slice B5 m5 d5) (.slice B6 m6 d6)) 30)) := (Below.refl _ _).alloc (Nat.le_refl _) _
  have hb36 := hb35.trans (hb6.mono hb35.size)
  have HE6 := Lib.hid (HE3.out.at (Below.kpt hb36))
  have HBE6 := Lib.hid ((hb36.block w2.heap.size HW3.out).trans HBE.out)
  have hz3 : w.heap.size ≤ w3.heap.size := Nat.le_trans HZ2.out (Nat.le_of_lt HW3.out)
  have HB6 := Lib.hid (HB3.out.trans (hb36.mono hz3))
  clear hE5 hb5 hb35 hb6 hb36 hz3 t2 t3 HT HE3 HBE HB4
  go_upto_region 4 with (with_reducible refine wpList_store_row rfl 30 (.tmp 4) (.tmp 16) rfl w5.heap.size _ rfl rfl 30 _ HBo2.out HZI2.out HZN2.out HZA2.out ?_)
  rw [HSA2.out]
  generalize w5.alloc (.cells (entC ent00 (.slice B1 m1 d1) (.slice B2 m2 d2) (.slice B3 m3 d3) (.slice B4 m4 d4) (.slice B5 m5 d5) (.slice B6 m6 d6)) 30) = w6 at *
  have k0 : w6.cell? ⟨w2.heap.size, 0, none⟩ = some (.int .i64 5) := (cell_of HBE6.out 0).1
  have k1 : w6.cell? ⟨w2.heap.size, 1, none⟩ = some (.int .i64 2) := (cell_of HBE6.out 1).1
  have HM := Lib.hid (may_any w6 e05 HE6.out.entS e05_I)
  rw [e05_B] at HM
  go_wp2_with ((with_reducible refine wpList_load_rowG ?_ 30 (.tmp 2) rfl w2.heap.size rfl 30 _ (0, 0) _ HBE6.out Try.underlying30 rfl HZI.out ?_); · rfl)
  refine HM.out.mono ?_
  rintro r w7 ⟨rfl, hb7⟩
  have HM2 := Lib.hid (may_any w7 ent00 (nil_S w7 ent00 rfl rfl rfl rfl rfl rfl) ent00_I)
  rw [ent00_B] at HM2
  have HB7 := Lib.hid hb7
  clear hb7 k0 k1 HM
  go_wp2_with fail
  refine HM2.out.mono ?_
  rintro r w8 ⟨rfl, hb8⟩
  have hb68 := HB7.out.trans (hb8.mono HB7.out.size)
  have HE8 := Lib.hid (HE6.out.at (Below.kpt hb68))
  have HW6 : w2.heap.size < w6.heap.size := (Array.getElem?_eq_some_iff.1 HBE6.out).1
  have HBE8 := Lib.hid ((hb68.block w2.heap.size HW6).trans HBE6.out)
  have HS := Lib.hid (same_any w8 e05 e05 HE8.out.entS HE8.out.entS e05_Len)
  rw [e05_same] at HS
  have HB8 := Lib.hid hb68
  clear hb8 hb68 HM2 HB7
  go_wp2_with (first
    | ((with_reducible refine wpList_load_rowG ?_ 30 (.tmp 2) rfl w2.heap.size rfl 30 _ (0, 0) _ HBE8.out Try.underlying30 rfl HZI.out ?_); · rfl))
  refine HS.out.mono ?_
  rintro r w9 ⟨rfl, hb9⟩
  have hb69 := HB8.out.trans (hb9.mono HB8.out.size)
  have HE9 := Lib.hid (HE6.out.at (Below.kpt hb69))
  have HBE9 := Lib.hid ((hb69.block w2.heap.size HW6).trans HBE6.out)
  have HS2 := Lib.hid (same_any w9 e05 ent00 HE9.out.entS (nil_S w9 ent00 rfl rfl rfl rfl rfl rfl) e05_Len)
  rw [e05_not] at HS2
  have HB9 := Lib.hid hb69
  clear hb9 hb69 HS HB8 HE8 HBE8
  go_wp2_with ((with_reducible refine wpList_load_rowG ?_ 30 (.tmp 2) rfl w2.heap.size rfl 30 _ (0, 0) _ HBE9.out Try.underlying30 rfl HZI.out ?_); · rfl)
  refine HS2.out.mono ?_
  rintro r w10 ⟨rfl, hb10⟩
  have hb610 := HB9.out.trans (hb10.mono HB9.out.size)
  have hz6 : w.heap.size ≤ w6.heap.size := Nat.le_trans HZ2.out (Nat.le_of_lt HW6)
  have HB10 := Lib.hid (HB6.out.trans (hb610.mono hz6))
  clear hb10 hb610 HS2 HB9 hz6
  go_wp2
  go_ret
  exact ⟨rfl, HB10.out⟩
end Go.Proofs.Ytkfebibnpincpaa
