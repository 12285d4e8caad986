/- What is read is made of numbers; where a valid entry's encoding fits; begun; An entry that comes in as an argument; light; What is behind an encoding is not read; so no encoding begins another one. -/
import Derived.Test.YtbjfhlcfnohiiaaEntSm
import Derived.Laws.IdiomArrays
import Derived.Deep.Slices
import Derived.Deep.Fields
import Derived.Lib.SmallJoins
namespace Go.Proofs.Ytbjfhlcfnohiiaa
open Go.RowKit

theorem i64_numR {l : List Int} (h : bytesOk l) {k : Nat} (hk : k ≤ 3) : I64 (numR l k) := by
  obtain ⟨a, b⟩ := numR_bd h k
  have : (256 : Int) ^ k ≤ 16777216 := by
    obtain rfl | rfl | rfl | rfl : k = 0 ∨ k = 1 ∨ k = 2 ∨ k = 3 := by omega
    all_goals decide
  exact ⟨by omega, by omega⟩
theorem nR_all {α : Type} {f : List Int → α × List Int} {P : α → Prop} (hf : ∀ l, bytesOk l → P (f l).1 ∧ bytesOk (f l).2) {l : List Int} (h : bytesOk l) : ∀ k, (∀ x ∈ (nR f k l).1, P x) ∧ bytesOk (nR f k l).2
  | 0 => ⟨(fun x hx => by cases hx), h⟩
  | k + 1 => by
    obtain ⟨a, b⟩ := nR_all hf h k
    obtain ⟨c, d⟩ := hf _ b
    refine ⟨fun x hx => ?_, d⟩
    rcases List.mem_append.1 hx with hx | hx
    · exact a x hx
    · obtain rfl : x = _ := by simpa using hx
      exact c
theorem lstR_all {α : Type} {f : List Int → α × List Int} {P : α → Prop} (hf : ∀ l, bytesOk l → P (f l).1 ∧ bytesOk (f l).2) {l : List Int} (h : bytesOk l) : (∀ x ∈ (lstR f l).1, P x) ∧ bytesOk (lstR f l).2 := nR_all hf (ok_drop h 1) _
theorem lstR_len {α : Type} (f : List Int → α × List Int) {l : List Int} (h : bytesOk l) : (lstR f l).1.length ≤ 255 := by
  have := numR_bd h 1
  unfold lstR
  rw [nR_len]
  omega
theorem mvR_I (l : List Int) (h : bytesOk l) : mvI (mvR l).1 ∧ bytesOk (mvR l).2 := ⟨⟨i64_numR h (by omega), i64_numR (ok_drop h _) (by omega), i64_numR (ok_drop h _) (by omega), i64_numR (ok_drop h _) (by omega)⟩, ok_drop h _⟩
theorem lvR_I (l : List Int) (h : bytesOk l) : lvI (lvR l).1 ∧ bytesOk (lvR l).2 := ⟨⟨i64_numR h (by omega), i64_numR (ok_drop h _) (by omega), i64_numR (ok_drop h _) (by omega)⟩, ok_drop h _⟩
theorem dtR_I (l : List Int) (h : bytesOk l) : dtI (dtR l).1 ∧ bytesOk (dtR l).2 := ⟨⟨i64_numR h (by omega), i64_numR (ok_drop h _) (by omega)⟩, ok_drop h _⟩
theorem opR_I (l : List Int) (h : bytesOk l) : (opI1 (opR l).1 ∧ (opR l).1.2.2.length ≤ 9223372036854775807) ∧ bytesOk (opR l).2 := by
  obtain ⟨a, b⟩ := lstR_all (f := mvR) (P := mvI) mvR_I (ok_drop h 3)
  exact ⟨⟨⟨i64_numR h (by omega), i64_numR (ok_drop h _) (by omega), a⟩, Nat.le_trans (lstR_len mvR (ok_drop h 3)) (by omega)⟩, b⟩
theorem celR_ok2 {l : List Int} (h : bytesOk l) : bytesOk (celR l).2 := ok_drop (ok_drop h 1) _
theorem entR_I {l : List Int} (h : bytesOk l) : EntI (entR l) ∧ EntLen (entR l) ∧ bytesOk (entR l).old ∧ bytesOk (entR l).new := by
  have o1 : bytesOk (r1 l).1 := celR_ok (ok_drop h 15)
  have h1 : bytesOk (r1 l).2 := celR_ok2 (ok_drop h 15)
  have o2 : bytesOk (r2 l).1 := celR_ok h1
  have h2 : bytesOk (r2 l).2 := celR_ok2 h1
  obtain ⟨a3, h3⟩ := lstR_all (f := mvR) (P := mvI) mvR_I (show bytesOk (r2 l).2 from h2)
  obtain ⟨a4, h4⟩ := lstR_all (f := lvR) (P := lvI) lvR_I (show bytesOk (r3 l).2 from h3)
  obtain ⟨a5, h5⟩ := lstR_all (f := dtR) (P := dtI) dtR_I (show bytesOk (r4 l).2 from h4)
  obtain ⟨a6, h6⟩ := lstR_all (f := opR) (P := fun o => opI1 o ∧ o.2.2.length ≤ 9223372036854775807) opR_I (show bytesOk (r5 l).2 from h5)
  have q0 : I64 (numR l 1) := i64_numR h (by decide)
  have q1 : I64 (numR (l.drop 1) 1) := i64_numR (ok_drop h 1) (by decide)
  have q2 : I64 (numR (l.drop 2) 2) := i64_numR (ok_drop h 2) (by decide)
  have q3 : I64 (numR (l.drop 4) 1) := i64_numR (ok_drop h 4) (by decide)
  have q4 : I64 (numR (l.drop 5) 3) := i64_numR (ok_drop h 5) (by decide)
  have q5 : I64 (numR (l.drop 8) 3) := i64_numR (ok_drop h 8) (by decide)
  have q6 : I64 (numR (l.drop 11) 1) := i64_numR (ok_drop h 11) (by decide)
  have q7 : I64 (numR (l.drop 12) 1) := i64_numR (ok_drop h 12) (by decide)
  have q8 : I64 (numR (l.drop 13) 1) := i64_numR (ok_drop h 13) (by decide)
  have q9 : I64 (numR (l.drop 14) 1) := i64_numR (ok_drop h 14) (by decide)
  have m3 : ∀ m ∈ (r3 l).1, mvI m := a3
  have m4 : ∀ m ∈ (r4 l).1, lvI m := a4
  have m5 : ∀ m ∈ (r5 l).1, dtI m := a5
  have m6 : ∀ m ∈ (r6 l).1, opI1 m := fun o ho => (a6 o ho).1
  have n6 : ∀ o ∈ (r6 l).1, o.2.2.length ≤ 9223372036854775807 := fun o ho => (a6 o ho).2
  have z3 : (r3 l).1.length ≤ 9223372036854775807 := Nat.le_trans (lstR_len mvR h2) (by decide)
  have z4 : (r4 l).1.length ≤ 9223372036854775807 := Nat.le_trans (lstR_len lvR h3) (by decide)
  have z5 : (r5 l).1.length ≤ 9223372036854775807 := Nat.le_trans (lstR_len dtR h4) (by decide)
  have z6 : (r6 l).1.length ≤ 9223372036854775807 := Nat.le_trans (lstR_len opR h5) (by decide)
  clear a3 a4 a5 a6 h1 h2 h3 h4 h5 h6
  generalize hE : entR l = E
  unfold entR at hE
  generalize r1 l = R1 at *
  generalize r2 l = R2 at *
  generalize r3 l = R3 at *
  generalize r4 l = R4 at *
  generalize r5 l = R5 at *
  generalize r6 l = R6 at *
  subst hE
  exact ⟨⟨q0, q1, q2, q3, q4, q5, q6, q7, q8, q9, m3, m4, m5, m6⟩, ⟨z3, z4, z5, z6, n6⟩, o1, o2⟩

theorem tkB_entL {e : Ent} (h : entB e = true) : tkB (entL e) = true ∧ tkE (entL e) = e ∧ tkN (entL e) = 0 := by
  have hr := entR_entL h
  have ht : tkB (entL e) = true := by unfold tkB; rw [hr, h]; simp
  obtain ⟨a, b⟩ := tk_yes ht
  exact ⟨ht, by rw [a, hr], b⟩
/-- Take, of bytes that are bytes. -/
theorem take_ok (w : World) {sv : Value} {l : List Int} (h : SlK .u8 w sv l) : Calls Try.prog 12 #[sv] w (TkPost w l) := take_any w h (entR_I h.ok).1
theorem entL_same {e : Ent} {l : List Int} (h : entB e = true) (hl : entL e = l) : tkB l = true ∧ tkE l = e := by
  subst hl
  exact ⟨(tkB_entL h).1, (tkB_entL h).2.1⟩

end Go.Proofs.Ytbjfhlcfnohiiaa
namespace Go.Proofs.Ytbjfhlcfnohiiaa
open Go.RowKit

def e05 : Ent := ⟨5, 2, 0, 0, 0, 0, 0, 0, 0, 0, [], [], [], [], [], []⟩
theorem e05_B : entB e05 = true := by decide
theorem e05_len : (entL e05).length = 21 := by decide
theorem e05_I : EntI e05 := ⟨⟨by decide, by decide⟩, ⟨by decide, by decide⟩, ⟨by decide, by decide⟩, ⟨by decide, by decide⟩, ⟨by decide, by decide⟩, ⟨by decide, by decide⟩, ⟨by decide, by decide⟩, ⟨by decide, by decide⟩, ⟨by decide, by decide⟩, ⟨by decide, by decide⟩, (fun m h => by cases h), (fun m h => by cases h), (fun m h => by cases h), (fun m h => by cases h)⟩
theorem ent00_I : EntI ent00 := ⟨⟨by decide, by decide⟩, ⟨by decide, by decide⟩, ⟨by decide, by decide⟩, ⟨by decide, by decide⟩, ⟨by decide, by decide⟩, ⟨by decide, by decide⟩, ⟨by decide, by decide⟩, ⟨by decide, by decide⟩, ⟨by decide, by decide⟩, ⟨by decide, by decide⟩, (fun m h => by cases h), (fun m h => by cases h), (fun m h => by cases h), (fun m h => by cases h)⟩
theorem ent00_B : entB ent00 = false := by decide
theorem nil_S (w : World) (e : Ent) (h1 : e.old = []) (h2 : e.new = []) (h3 : e.moves = []) (h4 : e.lives = []) (h5 : e.dirty = []) (h6 : e.opens = []) : EntS w (.slice none 0 0) (.slice none 0 0) (.slice none 0 0) (.slice none 0 0) (.slice none 0 0) (.slice none 0 0) e := by
  have h := (ent0_F w 0).entS
  exact ⟨by rw [h1]; exact h.old, by rw [h2]; exact h.new, by rw [h3]; exact h.moves, by rw [h4]; exact h.lives, by rw [h5]; exact h.dirty, by rw [h6]; exact h.opens⟩
theorem one_no : tkB [1] = false := by decide +kernel
theorem e05_same : sameE e05 e05 = true := (sameE_iff _ _).2 rfl
theorem e05_not : sameE e05 ent00 = false := by decide
theorem e05_Len : EntLen e05 := ⟨by decide, by decide, by decide, by decide, fun o h => by cases h⟩
theorem Below.kpt {w w' : World} {B : Nat} (h : Below w.heap.size w w') : Kpt B w w' := ⟨h.size, fun b _ hl => h.block b hl⟩

/-- A whole struct out of a variable, behind a guard that holds. -/
theorem wpList_load_rowG {P : Program} {ops : Array Oper} {rest : List Oper} {o : Oper} {a : Act} {w : World} {Q : Exit → Act → World → Prop} (hw : Region.wanted o (yielded ops a.tmps) = true) (ty : TypeId) (x : Operand) (ho : o.op = .load ty x)
    (g : Nat) (hx : a.eval x = .pointer (some ⟨g, 0, none⟩)) (t : TypeId) (cs : Array Value) (fr : Nat × Nat) (d : TypeDesc) (hg : w.heap[g]? = some (.cells cs t fr))
    (hu : P.underlying ty = some d) (hd : (match d with | .struct _ | .array _ _ => true | _ => false) = true) (hi : (P.info? ty).map (·.size) = some cs.size)
    (h : wpList P ops Q rest (a.put o.dst (.agg cs)) w) : wpList P ops Q (o :: rest) a w :=
  wpList_step fun _ hK => by
    rw [if_pos hw]
    exact wp_load_row ty x ho g hx t cs fr d hg hu hd hi (hK _ _ h)

set_option maxRecDepth 100000 in
set_option maxHeartbeats 4000000 in
theorem begun_any (w : World) : Calls Try.prog 9 #[] w fun e w' => e = .returned (.bool true) ∧ Below w.heap.size w w' := by
  have HP := Lib.hid (put_any w e05 (nil_S w e05 rfl rfl rfl rfl rfl rfl) e05_I)
  go_enter Try.func9, Try.ntmps9
  go_wp2_with fail
  refine HP.out.mono ?_
  rintro r w1 ⟨A, m, c, rfl, ho1, hb1⟩
  rw [putL_yes e05_B] at ho1
  have hm : m = 21 := by rw [own_n ho1, e05_len]
  subst hm
  have hs1 : SlK .u8 w1 (.slice A 21 c) (entL e05) := own_slK ho1 (entL_okE (fun x h => by cases h) (fun x h => by cases h))
  have HT := Lib.hid (take_ok w1 hs1)
  have HB1 := Lib.hid hb1
  clear ho1 hb1 hs1 HP
  go_wp2_with fail
  refine HT.out.mono ?_
  rintro r w2 ⟨A1, n1, c1, A2, n2, c2, A3, n3, c3, A4, n4, c4, A5, n5, c5, A6, n6, c6, hr, hE, hb2⟩
  obtain ⟨_, t2, t3⟩ := tkB_entL e05_B
  rw [t2, t3] at hr
  rw [t2] at hE
  subst hr
  have HBo := Lib.hid (heap_alloc_new w2 (.cells #[.int .i64 0, .int .i64 0, .int .i64 0, .int .i64 0, .int .i64 0, .int .i64 0, .int .i64 0, .int .i64 0, .int .i64 0, .int .i64 0, .slice none 0 0, .slice none 0 0, .slice none 0 0, .slice none 0 0, .slice none 0 0, .slice none 0 0] 30))
  have HZI := Lib.hid (infoEntC e05 (.slice A1 n1 c1) (.slice A2 n2 c2) (.slice A3 n3 c3) (.slice A4 n4 c4) (.slice A5 n5 c5) (.slice A6 n6 c6))
  have HZA := Lib.hid (entC_all e05 A1 A2 A3 A4 A5 A6 n1 c1 n2 c2 n3 c3 n4 c4 n5 c5 n6 c6)
  have HZN := Lib.hid (show (#[.int .i64 0, .int .i64 0, .int .i64 0, .int .i64 0, .int .i64 0, .int .i64 0, .int .i64 0, .int .i64 0, .int .i64 0, .int .i64 0, .slice none 0 0, .slice none 0 0, .slice none 0 0, .slice none 0 0, .slice none 0 0, .slice none 0 0] : Array Value).size = (entC e05 (.slice A1 n1 c1) (.slice A2 n2 c2) (.slice A3 n3 c3) (.slice A4 n4 c4) (.slice A5 n5 c5) (.slice A6 n6 c6)).size from rfl)
  have HSA := Lib.hid (setRow_alloc w2 #[.int .i64 0, .int .i64 0, .int .i64 0, .int .i64 0, .int .i64 0, .int .i64 0, .int .i64 0, .int .i64 0, .int .i64 0, .int .i64 0, .slice none 0 0, .slice none 0 0, .slice none 0 0, .slice none 0 0, .slice none 0 0, .slice none 0 0] (entC e05 (.slice A1 n1 c1) (.slice A2 n2 c2) (.slice A3 n3 c3) (.slice A4 n4 c4) (.slice A5 n5 c5) (.slice A6 n6 c6)) 30)
  have hb3 : Below w2.heap.size w2 (w2.alloc (.cells (entC e05 (.slice A1 n1 c1) (.slice A2 n2 c2) (.slice A3 n3 c3) (.slice A4 n4 c4) (.slice A5 n5 c5) (.slice A6 n6 c6)) 30)) := (Below.refl _ _).alloc (Nat.le_refl _) _
  have HE3 := Lib.hid (hE.at (Below.kpt hb3))
  have HBE := Lib.hid (heap_alloc_new w2 (.cells (entC e05 (.slice A1 n1 c1) (.slice A2 n2 c2) (.slice A3 n3 c3) (.slice A4 n4 c4) (.slice A5 n5 c5) (.slice A6 n6 c6)) 30))
  have hz2 : w.heap.size ≤ w2.heap.size := Nat.le_trans HB1.out.size hb2.size
  have HB3 := Lib.hid (HB1.out.trans ((hb2.mono HB1.out.size).trans (hb3.mono hz2)))
  have HZ2 := Lib.hid hz2
  clear hE hb2 hb3 hz2 t2 t3 HT
  go_upto_region 3 with (with_reducible refine wpList_store_row rfl 30 (.tmp 2) (.tmp 11) rfl w2.heap.size _ rfl rfl 30 _ HBo.out HZI.out HZN.out HZA.out ?_)
  rw [HSA.out]
  have HW3 : Hid (w2.heap.size < (w2.alloc (.cells (entC e05 (.slice A1 n1 c1) (.slice A2 n2 c2) (.slice A3 n3 c3) (.slice A4 n4 c4) (.slice A5 n5 c5) (.slice A6 n6 c6)) 30)).heap.size) := by show _ < _; simp
  generalize w2.alloc (.cells (entC e05 (.slice A1 n1 c1) (.slice A2 n2 c2) (.slice A3 n3 c3) (.slice A4 n4 c4) (.slice A5 n5 c5) (.slice A6 n6 c6)) 30) = w3 at *
  have hone : SlK .u8 (w3.alloc (.cells #[.int .u8 1] 5)) (.slice (some ⟨w3.heap.size, 0, none⟩) 1 1) [1] := (Blk.pt (l := [1]) (blk_new w3 [1]) rfl (Nat.le_refl _)).slK (fun x h => by simp at h; omega)
  have HT := Lib.hid (take_ok _ hone)
  have hb4 : Below w3.heap.size w3 (w3.alloc (.cells #[.int .u8 1] 5)) := (Below.refl _ _).alloc (Nat.le_refl _) _
  have HB4 := Lib.hid hb4
  clear hone hb4
  go_wp2_with fail
  refine HT.out.mono ?_
  rintro r w5 ⟨B1, m1, d1, B2, m2, d2, B3, m3, d3, B4, m4, d4, B5, m5, d5, B6, m6, d6, hr, hE5, hb5⟩
  obtain ⟨t2, t3⟩ := tk_no one_no
  rw [t2, t3] at hr
  subst hr
  have hb35 : Below w3.heap.size w3 w5 := HB4.out.trans (hb5.mono HB4.out.size)
  have HBo2 := Lib.hid (heap_alloc_new w5 (.cells #[.int .i64 0, .int .i64 0, .int .i64 0, .int .i64 0, .int .i64 0, .int .i64 0, .int .i64 0, .int .i64 0, .int .i64 0, .int .i64 0, .slice none 0 0, .slice none 0 0, .slice none 0 0, .slice none 0 0, .slice none 0 0, .slice none 0 0] 30))
  have HZI2 := Lib.hid (infoEntC ent00 (.slice B1 m1 d1) (.slice B2 m2 d2) (.slice B3 m3 d3) (.slice B4 m4 d4) (.slice B5 m5 d5) (.slice B6 m6 d6))
  have HZA2 := Lib.hid (entC_all ent00 B1 B2 B3 B4 B5 B6 m1 d1 m2 d2 m3 d3 m4 d4 m5 d5 m6 d6)
  have HZN2 := Lib.hid (show (#[.int .i64 0, .int .i64 0, .int .i64 0, .int .i64 0, .int .i64 0, .int .i64 0, .int .i64 0, .int .i64 0, .int .i64 0, .int .i64 0, .slice none 0 0, .slice none 0 0, .slice none 0 0, .slice none 0 0, .slice none 0 0, .slice none 0 0] : Array Value).size = (entC ent00 (.slice B1 m1 d1) (.slice B2 m2 d2) (.slice B3 m3 d3) (.slice B4 m4 d4) (.slice B5 m5 d5) (.slice B6 m6 d6)).size from rfl)
  have HSA2 := Lib.hid (setRow_alloc w5 #[.int .i64 0, .int .i64 0, .int .i64 0, .int .i64 0, .int .i64 0, .int .i64 0, .int .i64 0, .int .i64 0, .int .i64 0, .int .i64 0, .slice none 0 0, .slice none 0 0, .slice none 0 0, .slice none 0 0, .slice none 0 0, .slice none 0 0] (entC ent00 (.slice B1 m1 d1) (.slice B2 m2 d2) (.slice B3 m3 d3) (.slice B4 m4 d4) (.slice B5 m5 d5) (.slice B6 m6 d6)) 30)
  have hb6 : Below w5.heap.size w5 (w5.alloc (.cells (entC ent00 (.slice B1 m1 d1) (.slice B2 m2 d2) (.slice B3 m3 d3) (.slice B4 m4 d4) (.slice B5 m5 d5) (.slice B6 m6 d6)) 30)) := (Below.refl _ _).alloc (Nat.le_refl _) _
  have hb36 := hb35.trans (hb6.mono hb35.size)
  have HE6 := Lib.hid (HE3.out.at (Below.kpt hb36))
  have HBE6 := Lib.hid ((hb36.block w2.heap.size HW3.out).trans HBE.out)
  have hz3 : w.heap.size ≤ w3.heap.size := Nat.le_trans HZ2.out (Nat.le_of_lt HW3.out)
  have HB6 := Lib.hid (HB3.out.trans (hb36.mono hz3))
  clear hE5 hb5 hb35 hb6 hb36 hz3 t2 t3 HT HE3 HBE HB4
  go_upto_region 4 with (with_reducible refine wpList_store_row rfl 30 (.tmp 4) (.tmp 16) rfl w5.heap.size _ rfl rfl 30 _ HBo2.out HZI2.out HZN2.out HZA2.out ?_)
  rw [HSA2.out]
  generalize w5.alloc (.cells (entC ent00 (.slice B1 m1 d1) (.slice B2 m2 d2) (.slice B3 m3 d3) (.slice B4 m4 d4) (.slice B5 m5 d5) (.slice B6 m6 d6)) 30) = w6 at *
  have k0 : w6.cell? ⟨w2.heap.size, 0, none⟩ = some (.int .i64 5) := (cell_of HBE6.out 0).1
  have k1 : w6.cell? ⟨w2.heap.size, 1, none⟩ = some (.int .i64 2) := (cell_of HBE6.out 1).1
  have HM := Lib.hid (may_any w6 e05 HE6.out.entS e05_I)
  rw [e05_B] at HM
  go_wp2_with ((with_reducible refine wpList_load_rowG ?_ 30 (.tmp 2) rfl w2.heap.size rfl 30 _ (0, 0) _ HBE6.out Try.underlying30 rfl HZI.out ?_); · rfl)
  refine HM.out.mono ?_
  rintro r w7 ⟨rfl, hb7⟩
  have HM2 := Lib.hid (may_any w7 ent00 (nil_S w7 ent00 rfl rfl rfl rfl rfl rfl) ent00_I)
  rw [ent00_B] at HM2
  have HB7 := Lib.hid hb7
  clear hb7 k0 k1 HM
  go_wp2_with fail
  refine HM2.out.mono ?_
  rintro r w8 ⟨rfl, hb8⟩
  have hb68 := HB7.out.trans (hb8.mono HB7.out.size)
  have HE8 := Lib.hid (HE6.out.at (Below.kpt hb68))
  have HW6 : w2.heap.size < w6.heap.size := (Array.getElem?_eq_some_iff.1 HBE6.out).1
  have HBE8 := Lib.hid ((hb68.block w2.heap.size HW6).trans HBE6.out)
  have HS := Lib.hid (same_any w8 e05 e05 HE8.out.entS HE8.out.entS e05_Len)
  rw [e05_same] at HS
  have HB8 := Lib.hid hb68
  clear hb8 hb68 HM2 HB7
  go_wp2_with (first
    | ((with_reducible refine wpList_load_rowG ?_ 30 (.tmp 2) rfl w2.heap.size rfl 30 _ (0, 0) _ HBE8.out Try.underlying30 rfl HZI.out ?_); · rfl))
  refine HS.out.mono ?_
  rintro r w9 ⟨rfl, hb9⟩
  have hb69 := HB8.out.trans (hb9.mono HB8.out.size)
  have HE9 := Lib.hid (HE6.out.at (Below.kpt hb69))
  have HBE9 := Lib.hid ((hb69.block w2.heap.size HW6).trans HBE6.out)
  have HS2 := Lib.hid (same_any w9 e05 ent00 HE9.out.entS (nil_S w9 ent00 rfl rfl rfl rfl rfl rfl) e05_Len)
  rw [e05_not] at HS2
  have HB9 := Lib.hid hb69
  clear hb9 hb69 HS HB8 HE8 HBE8
  go_wp2_with ((with_reducible refine wpList_load_rowG ?_ 30 (.tmp 2) rfl w2.heap.size rfl 30 _ (0, 0) _ HBE9.out Try.underlying30 rfl HZI.out ?_); · rfl)
  refine HS2.out.mono ?_
  rintro r w10 ⟨rfl, hb10⟩
  have hb610 := HB9.out.trans (hb10.mono HB9.out.size)
  have hz6 : w.heap.size ≤ w6.heap.size := Nat.le_trans HZ2.out (Nat.le_of_lt HW6)
  have HB10 := Lib.hid (HB6.out.trans (hb610.mono hz6))
  clear hb10 hb610 HS2 HB9 hz6
  go_wp2
  go_ret
  exact ⟨rfl, HB10.out⟩
end Go.Proofs.Ytbjfhlcfnohiiaa
namespace Go.Proofs.Ytbjfhlcfnohiiaa
open Go.ChangeShapes Go.WideShapes Go.ChangeAt Go.RowKit Go.Deep

theorem add_atE (ab ao n : Nat) : (⟨ab, ao, none⟩ : Addr).add n = ⟨ab, ao + n, none⟩ := by
  unfold Addr.add; split <;> simp_all
theorem spot_of {w : World} {a : Addr} {v : Value} (h : w.cell? a = some v) : a.spot = none := by
  unfold World.cell? at h
  split at h
  · split at h
    · cases h
    · rename_i hn
      cases hsp : a.spot with
      | none => rfl
      | some y => rw [hsp] at hn; exact absurd rfl hn
  · cases h

/-- No longer than memory may be. -/
def Bd (n : Nat) : Prop := n ≤ maxLen

section
variable {H : Type} {enc : TypeId × Value → H} {w : World} {base b0 : Nat} {sp : Nat → Bool} {held : Bool}

set_option maxRecDepth 100000 in
theorem open_els {α : Type} (k : Nat) (hk0 : 0 < k) (V : α → List Value) (Pr : α → Prop) {t te : TypeId} (ht : Try.prog.underlying t = some (.slice te)) (hk : Try.prog.cellsOf te = k)
    (hone : ∀ n cs y, DataW.trod enc Try.prog w base sp held n te cs = some y → ∃ x : α, cs = V x ∧ (V x).length = k ∧ Pr x) {fuel : Nat} {v : Value} {y : DataW H × List MemPlace} (h : DataW.trod enc Try.prog w base sp held fuel t [v] = some y) :
    ∃ xs : List α, Els w v k (xs.map V) ∧ (∀ x ∈ xs, Pr x) ∧ Bd xs.length := by
  rcases open_slice ht h with ⟨hcs, _⟩ | ⟨a, len, cap, m, n, D, Pl, hcs, _, hl, hm, hmm, _, hx⟩
  · injection hcs with e _
    subst e
    exact ⟨[], ⟨none, 0, rfl, Nat.le_refl _, fun _ => rfl, fun a e => by cases e⟩, (fun x hx => by cases hx), show 0 ≤ maxLen from Nat.zero_le _⟩
  · injection hcs with e _
    subst e
    have hq : ∀ i, i < len → ∃ x : α, Pr x ∧ (V x).length = k ∧ ∀ j, j < k → w.cell? ((a.add (i * k)).add j) = (V x)[j]? := fun i hi => by
      obtain ⟨cs, hc, hT⟩ := hx i (by rw [hmm]; split <;> omega)
      rw [hk] at hc
      obtain ⟨_, hcl, hat⟩ := World.cells?_some hc
      obtain ⟨x, rfl, hvl, hp⟩ := hone _ _ _ hT
      exact ⟨x, hp, hvl, hat⟩
    let xs : List α := List.ofFn fun i : Fin len => Classical.choose (hq i.1 i.2)
    have hlen : xs.length = len := List.length_ofFn
    have hget : ∀ i (hi : i < len) (hi' : i < xs.length), Pr xs[i] ∧ (V xs[i]).length = k ∧ ∀ j, j < k → w.cell? ((a.add (i * k)).add j) = (V xs[i])[j]? := fun i hi hi' => by
      have : xs[i] = Classical.choose (hq i hi) := by simp [xs]
      rw [this]
      exact Classical.choose_spec (hq i hi)
    refine ⟨xs, ⟨some a, cap, by rw [List.length_map, hlen], by rw [List.length_map]; omega, (fun e => by cases e), fun b e hne => ?_⟩, fun x hx' => ?_, show xs.length ≤ maxLen by rw [hlen]; exact Nat.le_trans hl hm⟩
    · cases e
      have h0 : 0 < len := by
        rcases Nat.eq_zero_or_pos len with e | e
        · exact absurd (List.map_eq_nil_iff.2 (List.length_eq_zero_iff.1 (hlen.trans e))) hne
        · exact e
      obtain ⟨_, hv0, hc0⟩ := hget 0 h0 (by omega)
      have c0 := hc0 0 hk0
      rw [Nat.zero_mul] at c0
      have e1 : (a.add 0).add 0 = a := rfl
      rw [e1, List.getElem?_eq_getElem (by omega)] at c0
      have hs := spot_of c0
      refine ⟨hs, block_lt_of_cell c0, fun i j hi hj => ?_⟩
      rw [List.length_map] at hi
      obtain ⟨_, _, hci⟩ := hget i (by omega) hi
      obtain ⟨ab, ao, asp⟩ := a
      cases hs
      have := hci j hj
      rw [add_atE, add_atE] at this
      show w.cell? ⟨ab, ao + i * k + j, none⟩ = _
      rw [this, List.getElem?_map, List.getElem?_eq_getElem hi]
      rfl
    · obtain ⟨i, hi, rfl⟩ := List.mem_iff_getElem.1 hx'
      exact (hget i (by omega) hi).1

theorem st_field {t : TypeId} {fs : Array Field} {fuel : Nat} {cs : List Value} {y : DataW H × List MemPlace} (hu : Try.prog.underlying t = some (.struct fs)) (h : DataW.trod enc Try.prog w base sp held fuel t cs = some y) :
    cs.length = Try.prog.cellsOf t ∧ ∃ n', ∀ (i : Nat) (f : Field), fs[i]? = some f → ∀ (t' : TypeId) (o k : Nat), f.type = t' → f.offset = o → Try.prog.cellsOf t' = k → ∃ z, DataW.trod enc Try.prog w base sp held n' t' ((cs.drop o).take k) = some z := by
  obtain ⟨xs, n', _, _, hl, hxl, hfs⟩ := DataW.trod_struct hu h
  refine ⟨hl, n', fun i f hf t' o k e1 e2 e3 => ?_⟩
  subst e1 e2 e3
  have hi : i < xs.length := by rw [hxl]; exact (Array.getElem?_eq_some_iff.1 hf).1
  exact ⟨xs[i], by rw [hfs i f hf, List.getElem?_eq_getElem hi]⟩

theorem one_int {n : Nat} {c : Value} {z : DataW H × List MemPlace} (h : DataW.trod enc Try.prog w base sp held n 3 [c] = some z) : ∃ a, c = .int .i64 a ∧ I64 a := by
  obtain ⟨a, e, _, g⟩ := DataW.trod_int Try.underlying3 h
  injection e with e _
  exact ⟨a, e, bounds_i64 g⟩
theorem one_bool {n : Nat} {c : Value} {z : DataW H × List MemPlace} (h : DataW.trod enc Try.prog w base sp held n 4 [c] = some z) : ∃ a, c = .bool a := by
  obtain ⟨a, e, _⟩ := DataW.trod_bool Try.underlying4 h
  injection e with e _
  exact ⟨a, e⟩
theorem co3 : Try.prog.cellsOf 3 = 1 := by kernel_rfl
theorem co4 : Try.prog.cellsOf 4 = 1 := by kernel_rfl
theorem coR : Try.prog.cellsOf 23 = 2 := by kernel_rfl
theorem coM : Try.prog.cellsOf 52 = 4 := by kernel_rfl
theorem coL : Try.prog.cellsOf 46 = 4 := by kernel_rfl
theorem coD : Try.prog.cellsOf 48 = 2 := by kernel_rfl
theorem coO : Try.prog.cellsOf 50 = 3 := by kernel_rfl
theorem coE : Try.prog.cellsOf 30 = 16 := by kernel_rfl
theorem coB : Try.prog.cellsOf 24 = 1 := by kernel_rfl
theorem coSM : Try.prog.cellsOf 25 = 1 := by kernel_rfl
theorem coSL : Try.prog.cellsOf 26 = 1 := by kernel_rfl
theorem coSD : Try.prog.cellsOf 27 = 1 := by kernel_rfl
theorem coSO : Try.prog.cellsOf 28 = 1 := by kernel_rfl

set_option maxRecDepth 100000 in
theorem one_rid {n : Nat} {c0 c1 : Value} {z : DataW H × List MemPlace} (h : DataW.trod enc Try.prog w base sp held n 23 [c0, c1] = some z) : ∃ a b, c0 = .int .i64 a ∧ c1 = .int .i64 b ∧ I64 a ∧ I64 b := by
  obtain ⟨_, n', hf⟩ := st_field Try.underlying23 h
  obtain ⟨z0, h0⟩ := hf 0 _ rfl 3 0 1 rfl rfl co3
  obtain ⟨z1, h1⟩ := hf 1 _ rfl 3 1 1 rfl rfl co3
  obtain ⟨a, rfl, ha⟩ := one_int h0
  obtain ⟨b, rfl, hb⟩ := one_int h1
  exact ⟨a, b, rfl, rfl, ha, hb⟩
set_option maxRecDepth 100000 in
theorem one_move (n : Nat) (cs : List Value) (y : DataW H × List MemPlace) (h : DataW.trod enc Try.prog w base sp held n 52 cs = some y) : ∃ m : Mv, cs = mvV m ∧ (mvV m).length = 4 ∧ mvI m := by
  obtain ⟨hl, n', hf⟩ := st_field Try.underlying52 h
  rw [coM] at hl
  match cs, hl with
  | [c0, c1, c2, c3], _ =>
    obtain ⟨z0, h0⟩ := hf 0 _ rfl 23 0 2 rfl rfl coR
    obtain ⟨z1, h1⟩ := hf 1 _ rfl 23 2 2 rfl rfl coR
    obtain ⟨a, b, rfl, rfl, ha, hb⟩ := one_rid h0
    obtain ⟨c, d, rfl, rfl, hc, hd⟩ := one_rid h1
    exact ⟨(a, b, c, d), rfl, rfl, ha, hb, hc, hd⟩
set_option maxRecDepth 100000 in
theorem one_live (n : Nat) (cs : List Value) (y : DataW H × List MemPlace) (h : DataW.trod enc Try.prog w base sp held n 46 cs = some y) : ∃ m : Lv, cs = lvV m ∧ (lvV m).length = 4 ∧ lvI m := by
  obtain ⟨hl, n', hf⟩ := st_field Try.underlying46 h
  rw [coL] at hl
  match cs, hl with
  | [c0, c1, c2, c3], _ =>
    obtain ⟨z0, h0⟩ := hf 0 _ rfl 3 0 1 rfl rfl co3
    obtain ⟨z1, h1⟩ := hf 1 _ rfl 3 1 1 rfl rfl co3
    obtain ⟨z2, h2⟩ := hf 2 _ rfl 3 2 1 rfl rfl co3
    obtain ⟨z3, h3⟩ := hf 3 _ rfl 4 3 1 rfl rfl co4
    obtain ⟨a, rfl, ha⟩ := one_int h0
    obtain ⟨b, rfl, hb⟩ := one_int h1
    obtain ⟨c, rfl, hc⟩ := one_int h2
    obtain ⟨d, rfl⟩ := one_bool h3
    exact ⟨(a, b, c, d), rfl, rfl, ha, hb, hc⟩
set_option maxRecDepth 100000 in
theorem one_dirty (n : Nat) (cs : List Value) (y : DataW H × List MemPlace) (h : DataW.trod enc Try.prog w base sp held n 48 cs = some y) : ∃ m : Dt, cs = dtV m ∧ (dtV m).length = 2 ∧ dtI m := by
  obtain ⟨hl, n', hf⟩ := st_field Try.underlying48 h
  rw [coD] at hl
  match cs, hl with
  | [c0, c1], _ =>
    obtain ⟨z0, h0⟩ := hf 0 _ rfl 3 0 1 rfl rfl co3
    obtain ⟨z1, h1⟩ := hf 1 _ rfl 3 1 1 rfl rfl co3
    obtain ⟨a, rfl, ha⟩ := one_int h0
    obtain ⟨b, rfl, hb⟩ := one_int h1
    exact ⟨(a, b), rfl, rfl, ha, hb⟩
set_option maxRecDepth 100000 in
theorem one_open (n : Nat) (cs : List Value) (y : DataW H × List MemPlace) (h : DataW.trod enc Try.prog w base sp held n 50 cs = some y) : ∃ m : Opn × Value, cs = opV m ∧ (opV m).length = 3 ∧ opI m ∧ Els w m.2 4 (m.1.2.2.map mvV) ∧ Bd m.1.2.2.length := by
  obtain ⟨hl, n', hf⟩ := st_field Try.underlying50 h
  rw [coO] at hl
  match cs, hl with
  | [c0, c1, c2], _ =>
    obtain ⟨z0, h0⟩ := hf 0 _ rfl 3 0 1 rfl rfl co3
    obtain ⟨z1, h1⟩ := hf 1 _ rfl 25 1 1 rfl rfl coSM
    obtain ⟨z2, h2⟩ := hf 2 _ rfl 3 2 1 rfl rfl co3
    obtain ⟨a, rfl, ha⟩ := one_int h0
    obtain ⟨b, rfl, hb⟩ := one_int h2
    obtain ⟨ms, hE, hP, hL⟩ := open_els 4 (by decide) mvV mvI Try.underlying25 coM one_move (show DataW.trod enc Try.prog w base sp held n' 25 [c1] = some z1 from h1)
    exact ⟨((a, b, ms), c1), rfl, rfl, ⟨ha, hb, hP⟩, hE, hL⟩

/-- What is known of an entry that comes in. -/
structure EntMax (e : Ent) : Prop where
  moves : Bd e.moves.length
  lives : Bd e.lives.length
  dirty : Bd e.dirty.length
  opens : Bd e.opens.length
  inner : ∀ o ∈ e.opens, Bd o.2.2.length

theorem cellTyE : Try.prog.cellTypes Try.prog.depth 30 = some [3, 3, 3, 3, 3, 3, 3, 3, 3, 3, 24, 24, 25, 26, 27, 28] := by kernel_rfl
set_option maxRecDepth 100000 in
theorem cell_slE {c : Value} {n : Nat} {y : DataW H × List MemPlace} (hok : Cell.okWide Try.prog w .any b0 24 c) (h : DataW.trod enc Try.prog w base sp held n 24 [c] = some y) : ∃ l, SlK .u8 w c l := by
  have hv : Value.okWide Try.prog w .any b0 24 c := by
    simp only [Value.okWide, Try.underlying24]; exact hok
  obtain ⟨a0, len, cap, rfl⟩ := okWide_slice Try.underlying24 hv
  exact open_sl Try.underlying24 Try.underlying5 (by kernel_rfl) hv (show DataW.Trod enc Try.prog w base sp held 24 (.slice a0 len cap) y.1 y.2 from ⟨n, h⟩)

set_option maxRecDepth 100000 in
theorem open_entry {v : Value} {d : DataW H} {p : List MemPlace} (hv : Value.okWide Try.prog w .any b0 30 v) (h : DataW.Trod enc Try.prog w base sp held 30 v d p) :
    ∃ e s1 s2 s3 s4 s5 s6, v = .agg (entC e s1 s2 s3 s4 s5 s6) ∧ EntS w s1 s2 s3 s4 s5 s6 e ∧ EntI e ∧ EntMax e := by
  have hv2 := hv
  simp only [Value.okWide, Try.underlying30] at hv2
  obtain ⟨cs, rfl, hsz, ts, hts, -, hrow⟩ := hv2
  rw [cellTyE] at hts
  cases hts
  have h16 : cs.size = 16 := hsz.trans (by kernel_rfl)
  obtain ⟨fuel, hf⟩ := h
  obtain ⟨l⟩ := cs
  match l, h16 with
  | [c0, c1, c2, c3, c4, c5, c6, c7, c8, c9, c10, c11, c12, c13, c14, c15], _ =>
    obtain ⟨_, n', hf⟩ := st_field Try.underlying30 (show DataW.trod enc Try.prog w base sp held fuel 30 [c0, c1, c2, c3, c4, c5, c6, c7, c8, c9, c10, c11, c12, c13, c14, c15] = some (d, p) from hf)
    obtain ⟨z0, h0⟩ := hf 0 _ rfl 3 0 1 rfl rfl co3
    obtain ⟨z1, h1⟩ := hf 1 _ rfl 3 1 1 rfl rfl co3
    obtain ⟨z2, h2⟩ := hf 2 _ rfl 3 2 1 rfl rfl co3
    obtain ⟨z3, h3⟩ := hf 3 _ rfl 3 3 1 rfl rfl co3
    obtain ⟨z4, h4⟩ := hf 4 _ rfl 3 4 1 rfl rfl co3
    obtain ⟨z5, h5⟩ := hf 5 _ rfl 3 5 1 rfl rfl co3
    obtain ⟨z6, h6⟩ := hf 6 _ rfl 23 6 2 rfl rfl coR
    obtain ⟨z7, h7⟩ := hf 7 _ rfl 23 8 2 rfl rfl coR
    obtain ⟨z8, h8⟩ := hf 8 _ rfl 24 10 1 rfl rfl coB
    obtain ⟨z9, h9⟩ := hf 9 _ rfl 24 11 1 rfl rfl coB
    obtain ⟨z10, h10⟩ := hf 10 _ rfl 25 12 1 rfl rfl coSM
    obtain ⟨z11, h11⟩ := hf 11 _ rfl 26 13 1 rfl rfl coSL
    obtain ⟨z12, h12⟩ := hf 12 _ rfl 27 14 1 rfl rfl coSD
    obtain ⟨z13, h13⟩ := hf 13 _ rfl 28 15 1 rfl rfl coSO
    clear hf
    obtain ⟨a0, rfl, i0⟩ := one_int h0
    obtain ⟨a1, rfl, i1⟩ := one_int h1
    obtain ⟨a2, rfl, i2⟩ := one_int h2
    obtain ⟨a3, rfl, i3⟩ := one_int h3
    obtain ⟨a4, rfl, i4⟩ := one_int h4
    obtain ⟨a5, rfl, i5⟩ := one_int h5
    obtain ⟨a6, a7, rfl, rfl, i6, i7⟩ := one_rid h6
    obtain ⟨a8, a9, rfl, rfl, i8, i9⟩ := one_rid h7
    have ok10 : Cell.okWide Try.prog w .any b0 24 c10 := by
      obtain ⟨u, hu, ho⟩ := hrow 10 c10 rfl
      cases hu
      exact ho
    have ok11 : Cell.okWide Try.prog w .any b0 24 c11 := by
      obtain ⟨u, hu, ho⟩ := hrow 11 c11 rfl
      cases hu
      exact ho
    obtain ⟨o, hO⟩ := cell_slE ok10 (show DataW.trod enc Try.prog w base sp held n' 24 [c10] = some z8 from h8)
    obtain ⟨nw, hN⟩ := cell_slE ok11 (show DataW.trod enc Try.prog w base sp held n' 24 [c11] = some z9 from h9)
    obtain ⟨ms, m1, m2, m3⟩ := open_els 4 (by decide) mvV mvI Try.underlying25 coM one_move (show DataW.trod enc Try.prog w base sp held n' 25 [c12] = some z10 from h10)
    obtain ⟨ls, l1, l2, l3⟩ := open_els 4 (by decide) lvV lvI Try.underlying26 coL one_live (show DataW.trod enc Try.prog w base sp held n' 26 [c13] = some z11 from h11)
    obtain ⟨ds, d1, d2, d3⟩ := open_els 2 (by decide) dtV dtI Try.underlying27 coD one_dirty (show DataW.trod enc Try.prog w base sp held n' 27 [c14] = some z12 from h12)
    obtain ⟨os, o1, o2, o3⟩ := open_els 3 (by decide) opV (fun m => opI m ∧ Els w m.2 4 (m.1.2.2.map mvV) ∧ Bd m.1.2.2.length) Try.underlying28 coO one_open (show DataW.trod enc Try.prog w base sp held n' 28 [c15] = some z13 from h13)
    refine ⟨⟨a0, a1, a2, a3, a4, a5, a6, a7, a8, a9, o, nw, ms, ls, ds, os.map Prod.fst⟩, c10, c11, c12, c13, c14, c15, rfl, ⟨hO, hN, m1, l1, d1, ⟨os, rfl, o1, fun x hx => (o2 x hx).2.1⟩⟩, ⟨i0, i1, i2, i3, i4, i5, i6, i7, i8, i9, m2, l2, d2, fun x hx => ?_⟩, ⟨m3, l3, d3, by rw [List.length_map]; exact o3, fun x hx => ?_⟩⟩
    · obtain ⟨u, hu, rfl⟩ := List.mem_map.1 hx
      exact (o2 u hu).1
    · obtain ⟨u, hu, rfl⟩ := List.mem_map.1 hx
      exact (o2 u hu).2.2
end
end Go.Proofs.Ytbjfhlcfnohiiaa
namespace Go.Proofs.Ytbjfhlcfnohiiaa
open Go.RowKit

/-- Not too great. -/
structure Lgt (e : Ent) : Prop where
  old : e.old.length ≤ 40
  new : e.new.length ≤ 40
  moves : e.moves.length ≤ 45
  lives : e.lives.length ≤ 45
  dirty : e.dirty.length ≤ 45
  opens : e.opens.length ≤ 45

def LgtPost (w : World) (e : Ent) (r : Ending) (w' : World) : Prop := ∃ b, r = .returned (.bool b) ∧ Below w.heap.size w w' ∧ (b = true → Lgt e)
def SumRel (w : World) (m : Nat) (n i : Value) (wr : World) : Prop := ∃ (k : Nat) (s : Int), k ≤ m ∧ i = .int .i64 k ∧ n = .int .i64 s ∧ w = wr

set_option maxRecDepth 100000 in
set_option maxHeartbeats 4000000 in
theorem light_any (w : World) (e : Ent) {s1 s2 s3 s4 s5 s6 : Value} (hs : EntS w s1 s2 s3 s4 s5 s6 e) :
    Calls Try.prog 10 #[.agg (entC e s1 s2 s3 s4 s5 s6)] w (LgtPost w e) := by
  obtain ⟨A1, c1, A2, c2, A3, c3, A4, c4, A5, c5, A6, c6, rfl, rfl, rfl, rfl, rfl, rfl⟩ := hs.form
  have HO := Lib.hid hs.opens
  clear hs
  obtain ⟨n1, hn1⟩ : ∃ n, n = e.old.length := ⟨_, rfl⟩
  rw [← hn1]
  obtain ⟨n2, hn2⟩ : ∃ n, n = e.new.length := ⟨_, rfl⟩
  rw [← hn2]
  obtain ⟨n3, hn3⟩ : ∃ n, n = e.moves.length := ⟨_, rfl⟩
  rw [← hn3]
  obtain ⟨n4, hn4⟩ : ∃ n, n = e.lives.length := ⟨_, rfl⟩
  rw [← hn4]
  obtain ⟨n5, hn5⟩ : ∃ n, n = e.dirty.length := ⟨_, rfl⟩
  rw [← hn5]
  obtain ⟨n6, hn6⟩ : ∃ n, n = e.opens.length := ⟨_, rfl⟩
  rw [← hn6] at HO ⊢
  obtain ⟨W, hW⟩ : ∃ W, W = w.alloc (entO e (.slice A1 n1 c1) (.slice A2 n2 c2) (.slice A3 n3 c3) (.slice A4 n4 c4) (.slice A5 n5 c5) (.slice A6 n6 c6)) := ⟨_, rfl⟩
  have HB : Hid (Below w.heap.size w W) := by rw [hW]; exact (Below.refl _ _).alloc (Nat.le_refl _) _
  have HX : Hid (W.heap[w.heap.size]? = some (.cells (entC e (.slice A1 n1 c1) (.slice A2 n2 c2) (.slice A3 n3 c3) (.slice A4 n4 c4) (.slice A5 n5 c5) (.slice A6 n6 c6)) 30 (0, 0))) := by rw [hW]; exact heap_alloc_new w _
  have hcase : (n1 ≤ 40 ∧ n2 ≤ 40 ∧ n3 ≤ 45 ∧ n4 ≤ 45 ∧ n5 ≤ 45 ∧ n6 ≤ 45) ∨ (40 < n1) ∨ (n1 ≤ 40 ∧ 40 < n2) ∨ (n1 ≤ 40 ∧ n2 ≤ 40 ∧ 45 < n3) ∨ (n1 ≤ 40 ∧ n2 ≤ 40 ∧ n3 ≤ 45 ∧ 45 < n4) ∨ (n1 ≤ 40 ∧ n2 ≤ 40 ∧ n3 ≤ 45 ∧ n4 ≤ 45 ∧ 45 < n5) ∨ (n1 ≤ 40 ∧ n2 ≤ 40 ∧ n3 ≤ 45 ∧ n4 ≤ 45 ∧ n5 ≤ 45 ∧ 45 < n6) := by omega
  have HL : Hid ((n1 ≤ 40 ∧ n2 ≤ 40 ∧ n3 ≤ 45 ∧ n4 ≤ 45 ∧ n5 ≤ 45 ∧ n6 ≤ 45) → Lgt e) := fun h => ⟨by rw [← hn1]; omega, by rw [← hn2]; omega, by rw [← hn3]; omega, by rw [← hn4]; omega, by rw [← hn5]; omega, by rw [← hn6]; omega⟩
  clear hn1 hn2 hn3 hn4 hn5 hn6
  rcases hcase with ⟨q1, q2, q3, q4, q5, q6⟩ | q1 | ⟨q1, q2⟩ | ⟨q1, q2, q3⟩ | ⟨q1, q2, q3, q4⟩ | ⟨q1, q2, q3, q4, q5⟩ | ⟨q1, q2, q3, q4, q5, q6⟩
  · have HLL := Lib.hid (HL.out ⟨q1, q2, q3, q4, q5, q6⟩)
    have q66 := q6
    have x1 : W.cell? ⟨w.heap.size, 10, none⟩ = some (.slice A1 n1 c1) := (cell_of HX.out 10).1
    have x2 : W.cell? ⟨w.heap.size, 11, none⟩ = some (.slice A2 n2 c2) := (cell_of HX.out 11).1
    have x3 : W.cell? ⟨w.heap.size, 12, none⟩ = some (.slice A3 n3 c3) := (cell_of HX.out 12).1
    have x4 : W.cell? ⟨w.heap.size, 13, none⟩ = some (.slice A4 n4 c4) := (cell_of HX.out 13).1
    have x5 : W.cell? ⟨w.heap.size, 14, none⟩ = some (.slice A5 n5 c5) := (cell_of HX.out 14).1
    have x6 : W.cell? ⟨w.heap.size, 15, none⟩ = some (.slice A6 n6 c6) := (cell_of HX.out 15).1
    have r1 : ¬ ((40 : Int) < (n1 : Int)) := by omega
    have r2 : ¬ ((40 : Int) < (n2 : Int)) := by omega
    have r3 : ¬ ((45 : Int) < (n3 : Int)) := by omega
    have r4 : ¬ ((45 : Int) < (n4 : Int)) := by omega
    have r5 : ¬ ((45 : Int) < (n5 : Int)) := by omega
    have r6 : ¬ ((45 : Int) < (n6 : Int)) := by omega
    clear q1 q2 q3 q4 q5 q6
    show Calls _ _ #[.agg #[.int .i64 e.kind, .int .i64 e.txn, .int .i64 e.unit, .int .i64 e.half, .int .i64 e.prev, .int .i64 e.next, .int .i64 e.ap, .int .i64 e.ac, .int .i64 e.tp, .int .i64 e.tc, _, _, _, _, _, _]] _ _
    go_enter Try.func10, Try.ntmps10
    go_upto_region 1 with (fail)
    show Code.wp _ _ _ _ (w.alloc (entO e (.slice A1 n1 c1) (.slice A2 n2 c2) (.slice A3 n3 c3) (.slice A4 n4 c4) (.slice A5 n5 c5) (.slice A6 n6 c6)))
    rw [← hW]
    clear hW
    go_wp2
    clear x1 x2 x3 x4 x5 r1 r2 r3 r4 r5 r6
    obtain ⟨os, hos, ho1, ho2⟩ := HO.out
    have hlen : os.length = n6 := by
      obtain ⟨_, _, e1, _⟩ := ho1
      injection e1 with _ e2 _
      rw [List.length_map] at e2
      exact e2.symm
    have HO1 := Lib.hid (ho1.below HB.out (Nat.le_refl _))
    have HO2 := Lib.hid ho2
    clear hos ho1 ho2
    go_loopw [3, 4] (fun n i wr => SumRel W n6 n i wr) (fun _ i _ => n6 - (intOf i).toNat)
    case atStart => exact ⟨0, 0, Nat.zero_le _, rfl, rfl, rfl⟩
    case round =>
      obtain ⟨k, s, hk, rfl, rfl, rfl⟩ := hrel
      by_cases hlt : k < n6
      · obtain ⟨b, off, rfl, hbl, hc⟩ := HO1.out.one (i := k) (by rw [List.length_map, hlen]; exact hlt)
        obtain ⟨A7, c7, e7⟩ := (HO2.out os[k] (List.getElem_mem _)).mv
        have y1 : W.cell? ⟨b, off + k * 3 + 1, none⟩ = some os[k].2 := by simpa [opV] using hc 1 (by omega)
        rw [e7] at y1
        obtain ⟨n7, hn7⟩ : ∃ n, n = os[k].1.2.2.length := ⟨_, rfl⟩
        rw [← hn7] at y1
        clear hc e7 hn7 hlen
        have z1 : (0 : Int) ≤ (k : Int) := by omega
        have z2 : (k : Int) < (n6 : Int) := by omega
        go_wp2
        go_roundw
        case rel => exact ⟨k + 1, _, hlt, rfl, rfl, rfl⟩
        case measure => simp [intOf]; omega
      · obtain rfl : k = n6 := by omega
        clear hlen
        go_wp2
        go_ret
        exact ⟨_, rfl, HB.out, fun _ => HLL.out⟩
  · have x1 : W.cell? ⟨w.heap.size, 10, none⟩ = some (.slice A1 n1 c1) := (cell_of HX.out 10).1
    have r1 : (40 : Int) < (n1 : Int) := by omega
    clear q1
    show Calls _ _ #[.agg #[.int .i64 e.kind, .int .i64 e.txn, .int .i64 e.unit, .int .i64 e.half, .int .i64 e.prev, .int .i64 e.next, .int .i64 e.ap, .int .i64 e.ac, .int .i64 e.tp, .int .i64 e.tc, _, _, _, _, _, _]] _ _
    go_enter Try.func10, Try.ntmps10
    go_upto_region 1 with (fail)
    show Code.wp _ _ _ _ (w.alloc (entO e (.slice A1 n1 c1) (.slice A2 n2 c2) (.slice A3 n3 c3) (.slice A4 n4 c4) (.slice A5 n5 c5) (.slice A6 n6 c6)))
    rw [← hW]
    clear hW
    go_wp2
    go_ret
    exact ⟨_, rfl, HB.out, fun h => by cases h⟩
  · have x1 : W.cell? ⟨w.heap.size, 10, none⟩ = some (.slice A1 n1 c1) := (cell_of HX.out 10).1
    have x2 : W.cell? ⟨w.heap.size, 11, none⟩ = some (.slice A2 n2 c2) := (cell_of HX.out 11).1
    have r1 : ¬ ((40 : Int) < (n1 : Int)) := by omega
    have r2 : (40 : Int) < (n2 : Int) := by omega
    clear q1 q2
    show Calls _ _ #[.agg #[.int .i64 e.kind, .int .i64 e.txn, .int .i64 e.unit, .int .i64 e.half, .int .i64 e.prev, .int .i64 e.next, .int .i64 e.ap, .int .i64 e.ac, .int .i64 e.tp, .int .i64 e.tc, _, _, _, _, _, _]] _ _
    go_enter Try.func10, Try.ntmps10
    go_upto_region 1 with (fail)
    show Code.wp _ _ _ _ (w.alloc (entO e (.slice A1 n1 c1) (.slice A2 n2 c2) (.slice A3 n3 c3) (.slice A4 n4 c4) (.slice A5 n5 c5) (.slice A6 n6 c6)))
    rw [← hW]
    clear hW
    go_wp2
    go_ret
    exact ⟨_, rfl, HB.out, fun h => by cases h⟩
  · have x1 : W.cell? ⟨w.heap.size, 10, none⟩ = some (.slice A1 n1 c1) := (cell_of HX.out 10).1
    have x2 : W.cell? ⟨w.heap.size, 11, none⟩ = some (.slice A2 n2 c2) := (cell_of HX.out 11).1
    have x3 : W.cell? ⟨w.heap.size, 12, none⟩ = some (.slice A3 n3 c3) := (cell_of HX.out 12).1
    have r1 : ¬ ((40 : Int) < (n1 : Int)) := by omega
    have r2 : ¬ ((40 : Int) < (n2 : Int)) := by omega
    have r3 : (45 : Int) < (n3 : Int) := by omega
    clear q1 q2 q3
    show Calls _ _ #[.agg #[.int .i64 e.kind, .int .i64 e.txn, .int .i64 e.unit, .int .i64 e.half, .int .i64 e.prev, .int .i64 e.next, .int .i64 e.ap, .int .i64 e.ac, .int .i64 e.tp, .int .i64 e.tc, _, _, _, _, _, _]] _ _
    go_enter Try.func10, Try.ntmps10
    go_upto_region 1 with (fail)
    show Code.wp _ _ _ _ (w.alloc (entO e (.slice A1 n1 c1) (.slice A2 n2 c2) (.slice A3 n3 c3) (.slice A4 n4 c4) (.slice A5 n5 c5) (.slice A6 n6 c6)))
    rw [← hW]
    clear hW
    go_wp2
    go_ret
    exact ⟨_, rfl, HB.out, fun h => by cases h⟩
  · have x1 : W.cell? ⟨w.heap.size, 10, none⟩ = some (.slice A1 n1 c1) := (cell_of HX.out 10).1
    have x2 : W.cell? ⟨w.heap.size, 11, none⟩ = some (.slice A2 n2 c2) := (cell_of HX.out 11).1
    have x3 : W.cell? ⟨w.heap.size, 12, none⟩ = some (.slice A3 n3 c3) := (cell_of HX.out 12).1
    have x4 : W.cell? ⟨w.heap.size, 13, none⟩ = some (.slice A4 n4 c4) := (cell_of HX.out 13).1
    have r1 : ¬ ((40 : Int) < (n1 : Int)) := by omega
    have r2 : ¬ ((40 : Int) < (n2 : Int)) := by omega
    have r3 : ¬ ((45 : Int) < (n3 : Int)) := by omega
    have r4 : (45 : Int) < (n4 : Int) := by omega
    clear q1 q2 q3 q4
    show Calls _ _ #[.agg #[.int .i64 e.kind, .int .i64 e.txn, .int .i64 e.unit, .int .i64 e.half, .int .i64 e.prev, .int .i64 e.next, .int .i64 e.ap, .int .i64 e.ac, .int .i64 e.tp, .int .i64 e.tc, _, _, _, _, _, _]] _ _
    go_enter Try.func10, Try.ntmps10
    go_upto_region 1 with (fail)
    show Code.wp _ _ _ _ (w.alloc (entO e (.slice A1 n1 c1) (.slice A2 n2 c2) (.slice A3 n3 c3) (.slice A4 n4 c4) (.slice A5 n5 c5) (.slice A6 n6 c6)))
    rw [← hW]
    clear hW
    go_wp2
    go_ret
    exact ⟨_, rfl, HB.out, fun h => by cases h⟩
  · have x1 : W.cell? ⟨w.heap.size, 10, none⟩ = some (.slice A1 n1 c1) := (cell_of HX.out 10).1
    have x2 : W.cell? ⟨w.heap.size, 11, none⟩ = some (.slice A2 n2 c2) := (cell_of HX.out 11).1
    have x3 : W.cell? ⟨w.heap.size, 12, none⟩ = some (.slice A3 n3 c3) := (cell_of HX.out 12).1
    have x4 : W.cell? ⟨w.heap.size, 13, none⟩ = some (.slice A4 n4 c4) := (cell_of HX.out 13).1
    have x5 : W.cell? ⟨w.heap.size, 14, none⟩ = some (.slice A5 n5 c5) := (cell_of HX.out 14).1
    have r1 : ¬ ((40 : Int) < (n1 : Int)) := by omega
    have r2 : ¬ ((40 : Int) < (n2 : Int)) := by omega
    have r3 : ¬ ((45 : Int) < (n3 : Int)) := by omega
    have r4 : ¬ ((45 : Int) < (n4 : Int)) := by omega
    have r5 : (45 : Int) < (n5 : Int) := by omega
    clear q1 q2 q3 q4 q5
    show Calls _ _ #[.agg #[.int .i64 e.kind, .int .i64 e.txn, .int .i64 e.unit, .int .i64 e.half, .int .i64 e.prev, .int .i64 e.next, .int .i64 e.ap, .int .i64 e.ac, .int .i64 e.tp, .int .i64 e.tc, _, _, _, _, _, _]] _ _
    go_enter Try.func10, Try.ntmps10
    go_upto_region 1 with (fail)
    show Code.wp _ _ _ _ (w.alloc (entO e (.slice A1 n1 c1) (.slice A2 n2 c2) (.slice A3 n3 c3) (.slice A4 n4 c4) (.slice A5 n5 c5) (.slice A6 n6 c6)))
    rw [← hW]
    clear hW
    go_wp2
    go_ret
    exact ⟨_, rfl, HB.out, fun h => by cases h⟩
  · have x1 : W.cell? ⟨w.heap.size, 10, none⟩ = some (.slice A1 n1 c1) := (cell_of HX.out 10).1
    have x2 : W.cell? ⟨w.heap.size, 11, none⟩ = some (.slice A2 n2 c2) := (cell_of HX.out 11).1
    have x3 : W.cell? ⟨w.heap.size, 12, none⟩ = some (.slice A3 n3 c3) := (cell_of HX.out 12).1
    have x4 : W.cell? ⟨w.heap.size, 13, none⟩ = some (.slice A4 n4 c4) := (cell_of HX.out 13).1
    have x5 : W.cell? ⟨w.heap.size, 14, none⟩ = some (.slice A5 n5 c5) := (cell_of HX.out 14).1
    have x6 : W.cell? ⟨w.heap.size, 15, none⟩ = some (.slice A6 n6 c6) := (cell_of HX.out 15).1
    have r1 : ¬ ((40 : Int) < (n1 : Int)) := by omega
    have r2 : ¬ ((40 : Int) < (n2 : Int)) := by omega
    have r3 : ¬ ((45 : Int) < (n3 : Int)) := by omega
    have r4 : ¬ ((45 : Int) < (n4 : Int)) := by omega
    have r5 : ¬ ((45 : Int) < (n5 : Int)) := by omega
    have r6 : (45 : Int) < (n6 : Int) := by omega
    clear q1 q2 q3 q4 q5 q6
    show Calls _ _ #[.agg #[.int .i64 e.kind, .int .i64 e.txn, .int .i64 e.unit, .int .i64 e.half, .int .i64 e.prev, .int .i64 e.next, .int .i64 e.ap, .int .i64 e.ac, .int .i64 e.tp, .int .i64 e.tc, _, _, _, _, _, _]] _ _
    go_enter Try.func10, Try.ntmps10
    go_upto_region 1 with (fail)
    show Code.wp _ _ _ _ (w.alloc (entO e (.slice A1 n1 c1) (.slice A2 n2 c2) (.slice A3 n3 c3) (.slice A4 n4 c4) (.slice A5 n5 c5) (.slice A6 n6 c6)))
    rw [← hW]
    clear hW
    go_wp2
    go_ret
    exact ⟨_, rfl, HB.out, fun h => by cases h⟩
end Go.Proofs.Ytbjfhlcfnohiiaa
namespace Go.Proofs.Ytbjfhlcfnohiiaa

theorem entR_tail {e : Ent} (h : entB e = true) (t : List Int) : entR (entL e ++ t) = e := by
  obtain ⟨a1, a2, a3, a4, a5, a6, a7, a8, a9, a10, o, n, mo, li, di, op⟩ := e
  simp only [entB, Bool.and_eq_true, plB] at h
  obtain ⟨⟨⟨⟨⟨⟨⟨⟨⟨⟨⟨⟨⟨⟨hk, h1⟩, h2⟩, h3⟩, h4⟩, h5⟩, h6⟩, h7, h8⟩, h9, h10⟩, ho⟩, hn⟩, hm⟩, hl⟩, hd⟩, hp⟩ := h
  clear hk
  have e15 : ∀ X : List Int, (numL a1 1 ++ (numL a2 1 ++ (numL a3 2 ++ (numL a4 1 ++ (numL a5 3 ++ (numL a6 3 ++ (plL a7 a8 ++ (plL a9 a10 ++ X)))))))).drop 15 = X := fun X => by
    simp [plL, numL]
  have E : entL ⟨a1, a2, a3, a4, a5, a6, a7, a8, a9, a10, o, n, mo, li, di, op⟩ ++ t = numL a1 1 ++ (numL a2 1 ++ (numL a3 2 ++ (numL a4 1 ++ (numL a5 3 ++ (numL a6 3 ++ (plL a7 a8 ++ (plL a9 a10 ++ (celL o ++ (celL n ++ (lstL mvL mo ++ (lstL lvL li ++ (lstL dtL di ++ (lstL opL op ++ t))))))))))))) := by
    simp [entL]
  rw [E]
  obtain ⟨X, hX⟩ : ∃ X, X = celL o ++ (celL n ++ (lstL mvL mo ++ (lstL lvL li ++ (lstL dtL di ++ (lstL opL op ++ t))))) := ⟨_, rfl⟩
  rw [← hX]
  obtain ⟨L, hL⟩ : ∃ L, L = numL a1 1 ++ (numL a2 1 ++ (numL a3 2 ++ (numL a4 1 ++ (numL a5 3 ++ (numL a6 3 ++ (plL a7 a8 ++ (plL a9 a10 ++ X))))))) := ⟨_, rfl⟩
  have k1 : r1 L = (o, celL n ++ (lstL mvL mo ++ (lstL lvL li ++ (lstL dtL di ++ (lstL opL op ++ t))))) := by
    unfold r1; rw [hL, e15, hX, celR_celL ho]
  have k2 : r2 L = (n, lstL mvL mo ++ (lstL lvL li ++ (lstL dtL di ++ (lstL opL op ++ t)))) := by
    unfold r2; rw [k1]; exact celR_celL hn _
  have k3 : r3 L = (mo, lstL lvL li ++ (lstL dtL di ++ (lstL opL op ++ t))) := by
    unfold r3; rw [k2]; exact lstR_lstL hm (fun x hx t => mvR_mvL hx t) _
  have k4 : r4 L = (li, lstL dtL di ++ (lstL opL op ++ t)) := by
    unfold r4; rw [k3]; exact lstR_lstL hl (fun x hx t => lvR_lvL hx t) _
  have k5 : r5 L = (di, lstL opL op ++ t) := by
    unfold r5; rw [k4]; exact lstR_lstL hd (fun x hx t => dtR_dtL hx t) _
  have k6 : r6 L = (op, t) := by
    unfold r6; rw [k5]; exact lstR_lstL hp (fun x hx t => opR_opL hx t) _
  rw [← hL]
  unfold entR
  rw [k1, k2, k3, k4, k5, k6]
  have := fit_iff.1 h1; have := fit_iff.1 h2; have := fit_iff.1 h3; have := fit_iff.1 h4; have := fit_iff.1 h5; have := fit_iff.1 h6; have := fit_iff.1 h7; have := fit_iff.1 h8; have := fit_iff.1 h9; have := fit_iff.1 h10
  clear k1 k2 k3 k4 k5 k6 hX E e15
  subst hL
  simp [plL, numL, numR]
  refine ⟨?_, ?_, ?_, ?_, ?_, ?_, ?_, ?_, ?_, ?_⟩ <;> omega

theorem entL_pre {e e' : Ent} (h : entB e = true) (h' : entB e' = true) {t : List Int} (ht : entL e = entL e' ++ t) : e' = e ∧ t = [] := by
  have h1 := entR_entL h
  rw [ht, entR_tail h' t] at h1
  subst h1
  refine ⟨rfl, ?_⟩
  have := congrArg List.length ht
  rw [List.length_append] at this
  exact List.length_eq_zero_iff.1 (by omega)
theorem entL_ge {e : Ent} (h : entB e = true) : 21 ≤ (entL e).length := by
  simp only [entB, Bool.and_eq_true] at h
  obtain ⟨⟨⟨⟨⟨⟨⟨⟨⟨⟨⟨⟨⟨⟨hk, h1⟩, h2⟩, h3⟩, h4⟩, h5⟩, h6⟩, h7⟩, h9⟩, ho⟩, hn⟩, hm⟩, hl⟩, hd⟩, hp⟩ := h
  have l1 : ∀ {α : Type} {f : α → List Int} {xs : List α} {B : α → Bool}, lstB B xs = true → 1 ≤ (lstL f xs).length := fun hb => by
    simp only [lstB, Bool.and_eq_true, decide_eq_true_eq] at hb
    unfold lstL
    rw [if_pos hb.1, List.length_append, numL_len]
    omega
  have c1 : ∀ {c : List Int}, celOk c = true → 1 ≤ (celL c).length := fun hb => by
    unfold celL
    rw [if_pos hb, List.length_append, numL_len]
    omega
  have := l1 (f := mvL) hm; have := l1 (f := lvL) hl; have := l1 (f := dtL) hd; have := l1 (f := opL) hp; have := c1 ho; have := c1 hn
  unfold entL plL
  simp only [List.length_append, numL_len]
  omega
theorem flat_le {α : Type} {f : α → List Int} {N : Nat} (xs : List α) (h : ∀ x ∈ xs, (f x).length ≤ N) : (xs.flatMap f).length ≤ xs.length * N := by
  induction xs with
  | nil => simp
  | cons x t ih =>
    have a := h x (List.mem_cons_self ..)
    have b := ih fun y hy => h y (List.mem_cons_of_mem _ hy)
    rw [List.flatMap_cons, List.length_append, List.length_cons, Nat.add_mul]
    omega
theorem lst_le {α : Type} {f : α → List Int} {B : α → Bool} {N : Nat} {xs : List α} (hb : lstB B xs = true) (h : ∀ x, B x = true → (f x).length ≤ N) : (lstL f xs).length ≤ 1 + 40 * N := by
  simp only [lstB, Bool.and_eq_true, decide_eq_true_eq, List.all_eq_true] at hb
  unfold lstL
  rw [if_pos hb.1, List.length_append, numL_len]
  have := flat_le xs fun x hx => h x (hb.2 x hx)
  have := Nat.mul_le_mul_right N hb.1
  omega
theorem entL_le {e : Ent} (h : entB e = true) : (entL e).length ≤ 10000 := by
  simp only [entB, Bool.and_eq_true] at h
  obtain ⟨⟨⟨⟨⟨⟨⟨⟨⟨⟨⟨⟨⟨⟨hk, h1⟩, h2⟩, h3⟩, h4⟩, h5⟩, h6⟩, h7⟩, h9⟩, ho⟩, hn⟩, hm⟩, hl⟩, hd⟩, hp⟩ := h
  have c1 : ∀ {c : List Int}, celOk c = true → (celL c).length ≤ 27 := fun hb => by
    unfold celL
    rw [if_pos hb, List.length_append, numL_len]
    simp only [celOk, Bool.or_eq_true, decide_eq_true_eq] at hb
    omega
  have := c1 ho
  have := c1 hn
  have := lst_le (f := mvL) (N := 4) hm fun x _ => by simp [mvL, plL, numL_len]
  have := lst_le (f := lvL) (N := 8) hl fun x _ => by simp [lvL, numL_len]
  have := lst_le (f := dtL) (N := 4) hd fun x _ => by simp [dtL, numL_len]
  have := lst_le (f := opL) (N := 164) hp fun x hx => by
    simp only [opB, Bool.and_eq_true] at hx
    have := lst_le (f := mvL) (N := 4) hx.2 fun x _ => by simp [mvL, plL, numL_len]
    unfold opL
    simp only [List.length_append, numL_len]
    omega
  unfold entL plL
  simp only [List.length_append, numL_len]
  omega
theorem tk_cut {e : Ent} (h : entB e = true) {k : Nat} (hk : k < (entL e).length) : tkB ((entL e).take k) = false := by
  cases ht : tkB ((entL e).take k) with
  | false => rfl
  | true =>
    simp only [tkB, Bool.and_eq_true, decide_eq_true_eq] at ht
    have := (entL_pre h ht.1 (t := (entL e).drop k) (by rw [← ht.2, List.take_append_drop])).2
    have := congrArg List.length this
    rw [List.length_drop, List.length_nil] at this
    omega
theorem tk_more {e : Ent} (h : entB e = true) (x : Int) : tkB (entL e ++ [x]) = false := by
  unfold tkB
  rw [entR_tail h, Bool.and_eq_false_iff]
  right
  rw [decide_eq_false_iff_not]
  intro k
  have := congrArg List.length k
  simp at this
theorem tk_put {l : List Int} (h : tkB l = true) : putL (tkE l) = l := by
  rw [(tk_yes h).1]
  simp only [tkB, Bool.and_eq_true, decide_eq_true_eq] at h
  rw [putL_yes h.1, ← h.2]
theorem lst_40 {α : Type} {B : α → Bool} {xs : List α} (hb : lstB B xs = true) : xs.length ≤ 40 := by
  simp only [lstB, Bool.and_eq_true, decide_eq_true_eq] at hb
  exact hb.1
theorem entB_len {e : Ent} (h : entB e = true) : EntLen e := by
  simp only [entB, Bool.and_eq_true] at h
  obtain ⟨⟨⟨⟨⟨⟨⟨⟨⟨⟨⟨⟨⟨⟨hk, h1⟩, h2⟩, h3⟩, h4⟩, h5⟩, h6⟩, h7⟩, h9⟩, ho⟩, hn⟩, hm⟩, hl⟩, hd⟩, hp⟩ := h
  have := lst_40 hm; have := lst_40 hl; have := lst_40 hd; have := lst_40 hp
  refine ⟨by omega, by omega, by omega, by omega, fun o ho => ?_⟩
  simp only [lstB, Bool.and_eq_true, decide_eq_true_eq, List.all_eq_true] at hp
  have := hp.2 o ho
  simp only [opB, Bool.and_eq_true] at this
  have := lst_40 this.2
  omega
end Go.Proofs.Ytbjfhlcfnohiiaa
