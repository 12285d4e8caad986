/- What is read is made of numbers; where a valid entry's encoding fits; begun; An entry that comes in as an argument; light; What is behind an encoding is not read; so no encoding begins another one. -/
import Derived.Test.YthcndifbegmbkaaEntSm
import Derived.Laws.IdiomArrays
import Derived.Deep.Slices
import Derived.Deep.Fields
import Derived.Lib.SmallJoins
namespace Go.Proofs.Ythcndifbegmbkaa
open Go.RowKit

theorem i64_numR {l : List Int} (h : bytesOk l) {k : Nat} (hk : k ≤ 3) : I64 (numR l k) := by
  obtain ⟨a, b⟩ := numR_bd h k
  have : (256 : Int) ^ k ≤ 16777216 := by
    obtain rfl | rfl | rfl | rfl : k = 0 ∨ k = 1 ∨ k = 2 ∨ k = 3 := by omega
    all_goals decide
  exact ⟨by omega, by omega⟩
theorem nR_all {α : Type} {f : List Int → α × List Int} {P : α → Prop} (hf : ∀ l, bytesOk l → P (f l).1 ∧ bytesOk (f l).2) {l : List Int} (h : bytesOk l) : ∀ k, (∀ x ∈ (nR f k l).1, P x) ∧ bytesOk (nR f k l).2
  | 0 => ⟨(fun x hx => by cases hx), h⟩
  | k + 1 => by
    obtain ⟨a, b⟩ := nR_all hf h k
    obtain ⟨c, d⟩ := hf _ b
    refine ⟨fun x hx => ?_, d⟩
    rcases List.mem_append.1 hx with hx | hx
    · exact a x hx
    · obtain rfl : x = _ := by simpa using hx
      exact c
theorem lstR_all {α : Type} {f : List Int → α × List Int} {P : α → Prop} (hf : ∀ l, bytesOk l → P (f l).1 ∧ bytesOk (f l).2) {l : List Int} (h : bytesOk l) : (∀ x ∈ (lstR f l).1, P x) ∧ bytesOk (lstR f l).2 := nR_all hf (ok_drop h 1) _
theorem lstR_len {α : Type} (f : List Int → α × List Int) {l : List Int} (h : bytesOk l) : (lstR f l).1.length ≤ 255 := by
  have := numR_bd h 1
  unfold lstR
  rw [nR_len]
  omega
theorem mvR_I (l : List Int) (h : bytesOk l) : mvI (mvR l).1 ∧ bytesOk (mvR l).2 := ⟨⟨i64_numR h (by omega), i64_numR (ok_drop h _) (by omega), i64_numR (ok_drop h _) (by omega), i64_numR (ok_drop h _) (by omega)⟩, ok_drop h _⟩
theorem lvR_I (l : List Int) (h : bytesOk l) : lvI (lvR l).1 ∧ bytesOk (lvR l).2 := ⟨⟨i64_numR h (by omega), i64_numR (ok_drop h _) (by omega), i64_numR (ok_drop h _) (by omega)⟩, ok_drop h _⟩
theorem dtR_I (l : List Int) (h : bytesOk l) : dtI (dtR l).1 ∧ bytesOk (dtR l).2 := ⟨⟨i64_numR h (by omega), i64_numR (ok_drop h _) (by omega)⟩, ok_drop h _⟩
theorem opR_I (l : List Int) (h : bytesOk l) : (opI1 (opR l).1 ∧ (opR l).1.2.2.length ≤ 9223372036854775807) ∧ bytesOk (opR l).2 := by
  obtain ⟨a, b⟩ := lstR_all (f := mvR) (P := mvI) mvR_I (ok_drop h 3)
  exact ⟨⟨⟨i64_numR h (by omega), i64_numR (ok_drop h _) (by omega), a⟩, Nat.le_trans (lstR_len mvR (ok_drop h 3)) (by omega)⟩, b⟩
theorem celR_ok2 {l : List Int} (h : bytesOk l) : bytesOk (celR l).2 := ok_drop (ok_drop h 1) _
theorem entR_I {l : List Int} (h : bytesOk l) : EntI (entR l) ∧ EntLen (entR l) ∧ bytesOk (entR l).old ∧ bytesOk (entR l).new := by
  have o1 : bytesOk (r1 l).1 := celR_ok (ok_drop h 15)
  have h1 : bytesOk (r1 l).2 := celR_ok2 (ok_drop h 15)
  have o2 : bytesOk (r2 l).1 := celR_ok h1
  have h2 : bytesOk (r2 l).2 := celR_ok2 h1
  obtain ⟨a3, h3⟩ := lstR_all (f := mvR) (P := mvI) mvR_I (show bytesOk (r2 l).2 from h2)
  obtain ⟨a4, h4⟩ := lstR_all (f := lvR) (P := lvI) lvR_I (show bytesOk (r3 l).2 from h3)
  obtain ⟨a5, h5⟩ := lstR_all (f := dtR) (P := dtI) dtR_I (show bytesOk (r4 l).2 from h4)
  obtain ⟨a6, h6⟩ := lstR_all (f := opR) (P := fun o => opI1 o ∧ o.2.2.length ≤ 9223372036854775807) opR_I (show bytesOk (r5 l).2 from h5)
  have q0 : I64 (numR l 1) := i64_numR h (by decide)
  have q1 : I64 (numR (l.drop 1) 1) := i64_numR (ok_drop h 1) (by decide)
  have q2 : I64 (numR (l.drop 2) 2) := i64_numR (ok_drop h 2) (by decide)
  have q3 : I64 (numR (l.drop 4) 1) := i64_numR (ok_drop h 4) (by decide)
  have q4 : I64 (numR (l.drop 5) 3) := i64_numR (ok_drop h 5) (by decide)
  have q5 : I64 (numR (l.drop 8) 3) := i64_numR (ok_drop h 8) (by decide)
  have q6 : I64 (numR (l.drop 11) 1) := i64_numR (ok_drop h 11) (by decide)
  have q7 : I64 (numR (l.drop 12) 1) := i64_numR (ok_drop h 12) (by decide)
  have q8 : I64 (numR (l.drop 13) 1) := i64_numR (ok_drop h 13) (by decide)
  have q9 : I64 (numR (l.drop 14) 1) := i64_numR (ok_drop h 14) (by decide)
  have m3 : ∀ m ∈ (r3 l).1, mvI m := a3
  have m4 : ∀ m ∈ (r4 l).1, lvI m := a4
  have m5 : ∀ m ∈ (r5 l).1, dtI m := a5
  have m6 : ∀ m ∈ (r6 l).1, opI1 m := fun o ho => (a6 o ho).1
  have n6 : ∀ o ∈ (r6 l).1, o.2.2.length ≤ 9223372036854775807 := fun o ho => (a6 o ho).2
  have z3 : (r3 l).1.length ≤ 9223372036854775807 := Nat.le_trans (lstR_len mvR h2) (by decide)
  have z4 : (r4 l).1.length ≤ 9223372036854775807 := Nat.le_trans (lstR_len lvR h3) (by decide)
  have z5 : (r5 l).1.length ≤ 9223372036854775807 := Nat.le_trans (lstR_len dtR h4) (by decide)
  have z6 : (r6 l).1.length ≤ 9223372036854775807 := Nat.le_trans (lstR_len opR h5) (by decide)
  clear a3 a4 a5 a6 h1 h2 h3 h4 h5 h6
  generalize hE : entR l = E
  unfold entR at hE
  generalize r1 l = R1 at *
  generalize r2 l = R2 at *
  generalize r3 l = R3 at *
  generalize r4 l = R4 at *
  generalize r5 l = R5 at *
  generalize r6 l = R6 at *
  subst hE
  exact ⟨⟨q0, q1, q2, q3, q4, q5, q6, q7, q8, q9, m3, m4, m5, m6⟩, ⟨z3, z4, z5, z6, n6⟩, o1, o2⟩

theorem tkB_entL {e : Ent} (h : entB e = true) : tkB (entL e) = true ∧ tkE (entL e) = e ∧ tkN (entL e) = 0 := by
  have hr := entR_entL h
  have ht : tkB (entL e) = true := by unfold tkB; rw [hr, h]; simp
  obtain ⟨a, b⟩ := tk_yes ht
  exact ⟨ht, by rw [a, hr], b⟩
theorem entL_same {e : Ent} {l : List Int} (h : entB e = true) (hl : entL e = l) : tkB l = true ∧ tkE l = e := by
  subst hl
  exact ⟨(tkB_entL h).1, (tkB_entL h).2.1⟩

end Go.Proofs.Ythcndifbegmbkaa
namespace Go.Proofs.Ythcndifbegmbkaa
open Go.RowKit

def e05 : Ent := ⟨5, 2, 0, 0, 0, 0, 0, 0, 0, 0, [], [], [], [], [], []⟩
theorem e05_B : entB e05 = true := by decide
theorem e05_len : (entL e05).length = 21 := by decide
theorem e05_I : EntI e05 := ⟨⟨by decide, by decide⟩, ⟨by decide, by decide⟩, ⟨by decide, by decide⟩, ⟨by decide, by decide⟩, ⟨by decide, by decide⟩, ⟨by decide, by decide⟩, ⟨by decide, by decide⟩, ⟨by decide, by decide⟩, ⟨by decide, by decide⟩, ⟨by decide, by decide⟩, (fun m h => by cases h), (fun m h => by cases h), (fun m h => by cases h), (fun m h => by cases h)⟩
theorem ent00_I : EntI ent00 := ⟨⟨by decide, by decide⟩, ⟨by decide, by decide⟩, ⟨by decide, by decide⟩, ⟨by decide, by decide⟩, ⟨by decide, by decide⟩, ⟨by decide, by decide⟩, ⟨by decide, by decide⟩, ⟨by decide, by decide⟩, ⟨by decide, by decide⟩, ⟨by decide, by decide⟩, (fun m h => by cases h), (fun m h => by cases h), (fun m h => by cases h), (fun m h => by cases h)⟩
theorem ent00_B : entB ent00 = false := by decide
theorem nil_S (w : World) (e : Ent) (h1 : e.old = []) (h2 : e.new = []) (h3 : e.moves = []) (h4 : e.lives = []) (h5 : e.dirty = []) (h6 : e.opens = []) : EntS w (.slice none 0 0) (.slice none 0 0) (.slice none 0 0) (.slice none 0 0) (.slice none 0 0) (.slice none 0 0) e := by
  have h := (ent0_F w 0).entS
  exact ⟨by rw [h1]; exact h.old, by rw [h2]; exact h.new, by rw [h3]; exact h.moves, by rw [h4]; exact h.lives, by rw [h5]; exact h.dirty, by rw [h6]; exact h.opens⟩
theorem one_no : tkB [1] = false := by decide +kernel
theorem e05_same : sameE e05 e05 = true := (sameE_iff _ _).2 rfl
theorem e05_not : sameE e05 ent00 = false := by decide
theorem e05_Len : EntLen e05 := ⟨by decide, by decide, by decide, by decide, fun o h => by cases h⟩
theorem Below.kpt {w w' : World} {B : Nat} (h : Below w.heap.size w w') : Kpt B w w' := ⟨h.size, fun b _ hl => h.block b hl⟩

/-- A whole struct out of a variable, behind a guard that holds. -/
theorem wpList_load_rowG {P : Program} {ops : Array Oper} {rest : List Oper} {o : Oper} {a : Act} {w : World} {Q : Exit → Act → World → Prop} (hw : Region.wanted o (yielded ops a.tmps) = true) (ty : TypeId) (x : Operand) (ho : o.op = .load ty x)
    (g : Nat) (hx : a.eval x = .pointer (some ⟨g, 0, none⟩)) (t : TypeId) (cs : Array Value) (fr : Nat × Nat) (d : TypeDesc) (hg : w.heap[g]? = some (.cells cs t fr))
    (hu : P.underlying ty = some d) (hd : (match d with | .struct _ | .array _ _ => true | _ => false) = true) (hi : (P.info? ty).map (·.size) = some cs.size)
    (h : wpList P ops Q rest (a.put o.dst (.agg cs)) w) : wpList P ops Q (o :: rest) a w :=
  wpList_step fun _ hK => by
    rw [if_pos hw]
    exact wp_load_row ty x ho g hx t cs fr d hg hu hd hi (hK _ _ h)

end Go.Proofs.Ythcndifbegmbkaa
namespace Go.Proofs.Ythcndifbegmbkaa
open Go.ChangeShapes Go.WideShapes Go.ChangeAt Go.RowKit Go.Deep

theorem add_atE (ab ao n : Nat) : (⟨ab, ao, none⟩ : Addr).add n = ⟨ab, ao + n, none⟩ := by
  unfold Addr.add; split <;> simp_all
theorem spot_of {w : World} {a : Addr} {v : Value} (h : w.cell? a = some v) : a.spot = none := by
  unfold World.cell? at h
  split at h
  · split at h
    · cases h
    · rename_i hn
      cases hsp : a.spot with
      | none => rfl
      | some y => rw [hsp] at hn; exact absurd rfl hn
  · cases h

/-- No longer than memory may be. -/
def Bd (n : Nat) : Prop := n ≤ maxLen

section
variable {H : Type} {enc : TypeId × Value → H} {w : World} {base b0 : Nat} {sp : Nat → Bool} {held : Bool}

set_option maxRecDepth 100000 in
theorem open_els {α : Type} (k : Nat) (hk0 : 0 < k) (V : α → List Value) (Pr : α → Prop) {t te : TypeId} (ht : Try.prog.underlying t = some (.slice te)) (hk : Try.prog.cellsOf te = k)
    (hone : ∀ n cs y, DataW.trod enc Try.prog w base sp held n te cs = some y → ∃ x : α, cs = V x ∧ (V x).length = k ∧ Pr x) {fuel : Nat} {v : Value} {y : DataW H × List MemPlace} (h : DataW.trod enc Try.prog w base sp held fuel t [v] = some y) :
    ∃ xs : List α, Els w v k (xs.map V) ∧ (∀ x ∈ xs, Pr x) ∧ Bd xs.length := by
  rcases open_slice ht h with ⟨hcs, _⟩ | ⟨a, len, cap, m, n, D, Pl, hcs, _, hl, hm, hmm, _, hx⟩
  · injection hcs with e _
    subst e
    exact ⟨[], ⟨none, 0, rfl, Nat.le_refl _, fun _ => rfl, fun a e => by cases e⟩, (fun x hx => by cases hx), show 0 ≤ maxLen from Nat.zero_le _⟩
  · injection hcs with e _
    subst e
    have hq : ∀ i, i < len → ∃ x : α, Pr x ∧ (V x).length = k ∧ ∀ j, j < k → w.cell? ((a.add (i * k)).add j) = (V x)[j]? := fun i hi => by
      obtain ⟨cs, hc, hT⟩ := hx i (by rw [hmm]; split <;> omega)
      rw [hk] at hc
      obtain ⟨_, hcl, hat⟩ := World.cells?_some hc
      obtain ⟨x, rfl, hvl, hp⟩ := hone _ _ _ hT
      exact ⟨x, hp, hvl, hat⟩
    let xs : List α := List.ofFn fun i : Fin len => Classical.choose (hq i.1 i.2)
    have hlen : xs.length = len := List.length_ofFn
    have hget : ∀ i (hi : i < len) (hi' : i < xs.length), Pr xs[i] ∧ (V xs[i]).length = k ∧ ∀ j, j < k → w.cell? ((a.add (i * k)).add j) = (V xs[i])[j]? := fun i hi hi' => by
      have : xs[i] = Classical.choose (hq i hi) := by simp [xs]
      rw [this]
      exact Classical.choose_spec (hq i hi)
    refine ⟨xs, ⟨some a, cap, by rw [List.length_map, hlen], by rw [List.length_map]; omega, (fun e => by cases e), fun b e hne => ?_⟩, fun x hx' => ?_, show xs.length ≤ maxLen by rw [hlen]; exact Nat.le_trans hl hm⟩
    · cases e
      have h0 : 0 < len := by
        rcases Nat.eq_zero_or_pos len with e | e
        · exact absurd (List.map_eq_nil_iff.2 (List.length_eq_zero_iff.1 (hlen.trans e))) hne
        · exact e
      obtain ⟨_, hv0, hc0⟩ := hget 0 h0 (by omega)
      have c0 := hc0 0 hk0
      rw [Nat.zero_mul] at c0
      have e1 : (a.add 0).add 0 = a := rfl
      rw [e1, List.getElem?_eq_getElem (by omega)] at c0
      have hs := spot_of c0
      refine ⟨hs, block_lt_of_cell c0, fun i j hi hj => ?_⟩
      rw [List.length_map] at hi
      obtain ⟨_, _, hci⟩ := hget i (by omega) hi
      obtain ⟨ab, ao, asp⟩ := a
      cases hs
      have := hci j hj
      rw [add_atE, add_atE] at this
      show w.cell? ⟨ab, ao + i * k + j, none⟩ = _
      rw [this, List.getElem?_map, List.getElem?_eq_getElem hi]
      rfl
    · obtain ⟨i, hi, rfl⟩ := List.mem_iff_getElem.1 hx'
      exact (hget i (by omega) hi).1

theorem st_field {t : TypeId} {fs : Array Field} {fuel : Nat} {cs : List Value} {y : DataW H × List MemPlace} (hu : Try.prog.underlying t = some (.struct fs)) (h : DataW.trod enc Try.prog w base sp held fuel t cs = some y) :
    cs.length = Try.prog.cellsOf t ∧ ∃ n', ∀ (i : Nat) (f : Field), fs[i]? = some f → ∀ (t' : TypeId) (o k : Nat), f.type = t' → f.offset = o → Try.prog.cellsOf t' = k → ∃ z, DataW.trod enc Try.prog w base sp held n' t' ((cs.drop o).take k) = some z := by
  obtain ⟨xs, n', _, _, hl, hxl, hfs⟩ := DataW.trod_struct hu h
  refine ⟨hl, n', fun i f hf t' o k e1 e2 e3 => ?_⟩
  subst e1 e2 e3
  have hi : i < xs.length := by rw [hxl]; exact (Array.getElem?_eq_some_iff.1 hf).1
  exact ⟨xs[i], by rw [hfs i f hf, List.getElem?_eq_getElem hi]⟩

theorem one_int {n : Nat} {c : Value} {z : DataW H × List MemPlace} (h : DataW.trod enc Try.prog w base sp held n 3 [c] = some z) : ∃ a, c = .int .i64 a ∧ I64 a := by
  obtain ⟨a, e, _, g⟩ := DataW.trod_int Try.underlying3 h
  injection e with e _
  exact ⟨a, e, bounds_i64 g⟩
theorem one_bool {n : Nat} {c : Value} {z : DataW H × List MemPlace} (h : DataW.trod enc Try.prog w base sp held n 4 [c] = some z) : ∃ a, c = .bool a := by
  obtain ⟨a, e, _⟩ := DataW.trod_bool Try.underlying4 h
  injection e with e _
  exact ⟨a, e⟩
theorem co3 : Try.prog.cellsOf 3 = 1 := by kernel_rfl
theorem co4 : Try.prog.cellsOf 4 = 1 := by kernel_rfl
theorem coR : Try.prog.cellsOf 23 = 2 := by kernel_rfl
theorem coM : Try.prog.cellsOf 49 = 4 := by kernel_rfl
theorem coL : Try.prog.cellsOf 51 = 4 := by kernel_rfl
theorem coD : Try.prog.cellsOf 53 = 2 := by kernel_rfl
theorem coO : Try.prog.cellsOf 55 = 3 := by kernel_rfl
theorem coE : Try.prog.cellsOf 30 = 16 := by kernel_rfl
theorem coB : Try.prog.cellsOf 24 = 1 := by kernel_rfl
theorem coSM : Try.prog.cellsOf 25 = 1 := by kernel_rfl
theorem coSL : Try.prog.cellsOf 26 = 1 := by kernel_rfl
theorem coSD : Try.prog.cellsOf 27 = 1 := by kernel_rfl
theorem coSO : Try.prog.cellsOf 28 = 1 := by kernel_rfl

set_option maxRecDepth 100000 in
theorem one_rid {n : Nat} {c0 c1 : Value} {z : DataW H × List MemPlace} (h : DataW.trod enc Try.prog w base sp held n 23 [c0, c1] = some z) : ∃ a b, c0 = .int .i64 a ∧ c1 = .int .i64 b ∧ I64 a ∧ I64 b := by
  obtain ⟨_, n', hf⟩ := st_field Try.underlying23 h
  obtain ⟨z0, h0⟩ := hf 0 _ rfl 3 0 1 rfl rfl co3
  obtain ⟨z1, h1⟩ := hf 1 _ rfl 3 1 1 rfl rfl co3
  obtain ⟨a, rfl, ha⟩ := one_int h0
  obtain ⟨b, rfl, hb⟩ := one_int h1
  exact ⟨a, b, rfl, rfl, ha, hb⟩
set_option maxRecDepth 100000 in
theorem one_move (n : Nat) (cs : List Value) (y : DataW H × List MemPlace) (h : DataW.trod enc Try.prog w base sp held n 49 cs = some y) : ∃ m : Mv, cs = mvV m ∧ (mvV m).length = 4 ∧ mvI m := by
  obtain ⟨hl, n', hf⟩ := st_field Try.underlying49 h
  rw [coM] at hl
  match cs, hl with
  | [c0, c1, c2, c3], _ =>
    obtain ⟨z0, h0⟩ := hf 0 _ rfl 23 0 2 rfl rfl coR
    obtain ⟨z1, h1⟩ := hf 1 _ rfl 23 2 2 rfl rfl coR
    obtain ⟨a, b, rfl, rfl, ha, hb⟩ := one_rid h0
    obtain ⟨c, d, rfl, rfl, hc, hd⟩ := one_rid h1
    exact ⟨(a, b, c, d), rfl, rfl, ha, hb, hc, hd⟩
set_option maxRecDepth 100000 in
theorem one_live (n : Nat) (cs : List Value) (y : DataW H × List MemPlace) (h : DataW.trod enc Try.prog w base sp held n 51 cs = some y) : ∃ m : Lv, cs = lvV m ∧ (lvV m).length = 4 ∧ lvI m := by
  obtain ⟨hl, n', hf⟩ := st_field Try.underlying51 h
  rw [coL] at hl
  match cs, hl with
  | [c0, c1, c2, c3], _ =>
    obtain ⟨z0, h0⟩ := hf 0 _ rfl 3 0 1 rfl rfl co3
    obtain ⟨z1, h1⟩ := hf 1 _ rfl 3 1 1 rfl rfl co3
    obtain ⟨z2, h2⟩ := hf 2 _ rfl 3 2 1 rfl rfl co3
    obtain ⟨z3, h3⟩ := hf 3 _ rfl 4 3 1 rfl rfl co4
    obtain ⟨a, rfl, ha⟩ := one_int h0
    obtain ⟨b, rfl, hb⟩ := one_int h1
    obtain ⟨c, rfl, hc⟩ := one_int h2
    obtain ⟨d, rfl⟩ := one_bool h3
    exact ⟨(a, b, c, d), rfl, rfl, ha, hb, hc⟩
set_option maxRecDepth 100000 in
theorem one_dirty (n : Nat) (cs : List Value) (y : DataW H × List MemPlace) (h : DataW.trod enc Try.prog w base sp held n 53 cs = some y) : ∃ m : Dt, cs = dtV m ∧ (dtV m).length = 2 ∧ dtI m := by
  obtain ⟨hl, n', hf⟩ := st_field Try.underlying53 h
  rw [coD] at hl
  match cs, hl with
  | [c0, c1], _ =>
    obtain ⟨z0, h0⟩ := hf 0 _ rfl 3 0 1 rfl rfl co3
    obtain ⟨z1, h1⟩ := hf 1 _ rfl 3 1 1 rfl rfl co3
    obtain ⟨a, rfl, ha⟩ := one_int h0
    obtain ⟨b, rfl, hb⟩ := one_int h1
    exact ⟨(a, b), rfl, rfl, ha, hb⟩
set_option maxRecDepth 100000 in
theorem one_open (n : Nat) (cs : List Value) (y : DataW H × List MemPlace) (h : DataW.trod enc Try.prog w base sp held n 55 cs = some y) : ∃ m : Opn × Value, cs = opV m ∧ (opV m).length = 3 ∧ opI m ∧ Els w m.2 4 (m.1.2.2.map mvV) ∧ Bd m.1.2.2.length := by
  obtain ⟨hl, n', hf⟩ := st_field Try.underlying55 h
  rw [coO] at hl
  match cs, hl with
  | [c0, c1, c2], _ =>
    obtain ⟨z0, h0⟩ := hf 0 _ rfl 3 0 1 rfl rfl co3
    obtain ⟨z1, h1⟩ := hf 1 _ rfl 25 1 1 rfl rfl coSM
    obtain ⟨z2, h2⟩ := hf 2 _ rfl 3 2 1 rfl rfl co3
    obtain ⟨a, rfl, ha⟩ := one_int h0
    obtain ⟨b, rfl, hb⟩ := one_int h2
    obtain ⟨ms, hE, hP, hL⟩ := open_els 4 (by decide) mvV mvI Try.underlying25 coM one_move (show DataW.trod enc Try.prog w base sp held n' 25 [c1] = some z1 from h1)
    exact ⟨((a, b, ms), c1), rfl, rfl, ⟨ha, hb, hP⟩, hE, hL⟩

/-- What is known of an entry that comes in. -/
structure EntMax (e : Ent) : Prop where
  moves : Bd e.moves.length
  lives : Bd e.lives.length
  dirty : Bd e.dirty.length
  opens : Bd e.opens.length
  inner : ∀ o ∈ e.opens, Bd o.2.2.length

theorem cellTyE : Try.prog.cellTypes Try.prog.depth 30 = some [3, 3, 3, 3, 3, 3, 3, 3, 3, 3, 24, 24, 25, 26, 27, 28] := by kernel_rfl
set_option maxRecDepth 100000 in
theorem cell_slE {c : Value} {n : Nat} {y : DataW H × List MemPlace} (hok : Cell.okWide Try.prog w .any b0 24 c) (h : DataW.trod enc Try.prog w base sp held n 24 [c] = some y) : ∃ l, SlK .u8 w c l := by
  have hv : Value.okWide Try.prog w .any b0 24 c := by
    simp only [Value.okWide, Try.underlying24]; exact hok
  obtain ⟨a0, len, cap, rfl⟩ := okWide_slice Try.underlying24 hv
  exact open_sl Try.underlying24 Try.underlying5 (by kernel_rfl) hv (show DataW.Trod enc Try.prog w base sp held 24 (.slice a0 len cap) y.1 y.2 from ⟨n, h⟩)

set_option maxRecDepth 100000 in
theorem open_entry {v : Value} {d : DataW H} {p : List MemPlace} (hv : Value.okWide Try.prog w .any b0 30 v) (h : DataW.Trod enc Try.prog w base sp held 30 v d p) :
    ∃ e s1 s2 s3 s4 s5 s6, v = .agg (entC e s1 s2 s3 s4 s5 s6) ∧ EntS w s1 s2 s3 s4 s5 s6 e ∧ EntI e ∧ EntMax e := by
  have hv2 := hv
  simp only [Value.okWide, Try.underlying30] at hv2
  obtain ⟨cs, rfl, hsz, ts, hts, -, hrow⟩ := hv2
  rw [cellTyE] at hts
  cases hts
  have h16 : cs.size = 16 := hsz.trans (by kernel_rfl)
  obtain ⟨fuel, hf⟩ := h
  obtain ⟨l⟩ := cs
  match l, h16 with
  | [c0, c1, c2, c3, c4, c5, c6, c7, c8, c9, c10, c11, c12, c13, c14, c15], _ =>
    obtain ⟨_, n', hf⟩ := st_field Try.underlying30 (show DataW.trod enc Try.prog w base sp held fuel 30 [c0, c1, c2, c3, c4, c5, c6, c7, c8, c9, c10, c11, c12, c13, c14, c15] = some (d, p) from hf)
    obtain ⟨z0, h0⟩ := hf 0 _ rfl 3 0 1 rfl rfl co3
    obtain ⟨z1, h1⟩ := hf 1 _ rfl 3 1 1 rfl rfl co3
    obtain ⟨z2, h2⟩ := hf 2 _ rfl 3 2 1 rfl rfl co3
    obtain ⟨z3, h3⟩ := hf 3 _ rfl 3 3 1 rfl rfl co3
    obtain ⟨z4, h4⟩ := hf 4 _ rfl 3 4 1 rfl rfl co3
    obtain ⟨z5, h5⟩ := hf 5 _ rfl 3 5 1 rfl rfl co3
    obtain ⟨z6, h6⟩ := hf 6 _ rfl 23 6 2 rfl rfl coR
    obtain ⟨z7, h7⟩ := hf 7 _ rfl 23 8 2 rfl rfl coR
    obtain ⟨z8, h8⟩ := hf 8 _ rfl 24 10 1 rfl rfl coB
    obtain ⟨z9, h9⟩ := hf 9 _ rfl 24 11 1 rfl rfl coB
    obtain ⟨z10, h10⟩ := hf 10 _ rfl 25 12 1 rfl rfl coSM
    obtain ⟨z11, h11⟩ := hf 11 _ rfl 26 13 1 rfl rfl coSL
    obtain ⟨z12, h12⟩ := hf 12 _ rfl 27 14 1 rfl rfl coSD
    obtain ⟨z13, h13⟩ := hf 13 _ rfl 28 15 1 rfl rfl coSO
    clear hf
    obtain ⟨a0, rfl, i0⟩ := one_int h0
    obtain ⟨a1, rfl, i1⟩ := one_int h1
    obtain ⟨a2, rfl, i2⟩ := one_int h2
    obtain ⟨a3, rfl, i3⟩ := one_int h3
    obtain ⟨a4, rfl, i4⟩ := one_int h4
    obtain ⟨a5, rfl, i5⟩ := one_int h5
    obtain ⟨a6, a7, rfl, rfl, i6, i7⟩ := one_rid h6
    obtain ⟨a8, a9, rfl, rfl, i8, i9⟩ := one_rid h7
    have ok10 : Cell.okWide Try.prog w .any b0 24 c10 := by
      obtain ⟨u, hu, ho⟩ := hrow 10 c10 rfl
      cases hu
      exact ho
    have ok11 : Cell.okWide Try.prog w .any b0 24 c11 := by
      obtain ⟨u, hu, ho⟩ := hrow 11 c11 rfl
      cases hu
      exact ho
    obtain ⟨o, hO⟩ := cell_slE ok10 (show DataW.trod enc Try.prog w base sp held n' 24 [c10] = some z8 from h8)
    obtain ⟨nw, hN⟩ := cell_slE ok11 (show DataW.trod enc Try.prog w base sp held n' 24 [c11] = some z9 from h9)
    obtain ⟨ms, m1, m2, m3⟩ := open_els 4 (by decide) mvV mvI Try.underlying25 coM one_move (show DataW.trod enc Try.prog w base sp held n' 25 [c12] = some z10 from h10)
    obtain ⟨ls, l1, l2, l3⟩ := open_els 4 (by decide) lvV lvI Try.underlying26 coL one_live (show DataW.trod enc Try.prog w base sp held n' 26 [c13] = some z11 from h11)
    obtain ⟨ds, d1, d2, d3⟩ := open_els 2 (by decide) dtV dtI Try.underlying27 coD one_dirty (show DataW.trod enc Try.prog w base sp held n' 27 [c14] = some z12 from h12)
    obtain ⟨os, o1, o2, o3⟩ := open_els 3 (by decide) opV (fun m => opI m ∧ Els w m.2 4 (m.1.2.2.map mvV) ∧ Bd m.1.2.2.length) Try.underlying28 coO one_open (show DataW.trod enc Try.prog w base sp held n' 28 [c15] = some z13 from h13)
    refine ⟨⟨a0, a1, a2, a3, a4, a5, a6, a7, a8, a9, o, nw, ms, ls, ds, os.map Prod.fst⟩, c10, c11, c12, c13, c14, c15, rfl, ⟨hO.sw, hN.sw, m1, l1, d1, ⟨os, rfl, o1, fun x hx => (o2 x hx).2.1⟩⟩, ⟨i0, i1, i2, i3, i4, i5, i6, i7, i8, i9, m2, l2, d2, fun x hx => ?_⟩, ⟨m3, l3, d3, by rw [List.length_map]; exact o3, fun x hx => ?_⟩⟩
    · obtain ⟨u, hu, rfl⟩ := List.mem_map.1 hx
      exact (o2 u hu).1
    · obtain ⟨u, hu, rfl⟩ := List.mem_map.1 hx
      exact (o2 u hu).2.2
theorem mem_slW {fuel : Nat} {c : Value} {y : DataW H × List MemPlace} (h : DataW.trod enc Try.prog w base sp held fuel 24 [c] = some y) : ∃ l, SlW w c l := by
  rcases open_ints Try.underlying24 Try.underlying5 (by kernel_rfl) h with ⟨hcs, _⟩ | ⟨a, len, cap, zs, hcs, _, hl, hm, hz, _, hcell, hwz⟩
  · injection hcs with e _
    subst e
    exact ⟨[], ⟨none, 0, rfl, Nat.le_refl _, fun _ => ⟨rfl, rfl⟩⟩, (fun x hx => by cases hx), fun hne => absurd rfl hne⟩
  · injection hcs with e _
    subst e
    have hle : len ≤ zs.length := by rw [hz]; split <;> omega
    have hlen : (zs.take len).length = len := by simp; omega
    have hwf : ∀ x ∈ zs.take len, (Lit.int .u8 x).wf = true := fun x hx => hwz x (List.mem_of_mem_take hx)
    refine ⟨zs.take len, ⟨some a, cap, by rw [hlen], by rw [hlen]; exact hl, fun e => by cases e⟩, hwf, fun hne => ⟨some a, cap, by rw [hlen], by rw [hlen]; exact hl, hwf, (fun e => by cases e), fun b hb => ?_⟩⟩
    cases hb
    have h0 : 0 < len := by
      rcases Nat.eq_zero_or_pos len with e | e
      · exact absurd (List.length_eq_zero_iff.1 (hlen.trans e)) hne
      · exact e
    have c0 := hcell 0 (by omega)
    have e1 : a.add 0 = a := rfl
    rw [e1] at c0
    have hs := spot_of c0
    refine ⟨hs, block_lt_of_cell c0, fun j hj => ?_⟩
    rw [hlen] at hj
    have h1 := hcell j (by omega)
    obtain ⟨ab, ao, asp⟩ := a
    cases hs
    rw [add_atE] at h1
    rw [h1]
    simp [List.getD_eq_getElem?_getD, show j < zs.length by omega]

abbrev S6 := Value × Value × Value × Value × Value × Value
def enV (o : Ent × S6) : List Value := (entC o.1 o.2.1 o.2.2.1 o.2.2.2.1 o.2.2.2.2.1 o.2.2.2.2.2.1 o.2.2.2.2.2.2).toList
theorem enV_len (o : Ent × S6) : (enV o).length = 16 := rfl
/-- An entry that lies in memory that came in. -/
def EntIn (w : World) (o : Ent × S6) : Prop := EntS w o.2.1 o.2.2.1 o.2.2.2.1 o.2.2.2.2.1 o.2.2.2.2.2.1 o.2.2.2.2.2.2 o.1 ∧ EntI o.1 ∧ EntMax o.1

set_option maxRecDepth 100000 in
theorem one_entry (fuel : Nat) (cs : List Value) (y : DataW H × List MemPlace) (h : DataW.trod enc Try.prog w base sp held fuel 30 cs = some y) : ∃ o : Ent × S6, cs = enV o ∧ (enV o).length = 16 ∧ EntIn w o := by
  have h16 : cs.length = 16 := by
    obtain ⟨h1, _⟩ := st_field Try.underlying30 h
    exact h1.trans coE
  match cs, h16 with
  | [c0, c1, c2, c3, c4, c5, c6, c7, c8, c9, c10, c11, c12, c13, c14, c15], _ =>
    obtain ⟨_, n', hf⟩ := st_field Try.underlying30 h
    obtain ⟨z0, h0⟩ := hf 0 _ rfl 3 0 1 rfl rfl co3
    obtain ⟨z1, h1⟩ := hf 1 _ rfl 3 1 1 rfl rfl co3
    obtain ⟨z2, h2⟩ := hf 2 _ rfl 3 2 1 rfl rfl co3
    obtain ⟨z3, h3⟩ := hf 3 _ rfl 3 3 1 rfl rfl co3
    obtain ⟨z4, h4⟩ := hf 4 _ rfl 3 4 1 rfl rfl co3
    obtain ⟨z5, h5⟩ := hf 5 _ rfl 3 5 1 rfl rfl co3
    obtain ⟨z6, h6⟩ := hf 6 _ rfl 23 6 2 rfl rfl coR
    obtain ⟨z7, h7⟩ := hf 7 _ rfl 23 8 2 rfl rfl coR
    obtain ⟨z8, h8⟩ := hf 8 _ rfl 24 10 1 rfl rfl coB
    obtain ⟨z9, h9⟩ := hf 9 _ rfl 24 11 1 rfl rfl coB
    obtain ⟨z10, h10⟩ := hf 10 _ rfl 25 12 1 rfl rfl coSM
    obtain ⟨z11, h11⟩ := hf 11 _ rfl 26 13 1 rfl rfl coSL
    obtain ⟨z12, h12⟩ := hf 12 _ rfl 27 14 1 rfl rfl coSD
    obtain ⟨z13, h13⟩ := hf 13 _ rfl 28 15 1 rfl rfl coSO
    clear hf
    obtain ⟨a0, rfl, i0⟩ := one_int h0
    obtain ⟨a1, rfl, i1⟩ := one_int h1
    obtain ⟨a2, rfl, i2⟩ := one_int h2
    obtain ⟨a3, rfl, i3⟩ := one_int h3
    obtain ⟨a4, rfl, i4⟩ := one_int h4
    obtain ⟨a5, rfl, i5⟩ := one_int h5
    obtain ⟨a6, a7, rfl, rfl, i6, i7⟩ := one_rid h6
    obtain ⟨a8, a9, rfl, rfl, i8, i9⟩ := one_rid h7
    obtain ⟨o, hO⟩ := mem_slW h8
    obtain ⟨nw, hN⟩ := mem_slW h9
    obtain ⟨ms, m1, m2, m3⟩ := open_els 4 (by decide) mvV mvI Try.underlying25 coM one_move (show DataW.trod enc Try.prog w base sp held n' 25 [c12] = some z10 from h10)
    obtain ⟨ls, l1, l2, l3⟩ := open_els 4 (by decide) lvV lvI Try.underlying26 coL one_live (show DataW.trod enc Try.prog w base sp held n' 26 [c13] = some z11 from h11)
    obtain ⟨ds, d1, d2, d3⟩ := open_els 2 (by decide) dtV dtI Try.underlying27 coD one_dirty (show DataW.trod enc Try.prog w base sp held n' 27 [c14] = some z12 from h12)
    obtain ⟨os, o1, o2, o3⟩ := open_els 3 (by decide) opV (fun m => opI m ∧ Els w m.2 4 (m.1.2.2.map mvV) ∧ Bd m.1.2.2.length) Try.underlying28 coO one_open (show DataW.trod enc Try.prog w base sp held n' 28 [c15] = some z13 from h13)
    refine ⟨(⟨a0, a1, a2, a3, a4, a5, a6, a7, a8, a9, o, nw, ms, ls, ds, os.map Prod.fst⟩, c10, c11, c12, c13, c14, c15), rfl, rfl, ⟨hO, hN, m1, l1, d1, ⟨os, rfl, o1, fun x hx => (o2 x hx).2.1⟩⟩, ⟨i0, i1, i2, i3, i4, i5, i6, i7, i8, i9, m2, l2, d2, fun x hx => ?_⟩, ⟨m3, l3, d3, by rw [List.length_map]; exact o3, fun x hx => ?_⟩⟩
    · obtain ⟨u, hu, rfl⟩ := List.mem_map.1 hx
      exact (o2 u hu).1
    · obtain ⟨u, hu, rfl⟩ := List.mem_map.1 hx
      exact (o2 u hu).2.2
set_option maxRecDepth 100000 in
/-- An argument that is a slice of entries. -/
theorem open_ents {v : Value} {d : DataW H} {p : List MemPlace} (hok : Value.okWide Try.prog w .any b0 38 v) (h : DataW.Trod enc Try.prog w base sp held 38 v d p) : ∃ os : List (Ent × S6), Els w v 16 (os.map enV) ∧ (∀ o ∈ os, EntIn w o) ∧ Bd os.length := by
  obtain ⟨a0, len, cap, rfl⟩ := okWide_slice Try.underlying38 hok
  obtain ⟨fuel, hf⟩ := h
  exact open_els 16 (by decide) enV (EntIn w) Try.underlying38 coE one_entry hf

end
end Go.Proofs.Ythcndifbegmbkaa
namespace Go.Proofs.Ythcndifbegmbkaa
open Go.RowKit

/-- Not too great. -/
structure Lgt (e : Ent) : Prop where
  old : e.old.length ≤ 40
  new : e.new.length ≤ 40
  moves : e.moves.length ≤ 45
  lives : e.lives.length ≤ 45
  dirty : e.dirty.length ≤ 45
  opens : e.opens.length ≤ 45

def LgtPost (w : World) (e : Ent) (r : Ending) (w' : World) : Prop := ∃ b, r = .returned (.bool b) ∧ Below w.heap.size w w' ∧ (b = true → Lgt e)
def SumRel (w : World) (m : Nat) (n i : Value) (wr : World) : Prop := ∃ (k : Nat) (s : Int), k ≤ m ∧ i = .int .i64 k ∧ n = .int .i64 s ∧ w = wr

end Go.Proofs.Ythcndifbegmbkaa
namespace Go.Proofs.Ythcndifbegmbkaa

theorem entR_tail {e : Ent} (h : entB e = true) (t : List Int) : entR (entL e ++ t) = e := by
  obtain ⟨a1, a2, a3, a4, a5, a6, a7, a8, a9, a10, o, n, mo, li, di, op⟩ := e
  simp only [entB, Bool.and_eq_true, plB] at h
  obtain ⟨⟨⟨⟨⟨⟨⟨⟨⟨⟨⟨⟨⟨⟨hk, h1⟩, h2⟩, h3⟩, h4⟩, h5⟩, h6⟩, h7, h8⟩, h9, h10⟩, ho⟩, hn⟩, hm⟩, hl⟩, hd⟩, hp⟩ := h
  clear hk
  have e15 : ∀ X : List Int, (numL a1 1 ++ (numL a2 1 ++ (numL a3 2 ++ (numL a4 1 ++ (numL a5 3 ++ (numL a6 3 ++ (plL a7 a8 ++ (plL a9 a10 ++ X)))))))).drop 15 = X := fun X => by
    simp [plL, numL]
  have E : entL ⟨a1, a2, a3, a4, a5, a6, a7, a8, a9, a10, o, n, mo, li, di, op⟩ ++ t = numL a1 1 ++ (numL a2 1 ++ (numL a3 2 ++ (numL a4 1 ++ (numL a5 3 ++ (numL a6 3 ++ (plL a7 a8 ++ (plL a9 a10 ++ (celL o ++ (celL n ++ (lstL mvL mo ++ (lstL lvL li ++ (lstL dtL di ++ (lstL opL op ++ t))))))))))))) := by
    simp [entL]
  rw [E]
  obtain ⟨X, hX⟩ : ∃ X, X = celL o ++ (celL n ++ (lstL mvL mo ++ (lstL lvL li ++ (lstL dtL di ++ (lstL opL op ++ t))))) := ⟨_, rfl⟩
  rw [← hX]
  obtain ⟨L, hL⟩ : ∃ L, L = numL a1 1 ++ (numL a2 1 ++ (numL a3 2 ++ (numL a4 1 ++ (numL a5 3 ++ (numL a6 3 ++ (plL a7 a8 ++ (plL a9 a10 ++ X))))))) := ⟨_, rfl⟩
  have k1 : r1 L = (o, celL n ++ (lstL mvL mo ++ (lstL lvL li ++ (lstL dtL di ++ (lstL opL op ++ t))))) := by
    unfold r1; rw [hL, e15, hX, celR_celL ho]
  have k2 : r2 L = (n, lstL mvL mo ++ (lstL lvL li ++ (lstL dtL di ++ (lstL opL op ++ t)))) := by
    unfold r2; rw [k1]; exact celR_celL hn _
  have k3 : r3 L = (mo, lstL lvL li ++ (lstL dtL di ++ (lstL opL op ++ t))) := by
    unfold r3; rw [k2]; exact lstR_lstL hm (fun x hx t => mvR_mvL hx t) _
  have k4 : r4 L = (li, lstL dtL di ++ (lstL opL op ++ t)) := by
    unfold r4; rw [k3]; exact lstR_lstL hl (fun x hx t => lvR_lvL hx t) _
  have k5 : r5 L = (di, lstL opL op ++ t) := by
    unfold r5; rw [k4]; exact lstR_lstL hd (fun x hx t => dtR_dtL hx t) _
  have k6 : r6 L = (op, t) := by
    unfold r6; rw [k5]; exact lstR_lstL hp (fun x hx t => opR_opL hx t) _
  rw [← hL]
  unfold entR
  rw [k1, k2, k3, k4, k5, k6]
  have := fit_iff.1 h1; have := fit_iff.1 h2; have := fit_iff.1 h3; have := fit_iff.1 h4; have := fit_iff.1 h5; have := fit_iff.1 h6; have := fit_iff.1 h7; have := fit_iff.1 h8; have := fit_iff.1 h9; have := fit_iff.1 h10
  clear k1 k2 k3 k4 k5 k6 hX E e15
  subst hL
  simp [plL, numL, numR]
  refine ⟨?_, ?_, ?_, ?_, ?_, ?_, ?_, ?_, ?_, ?_⟩ <;> omega

theorem entL_pre {e e' : Ent} (h : entB e = true) (h' : entB e' = true) {t : List Int} (ht : entL e = entL e' ++ t) : e' = e ∧ t = [] := by
  have h1 := entR_entL h
  rw [ht, entR_tail h' t] at h1
  subst h1
  refine ⟨rfl, ?_⟩
  have := congrArg List.length ht
  rw [List.length_append] at this
  exact List.length_eq_zero_iff.1 (by omega)
theorem entL_ge {e : Ent} (h : entB e = true) : 21 ≤ (entL e).length := by
  simp only [entB, Bool.and_eq_true] at h
  obtain ⟨⟨⟨⟨⟨⟨⟨⟨⟨⟨⟨⟨⟨⟨hk, h1⟩, h2⟩, h3⟩, h4⟩, h5⟩, h6⟩, h7⟩, h9⟩, ho⟩, hn⟩, hm⟩, hl⟩, hd⟩, hp⟩ := h
  have l1 : ∀ {α : Type} {f : α → List Int} {xs : List α} {B : α → Bool}, lstB B xs = true → 1 ≤ (lstL f xs).length := fun hb => by
    simp only [lstB, Bool.and_eq_true, decide_eq_true_eq] at hb
    unfold lstL
    rw [if_pos hb.1, List.length_append, numL_len]
    omega
  have c1 : ∀ {c : List Int}, celOk c = true → 1 ≤ (celL c).length := fun hb => by
    unfold celL
    rw [if_pos hb, List.length_append, numL_len]
    omega
  have := l1 (f := mvL) hm; have := l1 (f := lvL) hl; have := l1 (f := dtL) hd; have := l1 (f := opL) hp; have := c1 ho; have := c1 hn
  unfold entL plL
  simp only [List.length_append, numL_len]
  omega
theorem flat_leE {α : Type} {f : α → List Int} {N : Nat} (xs : List α) (h : ∀ x ∈ xs, (f x).length ≤ N) : (xs.flatMap f).length ≤ xs.length * N := by
  induction xs with
  | nil => simp
  | cons x t ih =>
    have a := h x (List.mem_cons_self ..)
    have b := ih fun y hy => h y (List.mem_cons_of_mem _ hy)
    rw [List.flatMap_cons, List.length_append, List.length_cons, Nat.add_mul]
    omega
theorem lst_le {α : Type} {f : α → List Int} {B : α → Bool} {N : Nat} {xs : List α} (hb : lstB B xs = true) (h : ∀ x, B x = true → (f x).length ≤ N) : (lstL f xs).length ≤ 1 + 40 * N := by
  simp only [lstB, Bool.and_eq_true, decide_eq_true_eq, List.all_eq_true] at hb
  unfold lstL
  rw [if_pos hb.1, List.length_append, numL_len]
  have := flat_leE xs fun x hx => h x (hb.2 x hx)
  have := Nat.mul_le_mul_right N hb.1
  omega
theorem entL_le {e : Ent} (h : entB e = true) : (entL e).length ≤ 10000 := by
  simp only [entB, Bool.and_eq_true] at h
  obtain ⟨⟨⟨⟨⟨⟨⟨⟨⟨⟨⟨⟨⟨⟨hk, h1⟩, h2⟩, h3⟩, h4⟩, h5⟩, h6⟩, h7⟩, h9⟩, ho⟩, hn⟩, hm⟩, hl⟩, hd⟩, hp⟩ := h
  have c1 : ∀ {c : List Int}, celOk c = true → (celL c).length ≤ 27 := fun hb => by
    unfold celL
    rw [if_pos hb, List.length_append, numL_len]
    simp only [celOk, Bool.or_eq_true, decide_eq_true_eq] at hb
    omega
  have := c1 ho
  have := c1 hn
  have := lst_le (f := mvL) (N := 4) hm fun x _ => by simp [mvL, plL, numL_len]
  have := lst_le (f := lvL) (N := 8) hl fun x _ => by simp [lvL, numL_len]
  have := lst_le (f := dtL) (N := 4) hd fun x _ => by simp [dtL, numL_len]
  have := lst_le (f := opL) (N := 164) hp fun x hx => by
    simp only [opB, Bool.and_eq_true] at hx
    have := lst_le (f := mvL) (N := 4) hx.2 fun x _ => by simp [mvL, plL, numL_len]
    unfold opL
    simp only [List.length_append, numL_len]
    omega
  unfold entL plL
  simp only [List.length_append, numL_len]
  omega
theorem tk_cut {e : Ent} (h : entB e = true) {k : Nat} (hk : k < (entL e).length) : tkB ((entL e).take k) = false := by
  cases ht : tkB ((entL e).take k) with
  | false => rfl
  | true =>
    simp only [tkB, Bool.and_eq_true, decide_eq_true_eq] at ht
    have := (entL_pre h ht.1 (t := (entL e).drop k) (by rw [← ht.2, List.take_append_drop])).2
    have := congrArg List.length this
    rw [List.length_drop, List.length_nil] at this
    omega
theorem tk_more {e : Ent} (h : entB e = true) (x : Int) : tkB (entL e ++ [x]) = false := by
  unfold tkB
  rw [entR_tail h, Bool.and_eq_false_iff]
  right
  rw [decide_eq_false_iff_not]
  intro k
  have := congrArg List.length k
  simp at this
theorem tk_put {l : List Int} (h : tkB l = true) : putL (tkE l) = l := by
  rw [(tk_yes h).1]
  simp only [tkB, Bool.and_eq_true, decide_eq_true_eq] at h
  rw [putL_yes h.1, ← h.2]
theorem lst_40 {α : Type} {B : α → Bool} {xs : List α} (hb : lstB B xs = true) : xs.length ≤ 40 := by
  simp only [lstB, Bool.and_eq_true, decide_eq_true_eq] at hb
  exact hb.1
theorem entB_len {e : Ent} (h : entB e = true) : EntLen e := by
  simp only [entB, Bool.and_eq_true] at h
  obtain ⟨⟨⟨⟨⟨⟨⟨⟨⟨⟨⟨⟨⟨⟨hk, h1⟩, h2⟩, h3⟩, h4⟩, h5⟩, h6⟩, h7⟩, h9⟩, ho⟩, hn⟩, hm⟩, hl⟩, hd⟩, hp⟩ := h
  have := lst_40 hm; have := lst_40 hl; have := lst_40 hd; have := lst_40 hp
  refine ⟨by omega, by omega, by omega, by omega, fun o ho => ?_⟩
  simp only [lstB, Bool.and_eq_true, decide_eq_true_eq, List.all_eq_true] at hp
  have := hp.2 o ho
  simp only [opB, Bool.and_eq_true] at this
  have := lst_40 this.2
  omega
end Go.Proofs.Ythcndifbegmbkaa
