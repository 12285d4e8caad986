/- An entry that comes in as an argument. -/
import Derived.Test.YtkfebibnpincpaaEntB
import Derived.Laws.IdiomArrays
import Derived.Deep.Slices
import Derived.Deep.Fields
import Derived.Lib.SmallJoins
namespace Go.Proofs.Ytkfebibnpincpaa
open Go.ChangeShapes Go.WideShapes Go.ChangeAt Go.RowKit Go.Deep

theorem add_atE (ab ao n : Nat) : (⟨ab, ao, none⟩ : Addr).add n = ⟨ab, ao + n, none⟩ := by
  unfold Addr.add; split <;> simp_all
theorem spot_of {w : World} {a : Addr} {v : Value} (h : w.cell? a = some v) : a.spot = none := by
  unfold World.cell? at h
  split at h
  · split at h
    · cases h
    · rename_i hn
      cases hsp : a.spot with
      | none => rfl
      | some y => rw [hsp] at hn; exact absurd rfl hn
  · cases h

/-- No longer than memory may be. -/
def Bd (n : Nat) : Prop := n ≤ maxLen

section
variable {H : Type} {enc : TypeId × Value → H} {w : World} {base b0 : Nat} {sp : Nat → Bool} {held : Bool}

set_option maxRecDepth 100000 in
theorem open_els {α : Type} (k : Nat) (hk0 : 0 < k) (V : α → List Value) (Pr : α → Prop) {t te : TypeId} (ht : Try.prog.underlying t = some (.slice te)) (hk : Try.prog.cellsOf te = k)
    (hone : ∀ n cs y, DataW.trod enc Try.prog w base sp held n te cs = some y → ∃ x : α, cs = V x ∧ (V x).length = k ∧ Pr x) {fuel : Nat} {v : Value} {y : DataW H × List MemPlace} (h : DataW.trod enc Try.prog w base sp held fuel t [v] = some y) :
    ∃ xs : List α, Els w v k (xs.map V) ∧ (∀ x ∈ xs, Pr x) ∧ Bd xs.length := by
  rcases open_slice ht h with ⟨hcs, _⟩ | ⟨a, len, cap, m, n, D, Pl, hcs, _, hl, hm, hmm, _, hx⟩
  · injection hcs with e _
    subst e
    exact ⟨[], ⟨none, 0, rfl, Nat.le_refl _, fun _ => rfl, fun a e => by cases e⟩, (fun x hx => by cases hx), show 0 ≤ maxLen from Nat.zero_le _⟩
  · injection hcs with e _
    subst e
    have hq : ∀ i, i < len → ∃ x : α, Pr x ∧ (V x).length = k ∧ ∀ j, j < k → w.cell? ((a.add (i * k)).add j) = (V x)[j]? := fun i hi => by
      obtain ⟨cs, hc, hT⟩ := hx i (by rw [hmm]; split <;> omega)
      rw [hk] at hc
      obtain ⟨_, hcl, hat⟩ := World.cells?_some hc
      obtain ⟨x, rfl, hvl, hp⟩ := hone _ _ _ hT
      exact ⟨x, hp, hvl, hat⟩
    let xs : List α := List.ofFn fun i : Fin len => Classical.choose (hq i.1 i.2)
    have hlen : xs.length = len := List.length_ofFn
    have hget : ∀ i (hi : i < len) (hi' : i < xs.length), Pr xs[i] ∧ (V xs[i]).length = k ∧ ∀ j, j < k → w.cell? ((a.add (i * k)).add j) = (V xs[i])[j]? := fun i hi hi' => by
      have : xs[i] = Classical.choose (hq i hi) := by simp [xs]
      rw [this]
      exact Classical.choose_spec (hq i hi)
    refine ⟨xs, ⟨some a, cap, by rw [List.length_map, hlen], by rw [List.length_map]; omega, (fun e => by cases e), fun b e hne => ?_⟩, fun x hx' => ?_, show xs.length ≤ maxLen by rw [hlen]; exact Nat.le_trans hl hm⟩
    · cases e
      have h0 : 0 < len := by
        rcases Nat.eq_zero_or_pos len with e | e
        · exact absurd (List.map_eq_nil_iff.2 (List.length_eq_zero_iff.1 (hlen.trans e))) hne
        · exact e
      obtain ⟨_, hv0, hc0⟩ := hget 0 h0 (by omega)
      have c0 := hc0 0 hk0
      rw [Nat.zero_mul] at c0
      have e1 : (a.add 0).add 0 = a := rfl
      rw [e1, List.getElem?_eq_getElem (by omega)] at c0
      have hs := spot_of c0
      refine ⟨hs, block_lt_of_cell c0, fun i j hi hj => ?_⟩
      rw [List.length_map] at hi
      obtain ⟨_, _, hci⟩ := hget i (by omega) hi
      obtain ⟨ab, ao, asp⟩ := a
      cases hs
      have := hci j hj
      rw [add_atE, add_atE] at this
      show w.cell? ⟨ab, ao + i * k + j, none⟩ = _
      rw [this, List.getElem?_map, List.getElem?_eq_getElem hi]
      rfl
    · obtain ⟨i, hi, rfl⟩ := List.mem_iff_getElem.1 hx'
      exact (hget i (by omega) hi).1

theorem st_field {t : TypeId} {fs : Array Field} {fuel : Nat} {cs : List Value} {y : DataW H × List MemPlace} (hu : Try.prog.underlying t = some (.struct fs)) (h : DataW.trod enc Try.prog w base sp held fuel t cs = some y) :
    cs.length = Try.prog.cellsOf t ∧ ∃ n', ∀ (i : Nat) (f : Field), fs[i]? = some f → ∀ (t' : TypeId) (o k : Nat), f.type = t' → f.offset = o → Try.prog.cellsOf t' = k → ∃ z, DataW.trod enc Try.prog w base sp held n' t' ((cs.drop o).take k) = some z := by
  obtain ⟨xs, n', _, _, hl, hxl, hfs⟩ := DataW.trod_struct hu h
  refine ⟨hl, n', fun i f hf t' o k e1 e2 e3 => ?_⟩
  subst e1 e2 e3
  have hi : i < xs.length := by rw [hxl]; exact (Array.getElem?_eq_some_iff.1 hf).1
  exact ⟨xs[i], by rw [hfs i f hf, List.getElem?_eq_getElem hi]⟩

theorem one_int {n : Nat} {c : Value} {z : DataW H × List MemPlace} (h : DataW.trod enc Try.prog w base sp held n 3 [c] = some z) : ∃ a, c = .int .i64 a ∧ I64 a := by
  obtain ⟨a, e, _, g⟩ := DataW.trod_int Try.underlying3 h
  injection e with e _
  exact ⟨a, e, bounds_i64 g⟩
theorem one_bool {n : Nat} {c : Value} {z : DataW H × List MemPlace} (h : DataW.trod enc Try.prog w base sp held n 4 [c] = some z) : ∃ a, c = .bool a := by
  obtain ⟨a, e, _⟩ := DataW.trod_bool Try.underlying4 h
  injection e with e _
  exact ⟨a, e⟩
theorem co3 : Try.prog.cellsOf 3 = 1 := by kernel_rfl
theorem co4 : Try.prog.cellsOf 4 = 1 := by kernel_rfl
theorem coR : Try.prog.cellsOf 23 = 2 := by kernel_rfl
theorem coM : Try.prog.cellsOf 52 = 4 := by kernel_rfl
theorem coL : Try.prog.cellsOf 46 = 4 := by kernel_rfl
theorem coD : Try.prog.cellsOf 48 = 2 := by kernel_rfl
theorem coO : Try.prog.cellsOf 50 = 3 := by kernel_rfl
theorem coE : Try.prog.cellsOf 30 = 16 := by kernel_rfl
theorem coB : Try.prog.cellsOf 24 = 1 := by kernel_rfl
theorem coSM : Try.prog.cellsOf 25 = 1 := by kernel_rfl
theorem coSL : Try.prog.cellsOf 26 = 1 := by kernel_rfl
theorem coSD : Try.prog.cellsOf 27 = 1 := by kernel_rfl
theorem coSO : Try.prog.cellsOf 28 = 1 := by kernel_rfl

set_option maxRecDepth 100000 in
theorem one_rid {n : Nat} {c0 c1 : Value} {z : DataW H × List MemPlace} (h : DataW.trod enc Try.prog w base sp held n 23 [c0, c1] = some z) : ∃ a b, c0 = .int .i64 a ∧ c1 = .int .i64 b ∧ I64 a ∧ I64 b := by
  obtain ⟨_, n', hf⟩ := st_field Try.underlying23 h
  obtain ⟨z0, h0⟩ := hf 0 _ rfl 3 0 1 rfl rfl co3
  obtain ⟨z1, h1⟩ := hf 1 _ rfl 3 1 1 rfl rfl co3
  obtain ⟨a, rfl, ha⟩ := one_int h0
  obtain ⟨b, rfl, hb⟩ := one_int h1
  exact ⟨a, b, rfl, rfl, ha, hb⟩
set_option maxRecDepth 100000 in
theorem one_move (n : Nat) (cs : List Value) (y : DataW H × List MemPlace) (h : DataW.trod enc Try.prog w base sp held n 52 cs = some y) : ∃ m : Mv, cs = mvV m ∧ (mvV m).length = 4 ∧ mvI m := by
  obtain ⟨hl, n', hf⟩ := st_field Try.underlying52 h
  rw [coM] at hl
  match cs, hl with
  | [c0, c1, c2, c3], _ =>
    obtain ⟨z0, h0⟩ := hf 0 _ rfl 23 0 2 rfl rfl coR
    obtain ⟨z1, h1⟩ := hf 1 _ rfl 23 2 2 rfl rfl coR
    obtain ⟨a, b, rfl, rfl, ha, hb⟩ := one_rid h0
    obtain ⟨c, d, rfl, rfl, hc, hd⟩ := one_rid h1
    exact ⟨(a, b, c, d), rfl, rfl, ha, hb, hc, hd⟩
set_option maxRecDepth 100000 in
theorem one_live (n : Nat) (cs : List Value) (y : DataW H × List MemPlace) (h : DataW.trod enc Try.prog w base sp held n 46 cs = some y) : ∃ m : Lv, cs = lvV m ∧ (lvV m).length = 4 ∧ lvI m := by
  obtain ⟨hl, n', hf⟩ := st_field Try.underlying46 h
  rw [coL] at hl
  match cs, hl with
  | [c0, c1, c2, c3], _ =>
    obtain ⟨z0, h0⟩ := hf 0 _ rfl 3 0 1 rfl rfl co3
    obtain ⟨z1, h1⟩ := hf 1 _ rfl 3 1 1 rfl rfl co3
    obtain ⟨z2, h2⟩ := hf 2 _ rfl 3 2 1 rfl rfl co3
    obtain ⟨z3, h3⟩ := hf 3 _ rfl 4 3 1 rfl rfl co4
    obtain ⟨a, rfl, ha⟩ := one_int h0
    obtain ⟨b, rfl, hb⟩ := one_int h1
    obtain ⟨c, rfl, hc⟩ := one_int h2
    obtain ⟨d, rfl⟩ := one_bool h3
    exact ⟨(a, b, c, d), rfl, rfl, ha, hb, hc⟩
set_option maxRecDepth 100000 in
theorem one_dirty (n : Nat) (cs : List Value) (y : DataW H × List MemPlace) (h : DataW.trod enc Try.prog w base sp held n 48 cs = some y) : ∃ m : Dt, cs = dtV m ∧ (dtV m).length = 2 ∧ dtI m := by
  obtain ⟨hl, n', hf⟩ := st_field Try.underlying48 h
  rw [coD] at hl
  match cs, hl with
  | [c0, c1], _ =>
    obtain ⟨z0, h0⟩ := hf 0 _ rfl 3 0 1 rfl rfl co3
    obtain ⟨z1, h1⟩ := hf 1 _ rfl 3 1 1 rfl rfl co3
    obtain ⟨a, rfl, ha⟩ := one_int h0
    obtain ⟨b, rfl, hb⟩ := one_int h1
    exact ⟨(a, b), rfl, rfl, ha, hb⟩
set_option maxRecDepth 100000 in
theorem one_open (n : Nat) (cs : List Value) (y : DataW H × List MemPlace) (h : DataW.trod enc Try.prog w base sp held n 50 cs = some y) : ∃ m : Opn × Value, cs = opV m ∧ (opV m).length = 3 ∧ opI m ∧ Els w m.2 4 (m.1.2.2.map mvV) ∧ Bd m.1.2.2.length := by
  obtain ⟨hl, n', hf⟩ := st_field Try.underlying50 h
  rw [coO] at hl
  match cs, hl with
  | [c0, c1, c2], _ =>
    obtain ⟨z0, h0⟩ := hf 0 _ rfl 3 0 1 rfl rfl co3
    obtain ⟨z1, h1⟩ := hf 1 _ rfl 25 1 1 rfl rfl coSM
    obtain ⟨z2, h2⟩ := hf 2 _ rfl 3 2 1 rfl rfl co3
    obtain ⟨a, rfl, ha⟩ := one_int h0
    obtain ⟨b, rfl, hb⟩ := one_int h2
    obtain ⟨ms, hE, hP, hL⟩ := open_els 4 (by decide) mvV mvI Try.underlying25 coM one_move (show DataW.trod enc Try.prog w base sp held n' 25 [c1] = some z1 from h1)
    exact ⟨((a, b, ms), c1), rfl, rfl, ⟨ha, hb, hP⟩, hE, hL⟩

/-- What is known of an entry that comes in. -/
structure EntMax (e : Ent) : Prop where
  moves : Bd e.moves.length
  lives : Bd e.lives.length
  dirty : Bd e.dirty.length
  opens : Bd e.opens.length
  inner : ∀ o ∈ e.opens, Bd o.2.2.length

theorem cellTyE : Try.prog.cellTypes Try.prog.depth 30 = some [3, 3, 3, 3, 3, 3, 3, 3, 3, 3, 24, 24, 25, 26, 27, 28] := by kernel_rfl
set_option maxRecDepth 100000 in
theorem cell_slE {c : Value} {n : Nat} {y : DataW H × List MemPlace} (hok : Cell.okWide Try.prog w .any b0 24 c) (h : DataW.trod enc Try.prog w base sp held n 24 [c] = some y) : ∃ l, SlK .u8 w c l := by
  have hv : Value.okWide Try.prog w .any b0 24 c := by
    simp only [Value.okWide, Try.underlying24]; exact hok
  obtain ⟨a0, len, cap, rfl⟩ := okWide_slice Try.underlying24 hv
  exact open_sl Try.underlying24 Try.underlying5 (by kernel_rfl) hv (show DataW.Trod enc Try.prog w base sp held 24 (.slice a0 len cap) y.1 y.2 from ⟨n, h⟩)

set_option maxRecDepth 100000 in
theorem open_entry {v : Value} {d : DataW H} {p : List MemPlace} (hv : Value.okWide Try.prog w .any b0 30 v) (h : DataW.Trod enc Try.prog w base sp held 30 v d p) :
    ∃ e s1 s2 s3 s4 s5 s6, v = .agg (entC e s1 s2 s3 s4 s5 s6) ∧ EntS w s1 s2 s3 s4 s5 s6 e ∧ EntI e ∧ EntMax e := by
  have hv2 := hv
  simp only [Value.okWide, Try.underlying30] at hv2
  obtain ⟨cs, rfl, hsz, ts, hts, -, hrow⟩ := hv2
  rw [cellTyE] at hts
  cases hts
  have h16 : cs.size = 16 := hsz.trans (by kernel_rfl)
  obtain ⟨fuel, hf⟩ := h
  obtain ⟨l⟩ := cs
  match l, h16 with
  | [c0, c1, c2, c3, c4, c5, c6, c7, c8, c9, c10, c11, c12, c13, c14, c15], _ =>
    obtain ⟨_, n', hf⟩ := st_field Try.underlying30 (show DataW.trod enc Try.prog w base sp held fuel 30 [c0, c1, c2, c3, c4, c5, c6, c7, c8, c9, c10, c11, c12, c13, c14, c15] = some (d, p) from hf)
    obtain ⟨z0, h0⟩ := hf 0 _ rfl 3 0 1 rfl rfl co3
    obtain ⟨z1, h1⟩ := hf 1 _ rfl 3 1 1 rfl rfl co3
    obtain ⟨z2, h2⟩ := hf 2 _ rfl 3 2 1 rfl rfl co3
    obtain ⟨z3, h3⟩ := hf 3 _ rfl 3 3 1 rfl rfl co3
    obtain ⟨z4, h4⟩ := hf 4 _ rfl 3 4 1 rfl rfl co3
    obtain ⟨z5, h5⟩ := hf 5 _ rfl 3 5 1 rfl rfl co3
    obtain ⟨z6, h6⟩ := hf 6 _ rfl 23 6 2 rfl rfl coR
    obtain ⟨z7, h7⟩ := hf 7 _ rfl 23 8 2 rfl rfl coR
    obtain ⟨z8, h8⟩ := hf 8 _ rfl 24 10 1 rfl rfl coB
    obtain ⟨z9, h9⟩ := hf 9 _ rfl 24 11 1 rfl rfl coB
    obtain ⟨z10, h10⟩ := hf 10 _ rfl 25 12 1 rfl rfl coSM
    obtain ⟨z11, h11⟩ := hf 11 _ rfl 26 13 1 rfl rfl coSL
    obtain ⟨z12, h12⟩ := hf 12 _ rfl 27 14 1 rfl rfl coSD
    obtain ⟨z13, h13⟩ := hf 13 _ rfl 28 15 1 rfl rfl coSO
    clear hf
    obtain ⟨a0, rfl, i0⟩ := one_int h0
    obtain ⟨a1, rfl, i1⟩ := one_int h1
    obtain ⟨a2, rfl, i2⟩ := one_int h2
    obtain ⟨a3, rfl, i3⟩ := one_int h3
    obtain ⟨a4, rfl, i4⟩ := one_int h4
    obtain ⟨a5, rfl, i5⟩ := one_int h5
    obtain ⟨a6, a7, rfl, rfl, i6, i7⟩ := one_rid h6
    obtain ⟨a8, a9, rfl, rfl, i8, i9⟩ := one_rid h7
    have ok10 : Cell.okWide Try.prog w .any b0 24 c10 := by
      obtain ⟨u, hu, ho⟩ := hrow 10 c10 rfl
      cases hu
      exact ho
    have ok11 : Cell.okWide Try.prog w .any b0 24 c11 := by
      obtain ⟨u, hu, ho⟩ := hrow 11 c11 rfl
      cases hu
      exact ho
    obtain ⟨o, hO⟩ := cell_slE ok10 (show DataW.trod enc Try.prog w base sp held n' 24 [c10] = some z8 from h8)
    obtain ⟨nw, hN⟩ := cell_slE ok11 (show DataW.trod enc Try.prog w base sp held n' 24 [c11] = some z9 from h9)
    obtain ⟨ms, m1, m2, m3⟩ := open_els 4 (by decide) mvV mvI Try.underlying25 coM one_move (show DataW.trod enc Try.prog w base sp held n' 25 [c12] = some z10 from h10)
    obtain ⟨ls, l1, l2, l3⟩ := open_els 4 (by decide) lvV lvI Try.underlying26 coL one_live (show DataW.trod enc Try.prog w base sp held n' 26 [c13] = some z11 from h11)
    obtain ⟨ds, d1, d2, d3⟩ := open_els 2 (by decide) dtV dtI Try.underlying27 coD one_dirty (show DataW.trod enc Try.prog w base sp held n' 27 [c14] = some z12 from h12)
    obtain ⟨os, o1, o2, o3⟩ := open_els 3 (by decide) opV (fun m => opI m ∧ Els w m.2 4 (m.1.2.2.map mvV) ∧ Bd m.1.2.2.length) Try.underlying28 coO one_open (show DataW.trod enc Try.prog w base sp held n' 28 [c15] = some z13 from h13)
    refine ⟨⟨a0, a1, a2, a3, a4, a5, a6, a7, a8, a9, o, nw, ms, ls, ds, os.map Prod.fst⟩, c10, c11, c12, c13, c14, c15, rfl, ⟨hO, hN, m1, l1, d1, ⟨os, rfl, o1, fun x hx => (o2 x hx).2.1⟩⟩, ⟨i0, i1, i2, i3, i4, i5, i6, i7, i8, i9, m2, l2, d2, fun x hx => ?_⟩, ⟨m3, l3, d3, by rw [List.length_map]; exact o3, fun x hx => ?_⟩⟩
    · obtain ⟨u, hu, rfl⟩ := List.mem_map.1 hx
      exact (o2 u hu).1
    · obtain ⟨u, hu, rfl⟩ := List.mem_map.1 hx
      exact (o2 u hu).2.2
end
end Go.Proofs.Ytkfebibnpincpaa
