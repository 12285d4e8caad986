/- TrailAll, a part. -/
import Derived.Test.YthmgafcnoedmjaaGreatQ14
import Derived.Laws.IdiomArrays
import Derived.Deep.Slices
import Derived.Deep.Fields
import Derived.Lib.SmallJoins
namespace Go.Proofs.YthmgafcnoedmjaaGreat
set_option maxRecDepth 100000
open Go.RowKit
theorem tkB_entL {e : Ent} (h : entB e = true) : tkB (entL e) = true ∧ tkE (entL e) = e ∧ tkN (entL e) = 0 := by
 have hr := entR_entL h
 have ht : tkB (entL e) = true := by unfold tkB; rw [hr, h]; simp
 obtain ⟨a, b⟩ := tk_yes ht
 exact ⟨ht, by rw [a, hr], b⟩
end Go.Proofs.YthmgafcnoedmjaaGreat
namespace Go.Proofs.YthmgafcnoedmjaaGreat
open Go.RowKit
theorem Below.kpt {w w' : World} {B : Nat} (h : Below w.heap.size w w') : Kpt B w w' := ⟨h.size, fun b _ hl => h.block b hl⟩
theorem wpList_load_rowG {P : Program} {ops : Array Oper} {rest : List Oper} {o : Oper} {a : Act} {w : World} {Q : Exit → Act → World → Prop} (hw : Region.wanted o (yielded ops a.tmps) = true) (ty : TypeId) (x : Operand) (ho : o.op = .load ty x)
  (g : Nat) (hx : a.eval x = .pointer (some ⟨g, 0, none⟩)) (t : TypeId) (cs : Array Value) (fr : Nat × Nat) (d : TypeDesc) (hg : w.heap[g]? = some (.cells cs t fr))
  (hu : P.underlying ty = some d) (hd : (match d with | .struct _ | .array _ _ => true | _ => false) = true) (hi : (P.info? ty).map (·.size) = some cs.size)
  (h : wpList P ops Q rest (a.put o.dst (.agg cs)) w) : wpList P ops Q (o :: rest) a w :=
 wpList_step fun _ hK => by
  rw [if_pos hw]
  exact wp_load_row ty x ho g hx t cs fr d hg hu hd hi (hK _ _ h)
end Go.Proofs.YthmgafcnoedmjaaGreat
namespace Go.Proofs.YthmgafcnoedmjaaGreat
open Go.ChangeShapes Go.WideShapes Go.ChangeAt Go.RowKit Go.Deep
theorem add_atE (ab ao n : Nat) : (⟨ab, ao, none⟩ : Addr).add n = ⟨ab, ao + n, none⟩ := by
 unfold Addr.add; split <;> simp_all
theorem spot_of {w : World} {a : Addr} {v : Value} (h : w.cell? a = some v) : a.spot = none := by
 unfold World.cell? at h
 split at h
 ·split at h
  ·cases h
  ·rename_i hn
   cases hsp : a.spot with
   | none => rfl
   | some y => rw [hsp] at hn; exact absurd rfl hn
 ·cases h
def Bd (n : Nat) : Prop := n ≤ maxLen
section
variable {H : Type} {enc : TypeId × Value → H} {w : World} {base b0 : Nat} {sp : Nat → Bool} {held : Bool}
theorem open_els {α : Type} (k : Nat) (hk0 : 0 < k) (V : α → List Value) (Pr : α → Prop) {t te : TypeId} (ht : Tryz.prog.underlying t = some (.slice te)) (hk : Tryz.prog.cellsOf te = k)
  (hone : ∀ n cs y, DataW.trod enc Tryz.prog w base sp held n te cs = some y → ∃ x : α, cs = V x ∧ (V x).length = k ∧ Pr x) {fuel : Nat} {v : Value} {y : DataW H × List MemPlace} (h : DataW.trod enc Tryz.prog w base sp held fuel t [v] = some y) :
  ∃ xs : List α, Els w v k (xs.map V) ∧ (∀ x ∈ xs, Pr x) ∧ Bd xs.length := by
 rcases open_slice ht h with ⟨hcs, _⟩ | ⟨a, len, cap, m, n, D, Pl, hcs, _, hl, hm, hmm, _, hx⟩
 ·injection hcs with e _
  subst e
  exact ⟨[], ⟨none, 0, rfl, Nat.le_refl _, fun _ => rfl, fun a e => by cases e⟩, (fun x hx => by cases hx), show 0 ≤ maxLen from Nat.zero_le _⟩
 ·injection hcs with e _
  subst e
  have hq : ∀ i, i < len → ∃ x : α, Pr x ∧ (V x).length = k ∧ ∀ j, j < k → w.cell? ((a.add (i * k)).add j) = (V x)[j]? := fun i hi => by
   obtain ⟨cs, hc, hT⟩ := hx i (by rw [hmm]; split <;> omega)
   rw [hk] at hc
   obtain ⟨_, hcl, hat⟩ := World.cells?_some hc
   obtain ⟨x, rfl, hvl, hp⟩ := hone _ _ _ hT
   exact ⟨x, hp, hvl, hat⟩
  let xs : List α := List.ofFn fun i : Fin len => Classical.choose (hq i.1 i.2)
  have hlen : xs.length = len := List.length_ofFn
  have hget : ∀ i (hi : i < len) (hi' : i < xs.length), Pr xs[i] ∧ (V xs[i]).length = k ∧ ∀ j, j < k → w.cell? ((a.add (i * k)).add j) = (V xs[i])[j]? := fun i hi hi' => by
   have : xs[i] = Classical.choose (hq i hi) := by simp [xs]
   rw [this]
   exact Classical.choose_spec (hq i hi)
  refine ⟨xs, ⟨some a, cap, by rw [List.length_map, hlen], by rw [List.length_map]; omega, (fun e => by cases e), fun b e hne => ?_⟩, fun x hx' => ?_, show xs.length ≤ maxLen by rw [hlen]; exact Nat.le_trans hl hm⟩
  ·cases e
   have h0 : 0 < len := by
    rcases Nat.eq_zero_or_pos len with e | e
    ·exact absurd (List.map_eq_nil_iff.2 (List.length_eq_zero_iff.1 (hlen.trans e))) hne
    ·exact e
   obtain ⟨_, hv0, hc0⟩ := hget 0 h0 (by omega)
   have c0 := hc0 0 hk0
   rw [Nat.zero_mul] at c0
   have e1 : (a.add 0).add 0 = a := rfl
   rw [e1, List.getElem?_eq_getElem (by omega)] at c0
   have hs := spot_of c0
   refine ⟨hs, block_lt_of_cell c0, fun i j hi hj => ?_⟩
   rw [List.length_map] at hi
   obtain ⟨_, _, hci⟩ := hget i (by omega) hi
   obtain ⟨ab, ao, asp⟩ := a
   cases hs
   have := hci j hj
   rw [add_atE, add_atE] at this
   show w.cell? ⟨ab, ao + i * k + j, none⟩ = _
   rw [this, List.getElem?_map, List.getElem?_eq_getElem hi]
   rfl
  ·obtain ⟨i, hi, rfl⟩ := List.mem_iff_getElem.1 hx'
   exact (hget i (by omega) hi).1
theorem st_field {t : TypeId} {fs : Array Field} {fuel : Nat} {cs : List Value} {y : DataW H × List MemPlace} (hu : Tryz.prog.underlying t = some (.struct fs)) (h : DataW.trod enc Tryz.prog w base sp held fuel t cs = some y) :
  cs.length = Tryz.prog.cellsOf t ∧ ∃ n', ∀ (i : Nat) (f : Field), fs[i]? = some f → ∀ (t' : TypeId) (o k : Nat), f.type = t' → f.offset = o → Tryz.prog.cellsOf t' = k → ∃ z, DataW.trod enc Tryz.prog w base sp held n' t' ((cs.drop o).take k) = some z := by
 obtain ⟨xs, n', _, _, hl, hxl, hfs⟩ := DataW.trod_struct hu h
 refine ⟨hl, n', fun i f hf t' o k e1 e2 e3 => ?_⟩
 subst e1 e2 e3
 have hi : i < xs.length := by rw [hxl]; exact (Array.getElem?_eq_some_iff.1 hf).1
 exact ⟨xs[i], by rw [hfs i f hf, List.getElem?_eq_getElem hi]⟩
theorem one_int {n : Nat} {c : Value} {z : DataW H × List MemPlace} (h : DataW.trod enc Tryz.prog w base sp held n 3 [c] = some z) : ∃ a, c = .int .i64 a ∧ I64 a := by
 obtain ⟨a, e, _, g⟩ := DataW.trod_int Tryz.underlying3 h
 injection e with e _
 exact ⟨a, e, bounds_i64 g⟩
theorem one_bool {n : Nat} {c : Value} {z : DataW H × List MemPlace} (h : DataW.trod enc Tryz.prog w base sp held n 4 [c] = some z) : ∃ a, c = .bool a := by
 obtain ⟨a, e, _⟩ := DataW.trod_bool Tryz.underlying4 h
 injection e with e _
 exact ⟨a, e⟩
theorem co3 : Tryz.prog.cellsOf 3 = 1 := by kernel_rfl
theorem co4 : Tryz.prog.cellsOf 4 = 1 := by kernel_rfl
theorem coR : Tryz.prog.cellsOf 38 = 2 := by kernel_rfl
theorem coM : Tryz.prog.cellsOf 147 = 4 := by kernel_rfl
theorem coL : Tryz.prog.cellsOf 115 = 4 := by kernel_rfl
theorem coD : Tryz.prog.cellsOf 117 = 2 := by kernel_rfl
theorem coO : Tryz.prog.cellsOf 119 = 3 := by kernel_rfl
theorem coE : Tryz.prog.cellsOf 44 = 16 := by kernel_rfl
theorem coB : Tryz.prog.cellsOf 36 = 1 := by kernel_rfl
theorem coSM : Tryz.prog.cellsOf 39 = 1 := by kernel_rfl
theorem coSL : Tryz.prog.cellsOf 40 = 1 := by kernel_rfl
theorem coSD : Tryz.prog.cellsOf 41 = 1 := by kernel_rfl
theorem coSO : Tryz.prog.cellsOf 42 = 1 := by kernel_rfl
theorem one_rid {n : Nat} {c0 c1 : Value} {z : DataW H × List MemPlace} (h : DataW.trod enc Tryz.prog w base sp held n 38 [c0, c1] = some z) : ∃ a b, c0 = .int .i64 a ∧ c1 = .int .i64 b ∧ I64 a ∧ I64 b := by
 obtain ⟨_, n', hf⟩ := st_field Tryz.underlying38 h
 obtain ⟨z0, h0⟩ := hf 0 _ rfl 3 0 1 rfl rfl co3
 obtain ⟨z1, h1⟩ := hf 1 _ rfl 3 1 1 rfl rfl co3
 obtain ⟨a, rfl, ha⟩ := one_int h0
 obtain ⟨b, rfl, hb⟩ := one_int h1
 exact ⟨a, b, rfl, rfl, ha, hb⟩
theorem one_move (n : Nat) (cs : List Value) (y : DataW H × List MemPlace) (h : DataW.trod enc Tryz.prog w base sp held n 147 cs = some y) : ∃ m : Mv, cs = mvV m ∧ (mvV m).length = 4 ∧ mvI m := by
 obtain ⟨hl, n', hf⟩ := st_field Tryz.underlying147 h
 rw [coM] at hl
 match cs, hl with
 | [c0, c1, c2, c3], _ =>
  obtain ⟨z0, h0⟩ := hf 0 _ rfl 38 0 2 rfl rfl coR
  obtain ⟨z1, h1⟩ := hf 1 _ rfl 38 2 2 rfl rfl coR
  obtain ⟨a, b, rfl, rfl, ha, hb⟩ := one_rid h0
  obtain ⟨c, d, rfl, rfl, hc, hd⟩ := one_rid h1
  exact ⟨(a, b, c, d), rfl, rfl, ha, hb, hc, hd⟩
theorem one_live (n : Nat) (cs : List Value) (y : DataW H × List MemPlace) (h : DataW.trod enc Tryz.prog w base sp held n 115 cs = some y) : ∃ m : Lv, cs = lvV m ∧ (lvV m).length = 4 ∧ lvI m := by
 obtain ⟨hl, n', hf⟩ := st_field Tryz.underlying115 h
 rw [coL] at hl
 match cs, hl with
 | [c0, c1, c2, c3], _ =>
  obtain ⟨z0, h0⟩ := hf 0 _ rfl 3 0 1 rfl rfl co3
  obtain ⟨z1, h1⟩ := hf 1 _ rfl 3 1 1 rfl rfl co3
  obtain ⟨z2, h2⟩ := hf 2 _ rfl 3 2 1 rfl rfl co3
  obtain ⟨z3, h3⟩ := hf 3 _ rfl 4 3 1 rfl rfl co4
  obtain ⟨a, rfl, ha⟩ := one_int h0
  obtain ⟨b, rfl, hb⟩ := one_int h1
  obtain ⟨c, rfl, hc⟩ := one_int h2
  obtain ⟨d, rfl⟩ := one_bool h3
  exact ⟨(a, b, c, d), rfl, rfl, ha, hb, hc⟩
theorem one_dirty (n : Nat) (cs : List Value) (y : DataW H × List MemPlace) (h : DataW.trod enc Tryz.prog w base sp held n 117 cs = some y) : ∃ m : Dt, cs = dtV m ∧ (dtV m).length = 2 ∧ dtI m := by
 obtain ⟨hl, n', hf⟩ := st_field Tryz.underlying117 h
 rw [coD] at hl
 match cs, hl with
 | [c0, c1], _ =>
  obtain ⟨z0, h0⟩ := hf 0 _ rfl 3 0 1 rfl rfl co3
  obtain ⟨z1, h1⟩ := hf 1 _ rfl 3 1 1 rfl rfl co3
  obtain ⟨a, rfl, ha⟩ := one_int h0
  obtain ⟨b, rfl, hb⟩ := one_int h1
  exact ⟨(a, b), rfl, rfl, ha, hb⟩
theorem one_open (n : Nat) (cs : List Value) (y : DataW H × List MemPlace) (h : DataW.trod enc Tryz.prog w base sp held n 119 cs = some y) : ∃ m : Opn × Value, cs = opV m ∧ (opV m).length = 3 ∧ opI m ∧ Els w m.2 4 (m.1.2.2.map mvV) ∧ Bd m.1.2.2.length := by
 obtain ⟨hl, n', hf⟩ := st_field Tryz.underlying119 h
 rw [coO] at hl
 match cs, hl with
 | [c0, c1, c2], _ =>
  obtain ⟨z0, h0⟩ := hf 0 _ rfl 3 0 1 rfl rfl co3
  obtain ⟨z1, h1⟩ := hf 1 _ rfl 39 1 1 rfl rfl coSM
  obtain ⟨z2, h2⟩ := hf 2 _ rfl 3 2 1 rfl rfl co3
  obtain ⟨a, rfl, ha⟩ := one_int h0
  obtain ⟨b, rfl, hb⟩ := one_int h2
  obtain ⟨ms, hE, hP, hL⟩ := open_els 4 (by decide) mvV mvI Tryz.underlying39 coM one_move (show DataW.trod enc Tryz.prog w base sp held n' 39 [c1] = some z1 from h1)
  exact ⟨((a, b, ms), c1), rfl, rfl, ⟨ha, hb, hP⟩, hE, hL⟩
structure EntMax (e : Ent) : Prop where
 moves : Bd e.moves.length
 lives : Bd e.lives.length
 dirty : Bd e.dirty.length
 opens : Bd e.opens.length
 inner : ∀ o ∈ e.opens, Bd o.2.2.length
theorem mem_slW {fuel : Nat} {c : Value} {y : DataW H × List MemPlace} (h : DataW.trod enc Tryz.prog w base sp held fuel 36 [c] = some y) : ∃ l, SlW w c l := by
 rcases open_ints Tryz.underlying36 Tryz.underlying5 (by kernel_rfl) h with ⟨hcs, _⟩ | ⟨a, len, cap, zs, hcs, _, hl, hm, hz, _, hcell, hwz⟩
 ·injection hcs with e _
  subst e
  exact ⟨[], ⟨none, 0, rfl, Nat.le_refl _, fun _ => ⟨rfl, rfl⟩⟩, (fun x hx => by cases hx), fun hne => absurd rfl hne⟩
 ·injection hcs with e _
  subst e
  have hle : len ≤ zs.length := by rw [hz]; split <;> omega
  have hlen : (zs.take len).length = len := by simp; omega
  have hwf : ∀ x ∈ zs.take len, (Lit.int .u8 x).wf = true := fun x hx => hwz x (List.mem_of_mem_take hx)
  refine ⟨zs.take len, ⟨some a, cap, by rw [hlen], by rw [hlen]; exact hl, fun e => by cases e⟩, hwf, fun hne => ⟨some a, cap, by rw [hlen], by rw [hlen]; exact hl, hwf, (fun e => by cases e), fun b hb => ?_⟩⟩
  cases hb
  have h0 : 0 < len := by
   rcases Nat.eq_zero_or_pos len with e | e
   ·exact absurd (List.length_eq_zero_iff.1 (hlen.trans e)) hne
   ·exact e
  have c0 := hcell 0 (by omega)
  have e1 : a.add 0 = a := rfl
  rw [e1] at c0
  have hs := spot_of c0
  refine ⟨hs, block_lt_of_cell c0, fun j hj => ?_⟩
  rw [hlen] at hj
  have h1 := hcell j (by omega)
  obtain ⟨ab, ao, asp⟩ := a
  cases hs
  rw [add_atE] at h1
  rw [h1]
  simp [List.getD_eq_getElem?_getD, show j < zs.length by omega]
abbrev S6 := Value × Value × Value × Value × Value × Value
def enV (o : Ent × S6) : List Value := (entC o.1 o.2.1 o.2.2.1 o.2.2.2.1 o.2.2.2.2.1 o.2.2.2.2.2.1 o.2.2.2.2.2.2).toList
theorem enV_len (o : Ent × S6) : (enV o).length = 16 := rfl
def EntIn (w : World) (o : Ent × S6) : Prop := EntS w o.2.1 o.2.2.1 o.2.2.2.1 o.2.2.2.2.1 o.2.2.2.2.2.1 o.2.2.2.2.2.2 o.1 ∧ EntI o.1 ∧ EntMax o.1
theorem one_entry (fuel : Nat) (cs : List Value) (y : DataW H × List MemPlace) (h : DataW.trod enc Tryz.prog w base sp held fuel 44 cs = some y) : ∃ o : Ent × S6, cs = enV o ∧ (enV o).length = 16 ∧ EntIn w o := by
 have h16 : cs.length = 16 := by
  obtain ⟨h1, _⟩ := st_field Tryz.underlying44 h
  exact h1.trans coE
 match cs, h16 with
 | [c0, c1, c2, c3, c4, c5, c6, c7, c8, c9, c10, c11, c12, c13, c14, c15], _ =>
  obtain ⟨_, n', hf⟩ := st_field Tryz.underlying44 h
  obtain ⟨z0, h0⟩ := hf 0 _ rfl 3 0 1 rfl rfl co3
  obtain ⟨z1, h1⟩ := hf 1 _ rfl 3 1 1 rfl rfl co3
  obtain ⟨z2, h2⟩ := hf 2 _ rfl 3 2 1 rfl rfl co3
  obtain ⟨z3, h3⟩ := hf 3 _ rfl 3 3 1 rfl rfl co3
  obtain ⟨z4, h4⟩ := hf 4 _ rfl 3 4 1 rfl rfl co3
  obtain ⟨z5, h5⟩ := hf 5 _ rfl 3 5 1 rfl rfl co3
  obtain ⟨z6, h6⟩ := hf 6 _ rfl 38 6 2 rfl rfl coR
  obtain ⟨z7, h7⟩ := hf 7 _ rfl 38 8 2 rfl rfl coR
  obtain ⟨z8, h8⟩ := hf 8 _ rfl 36 10 1 rfl rfl coB
  obtain ⟨z9, h9⟩ := hf 9 _ rfl 36 11 1 rfl rfl coB
  obtain ⟨z10, h10⟩ := hf 10 _ rfl 39 12 1 rfl rfl coSM
  obtain ⟨z11, h11⟩ := hf 11 _ rfl 40 13 1 rfl rfl coSL
  obtain ⟨z12, h12⟩ := hf 12 _ rfl 41 14 1 rfl rfl coSD
  obtain ⟨z13, h13⟩ := hf 13 _ rfl 42 15 1 rfl rfl coSO
  clear hf
  obtain ⟨a0, rfl, i0⟩ := one_int h0
  obtain ⟨a1, rfl, i1⟩ := one_int h1
  obtain ⟨a2, rfl, i2⟩ := one_int h2
  obtain ⟨a3, rfl, i3⟩ := one_int h3
  obtain ⟨a4, rfl, i4⟩ := one_int h4
  obtain ⟨a5, rfl, i5⟩ := one_int h5
  obtain ⟨a6, a7, rfl, rfl, i6, i7⟩ := one_rid h6
  obtain ⟨a8, a9, rfl, rfl, i8, i9⟩ := one_rid h7
  obtain ⟨o, hO⟩ := mem_slW h8
  obtain ⟨nw, hN⟩ := mem_slW h9
  obtain ⟨ms, m1, m2, m3⟩ := open_els 4 (by decide) mvV mvI Tryz.underlying39 coM one_move (show DataW.trod enc Tryz.prog w base sp held n' 39 [c12] = some z10 from h10)
  obtain ⟨ls, l1, l2, l3⟩ := open_els 4 (by decide) lvV lvI Tryz.underlying40 coL one_live (show DataW.trod enc Tryz.prog w base sp held n' 40 [c13] = some z11 from h11)
  obtain ⟨ds, d1, d2, d3⟩ := open_els 2 (by decide) dtV dtI Tryz.underlying41 coD one_dirty (show DataW.trod enc Tryz.prog w base sp held n' 41 [c14] = some z12 from h12)
  obtain ⟨os, o1, o2, o3⟩ := open_els 3 (by decide) opV (fun m => opI m ∧ Els w m.2 4 (m.1.2.2.map mvV) ∧ Bd m.1.2.2.length) Tryz.underlying42 coO one_open (show DataW.trod enc Tryz.prog w base sp held n' 42 [c15] = some z13 from h13)
  refine ⟨(⟨a0, a1, a2, a3, a4, a5, a6, a7, a8, a9, o, nw, ms, ls, ds, os.map Prod.fst⟩, c10, c11, c12, c13, c14, c15), rfl, rfl, ⟨hO, hN, m1, l1, d1, ⟨os, rfl, o1, fun x hx => (o2 x hx).2.1⟩⟩, ⟨i0, i1, i2, i3, i4, i5, i6, i7, i8, i9, m2, l2, d2, fun x hx => ?_⟩, ⟨m3, l3, d3, by rw [List.length_map]; exact o3, fun x hx => ?_⟩⟩
  ·obtain ⟨u, hu, rfl⟩ := List.mem_map.1 hx
   exact (o2 u hu).1
  ·obtain ⟨u, hu, rfl⟩ := List.mem_map.1 hx
   exact (o2 u hu).2.2
end
end Go.Proofs.YthmgafcnoedmjaaGreat
namespace Go.Proofs.YthmgafcnoedmjaaGreat
open Go.RowKit
end Go.Proofs.YthmgafcnoedmjaaGreat
namespace Go.Proofs.YthmgafcnoedmjaaGreat
theorem flat_leE {α : Type} {f : α → List Int} {N : Nat} (xs : List α) (h : ∀ x ∈ xs, (f x).length ≤ N) : (xs.flatMap f).length ≤ xs.length * N := by
 induction xs with
 | nil => simp
 | cons x t ih =>
  have a := h x (List.mem_cons_self ..)
  have b := ih fun y hy => h y (List.mem_cons_of_mem _ hy)
  rw [List.flatMap_cons, List.length_append, List.length_cons, Nat.add_mul]
  omega
theorem lst_le {α : Type} {f : α → List Int} {B : α → Bool} {N : Nat} {xs : List α} (hb : lstB B xs = true) (h : ∀ x, B x = true → (f x).length ≤ N) : (lstL f xs).length ≤ 1 + 40 * N := by
 simp only [lstB, Bool.and_eq_true, decide_eq_true_eq, List.all_eq_true] at hb
 unfold lstL
 rw [if_pos hb.1, List.length_append, numL_len]
 have := flat_leE xs fun x hx => h x (hb.2 x hx)
 have := Nat.mul_le_mul_right N hb.1
 omega
theorem lst_40 {α : Type} {B : α → Bool} {xs : List α} (hb : lstB B xs = true) : xs.length ≤ 40 := by
 simp only [lstB, Bool.and_eq_true, decide_eq_true_eq] at hb
 exact hb.1
theorem entB_len {e : Ent} (h : entB e = true) : EntLen e := by
 simp only [entB, Bool.and_eq_true] at h
 obtain ⟨⟨⟨⟨⟨⟨⟨⟨⟨⟨⟨⟨⟨⟨hk, h1⟩, h2⟩, h3⟩, h4⟩, h5⟩, h6⟩, h7⟩, h9⟩, ho⟩, hn⟩, hm⟩, hl⟩, hd⟩, hp⟩ := h
 have := lst_40 hm; have := lst_40 hl; have := lst_40 hd; have := lst_40 hp
 refine ⟨by omega, by omega, by omega, by omega, fun o ho => ?_⟩
 simp only [lstB, Bool.and_eq_true, decide_eq_true_eq, List.all_eq_true] at hp
 have := hp.2 o ho
 simp only [opB, Bool.and_eq_true] at this
 have := lst_40 this.2
 omega
end Go.Proofs.YthmgafcnoedmjaaGreat
