/- An entry that comes in as an argument. -/
import Derived.Test.YtmijdjlpfjfjoaaRdAllW
import Derived.Laws.IdiomArrays
import Derived.Deep.Slices
import Derived.Deep.Fields
import Derived.Lib.SmallJoins
namespace Go.Proofs.Ytmijdjlpfjfjoaa.Rx
open Go.ChangeShapes Go.WideShapes Go.ChangeAt Go.RowKit Go.Deep

theorem add_atE (ab ao n : Nat) : (⟨ab, ao, none⟩ : Addr).add n = ⟨ab, ao + n, none⟩ := by
  unfold Addr.add; split <;> simp_all
theorem spot_of {w : World} {a : Addr} {v : Value} (h : w.cell? a = some v) : a.spot = none := by
  unfold World.cell? at h
  split at h
  · split at h
    · cases h
    · rename_i hn
      cases hsp : a.spot with
      | none => rfl
      | some y => rw [hsp] at hn; exact absurd rfl hn
  · cases h

section
variable {H : Type} {enc : TypeId × Value → H} {w : World} {base b0 : Nat} {sp : Nat → Bool} {held : Bool}

set_option maxRecDepth 100000 in
theorem open_els {α : Type} (k : Nat) (hk0 : 0 < k) (V : α → List Value) (Pr : α → Prop) {t te : TypeId} (ht : Try.prog.underlying t = some (.slice te)) (hk : Try.prog.cellsOf te = k)
    (hone : ∀ n cs y, DataW.trod enc Try.prog w base sp held n te cs = some y → ∃ x : α, cs = V x ∧ (V x).length = k ∧ Pr x) {fuel : Nat} {v : Value} {y : DataW H × List MemPlace} (h : DataW.trod enc Try.prog w base sp held fuel t [v] = some y) :
    ∃ xs : List α, Els w v k (xs.map V) ∧ (∀ x ∈ xs, Pr x) := by
  rcases open_slice ht h with ⟨hcs, _⟩ | ⟨a, len, cap, m, n, D, Pl, hcs, _, hl, hm, hmm, _, hx⟩
  · injection hcs with e _
    subst e
    exact ⟨[], ⟨none, 0, rfl, Nat.le_refl _, fun _ => rfl, fun a e => by cases e⟩, (fun x hx => by cases hx)⟩
  · injection hcs with e _
    subst e
    have hq : ∀ i, i < len → ∃ x : α, Pr x ∧ (V x).length = k ∧ ∀ j, j < k → w.cell? ((a.add (i * k)).add j) = (V x)[j]? := fun i hi => by
      obtain ⟨cs, hc, hT⟩ := hx i (by rw [hmm]; split <;> omega)
      rw [hk] at hc
      obtain ⟨_, hcl, hat⟩ := World.cells?_some hc
      obtain ⟨x, rfl, hvl, hp⟩ := hone _ _ _ hT
      exact ⟨x, hp, hvl, hat⟩
    let xs : List α := List.ofFn fun i : Fin len => Classical.choose (hq i.1 i.2)
    have hlen : xs.length = len := List.length_ofFn
    have hget : ∀ i (hi : i < len) (hi' : i < xs.length), Pr xs[i] ∧ (V xs[i]).length = k ∧ ∀ j, j < k → w.cell? ((a.add (i * k)).add j) = (V xs[i])[j]? := fun i hi hi' => by
      have : xs[i] = Classical.choose (hq i hi) := by simp [xs]
      rw [this]
      exact Classical.choose_spec (hq i hi)
    refine ⟨xs, ⟨some a, cap, by rw [List.length_map, hlen], by rw [List.length_map]; omega, (fun e => by cases e), fun b e hne => ?_⟩, fun x hx' => ?_⟩
    · cases e
      have h0 : 0 < len := by
        rcases Nat.eq_zero_or_pos len with e | e
        · exact absurd (List.map_eq_nil_iff.2 (List.length_eq_zero_iff.1 (hlen.trans e))) hne
        · exact e
      obtain ⟨_, hv0, hc0⟩ := hget 0 h0 (by omega)
      have c0 := hc0 0 hk0
      rw [Nat.zero_mul] at c0
      have e1 : (a.add 0).add 0 = a := rfl
      rw [e1, List.getElem?_eq_getElem (by omega)] at c0
      have hs := spot_of c0
      refine ⟨hs, block_lt_of_cell c0, fun i j hi hj => ?_⟩
      rw [List.length_map] at hi
      obtain ⟨_, _, hci⟩ := hget i (by omega) hi
      obtain ⟨ab, ao, asp⟩ := a
      cases hs
      have := hci j hj
      rw [add_atE, add_atE] at this
      show w.cell? ⟨ab, ao + i * k + j, none⟩ = _
      rw [this, List.getElem?_map, List.getElem?_eq_getElem hi]
      rfl
    · obtain ⟨i, hi, rfl⟩ := List.mem_iff_getElem.1 hx'
      exact (hget i (by omega) hi).1

theorem st_field {t : TypeId} {fs : Array Field} {fuel : Nat} {cs : List Value} {y : DataW H × List MemPlace} (hu : Try.prog.underlying t = some (.struct fs)) (h : DataW.trod enc Try.prog w base sp held fuel t cs = some y) :
    cs.length = Try.prog.cellsOf t ∧ ∃ n', ∀ (i : Nat) (f : Field), fs[i]? = some f → ∀ (t' : TypeId) (o k : Nat), f.type = t' → f.offset = o → Try.prog.cellsOf t' = k → ∃ z, DataW.trod enc Try.prog w base sp held n' t' ((cs.drop o).take k) = some z := by
  obtain ⟨xs, n', _, _, hl, hxl, hfs⟩ := DataW.trod_struct hu h
  refine ⟨hl, n', fun i f hf t' o k e1 e2 e3 => ?_⟩
  subst e1 e2 e3
  have hi : i < xs.length := by rw [hxl]; exact (Array.getElem?_eq_some_iff.1 hf).1
  exact ⟨xs[i], by rw [hfs i f hf, List.getElem?_eq_getElem hi]⟩

theorem one_int {n : Nat} {c : Value} {z : DataW H × List MemPlace} (h : DataW.trod enc Try.prog w base sp held n 3 [c] = some z) : ∃ a, c = .int .i64 a := by
  obtain ⟨a, e, _, g⟩ := DataW.trod_int Try.underlying3 h
  injection e with e _
  exact ⟨a, e⟩
theorem co3 : Try.prog.cellsOf 3 = 1 := by kernel_rfl
theorem co4 : Try.prog.cellsOf 4 = 1 := by kernel_rfl
theorem coR : Try.prog.cellsOf 25 = 2 := by kernel_rfl
theorem coM : Try.prog.cellsOf 54 = 4 := by kernel_rfl
theorem coL : Try.prog.cellsOf 97 = 4 := by kernel_rfl
theorem coD : Try.prog.cellsOf 99 = 2 := by kernel_rfl
theorem coO : Try.prog.cellsOf 101 = 3 := by kernel_rfl
theorem coE : Try.prog.cellsOf 31 = 16 := by kernel_rfl
theorem coB : Try.prog.cellsOf 22 = 1 := by kernel_rfl
theorem coSM : Try.prog.cellsOf 26 = 1 := by kernel_rfl
theorem coSL : Try.prog.cellsOf 27 = 1 := by kernel_rfl
theorem coSD : Try.prog.cellsOf 28 = 1 := by kernel_rfl
theorem coSO : Try.prog.cellsOf 29 = 1 := by kernel_rfl


set_option maxRecDepth 100000 in
theorem one_rid {n : Nat} {c0 c1 : Value} {z : DataW H × List MemPlace} (h : DataW.trod enc Try.prog w base sp held n 25 [c0, c1] = some z) : ∃ a b, c0 = .int .i64 a ∧ c1 = .int .i64 b := by
  obtain ⟨_, n', hf⟩ := st_field Try.underlying25 h
  obtain ⟨z0, h0⟩ := hf 0 _ rfl 3 0 1 rfl rfl co3
  obtain ⟨z1, h1⟩ := hf 1 _ rfl 3 1 1 rfl rfl co3
  obtain ⟨a, rfl⟩ := one_int h0
  obtain ⟨b, rfl⟩ := one_int h1
  exact ⟨a, b, rfl, rfl⟩
set_option maxRecDepth 100000 in
theorem one_move (n : Nat) (cs : List Value) (y : DataW H × List MemPlace) (h : DataW.trod enc Try.prog w base sp held n 54 cs = some y) : ∃ m : Mv, cs = mvV m ∧ (mvV m).length = 4 ∧ True := by
  obtain ⟨hl, n', hf⟩ := st_field Try.underlying54 h
  rw [coM] at hl
  match cs, hl with
  | [c0, c1, c2, c3], _ =>
    obtain ⟨z0, h0⟩ := hf 0 _ rfl 25 0 2 rfl rfl coR
    obtain ⟨z1, h1⟩ := hf 1 _ rfl 25 2 2 rfl rfl coR
    obtain ⟨a, b, rfl, rfl⟩ := one_rid h0
    obtain ⟨c, d, rfl, rfl⟩ := one_rid h1
    exact ⟨(a, b, c, d), rfl, rfl, trivial⟩

theorem cellTyE : Try.prog.cellTypes Try.prog.depth 31 = some [3, 3, 3, 3, 3, 3, 3, 3, 3, 3, 22, 22, 26, 27, 28, 29] := by kernel_rfl
set_option maxRecDepth 100000 in
theorem cell_slE {c : Value} {n : Nat} {y : DataW H × List MemPlace} (hok : Cell.okWide Try.prog w .any b0 22 c) (h : DataW.trod enc Try.prog w base sp held n 22 [c] = some y) : ∃ l, SlK .u8 w c l := by
  have hv : Value.okWide Try.prog w .any b0 22 c := by
    simp only [Value.okWide, Try.underlying22]; exact hok
  obtain ⟨a0, len, cap, rfl⟩ := okWide_slice Try.underlying22 hv
  exact open_sl Try.underlying22 Try.underlying5 (by kernel_rfl) hv (show DataW.Trod enc Try.prog w base sp held 22 (.slice a0 len cap) y.1 y.2 from ⟨n, h⟩)

set_option maxRecDepth 100000 in
theorem open_en {v : Value} {d : DataW H} {p : List MemPlace} (hv : Value.okWide Try.prog w .any b0 31 v) (h : DataW.Trod enc Try.prog w base sp held 31 v d p) :
    ∃ e x, v = .agg (enC e x) ∧ EnRaw w e x := by
  have hv2 := hv
  simp only [Value.okWide, Try.underlying31] at hv2
  obtain ⟨cs, rfl, hsz, ts, hts, -, hrow⟩ := hv2
  rw [cellTyE] at hts
  cases hts
  have h16 : cs.size = 16 := hsz.trans (by kernel_rfl)
  obtain ⟨fuel, hf⟩ := h
  obtain ⟨l⟩ := cs
  match l, h16 with
  | [c0, c1, c2, c3, c4, c5, c6, c7, c8, c9, c10, c11, c12, c13, c14, c15], _ =>
    obtain ⟨_, n', hf⟩ := st_field Try.underlying31 (show DataW.trod enc Try.prog w base sp held fuel 31 [c0, c1, c2, c3, c4, c5, c6, c7, c8, c9, c10, c11, c12, c13, c14, c15] = some (d, p) from hf)
    obtain ⟨z0, h0⟩ := hf 0 _ rfl 3 0 1 rfl rfl co3
    obtain ⟨z1, h1⟩ := hf 1 _ rfl 3 1 1 rfl rfl co3
    obtain ⟨z2, h2⟩ := hf 2 _ rfl 3 2 1 rfl rfl co3
    obtain ⟨z3, h3⟩ := hf 3 _ rfl 3 3 1 rfl rfl co3
    obtain ⟨z4, h4⟩ := hf 4 _ rfl 3 4 1 rfl rfl co3
    obtain ⟨z5, h5⟩ := hf 5 _ rfl 3 5 1 rfl rfl co3
    obtain ⟨z6, h6⟩ := hf 6 _ rfl 25 6 2 rfl rfl coR
    obtain ⟨z7, h7⟩ := hf 7 _ rfl 25 8 2 rfl rfl coR
    obtain ⟨z9, h9⟩ := hf 9 _ rfl 22 11 1 rfl rfl coB
    obtain ⟨z10, h10⟩ := hf 10 _ rfl 26 12 1 rfl rfl coSM
    clear hf
    obtain ⟨a0, rfl⟩ := one_int h0
    obtain ⟨a1, rfl⟩ := one_int h1
    obtain ⟨a2, rfl⟩ := one_int h2
    obtain ⟨a3, rfl⟩ := one_int h3
    obtain ⟨a4, rfl⟩ := one_int h4
    obtain ⟨a5, rfl⟩ := one_int h5
    obtain ⟨a6, a7, rfl, rfl⟩ := one_rid h6
    obtain ⟨a8, a9, rfl, rfl⟩ := one_rid h7
    have ok11 : Cell.okWide Try.prog w .any b0 22 c11 := by
      obtain ⟨u, hu, ho⟩ := hrow 11 c11 rfl
      cases hu
      exact ho
    obtain ⟨nw, hN⟩ := cell_slE ok11 (show DataW.trod enc Try.prog w base sp held n' 22 [c11] = some z9 from h9)
    obtain ⟨ms, m1, -⟩ := open_els 4 (by decide) mvV (fun _ => True) Try.underlying26 coM one_move (show DataW.trod enc Try.prog w base sp held n' 26 [c12] = some z10 from h10)
    obtain ⟨NA, NK, rfl, -⟩ := id hN
    obtain ⟨MA, MK, e12, -⟩ := id m1
    rw [List.length_map] at e12
    subst e12
    exact ⟨⟨a0, a6, a7, a8, a9, nw, ms⟩, ⟨a1, a2, a3, a4, a5, c10, NA, NK, MA, MK, c13, c14, c15⟩, rfl, ⟨hN, m1⟩⟩
end
end Go.Proofs.Ytmijdjlpfjfjoaa.Rx
