/- Slices of arrays and of structs that come in, as rows that are only read. -/
import Derived.Test.YtcfibmbeojdifaaWtL
import Derived.Test.YtcfibmbeojdifaaRow
import Derived.OpenShut
import Derived.Deep.Slices
namespace Go.Proofs.Ytcfibmbeojdifaa
open Go.ChangeShapes Go.WideShapes Go.ChangeAt Go.RowKit Go.Deep

/-- A slice of elements of k cells each: any that reads these. -/
def RdE (w : World) (v : Value) (k : Nat) (xs : List (List Value)) : Prop := ∃ A c, v = .slice A xs.length c ∧ ∀ i (hi : i < xs.length), ∃ g o, A = some ⟨g, o, none⟩ ∧ g < w.heap.size ∧ ∀ j, j < k → w.cell? ⟨g, o + i * k + j, none⟩ = xs[i][j]?
theorem add_at (ab ao n : Nat) : (⟨ab, ao, none⟩ : Addr).add n = ⟨ab, ao + n, none⟩ := by
  unfold Addr.add; split <;> simp_all
theorem spot_of {w : World} {a : Addr} {v : Value} (h : w.cell? a = some v) : a.spot = none := by
  unfold World.cell? at h
  split at h
  · split at h
    · cases h
    · rename_i hn
      cases hsp : a.spot with
      | none => rfl
      | some y => rw [hsp] at hn; exact absurd rfl hn
  · cases h

section
variable {H : Type} {enc : TypeId × Value → H} {w : World} {base b0 : Nat} {sp : Nat → Bool} {held : Bool}

set_option maxRecDepth 100000 in
theorem open_els {α : Type} (k : Nat) (hk0 : 0 < k) (V : α → List Value) (Pr : α → Prop) {t te : TypeId} (ht : Try.prog.underlying t = some (.slice te)) (hk : Try.prog.cellsOf te = k)
    (hone : ∀ n cs y, DataW.trod enc Try.prog w base sp held n te cs = some y → ∃ x : α, cs = V x ∧ (V x).length = k ∧ Pr x) {fuel : Nat} {v : Value} {y : DataW H × List MemPlace} (h : DataW.trod enc Try.prog w base sp held fuel t [v] = some y) :
    ∃ xs : List α, RdE w v k (xs.map V) ∧ (∀ x ∈ xs, Pr x) ∧ xs.length ≤ maxLen := by
  rcases open_slice ht h with ⟨hcs, _⟩ | ⟨a, len, cap, m, n, D, Pl, hcs, _, hl, hm, hmm, _, hx⟩
  · injection hcs with e _
    subst e
    exact ⟨[], ⟨none, 0, rfl, fun i hi => by simp at hi⟩, (fun x hx => by cases hx), Nat.zero_le _⟩
  · injection hcs with e _
    subst e
    have hq : ∀ i, i < len → ∃ x : α, Pr x ∧ (V x).length = k ∧ ∀ j, j < k → w.cell? ((a.add (i * k)).add j) = (V x)[j]? := fun i hi => by
      obtain ⟨cs, hc, hT⟩ := hx i (by rw [hmm]; split <;> omega)
      rw [hk] at hc
      obtain ⟨_, hcl, hat⟩ := World.cells?_some hc
      obtain ⟨x, rfl, hvl, hp⟩ := hone _ _ _ hT
      exact ⟨x, hp, hvl, hat⟩
    let xs : List α := List.ofFn fun i : Fin len => Classical.choose (hq i.1 i.2)
    have hlen : xs.length = len := List.length_ofFn
    have hget : ∀ i (hi : i < len) (hi' : i < xs.length), Pr xs[i] ∧ (V xs[i]).length = k ∧ ∀ j, j < k → w.cell? ((a.add (i * k)).add j) = (V xs[i])[j]? := fun i hi hi' => by
      have : xs[i] = Classical.choose (hq i hi) := by simp [xs]
      rw [this]
      exact Classical.choose_spec (hq i hi)
    refine ⟨xs, ⟨some a, cap, by rw [List.length_map, hlen], fun i hi => ?_⟩, fun x hx' => ?_, by rw [hlen]; exact Nat.le_trans hl hm⟩
    · rw [List.length_map] at hi
      have hs : a.spot = none := by
        obtain ⟨_, hv0, hc0⟩ := hget 0 (by omega) (by omega)
        have c0 := hc0 0 hk0
        rw [Nat.zero_mul, List.getElem?_eq_getElem (by omega)] at c0
        have e1 : (a.add 0).add 0 = a := rfl
        rw [e1] at c0
        exact spot_of c0
      obtain ⟨_, hv0, hc0⟩ := hget i (by omega) hi
      have c0 := hc0 0 hk0
      rw [List.getElem?_eq_getElem (by omega)] at c0
      obtain ⟨ab, ao, asp⟩ := a
      dsimp only at hs
      subst hs
      refine ⟨ab, ao, rfl, ?_, fun j hj => ?_⟩
      · rw [add_at, add_at] at c0
        exact World.block_lt_of_cell? w _ c0
      · have := hc0 j hj
        rw [add_at, add_at] at this
        rw [this, List.getElem_map]
    · obtain ⟨i, hi, rfl⟩ := List.mem_iff_getElem.1 hx'
      exact (hget i (by omega) hi).1

theorem st_field {t : TypeId} {fs : Array Field} {fuel : Nat} {cs : List Value} {y : DataW H × List MemPlace} (hu : Try.prog.underlying t = some (.struct fs)) (h : DataW.trod enc Try.prog w base sp held fuel t cs = some y) :
    cs.length = Try.prog.cellsOf t ∧ ∃ n', ∀ (i : Nat) (f : Field), fs[i]? = some f → ∀ (t' : TypeId) (o k : Nat), f.type = t' → f.offset = o → Try.prog.cellsOf t' = k → ∃ z, DataW.trod enc Try.prog w base sp held n' t' ((cs.drop o).take k) = some z := by
  obtain ⟨xs, n', _, _, hl, hxl, hfs⟩ := DataW.trod_struct hu h
  refine ⟨hl, n', fun i f hf t' o k e1 e2 e3 => ?_⟩
  subst e1 e2 e3
  have hi : i < xs.length := by rw [hxl]; exact (Array.getElem?_eq_some_iff.1 hf).1
  exact ⟨xs[i], by rw [hfs i f hf, List.getElem?_eq_getElem hi]⟩
theorem one_int {n : Nat} {c : Value} {z : DataW H × List MemPlace} (h : DataW.trod enc Try.prog w base sp held n 3 [c] = some z) : ∃ a, c = .int .i64 a ∧ Wf a := by
  obtain ⟨a, e, _, g⟩ := DataW.trod_int Try.underlying3 h
  injection e with e _
  exact ⟨a, e, g⟩
theorem coI : Try.prog.cellsOf 3 = 1 := by kernel_rfl
/-- A slice of numbers that came in. -/
theorem open_nums {fuel : Nat} {c : Value} {y : DataW H × List MemPlace} (h : DataW.trod enc Try.prog w base sp held fuel 30 [c] = some y) : ∃ on : List Int, RdI w c on ∧ (∀ x ∈ on, Wf x) ∧ on.length ≤ maxLen := by
  obtain ⟨xs, ⟨A, cp, hv, hA⟩, h2, h3⟩ := open_els 1 (by decide) (fun x : Int => [Value.int .i64 x]) Wf Try.underlying30 coI (fun n cs y hy => by
    obtain ⟨a, e, _, g⟩ := DataW.trod_int Try.underlying3 hy
    exact ⟨a, e, rfl, g⟩) h
  rw [List.length_map] at hv
  refine ⟨xs, ⟨A, cp, hv, fun j hj => ?_⟩, h2, h3⟩
  obtain ⟨g, o, e, hg, hc⟩ := hA j (by rw [List.length_map]; exact hj)
  have := hc 0 (by decide)
  rw [List.getElem_map] at this
  exact ⟨g, o, e, hg, by simpa using this⟩
theorem coU : Try.prog.cellsOf 5 = 1 := by kernel_rfl
theorem coP : Try.prog.cellsOf 43 = 2 := by kernel_rfl
def pV (q : Int × Int) : List Value := [.int .u8 q.1, .int .u8 q.2]
/-- A pair of bytes that came in. -/
theorem one_pair (n : Nat) (cs : List Value) (y : DataW H × List MemPlace) (h : DataW.trod enc Try.prog w base sp held n 43 cs = some y) : ∃ q : Int × Int, cs = pV q ∧ (pV q).length = 2 ∧ ((0 ≤ q.1 ∧ q.1 ≤ 255) ∧ 0 ≤ q.2 ∧ q.2 ≤ 255) := by
  obtain ⟨xs, m, _, _, hl, hxl, hi⟩ := DataW.trod_array Try.underlying43 h
  rw [coP] at hl
  rw [coU] at hi
  match cs, hl with
  | [c0, c1], _ =>
    have h0 := hi 0 (by decide)
    have h1 := hi 1 (by decide)
    rw [List.getElem?_eq_getElem (by omega)] at h0 h1
    obtain ⟨a, e0, _, wa⟩ := DataW.trod_int Try.underlying5 h0
    obtain ⟨b, e1, _, wb⟩ := DataW.trod_int Try.underlying5 h1
    simp only [Nat.zero_mul, Nat.one_mul, List.drop_zero, List.take_succ_cons, List.take_zero, List.drop_succ_cons] at e0 e1
    injection e0 with e0 _
    injection e1 with e1 _
    have k : ∀ {x : Int}, (Lit.int .u8 x).wf = true → 0 ≤ x ∧ x ≤ 255 := fun {x} hx => by
      simp only [Lit.wf, Bool.and_eq_true, decide_eq_true_eq] at hx
      have hmin : IntKind.u8.min = 0 := rfl
      have hmax : IntKind.u8.max = 255 := rfl
      omega
    exact ⟨(a, b), by rw [e0, e1]; rfl, rfl, k wa, k wb⟩
end
end Go.Proofs.Ytcfibmbeojdifaa
