/- A law's row where the program's own tables are listed: the world's shape and the list together; the witness; what the list says of the tables. -/
import Derived.Test.YtlphbnjoopaboaaDoorMdT
import Derived.Test.YtlphbnjoopaboaaDoorCards
import Derived.Test.YtlphbnjoopaboaaDoorTie
import Derived.SevenTiedAt
import Derived.LaidMore
import Derived.Handed
namespace Go.Proofs.YtlphbnjoopaboaaDoor
open Go.ChangeShapes Go.WideShapes Go.ChangeAt Go.RowKit

def laid2 : List (String × DataW Unit) := [("whim/mode.goes", Rows.laid_whim_mode_goes), ("whim/mode.joined", Rows.laid_whim_mode_joined)]
theorem own : ownKnob Tryd.prog.godebug = none := by kernel_rfl
theorem laidOut : laidOutB Tryd.prog = true := by kernel_rfl
set_option maxRecDepth 100000 in
theorem world_shaped (os : Os) (args : Array Value) : ((World.laidAll Tryd.prog os laid2).forCall (fun _ _ => 0) ⟨#[], args, []⟩).Shaped Tryd.prog := World.shaped_of_ZipB (by kernel_rfl) (by kernel_rfl)
set_option maxRecDepth 100000 in
theorem world_met (os : Os) (args : Array Value) : laidMetH Tryd.prog laid2 ((World.laidAll Tryd.prog os laid2).forCall (fun _ _ => 0) ⟨#[], args, []⟩).memory := by
  rw [MakeChecks.laidMetH_plain _ _ _ (by kernel_rfl)]; exact laidMet_laidAll _ (by kernel_rfl) (by kernel_rfl)

theorem gGoes : Tryd.prog.globalNamed "whim/mode.goes" = some 1 := by kernel_rfl
theorem gJoined : Tryd.prog.globalNamed "whim/mode.joined" = some 0 := by kernel_rfl
theorem tGoes : (Tryd.prog.globals[1]?).map (·.type) = some 64 := by kernel_rfl
theorem tJoined : (Tryd.prog.globals[0]?).map (·.type) = some 62 := by kernel_rfl

theorem row_cell {cs : List Value} {m i j : Nat} {v : Value} (h : (((cs.drop (i * m)).take m).drop (j * 1)).take 1 = [v]) : cs[i * m + j]? = some v := by
  have h0 := congrArg (fun l => l[0]?) h
  simp [List.getElem?_take, List.getElem?_drop] at h0
  exact h0.2

theorem tb_of {W : World} (h : laidMetH Tryd.prog laid2 W) : Tb W := by
  rw [MakeChecks.laidMetH_plain _ _ _ (by kernel_rfl)] at h
  obtain ⟨g0, t0, c0, f0, p0, hg0, ht0, hv0, hd0⟩ := Lib.laidMet.reads h (n := "whim/mode.goes") (d := Rows.laid_whim_mode_goes) (by simp [laid2])
  obtain ⟨g1, t1, c1, f1, p1, hg1, ht1, hv1, hd1⟩ := Lib.laidMet.reads h (n := "whim/mode.joined") (d := Rows.laid_whim_mode_joined) (by simp [laid2])
  obtain rfl := Option.some.inj (gGoes.symm.trans hg0)
  obtain rfl := Option.some.inj (gJoined.symm.trans hg1)
  obtain rfl := Option.some.inj (tGoes.symm.trans ht0)
  obtain rfl := Option.some.inj (tJoined.symm.trans ht1)
  have cb : Tryd.prog.cellsOf 4 = 1 := by kernel_rfl
  have ci : Tryd.prog.cellsOf 3 = 1 := by kernel_rfl
  have cb5 : Tryd.prog.cellsOf 63 = 5 := by kernel_rfl
  have ci5 : Tryd.prog.cellsOf 61 = 5 := by kernel_rfl
  have G : ∀ a b : Nat, a < 5 → b < 5 → W.cell? ⟨1, a * 5 + b, none⟩ = some (.bool (gN a b)) := by
    intro a b ha hb
    obtain ⟨_, d1, q1, e1, h1⟩ := Lib.array_elem Tryd.underlying64 hd0 a ha
    rw [cb5] at h1
    have hd : d1 = .agg ((List.range 5).map fun j => .lit (.bool (gN a j))) := by
      match a, ha with
      | 0, _ | 1, _ | 2, _ | 3, _ | 4, _ => cases e1; rfl
      | _ + 5, h => omega
    subst hd
    obtain ⟨_, d2, q2, e2, h2⟩ := Lib.array_elem Tryd.underlying63 h1 b hb
    rw [cb] at h2
    obtain ⟨x, hx, hy⟩ := DataW.trod_bool Tryd.underlying4 h2
    obtain ⟨rfl, _⟩ := Prod.mk.inj hy
    have e3 := row_cell hx
    rw [World.var?_cell gGoes hv0, ← Array.getElem?_toList, e3]
    simp [hb] at e2
    rw [e2]
  have J : ∀ a b : Nat, a < 5 → b < 5 → W.cell? ⟨0, a * 5 + b, none⟩ = some (.int .i64 (jN a b)) := by
    intro a b ha hb
    obtain ⟨_, d1, q1, e1, h1⟩ := Lib.array_elem Tryd.underlying62 hd1 a ha
    rw [ci5] at h1
    have hd : d1 = .agg ((List.range 5).map fun j => .lit (.int .i64 (jN a j))) := by
      match a, ha with
      | 0, _ | 1, _ | 2, _ | 3, _ | 4, _ => cases e1; rfl
      | _ + 5, h => omega
    subst hd
    obtain ⟨_, d2, q2, e2, h2⟩ := Lib.array_elem Tryd.underlying61 h1 b hb
    rw [ci] at h2
    obtain ⟨x, hx, hy, _⟩ := DataW.trod_int Tryd.underlying3 h2
    obtain ⟨rfl, _⟩ := Prod.mk.inj hy
    have e3 := row_cell hx
    rw [World.var?_cell gJoined hv1, ← Array.getElem?_toList, e3]
    simp [hb] at e2
    rw [e2]
  refine ⟨G, J, ?_⟩
  have lt_of : ∀ {a : Addr} {v : Value}, W.cell? a = some v → a.block < W.heap.size := fun {a v} h => by
    by_cases e : a.block < W.heap.size
    · exact e
    · have e2 : W.heap[a.block]? = none := Array.getElem?_eq_none (by omega)
      simp [World.cell?, e2] at h
  have h0 : 0 < W.heap.size := lt_of (J 0 0 (by decide) (by decide))
  have h1 : 1 < W.heap.size := lt_of (G 0 0 (by decide) (by decide))
  omega
end Go.Proofs.YtlphbnjoopaboaaDoor
