/- The reference's cache in memory. -/
import Derived.Test.YtnpgiboapckgpaaHdV
namespace Go.Proofs.Ytnpgiboapckgpaa
open Go.RowKit

def Pl.r (x : Pl) : Array Value := #[.int .i64 x.k, .string x.v, .bool x.u, .bool x.b, .int .i64 (x.n : Int)]
theorem Pl.r_size (x : Pl) : x.r.size = 5 := rfl
def rowR (n : Nat) (P : Nat → Pl) : Array Value := rowV n 5 fun i => (P i).r
theorem rowR_size (n : Nat) (P : Nat → Pl) : (rowR n P).size = n * 5 := rowV_size ..
theorem rowR_at {n : Nat} (P : Nat → Pl) {i j : Nat} (hi : i < n) (hj : j < 5) : (rowR n P)[i * 5 + j]? = (P i).r[j]? := rowV_at (fun i => (P i).r_size) hi hj
theorem rowR_set {n : Nat} (P : Nat → Pl) {i j : Nat} (hi : i < n) (hj : j < 5) (v : Value) (x : Pl) (hx : (P i).r.setIfInBounds j v = x.r) : (rowR n P).setIfInBounds (i * 5 + j) v = rowR n (up P i x) := by
  unfold rowR
  rw [rowV_set (fun i => (P i).r_size) hi hj, hx]
  congr 1
  funext m
  unfold updV up
  split <;> rfl
theorem rowR_put {n : Nat} (P : Nat → Pl) {i : Nat} (hi : i < n) (x : Pl) : putRow (rowR n P) (i * 5) x.r.toList = rowR n (up P i x) := by
  unfold rowR
  rw [rowV_put (fun i => (P i).r_size) (by omega) hi x.r_size]
  congr 1
  funext m
  unfold updV up
  split <;> rfl

structure RA (w : World) (p g : Nat) (s : St) : Prop where
  hp : w.heap[p]? = some (.cells #[.slice (some ⟨g, 0, none⟩) s.n s.n, .int .i64 (s.a : Int)] 52 (0, 0))
  hg : w.heap[g]? = some (.cells (rowR s.n s.P) 60 (0, 0))
  ne : p ≠ g
  la : s.a < s.n
  ln : s.n ≤ 64

section
variable {w w' : World} {p g : Nat} {s : St}
theorem RA.lp (h : RA w p g s) : p < w.heap.size := (Array.getElem?_eq_some_iff.1 h.hp).1
theorem RA.lg (h : RA w p g s) : g < w.heap.size := (Array.getElem?_eq_some_iff.1 h.hg).1
theorem RA.cell (h : RA w p g s) {i j : Nat} (hi : i < s.n) (hj : j < 5) : w.cell? ⟨g, i * 5 + j, none⟩ = (s.P i).r[j]? := by
  rw [(cell_of h.hg (i * 5 + j)).1, rowR_at s.P hi hj]
theorem RA.froz (h : RA w p g s) (o : Nat) : w.frozen? ⟨g, o, none⟩ = false := (cell_of h.hg o).2
theorem RA.c0 (h : RA w p g s) : w.cell? ⟨p, 0, none⟩ = some (.slice (some ⟨g, 0, none⟩) s.n s.n) := (cell_of h.hp 0).1
theorem RA.c1 (h : RA w p g s) : w.cell? ⟨p, 1, none⟩ = some (.int .i64 (s.a : Int)) := (cell_of h.hp 1).1
theorem RA.f1 (h : RA w p g s) : w.frozen? ⟨p, 1, none⟩ = false := (cell_of h.hp 1).2
theorem RA.same (h : RA w p g s) (h1 : w'.heap[p]? = w.heap[p]?) (h2 : w'.heap[g]? = w.heap[g]?) : RA w' p g s := ⟨h1.trans h.hp, h2.trans h.hg, h.ne, h.la, h.ln⟩
theorem RA.below (h : RA w p g s) {B : Nat} (hb : Below B w w') (h1 : p < B) (h2 : g < B) : RA w' p g s := h.same (hb.block p h1) (hb.block g h2)
theorem RA.on (h : RA w p g s) (hb : Below w.heap.size w w') : RA w' p g s := h.below hb h.lp h.lg
theorem RA.drew (h : RA w p g s) : RA w.drew p g s := h.same rfl rfl
theorem RA.fr (h : RA w p g s) {B : Nat} {S : Nat → Prop} (hb : Fr B S w w') (h1 : p < B) (h2 : g < B) (n1 : ¬ S p) (n2 : ¬ S g) : RA w' p g s := h.same (hb.block p h1 n1) (hb.block g h2 n2)
theorem RA.set (h : RA w p g s) {i j : Nat} (hi : i < s.n) (hj : j < 5) (v : Value) (x : Pl) (hx : (s.P i).r.setIfInBounds j v = x.r) : RA (w.setCell ⟨g, i * 5 + j, none⟩ v) p g { s with P := up s.P i x } := by
  refine ⟨(Below.heap_setCell w _ _ _ h.ne).trans h.hp, ?_, h.ne, h.la, h.ln⟩
  rw [setCell_eq_setRow w g (i * 5 + j) _ _ (0, 0) v h.hg]
  rw [setRow_heap w g _ _ _ _ h.hg]
  rw [rowR_set s.P hi hj v x hx]
theorem RA.at_ (h : RA w p g s) {a : Nat} (ha : a < s.n) : RA (w.setCell ⟨p, 1, none⟩ (.int .i64 (a : Int))) p g { s with a := a } := by
  refine ⟨?_, (Below.heap_setCell w _ _ _ (Ne.symm h.ne)).trans h.hg, h.ne, ha, h.ln⟩
  rw [setCell_eq_setRow w p 1 _ _ (0, 0) _ h.hp, setRow_heap w p _ _ _ _ h.hp]
  rfl
theorem RA.put (h : RA w p g s) {i : Nat} (hi : i < s.n) (x : Pl) : RA (w.setRow g (putRow (rowR s.n s.P) (i * 5) x.r.toList)) p g { s with P := up s.P i x } := by
  have hle : g ≠ p := Ne.symm h.ne
  refine ⟨?_, ?_, h.ne, h.la, h.ln⟩
  · rw [← h.hp]
    show (w.heap.modify g _)[p]? = _
    rw [Array.getElem?_modify, if_neg hle]
  · rw [setRow_heap w g _ _ _ _ h.hg, rowR_put s.P hi x]
end
theorem RA.drewN {w : World} {p g : Nat} {s : St} (h : RA w p g s) (m : Nat) : RA (w.drewN m) p g s := h.same rfl rfl
theorem run_rplace : Try.prog.underlying 60 = some (.struct (Try.prog.fieldsOf 60)) := by kernel_rfl
theorem info_rplace (x : Pl) : (Try.prog.info? 60).map (·.size) = some x.r.size := by
  rw [x.r_size]; kernel_rfl
theorem rplace_one (x : Pl) : x.r.all (·.oneCell') = true := by simp [Pl.r, Value.oneCell']
/-- A number of a place, -1 if there is none. -/
def num (n i : Nat) : Value := .int .i64 (if i < n then (i : Int) else -1)
theorem num_some {n i : Nat} (h : i < n) : num n i = .int .i64 (i : Int) := by unfold num; rw [if_pos h]
theorem num_none {n : Nat} : num n n = .int .i64 (-1) := by unfold num; rw [if_neg (Nat.lt_irrefl _)]

set_option maxHeartbeats 1000000 in
theorem rfind_any (w : World) {p g : Nat} {s : St} {k : Int} {i : Nat} (hh : RA w p g s) (hf : First s.n (hit s k) i) :
    Calls Try.prog 28 #[.pointer (some ⟨p, 0, none⟩), .int .i64 k] w fun e w' => e = .returned (num s.n i) ∧ w' = w := by
  have hN := hh.ln
  have HH := Lib.hid hh
  have HF := Lib.hid hf
  have hi := hf.le
  have h0 := hh.c0
  clear hh hf
  go_enter Try.func28, Try.ntmps28
  go_wp2_with fail
  go_loopw [5] (fun v wr => ∃ t : Nat, t ≤ i ∧ v = .int .i64 (t : Int) ∧ w = wr) (fun v _ => s.n - lvN v)
  case atStart => exact ⟨0, Nat.zero_le _, rfl, rfl⟩
  case round =>
    obtain ⟨t, ht, rfl, rfl⟩ := hrel
    by_cases hlt : t < s.n
    · have HLT := Lib.hid hlt
      have c0 := HH.out.cell hlt (j := 0) (by omega)
      rw [Nat.add_zero, show (s.P t).r[0]? = some (.int .i64 (s.P t).k) from rfl] at c0
      have c2 := HH.out.cell hlt (j := 2) (by omega)
      rw [show (s.P t).r[2]? = some (.bool (s.P t).u) from rfl] at c2
      by_cases he : t = i
      · have hfi := HF.out.yes (he ▸ hlt)
        subst he
        clear hi ht
        have hu : (s.P t).u = true := by unfold hit at hfi; simp at hfi; exact hfi.1
        have hk : (s.P t).k = k := by unfold hit at hfi; simp at hfi; exact hfi.2
        rw [hu] at c2
        rw [hk] at c0
        clear hfi hu hk
        go_wp2_with fail
        go_ret
        exact ⟨by rw [num_some HLT.out]; rfl, rfl⟩
      · have hfi := HF.out.no t (by omega)
        have HT : Hid (t + 1 ≤ i) := Lib.hid (by omega)
        clear he hi ht
        cases hu : (s.P t).u with
        | false =>
          rw [hu] at c2
          clear hfi hu
          go_wp2_with fail
          go_roundw
          case rel => exact ⟨t + 1, HT.out, by go_num, trivial⟩
          case measure => simp [lvN]; omega
        | true =>
          have hk : ((s.P t).k == k) = false := by unfold hit at hfi; rw [hu] at hfi; simpa using hfi
          rw [hu] at c2
          clear hfi hu
          go_wp2_with fail
          go_roundw
          case rel => exact ⟨t + 1, HT.out, by go_num, trivial⟩
          case measure => simp [lvN]; omega
    · have he : t = i := by omega
      subst he
      obtain rfl : t = s.n := by omega
      go_wp2_with fail
      go_ret
      exact ⟨by rw [num_none]; rfl, rfl⟩
end Go.Proofs.Ytnpgiboapckgpaa
