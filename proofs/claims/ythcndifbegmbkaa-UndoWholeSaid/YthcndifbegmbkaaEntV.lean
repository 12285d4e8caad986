/- The reader: places, moves, lives, dirty pages, cells; The reader: cells; The reader: lists. -/
import Derived.Test.YthcndifbegmbkaaEntR
import Derived.Laws.Tables
import Derived.Deep.RegionWith
namespace Go.Proofs.Ythcndifbegmbkaa
open Go.RowKit


section
variable {w0 ws w w' : World} {p q : Nat} {cs cs' : Array Value} {t : TypeId} {sv sv' : Value} {l l' : List Int}
end
def plV (l : List Int) : Array Value := #[.int .i64 (numR l 1), .int .i64 (numR (dr l 1) 1)]
theorem infoRid : (Try.prog.info? 23).map (·.size) = some 2 := by kernel_rfl
theorem infoMove : (Try.prog.info? 49).map (·.size) = some 4 := by kernel_rfl
theorem infoLive : (Try.prog.info? 51).map (·.size) = some 4 := by kernel_rfl
theorem infoDirty : (Try.prog.info? 53).map (·.size) = some 2 := by kernel_rfl
theorem infoOpen : (Try.prog.info? 55).map (·.size) = some 3 := by kernel_rfl





end Go.Proofs.Ythcndifbegmbkaa
namespace Go.Proofs.Ythcndifbegmbkaa
open Go.RowKit

theorem dr_len (l : List Int) (k : Nat) : (dr l k).length = l.length - k := List.length_drop
/-- What is copied out of the bytes that are left, and what is left then. -/
theorem cel_out {w : World} {l : List Int} {A : Option Addr} {c : Nat} (hp : SlK .u8 w (.slice A l.length c) l) (hn : l.length ≤ 200000) :
    ∃ A' m' c' w', (∀ ty, (Builtin.append_ #[24, 24] ty #[.slice none 0 0, .slice A l.length c]).run Try.prog w = .ok (.slice A' m' c') w') ∧ w'.ownsRow w.heap.size 5 1 (.slice A' m' c') l.length (byteV l) ∧ Below w.heap.size w w' := by
  obtain ⟨v', w', hr, ho, hg, _⟩ := run_append_sl (xs := []) (World.ownsRow_nil w w.heap.size 5 1) hp.sw (by rw [Nat.zero_add]; exact hn) (Nat.le_refl _)
  obtain ⟨A', m', c', rfl⟩ := own_shape ho
  refine ⟨A', m', c', w', hr, by simpa using ho, ⟨hg.os, hg.tape, hg.output, hg.size, fun k hk => hg.block k hk (by simp [Value.ownBlock])⟩⟩
theorem own_set {w : World} {B p i n : Nat} {v x : Value} {xs : List Value} {e : TypeId} {sz : Nat} (h : w.ownsRow B e sz v n xs) (hp : p < B) : (w.setCell ⟨p, i, none⟩ x).ownsRow B e sz v n xs :=
  own_at h fun k hk => setCell_far _ _ _ _ (fun e => by have := (h.lt k hk).1; omega)

end Go.Proofs.Ythcndifbegmbkaa
namespace Go.Proofs.Ythcndifbegmbkaa
open Go.RowKit

theorem Rd.grow {w w1 w' : World} {p : Nat} {row : Option Nat} (h : Rd p w w1) (hg : w1.grownBy w' row) (hr : ∀ k, row = some k → w.heap.size ≤ k) : Rd p w w' :=
  ⟨hg.os.trans h.os, hg.tape.trans h.tape, hg.output.trans h.output, Nat.le_trans h.size hg.size, fun k hk hne => (hg.block k (Nat.lt_of_lt_of_le hk h.size) (fun e => by have := hr k e.symm; omega)).trans (h.block k hk hne)⟩
theorem flat_at {α : Type} {f : α → List Value} {k : Nat} (hf : ∀ x, (f x).length = k) : ∀ (xs : List α) (i j : Nat), i < xs.length → j < k → (xs.flatMap f)[i * k + j]? = ((xs.map f)[i]?.bind fun c => c[j]?)
  | [], i, j, h, _ => by cases h
  | x :: t, 0, j, _, hj => by
    rw [List.flatMap_cons, Nat.zero_mul, Nat.zero_add, List.getElem?_append_left (by rw [hf]; exact hj)]
    rfl
  | x :: t, i + 1, j, h, hj => by
    rw [List.flatMap_cons, List.getElem?_append_right (by rw [hf, Nat.succ_mul]; omega), hf, show (i + 1) * k + j - k = i * k + j by rw [Nat.succ_mul]; omega, flat_at hf t i j (by simpa using h) hj]
    rfl
theorem own_els {α : Type} {f : α → List Value} {k n B : Nat} (hf : ∀ x, (f x).length = k) {w : World} {e : TypeId} {v : Value} {xs : List α} (h : w.ownsRow B e k v n (xs.flatMap f)) (hn : xs.length = n) : Els w v k (xs.map f) ∧ ∀ b, v.ownBlock = some b → B ≤ b := by
  refine ⟨?_, fun b hb => (h.lt b hb).1⟩
  obtain ⟨h1, ⟨rfl, h0⟩ | ⟨g, cap, cur, rfl, hB, hg, hle, hm, hsz, htake⟩⟩ := h
  · obtain rfl : xs = [] := List.length_eq_zero_iff.1 (by omega)
    exact ⟨none, 0, rfl, Nat.le_refl _, fun _ => rfl, (fun a e => by cases e)⟩
  · refine ⟨some ⟨g, 0, none⟩, cap, by rw [List.length_map, hn], by rw [List.length_map]; omega, (fun e => by cases e), fun a e hne => ?_⟩
    cases e
    refine ⟨rfl, (Array.getElem?_eq_some_iff.1 hg).1, fun i j hi hj => ?_⟩
    rw [List.length_map] at hi
    have hij : i * k + j < n * k := by
      have := Nat.mul_le_mul_right k (show i + 1 ≤ n by omega)
      rw [Nat.succ_mul] at this
      omega
    show w.cell? ⟨g, 0 + i * k + j, none⟩ = _
    rw [Nat.zero_add, (cell_of hg _).1, ← flat_at hf xs i j hi hj, ← htake, List.getElem?_take, if_pos hij, Array.getElem?_toList]


theorem nR_len {α : Type} (f : List Int → α × List Int) (l : List Int) : ∀ k, (nR f k l).1.length = k
  | 0 => rfl
  | k + 1 => by simp [nR, nR_len f l k]
theorem own_n {w : World} {B sz n : Nat} {e : TypeId} {A : Option Addr} {m c : Nat} {xs : List Value} (h : w.ownsRow B e sz (.slice A m c) n xs) : m = n := by
  rcases h.2 with ⟨e, h0⟩ | ⟨g, cap, cur, e, _⟩
  · cases e; omega
  · cases e; rfl

theorem informoves_any : (Try.prog.info? 49).map (fun i => (i.zero, i.size, i.bytes)) = some (some (.agg #[.int .i64 0, .int .i64 0, .int .i64 0, .int .i64 0]), 4, 32) := by kernel_rfl

theorem inforlives_any : (Try.prog.info? 51).map (fun i => (i.zero, i.size, i.bytes)) = some (some (.agg #[.int .i64 0, .int .i64 0, .int .i64 0, .bool false]), 4, 32) := by kernel_rfl

theorem infordirtys_any : (Try.prog.info? 53).map (fun i => (i.zero, i.size, i.bytes)) = some (some (.agg #[.int .i64 0, .int .i64 0]), 2, 16) := by kernel_rfl

end Go.Proofs.Ythcndifbegmbkaa
