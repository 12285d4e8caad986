/- Frames: what is the same but for some blocks; rows of structs in memory of one's own; what is known of their types. -/
import Derived.Test.YtejbbojephiifaaRowAt
import Derived.Test.YtejbbojephiifaaTeO
import Derived.Deep.Onto
import Derived.Lib.Hide
import Derived.WalkKit
import Derived.WalkSpells
import Derived.WalkLawsBesides
import Derived.Deep.QuietTactic
import Derived.BigQuiet
import Derived.Laws.Rows
import Derived.OwnWalk
import Derived.Deep.CutBlock
import Derived.Deep.DeepCutAuto
import Derived.Shelf.SlSorted.Search
namespace Go.Proofs.Ytejbbojephiifaa
open Go.RowKit

/-- What is the same but for the blocks in S, below B. -/
structure Fr (B : Nat) (S : Nat → Prop) (w w' : World) : Prop where
  os : w'.os = w.os
  tape : w'.tape = w.tape
  output : w'.output = w.output
  size : w.heap.size ≤ w'.heap.size
  block : ∀ k, k < B → ¬ S k → w'.heap[k]? = w.heap[k]?

section
variable {B : Nat} {S : Nat → Prop} {a w w' : World}
theorem Fr.refl (B : Nat) (S : Nat → Prop) (w : World) : Fr B S w w := ⟨rfl, rfl, rfl, Nat.le_refl _, fun _ _ _ => rfl⟩
theorem Fr.trans {b c : World} {B' : Nat} {S' : Nat → Prop} (h : Fr B S a b) (k : Fr B' S' b c) (hB : B ≤ B') (hS : ∀ x, x < B → S' x → S x) : Fr B S a c :=
  ⟨k.os.trans h.os, k.tape.trans h.tape, k.output.trans h.output, Nat.le_trans h.size k.size, fun i hi hn => (k.block i (by omega) (fun e => hn (hS i hi e))).trans (h.block i hi hn)⟩
theorem Fr.below {b c : World} {B' : Nat} (h : Fr B S a b) (k : Below B' b c) (hB : B ≤ B') : Fr B S a c :=
  ⟨k.os.trans h.os, k.tape.trans h.tape, k.output.trans h.output, Nat.le_trans h.size k.size, fun i hi hn => (k.block i (by omega)).trans (h.block i hi hn)⟩
theorem Fr.of_below (k : Below B a w) : Fr B S a w := ⟨k.os, k.tape, k.output, k.size, fun i hi _ => k.block i hi⟩
theorem Fr.drew (h : Fr B S a w) : Fr B S a w.drew := ⟨h.os, h.tape, h.output, h.size, h.block⟩
theorem Fr.alloc (h : Fr B S a w) (hB : B ≤ w.heap.size) (o : Obj) : Fr B S a (w.alloc o) :=
  ⟨h.os, h.tape, h.output, by have := h.size; simp; omega, fun k hk hn => (Below.heap_alloc _ _ _ (by omega)).trans (h.block k hk hn)⟩
theorem Fr.setCell (h : Fr B S a w) {p : Addr} (hp : S p.block ∨ B ≤ p.block) (u : Value) : Fr B S a (w.setCell p u) :=
  ⟨h.os, h.tape, h.output, by have := h.size; simpa [World.setCell] using this, fun k hk hn => (Below.heap_setCell _ _ _ _ (by rintro rfl; rcases hp with hp | hp; exact hn hp; omega)).trans (h.block k hk hn)⟩
theorem Fr.setRow (h : Fr B S a w) {b : Nat} (hp : S b ∨ B ≤ b) (r : Array Value) : Fr B S a (w.setRow b r) := by
  refine ⟨h.os, h.tape, h.output, by have := h.size; simpa [World.setRow] using this, fun k hk hn => ?_⟩
  rw [← h.block k hk hn]
  show (w.heap.modify b _)[k]? = _
  rw [Array.getElem?_modify, if_neg]
  rintro rfl; rcases hp with hp | hp; exact hn hp; omega
theorem Fr.toBelow {B' : Nat} (h : Fr B S a w) (hB : B' ≤ B) (hS : ∀ k, S k → B' ≤ k) : Below B' a w :=
  ⟨h.os, h.tape, h.output, h.size, fun k hk => h.block k (by omega) (fun e => by have := hS k e; omega)⟩
end

theorem below_dn {B : Nat} {a w : World} (h : Below B a w) (m : Nat) : Below B a (w.drewN m) := ⟨h.os, h.tape, h.output, h.size, h.block⟩
theorem Fr.drewN {B : Nat} {S : Nat → Prop} {a w : World} (h : Fr B S a w) (m : Nat) : Fr B S a (w.drewN m) := ⟨h.os, h.tape, h.output, h.size, h.block⟩
theorem Fr.mono {B B' : Nat} {S S' : Nat → Prop} {a w : World} (h : Fr B S a w) (hB : B' ≤ B) (hS : ∀ k, k < B' → S k → S' k) : Fr B' S' a w := ⟨h.os, h.tape, h.output, h.size, fun k hk hn => h.block k (by omega) (fun e => hn (hS k hk e))⟩
theorem Fr.grown {B : Nat} {S : Nat → Prop} {a w w' : World} {v : Option Nat} (h : Fr B S a w) (g : w.grownBy w' v) (hB : B ≤ w.heap.size) (hv : ∀ b, v = some b → S b ∨ B ≤ b) : Fr B S a w' :=
  ⟨g.os.trans h.os, g.tape.trans h.tape, g.output.trans h.output, Nat.le_trans h.size g.size, fun k hk hn => (g.block k (by omega) (fun e => by rcases hv k e.symm with e | e; exact hn e; omega)).trans (h.block k hk hn)⟩
theorem cell_of {w : World} {p : Nat} {cs : Array Value} {t : TypeId} (h : w.heap[p]? = some (.cells cs t (0, 0))) (i : Nat) : w.cell? ⟨p, i, none⟩ = cs[i]? ∧ w.frozen? ⟨p, i, none⟩ = false := by
  simp [World.cell?, World.frozen?, h]
theorem own_shape {w : World} {B sz n : Nat} {e : TypeId} {v : Value} {xs : List Value} (h : w.ownsRow B e sz v n xs) : ∃ A cp, v = .slice A n cp := by
  rcases h.2 with ⟨rfl, rfl⟩ | ⟨g, cap, cur, rfl, _⟩
  · exact ⟨none, 0, rfl⟩
  · exact ⟨_, _, rfl⟩
theorem own_lt {w : World} {B sz n : Nat} {e : TypeId} {v : Value} {xs : List Value} (h : w.ownsRow B e sz v n xs) {b : Nat} (hb : v.ownBlock = some b) : b < w.heap.size := (h.lt b hb).2
theorem own_same {w w' : World} {B sz n : Nat} {e : TypeId} {v : Value} {xs : List Value} (h : w.ownsRow B e sz v n xs) (hb : ∀ b, v.ownBlock = some b → w'.heap[b]? = w.heap[b]?) : w'.ownsRow B e sz v n xs := by
  refine ⟨h.1, ?_⟩
  rcases h.2 with h2 | ⟨g, cap, cur, rfl, h3, hg, h4⟩
  · exact .inl h2
  · exact .inr ⟨g, cap, cur, rfl, h3, (hb g rfl).trans hg, h4⟩
theorem own_zero {w : World} {B sz n : Nat} {e : TypeId} {v : Value} {xs : List Value} (h : w.ownsRow B e sz v n xs) : w.ownsRow 0 e sz v n xs := by
  refine ⟨h.1, ?_⟩
  rcases h.2 with h2 | ⟨g, cap, cur, rfl, h3, hg, h4⟩
  · exact .inl h2
  · exact .inr ⟨g, cap, cur, rfl, Nat.zero_le _, hg, h4⟩
theorem flat_len {α : Type} {f : α → List Value} {k : Nat} (hf : ∀ x, (f x).length = k) (l : List α) : (l.flatMap f).length = l.length * k := by
  induction l with
  | nil => simp
  | cons x r ih => rw [List.flatMap_cons, List.length_append, hf, ih, List.length_cons, Nat.succ_mul]; omega
theorem flat_at {α : Type} {f : α → List Value} {k : Nat} (hf : ∀ x, (f x).length = k) (l : List α) : ∀ (i j : Nat) (h : i < l.length), j < k → (l.flatMap f)[i * k + j]? = (f l[i])[j]? := by
  induction l with
  | nil => intro i j h; cases h
  | cons x r ih =>
    intro i j h hj
    rw [List.flatMap_cons]
    cases i with
    | zero =>
      rw [Nat.zero_mul, Nat.zero_add, List.getElem?_append_left (by rw [hf]; exact hj)]
      rfl
    | succ i =>
      have e : (i + 1) * k + j = (f x).length + (i * k + j) := by rw [hf, Nat.succ_mul]; omega
      rw [e, List.getElem?_append_right (by omega), Nat.add_sub_cancel_left, ih i j (by simpa using h) hj]
      rfl
/-- The cells of a row of one's own. -/
theorem own_cell {α : Type} {f : α → List Value} {k : Nat} (hf : ∀ x, (f x).length = k) {w : World} {B : Nat} {e : TypeId} {g o n c : Nat} {l : List α} (h : w.ownsRow B e k (.slice (some ⟨g, o, none⟩) n c) l.length (l.flatMap f)) {i j : Nat} (hi : i < l.length) (hj : j < k) : w.cell? ⟨g, i * k + j, none⟩ = (f l[i])[j]? ∧ w.frozen? ⟨g, i * k + j, none⟩ = false := by
  rcases h.2 with ⟨h2, _⟩ | ⟨g', cap, cur, h2, h3, hg, h4, h5, h6, h7⟩
  · cases h2
  · cases h2
    refine ⟨?_, (cell_of hg _).2⟩
    rw [(cell_of hg _).1, ← flat_at hf l i j hi hj, ← h7, List.getElem?_take, if_pos, Array.getElem?_toList]
    have := Nat.mul_le_mul_right k (show i + 1 ≤ l.length by omega)
    rw [Nat.succ_mul] at this
    omega
theorem infoKV : (Try.prog.info? 78).map (fun i => (i.zero, i.size, i.bytes)) = some (some (.agg #[.string ⟨#[]⟩, .int .i64 0, .int .i64 0]), 3, 32) := by kernel_rfl
theorem infoKN : (Try.prog.info? 72).map (fun i => (i.zero, i.size, i.bytes)) = some (some (.agg #[.string ⟨#[]⟩, .pointer none]), 2, 24) := by kernel_rfl
theorem szKV : (Try.prog.info? 78).map (·.size) = some 3 := by kernel_rfl
theorem szKN : (Try.prog.info? 72).map (·.size) = some 2 := by kernel_rfl
theorem atKV (x : KV) : (Try.prog.info? 78).map (·.size) = some x.en.toArray.size := szKV
theorem atKN (x : KN) : (Try.prog.info? 72).map (·.size) = some x.en.toArray.size := szKN
theorem undKV : Try.prog.underlying 78 = some (.struct (Try.prog.fieldsOf 78)) := by kernel_rfl
theorem undKN : Try.prog.underlying 72 = some (.struct (Try.prog.fieldsOf 72)) := by kernel_rfl
end Go.Proofs.Ytejbbojephiifaa
