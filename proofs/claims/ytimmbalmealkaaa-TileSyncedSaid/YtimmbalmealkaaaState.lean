/- A disk beside a list of bytes in a block of its own. -/
import Derived.Test.YtimmbalmealkaaaFull
import Derived.Test.YtimmbalmealkaaaRow
namespace Go.Proofs.Ytimmbalmealkaaa
open Go.RowKit Go.Maps

def Says (d : Dk) (last : List Int) : Prop := ∀ n, (h : n < last.length) → (d.now n).getD zb = blkOf (rep last[n])

theorem Says.store {d : Dk} {last : List Int} (h : Says d last) (k : Nat) (c : Int) : Says (d.store k (blkOf (rep c))) (last.set k c) := by
  intro n hn
  rw [List.length_set] at hn
  show ((upd d.now k (some (blkOf (rep c)))) n).getD zb = _
  rw [List.getElem_set]
  by_cases e : k = n
  · subst e; rw [upd_same, if_pos rfl]; rfl
  · rw [upd_other _ (by omega), if_neg e]; exact h n hn

theorem says_fresh (T : Int) (n : Nat) : Says (.fresh T) (List.replicate n 0) := fun m h => by rw [List.getElem_replicate]; exact zb_of

structure Rest (ty : TypeId) (w : World) (p bn bo L : Nat) (wr : World) (last : List Int) : Prop where
  ok : bytesOk last
  at_ : wr.heap[L]? = some (.cells (byteV last).toArray ty (0, 0))
  below : Below w.heap.size w wr
  own : Own w.heap.size p bn bo
  base : w.heap.size ≤ L
  ne : ¬ Three p bn bo L

section
variable {ty : TypeId} {w wr w' : World} {p bn bo L : Nat} {last : List Int}
theorem Rest.lt (h : Rest ty w p bn bo L wr last) : L < wr.heap.size := (Array.getElem?_eq_some_iff.1 h.at_).1
theorem Rest.cell (h : Rest ty w p bn bo L wr last) {n : Nat} (hn : n < last.length) : wr.cell? ⟨L, n, none⟩ = some (.int .u8 last[n]) := by
  rw [(cell_of h.at_ n).1]
  simp [byteV, hn]
theorem Rest.fz (h : Rest ty w p bn bo L wr last) (n : Nat) : wr.frozen? ⟨L, n, none⟩ = false := (cell_of h.at_ n).2
theorem Rest.grown (h : Rest ty w p bn bo L wr last) (hb : Below wr.heap.size wr w') : Rest ty w p bn bo L w' last :=
  ⟨h.ok, below_old hb h.at_ (Nat.le_refl _), h.below.trans (hb.mono h.below.size), h.own, h.base, h.ne⟩
theorem Rest.fr (h : Rest ty w p bn bo L wr last) (hf : Fr wr.heap.size (Three p bn bo) wr w') : Rest ty w p bn bo L w' last :=
  ⟨h.ok, (hf.block L h.lt h.ne).trans h.at_, h.own.fr h.below h.below.size hf, h.own, h.base, h.ne⟩
theorem Rest.put (h : Rest ty w p bn bo L wr last) (k : Nat) {c : Int} (c0 : 0 ≤ c) (c1 : c < 256) : Rest ty w p bn bo L (wr.setCell ⟨L, k, none⟩ (.int .u8 c)) (last.set k c) := by
  refine ⟨?_, ?_, h.below.setCell h.base _, h.own, h.base, h.ne⟩
  · intro x hx
    rcases List.mem_or_eq_of_mem_set hx with h1 | rfl
    · exact h.ok x h1
    · exact ⟨c0, c1⟩
  · rw [heap_setCell_same wr L k _ _ _ h.at_]
    simp [byteV, List.map_set]
theorem Rest.disk (h : Rest ty w p bn bo L wr last) {d : Dk} {T : Int} (hd : DiskAt wr p bn bo 0 d) (hc : Calm d T) (k : Nat) (v : Value) : DiskAt (wr.setCell ⟨L, k, none⟩ v) p bn bo 0 d :=
  hd.away (fun k hk => Below.heap_setCell _ _ _ _ (fun (e : k = L) => h.ne (e ▸ hk))) (hc.slB _ _)
end

theorem DiskAt.drew {w : World} {p bn bo g : Nat} {d : Dk} (h : DiskAt w p bn bo g d) : DiskAt w.drew p bn bo g d := h.kept fun _ _ => rfl

theorem sl_u8 {w : World} {v : Value} {l : List Int} (h : SlK .u8 w v l) : ∃ p cap, v = .slice p l.length cap ∧ bytesOk l ∧ (p = none → l = []) ∧ ∀ a, p = some a → a.spot = none ∧ a.block < w.heap.size ∧ ∀ j (h : j < l.length), w.cell? ⟨a.block, a.off + j, none⟩ = some (.int .u8 l[j]) := by
  obtain ⟨p, cap, e, _, hw, h1, h2⟩ := h
  exact ⟨p, cap, e, fun x hx => by have := bounds_u8 (hw x hx); omega, fun e => (h1 e).1, fun a e => h2 a e⟩

theorem slK_B {w : World} {v : Value} {l : List Int} (h : SlK .u8 w v l) (hl : l.length ≤ 1000000) : ∃ g, SlB w v l g ∧ (g < w.heap.size ∨ l = []) ∧ (v = .slice none 0 0 ∨ ∃ a n c, v = .slice (some a) n c) := by
  obtain ⟨p, cap, e, hle, hw, h1, h2⟩ := h
  cases p with
  | none =>
    obtain ⟨rfl, rfl⟩ := h1 rfl
    exact ⟨0, by rw [e]; exact nil_SlB _ _, Or.inr rfl, Or.inl e⟩
  | some a =>
    obtain ⟨s1, s2, s3⟩ := h2 a rfl
    exact ⟨a.block, ⟨some a, _, cap, e, rfl, hle, hl, (fun e => by cases e), fun b eb => by cases eb; exact ⟨rfl, s1, s3⟩⟩, Or.inl s2, Or.inr ⟨a, _, cap, e⟩⟩
end Go.Proofs.Ytimmbalmealkaaa
