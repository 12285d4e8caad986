/- The tree's laws: key; a tree older than other things. -/
import Derived.Test.YtejbbojephiifaaTlR
import Derived.Deep.RegionHeld
namespace Go.Proofs.Ytejbbojephiifaa
open Go.RowKit

/-- A name by a number. -/
def keyN (n : Nat) : ByteArray := (ch2 (97 + n % 26) (97 + n / 26 % 26)).extract 0 (1 + n % 2)
theorem keyN_size (n : Nat) : (keyN n).size ≤ 2 := by
  unfold keyN
  rw [ByteArray.size_extract]
  have : (ch2 (97 + n % 26) (97 + n / 26 % 26)).size = 2 := rfl
  omega
set_option maxHeartbeats 2000000 in
theorem key_any (w : World) (n : Nat) (hn : n < 256) : Calls Try.prog 11 #[.int .u8 n] w fun e w' => e = .returned (.string (keyN n)) ∧ Below w.heap.size w w' := by
  have hcv := conv_two w (97 + n % 26) (97 + n / 26 % 26)
  have hab := (Below.refl w.heap.size w).alloc (Nat.le_refl _) (.cells #[.int .u8 ((97 + n % 26 : Nat) : Int), .int .u8 ((97 + n / 26 % 26 : Nat) : Int)] 5)
  have e1 : ((97 + n % 26 : Nat) : Int) = 97 + (n : Int) % 26 := by omega
  have e2 : ((97 + n / 26 % 26 : Nat) : Int) = 97 + (n : Int) / 26 % 26 := by omega
  rw [e1, e2] at hcv hab
  have hz : (ch2 (97 + n % 26) (97 + n / 26 % 26)).size = 2 := rfl
  have hex : (ch2 (97 + n % 26) (97 + n / 26 % 26)).extract 0 ((1 : Int) + (n : Int) % 2).toNat = keyN n := by
    unfold keyN
    congr 1
  generalize ch2 (97 + n % 26) (97 + n / 26 % 26) = tx at *
  clear e1 e2
  go_enter Try.func11, Try.ntmps11
  go_wp2
  go_ret
  exact ⟨rfl, hab⟩

/-- A tree that is older than N. -/
def TN (M N : Nat) (w : World) (p : Nat) (xs : List KV) : Prop := M ≤ w.heap.size ∧ ∃ L, TA w p xs L ∧ ∀ a ∈ L, M ≤ a ∧ a < N
theorem TT.tn {M p : Nat} {w w' : World} {xs : List KV} (h : TT M w p xs) (hb : Below w.heap.size w w') : TN M w.heap.size w' p xs := by
  obtain ⟨h0, L, h1, h2⟩ := h
  exact ⟨Nat.le_trans h0 hb.size, L, h1.below hb, fun a ha => ⟨h2 a ha, h1.lt a ha⟩⟩
theorem TN.tt {M N p : Nat} {w : World} {xs : List KV} (h : TN M N w p xs) : TT M w p xs := by
  obtain ⟨h0, L, h1, h2⟩ := h
  exact ⟨h0, L, h1, fun a ha => (h2 a ha).1⟩
theorem TN.old {M N p : Nat} {w w' : World} {xs : List KV} (h : TN M N w p xs) (hb : Below N w w') : TN M N w' p xs := by
  obtain ⟨h0, L, h1, h2⟩ := h
  exact ⟨Nat.le_trans h0 hb.size, L, h1.same (fun a ha => hb.block a (h2 a ha).2), h2⟩
theorem below_set {N q i : Nat} {w w' : World} (h : Below N w w') (hq : N ≤ q) (v : Value) : Below N w (w'.setCell ⟨q, i, none⟩ v) :=
  ((Fr.of_below (S := fun _ => False) h).setCell (p := ⟨q, i, none⟩) (.inr hq) v).toBelow (Nat.le_refl _) (fun _ e => e.elim)
/-- Blocks that may be written. -/
def RwAt (w : World) (q n : Nat) (t : TypeId) : Prop := ∃ cs : Array Value, w.heap[q]? = some (.cells cs t (0, 0)) ∧ n ≤ cs.size
theorem RwAt.cell {w : World} {q n i : Nat} {t : TypeId} (h : RwAt w q n t) (hi : i < n) : ∃ v, w.cell? ⟨q, i, none⟩ = some v ∧ w.frozen? ⟨q, i, none⟩ = false := by
  obtain ⟨cs, h1, h2⟩ := h
  exact ⟨cs[i]'(by omega), by rw [(cell_of h1 i).1]; exact Array.getElem?_eq_getElem (by omega), (cell_of h1 i).2⟩
theorem RwAt.set {w : World} {q n : Nat} {t : TypeId} (h : RwAt w q n t) (i : Nat) (v : Value) : RwAt (w.setCell ⟨q, i, none⟩ v) q n t := by
  obtain ⟨cs, h1, h2⟩ := h
  exact ⟨cs.setIfInBounds i v, heap_setCell_same w q i _ _ v h1, by simpa using h2⟩
theorem RwAt.other {w : World} {q n r i : Nat} {t : TypeId} (h : RwAt w q n t) (hne : q ≠ r) (v : Value) : RwAt (w.setCell ⟨r, i, none⟩ v) q n t := by
  obtain ⟨cs, h1, h2⟩ := h
  exact ⟨cs, (Below.heap_setCell w ⟨r, i, none⟩ v q hne).trans h1, h2⟩
theorem RwAt.below {w w' : World} {q n : Nat} {t : TypeId} (h : RwAt w q n t) (hb : Below w.heap.size w w') : RwAt w' q n t := by
  obtain ⟨cs, h1, h2⟩ := h
  exact ⟨cs, (hb.block q (Array.getElem?_eq_some_iff.1 h1).1).trans h1, h2⟩
theorem RwAt.ne {w : World} {q n q' n' : Nat} {t t' : TypeId} (h : RwAt w q n t) (h' : RwAt w q' n' t') (ht : t ≠ t') : q ≠ q' := by
  obtain ⟨_, h1, _⟩ := h
  obtain ⟨_, h2, _⟩ := h'
  exact ne_ty h1 h2 ht
theorem own_rw {w : World} {B k n : Nat} {e : TypeId} {q cp : Nat} {xs : List Value} (h : w.ownsRow B e k (.slice (some ⟨q, 0, none⟩) n cp) n xs) : RwAt w q (n * k) e ∧ B ≤ q := by
  rcases h.2 with ⟨h2, _⟩ | ⟨g, cap, cur, h2, hb, hq, h4, _, h6, _⟩
  · cases h2
  · cases h2
    exact ⟨⟨cur, hq, by rw [h6]; exact Nat.mul_le_mul_right _ h4⟩, hb⟩
end Go.Proofs.Ytejbbojephiifaa
