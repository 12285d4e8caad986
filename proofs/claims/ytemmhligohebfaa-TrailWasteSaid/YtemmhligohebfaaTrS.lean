/- The log: settle, of a disk that is not armed. -/
import Derived.Test.YtemmhligohebfaaTrAp
namespace Go.Proofs.Ytemmhligohebfaa
open Go.RowKit Go.Maps

/-- A disk that is not armed, somewhere else than a log. -/
structure DkAt (w : World) (p bn bo g : Nat) (d : Dk) : Prop where
  dk : DiskAt w p bn bo g d
  dead : d.dead = false
  set : d.set = false
  mv : d.mv = .slice none 0 0
  mask : d.mask = []
theorem DkAt.on {w w' : World} {p bn bo g : Nat} {d : Dk} (h : DkAt w p bn bo g d) (hb : ∀ k, Three p bn bo k → w'.heap[k]? = w.heap[k]?) : DkAt w' p bn bo g d := by
  refine ⟨⟨(hb p (Or.inl rfl)).trans h.dk.cells, h.dk.now.of_block (hb bn (Or.inr (Or.inl rfl))), h.dk.old.of_block (hb bo (Or.inr (Or.inr rfl))), ?_, h.dk.ne, h.dk.ok⟩, h.dead, h.set, h.mv, h.mask⟩
  rw [h.mv, h.mask]
  exact nil_SlB w' g
theorem DkAt.lt {w : World} {p bn bo g k : Nat} {d : Dk} (h : DkAt w p bn bo g d) (hk : Three p bn bo k) : k < w.heap.size := by
  obtain ⟨h1, h2, h3⟩ := h.dk.lt
  rcases hk with rfl | rfl | rfl
  · exact h1
  · exact h2
  · exact h3
/-- A disk and its log. -/
structure LogAt (w : World) (p bm : Nat) (t : Tr) (bn bo g : Nat) (d : Dk) : Prop where
  tr : TrAt w p bm t
  dk : DkAt w t.dp bn bo g d
  sep : ∀ k, Three t.dp bn bo k → ¬ Two p bm k
  fit : t.first + t.tiles ≤ d.tiles
def Five (p bm dp bn bo : Nat) : Nat → Prop := fun k => Two p bm k ∨ Three dp bn bo k
section
variable {w w' : World} {p bm bn bo g : Nat} {t : Tr} {d d' : Dk}
theorem LogAt.kept (h : LogAt w p bm t bn bo g d) (hb : ∀ k, k < w.heap.size → w'.heap[k]? = w.heap[k]?) : LogAt w' p bm t bn bo g d :=
  ⟨h.tr.kept hb, h.dk.on fun k hk => hb k (h.dk.lt hk), h.sep, h.fit⟩
/-- What a tile has. -/
def Dk.has (d : Dk) (i : Int) (l : List Int) : Prop := (d.now i).getD zb = blkOf l ∧ l.length = 64 ∧ bytesOk l
theorem Dk.has_any (d : Dk) (h : d.Ok) (i : Int) : ∃ l, d.has i l := by
  obtain ⟨l, h1, h2, h3⟩ := now_blk h i
  exact ⟨l, h3, h1, h2⟩
theorem blkOf_inj {a b : List Int} (h : blkOf a = blkOf b) : a = b := by
  unfold blkOf at h
  injection h with h
  have h2 := congrArg Array.toList h
  simp only [byteV] at h2
  have hi : ∀ (a b : List Int), a.map (Value.int .u8) = b.map (Value.int .u8) → a = b := by
    intro a
    induction a with
    | nil => intro b h; cases b with
      | nil => rfl
      | cons => cases h
    | cons x a ih => intro b h; cases b with
      | nil => cases h
      | cons y b =>
        simp only [List.map_cons] at h
        injection h with h1 h2
        injection h1 with _ h1
        rw [h1, ih b h2]
  exact hi a b h2
theorem Dk.has_det {d : Dk} {i : Int} {a b : List Int} (h1 : d.has i a) (h2 : d.has i b) : a = b := blkOf_inj (h1.1.symm.trans h2.1)
theorem Dk.has_store {d : Dk} {i j : Int} {l m : List Int} (hl : l.length = 64) (hok : bytesOk l) (h : if j = i then m = l else d.has j m) : (d.store i (blkOf l)).has j m := by
  unfold Dk.has Dk.store
  show ((upd d.now i (some (blkOf l)) j).getD zb) = _ ∧ _
  by_cases e : j = i
  · rw [if_pos e] at h
    subst h e
    rw [upd_same]
    exact ⟨rfl, hl, hok⟩
  · rw [if_neg e] at h
    rw [upd_other _ e]
    exact h
/-- What the walk over the tiles has done. -/
structure Done (t : Tr) (d d' : Dk) (n : Nat) : Prop where
  tiles : d'.tiles = d.tiles
  own : ∀ k : Nat, k < n → d'.has (t.first + k) (tileL t.S k)
  far : ∀ j l, (∀ k : Nat, k < n → j ≠ t.first + k) → d.has j l → d'.has j l
theorem Done.zero (t : Tr) (d : Dk) : Done t d d 0 := ⟨rfl, fun k hk => absurd hk (Nat.not_lt_zero k), fun _ _ _ h => h⟩
theorem Done.keep {n : Nat} (h : Done t d d' n) (hh : d'.has (t.first + n) (tileL t.S n)) : Done t d d' (n + 1) := by
  refine ⟨h.tiles, fun k hk => ?_, fun _ _ hj hl => h.far _ _ (fun k hk => hj k (by omega)) hl⟩
  by_cases e : k = n
  · subst e; exact hh
  · exact h.own k (by omega)
theorem Done.store {n : Nat} (h : Done t d d' n) (hok : bytesOk t.S) : Done t d (d'.store (t.first + n) (blkOf (tileL t.S n))) (n + 1) := by
  refine ⟨h.tiles, fun k hk => ?_, fun j l hj hl => ?_⟩
  · refine Dk.has_store (tileL_len _ _) (tileL_ok hok _) ?_
    by_cases e : k = n
    · subst e; rw [if_pos rfl]
    · rw [if_neg (by omega)]; exact h.own k (by omega)
  · refine Dk.has_store (tileL_len _ _) (tileL_ok hok _) ?_
    rw [if_neg (hj n (by omega))]
    exact h.far j l (fun k hk => hj k (by omega)) hl
end
end Go.Proofs.Ytemmhligohebfaa
