/- Who waits for whom, plainly: edges as a list of pairs; no program in it. -/
namespace Go.Proofs.Ytcfibmbeojdifaa

inductive Way (es : List (Int × Int)) : Int → Int → Prop
  | one {x y : Int} : (x, y) ∈ es → Way es x y
  | more {x y z : Int} : Way es x y → (y, z) ∈ es → Way es x z

theorem Way.trans {es : List (Int × Int)} {x y z : Int} (h : Way es x y) (k : Way es y z) : Way es x z := by
  induction k with
  | one e => exact .more h e
  | more _ e ih => exact .more ih e
theorem Way.front {es : List (Int × Int)} {x y : Int} (h : Way es x y) : ∃ z, (x, z) ∈ es := by
  induction h with
  | one e => exact ⟨_, e⟩
  | more _ _ ih => exact ih
theorem Way.mono {es fs : List (Int × Int)} (hs : ∀ q, q ∈ es → q ∈ fs) {x y : Int} (h : Way es x y) : Way fs x y := by
  induction h with
  | one e => exact .one (hs _ e)
  | more _ e ih => exact .more ih (hs _ e)
theorem way_closed {es : List (Int × Int)} {who : Int} {S : Int → Prop} (h0 : ∀ y, (who, y) ∈ es → S y) (h1 : ∀ x, S x → ∀ y, (x, y) ∈ es → S y) {y : Int} (h : Way es who y) : S y := by
  induction h with
  | one e => exact h0 _ e
  | more _ e ih => exact h1 _ ih _ e

/-- Who waits for these, and for nobody else, and not for itself. -/
def setE (es : List (Int × Int)) (who : Int) (on : List Int) : List (Int × Int) := es.filter (fun q => decide (q.1 ≠ who)) ++ (on.filter fun y => decide (y ≠ who)).map fun y => (who, y)
def goneE (es : List (Int × Int)) (who : Int) : List (Int × Int) := (es.filter fun q => decide (q.1 ≠ who)).filter fun q => decide (q.2 ≠ who)
theorem mem_setE {es : List (Int × Int)} {who : Int} {on : List Int} {x y : Int} : (x, y) ∈ setE es who on ↔ ((x, y) ∈ es ∧ x ≠ who) ∨ (x = who ∧ y ∈ on ∧ y ≠ who) := by
  simp only [setE, List.mem_append, List.mem_filter, List.mem_map, decide_eq_true_eq, Prod.mk.injEq]
  constructor
  · rintro (h | ⟨z, ⟨h1, h2⟩, rfl, rfl⟩)
    · exact Or.inl h
    · exact Or.inr ⟨rfl, h1, h2⟩
  · rintro (h | ⟨rfl, h1, h2⟩)
    · exact Or.inl h
    · exact Or.inr ⟨y, ⟨h1, h2⟩, rfl, rfl⟩
theorem mem_goneE {es : List (Int × Int)} {who : Int} {x y : Int} : (x, y) ∈ goneE es who ↔ (x, y) ∈ es ∧ x ≠ who ∧ y ≠ who := by
  simp only [goneE, List.mem_filter, decide_eq_true_eq]
  exact ⟨fun h => ⟨h.1.1, h.1.2, h.2⟩, fun h => ⟨⟨h.1, h.2.1⟩, h.2.2⟩⟩

/-- Those for whom who waits, rising. -/
structure Row (es : List (Int × Int)) (who : Int) (L : List Int) : Prop where
  up : L.Pairwise (· < ·)
  iff : ∀ x, x ∈ L ↔ (who, x) ∈ es
theorem rising_eq {L L' : List Int} (h : L.Pairwise (· < ·)) (h' : L'.Pairwise (· < ·)) (hm : ∀ x, x ∈ L ↔ x ∈ L') : L = L' := by
  have n1 : L.Nodup := h.imp fun hab e => by subst e; exact absurd hab (Int.lt_irrefl _)
  have n2 : L'.Nodup := h'.imp fun hab e => by subst e; exact absurd hab (Int.lt_irrefl _)
  exact List.Perm.eq_of_pairwise (le := fun a b => a < b) (fun a b _ _ h1 h2 => absurd (Int.lt_trans h1 h2) (Int.lt_irrefl _)) h h' ((List.perm_ext_iff_of_nodup n1 n2).2 hm)
theorem Row.eq {es : List (Int × Int)} {who : Int} {L L' : List Int} (h : Row es who L) (h' : Row es who L') : L = L' := rising_eq h.up h'.up fun x => (h.iff x).trans (h'.iff x).symm
theorem Row.nodup {es : List (Int × Int)} {who : Int} {L : List Int} (h : Row es who L) : L.Nodup := h.up.imp fun hab e => by subst e; exact absurd hab (Int.lt_irrefl _)

theorem nodup_le : ∀ {L M : List Int}, L.Nodup → (∀ x ∈ L, x ∈ M) → L.length ≤ M.length
  | [], _, _, _ => by simp
  | a :: L, M, hn, hs => by
    have h1 := List.nodup_cons.1 hn
    have ha := hs a (by simp)
    have h2 := nodup_le (L := L) (M := M.erase a) h1.2 fun x hx => (List.mem_erase_of_ne (fun e : x = a => h1.1 (by subst e; exact hx))).2 (hs x (by simp [hx]))
    rw [List.length_erase_of_mem ha] at h2
    have h3 := List.length_pos_of_mem ha
    simp only [List.length_cons]
    omega

theorem setE_length (es : List (Int × Int)) (who : Int) (on : List Int) : (setE es who on).length ≤ es.length + on.length := by
  have h1 := List.length_filter_le (fun q : Int × Int => decide (q.1 ≠ who)) es
  have h2 := List.length_filter_le (fun y : Int => decide (y ≠ who)) on
  simp only [setE, List.length_append, List.length_map]
  omega
theorem goneE_length (es : List (Int × Int)) (who : Int) : (goneE es who).length ≤ es.length := by
  have h1 := List.length_filter_le (fun q : Int × Int => decide (q.1 ≠ who)) es
  have h2 := List.length_filter_le (fun q : Int × Int => decide (q.2 ≠ who)) (es.filter fun q => decide (q.1 ≠ who))
  unfold goneE
  omega

/-- A number put into a rising row, once. -/
def riseL : List Int → Int → List Int
  | [], x => [x]
  | y :: l, x => if y < x then y :: riseL l x else if y = x then y :: l else x :: y :: l
theorem mem_riseL {x y : Int} : ∀ {l : List Int}, y ∈ riseL l x ↔ y = x ∨ y ∈ l
  | [] => by simp [riseL]
  | z :: l => by
    unfold riseL
    by_cases h1 : z < x
    · rw [if_pos h1]
      simp only [List.mem_cons, mem_riseL (l := l)]
      constructor
      · rintro (h | h | h)
        · exact Or.inr (Or.inl h)
        · exact Or.inl h
        · exact Or.inr (Or.inr h)
      · rintro (h | h | h)
        · exact Or.inr (Or.inl h)
        · exact Or.inl h
        · exact Or.inr (Or.inr h)
    · rw [if_neg h1]
      by_cases h2 : z = x
      · rw [if_pos h2]
        subst h2
        simp only [List.mem_cons]
        constructor
        · exact Or.inr
        · rintro (h | h)
          · exact Or.inl h
          · exact h
      · rw [if_neg h2]
        simp only [List.mem_cons]
theorem riseL_up {x : Int} : ∀ {l : List Int}, l.Pairwise (· < ·) → (riseL l x).Pairwise (· < ·)
  | [], _ => by simp [riseL]
  | z :: l, h => by
    obtain ⟨h1, h2⟩ := List.pairwise_cons.1 h
    unfold riseL
    by_cases e1 : z < x
    · rw [if_pos e1]
      refine List.pairwise_cons.2 ⟨fun y hy => ?_, riseL_up h2⟩
      rcases mem_riseL.1 hy with rfl | hy
      · exact e1
      · exact h1 y hy
    · rw [if_neg e1]
      by_cases e2 : z = x
      · rw [if_pos e2]; exact h
      · rw [if_neg e2]
        refine List.pairwise_cons.2 ⟨fun y hy => ?_, h⟩
        rcases List.mem_cons.1 hy with rfl | hy
        · omega
        · have := h1 y hy
          omega
theorem riseL_same {x : Int} {l : List Int} (h : l.Pairwise (· < ·)) (hx : x ∈ l) : riseL l x = l := rising_eq (riseL_up h) h fun y => by
  rw [mem_riseL]
  exact ⟨fun e => e.elim (fun e => e ▸ hx) id, Or.inr⟩
theorem riseL_more {x : Int} {l : List Int} (hx : x ∉ l) : (riseL l x).length = l.length + 1 := by
  induction l with
  | nil => rfl
  | cons z l ih =>
    unfold riseL
    simp only [List.mem_cons, not_or] at hx
    by_cases e1 : z < x
    · rw [if_pos e1, List.length_cons, ih hx.2, List.length_cons]
    · rw [if_neg e1, if_neg (fun e => hx.1 e.symm)]
      rfl
/-- Those for whom who waits, one by one. -/
def rowL (es : List (Int × Int)) (who : Int) : List Int := es.foldl (fun l q => if q.1 = who then riseL l q.2 else l) []
theorem rowL_snoc (es : List (Int × Int)) (who : Int) (q : Int × Int) : rowL (es ++ [q]) who = if q.1 = who then riseL (rowL es who) q.2 else rowL es who := by
  simp [rowL, List.foldl_append]
theorem row_fold (who : Int) : ∀ (es : List (Int × Int)) (l : List Int) (fs : List (Int × Int)), Row fs who l → Row (fs ++ es) who (es.foldl (fun l q => if q.1 = who then riseL l q.2 else l) l)
  | [], l, fs, h => by rw [List.append_nil]; exact h
  | q :: es, l, fs, h => by
    rw [List.foldl_cons, show fs ++ q :: es = (fs ++ [q]) ++ es by simp]
    refine row_fold who es _ _ ?_
    obtain ⟨a, y⟩ := q
    by_cases e : a = who
    · subst e
      rw [if_pos rfl]
      refine ⟨riseL_up h.up, fun x => ?_⟩
      rw [mem_riseL, h.iff x, List.mem_append, List.mem_singleton]
      constructor
      · rintro (rfl | h)
        · exact Or.inr rfl
        · exact Or.inl h
      · rintro (h | h)
        · exact Or.inr h
        · exact Or.inl (Prod.mk.inj h).2
    · rw [if_neg e]
      refine ⟨h.up, fun x => ?_⟩
      rw [h.iff x, List.mem_append, List.mem_singleton]
      constructor
      · exact Or.inl
      · rintro (h | h)
        · exact h
        · exact absurd (Prod.mk.inj h).1.symm e
theorem rowL_row (es : List (Int × Int)) (who : Int) : Row es who (rowL es who) := by
  have := row_fold who es [] [] ⟨List.Pairwise.nil, fun x => by simp⟩
  rw [List.nil_append] at this
  exact this
theorem rowL_congr {es fs : List (Int × Int)} {who : Int} (h : ∀ y, (who, y) ∈ es ↔ (who, y) ∈ fs) : rowL es who = rowL fs who :=
  rising_eq (rowL_row es who).up (rowL_row fs who).up fun x => by rw [(rowL_row es who).iff, (rowL_row fs who).iff]; exact h x
theorem rowL_length (es : List (Int × Int)) (who : Int) : (rowL es who).length ≤ es.length := by
  have h := rowL_row es who
  have := nodup_le (M := es.map Prod.snd) h.nodup fun x hx => List.mem_map.2 ⟨_, (h.iff x).1 hx, rfl⟩
  rwa [List.length_map] at this
end Go.Proofs.Ytcfibmbeojdifaa
