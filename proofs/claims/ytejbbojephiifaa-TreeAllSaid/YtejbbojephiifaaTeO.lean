/- Texts in their order; keys with their places, rising: what is put in, cut, found. -/
import Derived.Test.YtejbbojephiifaaRow
import Derived.Lib.Strings
namespace Go.Proofs.Ytejbbojephiifaa

theorem bl_irr : ∀ l : List UInt8, Op.bytesLess l l = false
  | [] => rfl
  | a :: r => by
    have h : (decide (a < a)) = false := by simp
    simp [Op.bytesLess, bl_irr r]
theorem bl_trans : ∀ a b c : List UInt8, Op.bytesLess a b = true → Op.bytesLess b c = true → Op.bytesLess a c = true
  | _, [], _, h, _ => by simp [Op.bytesLess] at h
  | _, _ :: _, [], _, h => by simp [Op.bytesLess] at h
  | [], _ :: _, _ :: _, _, _ => rfl
  | x :: a, y :: b, z :: c, h, k => by
    simp only [Op.bytesLess, Bool.or_eq_true, Bool.and_eq_true, decide_eq_true_eq, beq_iff_eq] at h k ⊢
    rcases h with h | ⟨rfl, h⟩
    · rcases k with k | ⟨rfl, k⟩
      · exact .inl (UInt8.lt_trans h k)
      · exact .inl h
    · rcases k with k | ⟨rfl, k⟩
      · exact .inl k
      · exact .inr ⟨rfl, bl_trans a b c h k⟩
theorem bl_tri : ∀ a b : List UInt8, Op.bytesLess a b = false → Op.bytesLess b a = false → a = b
  | [], [], _, _ => rfl
  | [], _ :: _, h, _ => by simp [Op.bytesLess] at h
  | _ :: _, [], _, h => by simp [Op.bytesLess] at h
  | x :: a, y :: b, h, k => by
    simp only [Op.bytesLess, Bool.or_eq_false_iff, decide_eq_false_iff_not, Bool.and_eq_false_iff, beq_eq_false_iff_ne] at h k
    obtain ⟨h1, h2⟩ := h
    obtain ⟨k1, k2⟩ := k
    have e : x = y := UInt8.le_antisymm (UInt8.not_lt.1 k1) (UInt8.not_lt.1 h1)
    subst e
    rcases h2 with h2 | h2
    · exact absurd rfl h2
    · rcases k2 with k2 | k2
      · exact absurd rfl k2
      · rw [bl_tri a b h2 k2]

/-- Is one text less than another one? -/
def bL (a b : ByteArray) : Bool := Op.bytesLess a.toList b.toList
theorem toList_inj {a b : ByteArray} (h : a.toList = b.toList) : a = b := by
  rw [Lib.toList_data, Lib.toList_data] at h
  cases a; cases b
  exact congrArg ByteArray.mk (Array.toList_inj.1 h)
theorem bL_irr (a : ByteArray) : bL a a = false := bl_irr _
theorem bL_trans {a b c : ByteArray} (h : bL a b = true) (k : bL b c = true) : bL a c = true := bl_trans _ _ _ h k
theorem bL_tri {a b : ByteArray} (h : bL a b = false) (k : bL b a = false) : a = b := toList_inj (bl_tri _ _ h k)
theorem bL_asym {a b : ByteArray} (h : bL a b = true) : bL b a = false := by
  cases e : bL b a with
  | false => rfl
  | true => have := bL_trans h e; rw [bL_irr] at this; cases this
theorem bL_ne {a b : ByteArray} (h : bL a b = true) : a ≠ b := by
  rintro rfl
  rw [bL_irr] at h; cases h
/-- less, and not less: so less than what is not less. -/
theorem bL_of_le {a b c : ByteArray} (h : bL a b = true) (k : bL c b = false) : bL a c = true := by
  cases e : bL b c with
  | true => exact bL_trans h e
  | false => rw [bL_tri k e]; exact h
theorem bL_le_trans {a b c : ByteArray} (h : bL b a = false) (k : bL b c = true) : bL a c = true := by
  cases e : bL a b with
  | true => exact bL_trans e k
  | false => rw [bL_tri e h]; exact k
def cmpI (a b : ByteArray) : Int := if bL a b then -1 else if bL b a then 1 else 0

/-- A key and its place. -/
structure KV where
  k : ByteArray
  p : Int
  c : Int
instance : Inhabited KV := ⟨⟨⟨#[]⟩, 0, 0⟩⟩
def KV.en (x : KV) : List Value := [.string x.k, .int .i64 x.p, .int .i64 x.c]
/-- A key and the block of a part. -/
structure KN where
  k : ByteArray
  b : Nat
instance : Inhabited KN := ⟨⟨⟨#[]⟩, 0⟩⟩
def KN.en (x : KN) : List Value := [.string x.k, .pointer (some ⟨x.b, 0, none⟩)]
theorem KV.en_len (x : KV) : x.en.length = 3 := rfl
theorem KN.en_len (x : KN) : x.en.length = 2 := rfl
theorem KV.en_one (x : KV) : ∀ v ∈ x.en, v.oneCell' = true := by intro v hv; simp [KV.en] at hv; rcases hv with rfl | rfl | rfl <;> rfl
theorem KN.en_one (x : KN) : ∀ v ∈ x.en, v.oneCell' = true := by intro v hv; simp [KN.en] at hv; rcases hv with rfl | rfl <;> rfl

section
variable {α : Type} (kf : α → ByteArray)
/-- Keys rise. -/
def Rise (l : List α) : Prop := l.Pairwise fun x y => bL (kf x) (kf y) = true
/-- Where a key stands, or would stand. -/
structure Stand (xs : List α) (k : ByteArray) (A B : List α) (is : Bool) : Prop where
  eq : xs = A ++ B
  lo : ∀ x ∈ A, bL (kf x) k = true
  hi : (is = true ∧ ∃ x r, B = x :: r ∧ kf x = k ∧ ∀ y ∈ r, bL k (kf y) = true) ∨ (is = false ∧ ∀ y ∈ B, bL k (kf y) = true)
variable {kf}
theorem Rise.app {A B : List α} : Rise kf (A ++ B) ↔ Rise kf A ∧ Rise kf B ∧ ∀ x ∈ A, ∀ y ∈ B, bL (kf x) (kf y) = true := List.pairwise_append
theorem stand_of {xs : List α} {k : ByteArray} {i : Nat} (hr : Rise kf xs) (hi : i ≤ xs.length) (hlo : ∀ m (h : m < xs.length), m < i → bL (kf xs[m]) k = true) (hhi : ∀ m (h : m < xs.length), i ≤ m → bL (kf xs[m]) k = false) :
    ∃ is, Stand kf xs k (xs.take i) (xs.drop i) is ∧ (∀ h : i < xs.length, is = decide (kf xs[i] = k)) ∧ (¬ i < xs.length → is = false) := by
  have e : xs = xs.take i ++ xs.drop i := (List.take_append_drop i xs).symm
  have lo : ∀ x ∈ xs.take i, bL (kf x) k = true := by
    intro x hx
    obtain ⟨m, hm, rfl⟩ := List.getElem_of_mem hx
    rw [List.getElem_take]
    rw [List.length_take] at hm
    exact hlo m (by omega) (by omega)
  by_cases hn : i < xs.length
  · have ed : xs.drop i = xs[i] :: xs.drop (i + 1) := List.drop_eq_getElem_cons hn
    have hr2 : Rise kf (xs.drop i) := by rw [e] at hr; exact (Rise.app.1 hr).2.1
    rw [ed] at hr2
    have hup := (List.pairwise_cons.1 hr2).1
    refine ⟨decide (kf xs[i] = k), ⟨e, lo, ?_⟩, fun _ => rfl, fun h => absurd hn h⟩
    by_cases hk : kf xs[i] = k
    · left
      refine ⟨by simp [hk], xs[i], _, ed, hk, fun y hy => ?_⟩
      rw [← hk]; exact hup y hy
    · right
      refine ⟨by simp [hk], ?_⟩
      have h1 := hhi i hn (Nat.le_refl _)
      have h2 : bL k (kf xs[i]) = true := by
        cases e2 : bL k (kf xs[i]) with
        | true => rfl
        | false => exact absurd (bL_tri h1 e2) hk
      intro y hy
      rw [ed] at hy
      rcases List.mem_cons.1 hy with rfl | hy
      · exact h2
      · exact bL_trans h2 (hup y hy)
  · refine ⟨false, ⟨e, lo, .inr ⟨rfl, ?_⟩⟩, fun h => absurd h hn, fun _ => rfl⟩
    rw [List.drop_of_length_le (by omega)]
    intro y hy; cases hy
end

/-- A key put in. -/
def ins (x : KV) : List KV → List KV
  | [] => [x]
  | y :: r => if bL y.k x.k then y :: ins x r else if bL x.k y.k then x :: y :: r else x :: r
def has (k : ByteArray) : List KV → Bool
  | [] => false
  | y :: r => if bL y.k k then has k r else !bL k y.k
def del (k : ByteArray) : List KV → List KV
  | [] => []
  | y :: r => if bL y.k k then y :: del k r else if bL k y.k then y :: r else r
def fnd (k : ByteArray) : List KV → Option KV
  | [] => none
  | y :: r => if bL y.k k then fnd k r else if bL k y.k then none else some y
/-- From a key on. -/
def frm (k : ByteArray) : List KV → List KV
  | [] => []
  | y :: r => if bL y.k k then frm k r else y :: r

section
variable {k : ByteArray} {A B C : List KV} {x : KV}
theorem ins_lo (h : ∀ y ∈ A, bL y.k x.k = true) : ins x (A ++ B) = A ++ ins x B := by
  induction A with
  | nil => rfl
  | cons y r ih => rw [List.cons_append, ins, if_pos (h y (by simp)), ih (fun z hz => h z (by simp [hz]))]; rfl
theorem has_lo (h : ∀ y ∈ A, bL y.k k = true) : has k (A ++ B) = has k B := by
  induction A with
  | nil => rfl
  | cons y r ih => rw [List.cons_append, has, if_pos (h y (by simp)), ih (fun z hz => h z (by simp [hz]))]
theorem del_lo (h : ∀ y ∈ A, bL y.k k = true) : del k (A ++ B) = A ++ del k B := by
  induction A with
  | nil => rfl
  | cons y r ih => rw [List.cons_append, del, if_pos (h y (by simp)), ih (fun z hz => h z (by simp [hz]))]; rfl
theorem fnd_lo (h : ∀ y ∈ A, bL y.k k = true) : fnd k (A ++ B) = fnd k B := by
  induction A with
  | nil => rfl
  | cons y r ih => rw [List.cons_append, fnd, if_pos (h y (by simp)), ih (fun z hz => h z (by simp [hz]))]
theorem frm_lo (h : ∀ y ∈ A, bL y.k k = true) : frm k (A ++ B) = frm k B := by
  induction A with
  | nil => rfl
  | cons y r ih => rw [List.cons_append, frm, if_pos (h y (by simp)), ih (fun z hz => h z (by simp [hz]))]
theorem ins_hi (h : ∀ y ∈ B, bL x.k y.k = true) : ins x (A ++ B) = ins x A ++ B := by
  induction A with
  | nil =>
    cases B with
    | nil => rfl
    | cons y r => simp [ins, bL_asym (h y (by simp)), h y (by simp)]
  | cons y r ih =>
    rw [List.cons_append, ins, ins]
    split
    · rw [ih, List.cons_append]
    · split <;> rfl
theorem has_hi (h : ∀ y ∈ B, bL k y.k = true) : has k (A ++ B) = has k A := by
  induction A with
  | nil =>
    cases B with
    | nil => rfl
    | cons y r => simp [has, bL_asym (h y (by simp)), h y (by simp)]
  | cons y r ih =>
    rw [List.cons_append, has, has]
    split
    · exact ih
    · rfl
theorem del_hi (h : ∀ y ∈ B, bL k y.k = true) : del k (A ++ B) = del k A ++ B := by
  induction A with
  | nil =>
    cases B with
    | nil => rfl
    | cons y r => simp [del, bL_asym (h y (by simp)), h y (by simp)]
  | cons y r ih =>
    rw [List.cons_append, del, del]
    split
    · rw [ih, List.cons_append]
    · split <;> rfl
theorem fnd_hi (h : ∀ y ∈ B, bL k y.k = true) : fnd k (A ++ B) = fnd k A := by
  induction A with
  | nil =>
    cases B with
    | nil => rfl
    | cons y r => simp [fnd, bL_asym (h y (by simp)), h y (by simp)]
  | cons y r ih =>
    rw [List.cons_append, fnd, fnd]
    split
    · exact ih
    · rfl
theorem frm_hi (h : ∀ y ∈ B, bL k y.k = true) : frm k (A ++ B) = frm k A ++ B := by
  induction A with
  | nil =>
    cases B with
    | nil => rfl
    | cons y r => simp [frm, bL_asym (h y (by simp))]
  | cons y r ih =>
    rw [List.cons_append, frm, frm]
    split
    · exact ih
    · rfl
end
/-- What a found place gives. -/
theorem Stand.ins_yes {xs A B : List KV} {x : KV} (h : Stand KV.k xs x.k A B true) : ∃ y r, B = y :: r ∧ y.k = x.k ∧ ins x xs = A ++ x :: r ∧ has x.k xs = true ∧ del x.k xs = A ++ r ∧ fnd x.k xs = some y ∧ frm x.k xs = B := by
  rcases h.hi with ⟨_, y, r, rfl, hk, _⟩ | ⟨e, _⟩
  · have h0 : bL y.k x.k = false := by rw [hk, bL_irr]
    have h1 : bL x.k y.k = false := by rw [hk, bL_irr]
    refine ⟨y, r, rfl, hk, ?_⟩
    rw [h.eq, ins_lo h.lo, has_lo h.lo, del_lo h.lo, fnd_lo h.lo, frm_lo h.lo]
    simp [ins, has, del, fnd, frm, h0, h1]
  · cases e
theorem Stand.ins_no {xs A B : List KV} {x : KV} (h : Stand KV.k xs x.k A B false) : ins x xs = A ++ x :: B ∧ has x.k xs = false ∧ del x.k xs = xs ∧ fnd x.k xs = none ∧ frm x.k xs = B := by
  rcases h.hi with ⟨e, _⟩ | ⟨_, hB⟩
  · cases e
  · rw [h.eq, ins_lo h.lo, has_lo h.lo, del_lo h.lo, fnd_lo h.lo, frm_lo h.lo]
    cases B with
    | nil => simp [ins, has, del, fnd, frm]
    | cons y r =>
      have h1 := hB y (by simp)
      have h0 := bL_asym h1
      simp [ins, has, del, fnd, frm, h0, h1]
theorem ins_rise {x : KV} {xs : List KV} (h : Rise KV.k xs) : Rise KV.k (ins x xs) ∧ ∀ y ∈ ins x xs, y = x ∨ y ∈ xs := by
  induction xs with
  | nil => exact ⟨List.pairwise_singleton _ _, fun y hy => by simp [ins] at hy; exact .inl hy⟩
  | cons y r ih =>
    obtain ⟨h1, h2⟩ := List.pairwise_cons.1 h
    obtain ⟨i1, i2⟩ := ih h2
    rw [ins]
    split
    · rename_i hb
      refine ⟨List.pairwise_cons.2 ⟨fun z hz => ?_, i1⟩, fun z hz => ?_⟩
      · rcases i2 z hz with rfl | hz
        · exact hb
        · exact h1 z hz
      · rcases List.mem_cons.1 hz with rfl | hz
        · exact .inr (by simp)
        · rcases i2 z hz with rfl | hz
          · exact .inl rfl
          · exact .inr (by simp [hz])
    · rename_i hb
      split
      · rename_i hc
        refine ⟨List.pairwise_cons.2 ⟨fun z hz => ?_, h⟩, fun z hz => by simpa using hz⟩
        rcases List.mem_cons.1 hz with rfl | hz
        · exact hc
        · exact bL_trans hc (h1 z hz)
      · rename_i hc
        have e := bL_tri (by simpa using hb) (by simpa using hc)
        refine ⟨List.pairwise_cons.2 ⟨fun z hz => ?_, h2⟩, fun z hz => ?_⟩
        · rw [← e]; exact h1 z hz
        · rcases List.mem_cons.1 hz with rfl | hz
          · exact .inl rfl
          · exact .inr (by simp [hz])
theorem del_sub {k : ByteArray} {xs : List KV} : List.Sublist (del k xs) xs := by
  induction xs with
  | nil => exact List.Sublist.refl _
  | cons y r ih =>
    rw [del]
    split
    · exact ih.cons_cons y
    · split
      · exact List.Sublist.refl _
      · exact List.sublist_cons_self y r
theorem del_rise {k : ByteArray} {xs : List KV} (h : Rise KV.k xs) : Rise KV.k (del k xs) := h.sublist del_sub
theorem ins_len (x : KV) (xs : List KV) : (ins x xs).length = xs.length + (if has x.k xs then 0 else 1) := by
  induction xs with
  | nil => rfl
  | cons y r ih =>
    rw [ins, has]
    split
    · rw [List.length_cons, ih, List.length_cons]; omega
    · split <;> rename_i h
      · simp [h]
      · simp [h]
theorem del_len (k : ByteArray) (xs : List KV) : (del k xs).length + (if has k xs then 1 else 0) = xs.length := by
  induction xs with
  | nil => rfl
  | cons y r ih =>
    rw [del, has]
    split
    · rw [List.length_cons, List.length_cons, ← ih]; omega
    · split <;> rename_i h
      · simp [h]
      · simp [h]
end Go.Proofs.Ytejbbojephiifaa
