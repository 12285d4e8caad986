/- What a crash leaves of a log, plainly. -/
import Derived.Test.YthhnmpobkekbbaaGreatTrOr
import Derived.Test.YthhnmpobkekbbaaGreatTrB
import Derived.Test.YthhnmpobkekbbaaGreatPure
namespace Go.Proofs.YthhnmpobkekbbaaGreat
open Go.RowKit Go.Maps

/-- What a tile had at the last Sync. -/
def Dk.had (d : Dk) (i : Int) (l : List Int) : Prop := (match d.old i with | some v => v | none => (d.now i).getD zb) = blkOf l ∧ l.length = 64 ∧ bytesOk l
theorem Dk.had_det {d : Dk} {i : Int} {a b : List Int} (h1 : d.had i a) (h2 : d.had i b) : a = b := blkOf_inj (h1.1.symm.trans h2.1)
theorem crash_two (d : Dk) (ms : List Int) (ls : List Int) (h : ∀ x ∈ ls, (d.old x).isSome = true) (i : Int) : ∀ k, crashNow d ms ls k i = d.now i ∨ ((d.old i).isSome = true ∧ crashNow d ms ls k i = some ((d.old i).getD zb))
  | 0 => Or.inl rfl
  | k + 1 => by
    have ih := crash_two d ms ls h i k
    unfold crashNow
    cases hx : ls[k]? with
    | none => exact ih
    | some q =>
      simp only
      by_cases hb : bitOf ms k = true
      · rw [if_pos hb]; exact ih
      · rw [if_neg hb]
        by_cases e : i = q
        · subst e
          exact Or.inr ⟨h _ (List.mem_of_getElem? hx), upd_same _ _ _⟩
        · rw [upd_other _ e]; exact ih
theorem Crashes.mix {d d' : Dk} {ms : List Int} (h : Crashes d ms d') {i : Int} {a b : List Int} (ha : d.has i a) (hb : d.had i b) : (d'.has i a ∨ d'.has i b) := by
  obtain ⟨ls, hl, rfl⟩ := h
  rcases crash_two d ms ls (fun x hx => (hl.2 x).1 hx) i ls.length with h | ⟨h1, h⟩
  · refine Or.inl ⟨?_, ha.2⟩
    show (crashNow d ms ls ls.length i).getD zb = _
    rw [h]; exact ha.1
  · refine Or.inr ⟨?_, hb.2⟩
    show (crashNow d ms ls ls.length i).getD zb = _
    rw [h]
    obtain ⟨v, hv⟩ := Option.isSome_iff_exists.1 h1
    have := hb.1
    rw [hv] at this ⊢
    exact this
theorem Dk.had_store {d : Dk} {i j : Int} {v : Value} {l : List Int} (h : d.had j l) : (d.store i v).had j l := by
  refine ⟨?_, h.2⟩
  have h1 := h.1
  rw [store_old_at]
  by_cases hs : (d.old j).isSome = true
  · rw [if_pos hs]
    obtain ⟨v, hv⟩ := Option.isSome_iff_exists.1 hs
    rw [hv] at h1 ⊢
    exact h1
  · rw [if_neg hs]
    have hn : d.old j = none := by simpa using hs
    rw [hn] at h1
    by_cases e : j = i
    · subst e; rw [if_pos rfl]; exact h1
    · rw [if_neg e]
      show ((upd d.now i (some v) j).getD zb) = _
      rw [upd_other _ e]
      exact h1
theorem Dk.had_synced {d : Dk} {i : Int} {l : List Int} (h : d.has i l) : d.synced.had i l := ⟨h.1, h.2⟩

/-- A disk whose tiles have (and kept at the last Sync) a stream. -/
structure Says (d : Dk) (first : Int) (K : Nat) (S : List Int) : Prop where
  has : ∀ k : Nat, k < K → d.has (first + k) (tileL S k)
  had : ∀ k : Nat, k < K → d.had (first + k) (tileL S k)
/-- .. whose tiles have some of them the old stream, some the new one. -/
def Mixed (d : Dk) (first : Int) (K : Nat) (S0 S : List Int) : Prop := ∀ k : Nat, k < K → d.has (first + k) (tileL S k) ∨ d.has (first + k) (tileL S0 k)

theorem went_says {S S0 : List Int} {first : Int} {K : Nat} {d d1 : Dk} {n : Nat} {q : Bool} (hok : bytesOk S) (h : Says d first K S0) (hw : Went S first d n q d1) (hn : n ≤ K) :
    (∀ k : Nat, k < n → d1.has (first + k) (tileL S k)) ∧ (∀ k : Nat, n ≤ k → k < K → d1.has (first + k) (tileL S0 k)) ∧ (∀ k : Nat, k < K → d1.had (first + k) (tileL S0 k)) ∧ (q = false → d1 = d) := by
  induction hw with
  | start => exact ⟨fun k hk => absurd hk (Nat.not_lt_zero k), fun k _ hk => h.has k hk, h.had, fun _ => rfl⟩
  | @same n q d1 hw hd hh ih =>
    obtain ⟨i1, i2, i3, i4⟩ := ih (by omega)
    refine ⟨fun k hk => ?_, fun k h1 h2 => i2 k (by omega) h2, i3, i4⟩
    by_cases e : k = n
    · subst e; exact hh
    · exact i1 k (by omega)
  | @wrote n q d1 d2 l hw hd hl hne hwr ih =>
    obtain ⟨i1, i2, i3, i4⟩ := ih (by omega)
    have hst : ∀ dx, (dx = d1.store (first + n) (blkOf (tileL S n)) ∨ dx = (d1.store (first + n) (blkOf (tileL S n))).later) → (∀ j l, dx.has j l ↔ (d1.store (first + n) (blkOf (tileL S n))).has j l) ∧ (∀ j l, dx.had j l ↔ (d1.store (first + n) (blkOf (tileL S n))).had j l) := by
      rintro dx (rfl | rfl)
      · exact ⟨fun _ _ => Iff.rfl, fun _ _ => Iff.rfl⟩
      · exact ⟨fun _ _ => Iff.rfl, fun _ _ => Iff.rfl⟩
    have hx : d2 = d1.store (first + n) (blkOf (tileL S n)) ∨ d2 = (d1.store (first + n) (blkOf (tileL S n))).later := by
      rcases hwr with ⟨_, h0, _⟩ | ⟨_, _, _, h⟩ | ⟨_, _, _, _, h⟩ | ⟨_, _, _, h0, _⟩
      · exact absurd h0 (by decide)
      · exact Or.inl h
      · exact Or.inr h
      · exact absurd h0 (by decide)
    obtain ⟨g1, g2⟩ := hst d2 hx
    refine ⟨fun k hk => (g1 _ _).2 (Dk.has_store (tileL_len _ _) (tileL_ok hok _) ?_), fun k h1 h2 => (g1 _ _).2 (Dk.has_store (tileL_len _ _) (tileL_ok hok _) ?_), fun k hk => (g2 _ _).2 (Dk.had_store (i3 k hk)), fun e => by cases e⟩
    · by_cases e : k = n
      · subst e; rw [if_pos rfl]
      · rw [if_neg (by omega)]; exact i1 k (by omega)
    · rw [if_neg (by omega)]; exact i2 k (by omega) h2

/-- A disk that has crashed. -/
def Down (d : Dk) : Prop := d.dead = true ∧ d.set = false ∧ ∀ i, d.old i = none
theorem Crashes.down {d d' : Dk} {ms : List Int} (h : Crashes d ms d') : Down d' := by
  obtain ⟨_, _, rfl⟩ := h
  exact ⟨rfl, rfl, fun _ => rfl⟩
theorem settled_free {S : List Int} {first : Int} {K : Nat} {d d' : Dk} {e : Int} (hok : bytesOk S) (hd : d.dead = false) (hset : d.set = false) (hs : Settled S first K d e d') : e = 0 ∧ d'.dead = false ∧ d'.set = false ∧ ∀ k : Nat, k < K → d'.has (first + k) (tileL S k) := by
  have hdw : ∀ {n q d1}, Went S first d n q d1 → (d1.dead = false ∧ d1.set = false) ∧ ∀ k : Nat, k < n → d1.has (first + k) (tileL S k) := by
    intro n q d1 hw
    induction hw with
    | start => exact ⟨⟨hd, hset⟩, fun k hk => absurd hk (Nat.not_lt_zero k)⟩
    | @same n q d1 _ _ hh ih =>
      refine ⟨ih.1, fun k hk => ?_⟩
      by_cases e : k = n
      · subst e; exact hh
      · exact ih.2 k (by omega)
    | @wrote n q d1 d2 l _ _ _ _ hwr ih =>
      rcases hwr with ⟨_, h0, _⟩ | ⟨_, _, _, rfl⟩ | ⟨_, h0, _, _, _⟩ | ⟨_, _, _, h0, _⟩
      · exact absurd h0 (by decide)
      · refine ⟨ih.1, fun k hk => Dk.has_store (tileL_len _ _) (tileL_ok hok _) ?_⟩
        by_cases e : k = n
        · subst e; rw [if_pos rfl]
        · rw [if_neg (by omega)]; exact ih.2 k (by omega)
      · rw [ih.1.2] at h0; cases h0
      · exact absurd h0 (by decide)
  rcases hs with ⟨n, q, h1, h2, h3, rfl⟩ | ⟨n, q, d1, l, h1, h2, h3, h4, h5, h6, rfl⟩ | ⟨h1, rfl⟩ | ⟨d1, h1, h2⟩
  · rw [(hdw h2).1.1] at h3; cases h3
  · rcases h6 with ⟨h0, _, _⟩ | ⟨_, _, h0, _⟩ | ⟨_, h0, _, _, _⟩ | ⟨_, h0, _, _, _⟩
    · rw [h3] at h0; cases h0
    · exact absurd h0 (by decide)
    · rw [(hdw h2).1.2] at h0; cases h0
    · rw [(hdw h2).1.2] at h0; cases h0
  · exact ⟨rfl, (hdw h1).1.1, (hdw h1).1.2, (hdw h1).2⟩
  · have hx := hdw h1
    rcases h2 with ⟨h0, _⟩ | ⟨_, _, rfl, rfl⟩ | ⟨_, h0, _, _, _⟩ | ⟨_, h0, _, _, _⟩
    · rw [hx.1.1] at h0; cases h0
    · exact ⟨rfl, hx.1.1, hx.1.2, hx.2⟩
    · rw [hx.1.2] at h0; cases h0
    · rw [hx.1.2] at h0; cases h0
theorem settled_mix {S S0 : List Int} {first : Int} {K : Nat} {d d' : Dk} {e : Int} (hok : bytesOk S) (h : Says d first K S0) (hd : d.dead = false) (hs : Settled S first K d e d') :
    (e = 0 ∧ Says d' first K S ∧ d'.dead = false) ∨ (e = 2 ∧ Down d' ∧ Mixed d' first K S0 S) := by
  have hdw : ∀ {n q d1}, Went S first d n q d1 → d1.dead = false := by
    intro n q d1 hw
    induction hw with
    | start => exact hd
    | same _ _ _ ih => exact ih
    | wrote _ _ _ _ hwr _ => rcases hwr.err with ⟨_, h⟩ | ⟨h, _⟩; exact h; exact absurd h (by decide)
  rcases hs with ⟨n, q, h1, h2, h3, rfl⟩ | ⟨n, q, d1, l, h1, h2, h3, h4, h5, h6, rfl⟩ | ⟨h1, rfl⟩ | ⟨d1, h1, h2⟩
  · rw [hdw h2] at h3; cases h3
  · obtain ⟨i1, i2, i3, _⟩ := went_says hok h h2 (by omega)
    refine Or.inr ⟨rfl, ?_, ?_⟩
    · rcases h6 with ⟨hx, _⟩ | ⟨_, _, hx, _⟩ | ⟨_, _, _, hx, _⟩ | ⟨_, _, _, _, hc⟩
      · rw [h3] at hx; cases hx
      · exact absurd hx (by decide)
      · exact absurd hx (by decide)
      · exact hc.down
    · rcases h6 with ⟨hx, _⟩ | ⟨_, _, hx, _⟩ | ⟨_, _, _, hx, _⟩ | ⟨_, _, _, _, hc⟩
      · rw [h3] at hx; cases hx
      · exact absurd hx (by decide)
      · exact absurd hx (by decide)
      · intro k hk
        by_cases e : k ≤ n
        · refine hc.mix (Dk.has_store (tileL_len _ _) (tileL_ok hok _) ?_) (Dk.had_store (i3 k hk))
          by_cases e : k = n
          · subst e; rw [if_pos rfl]
          · rw [if_neg (by omega)]; exact i1 k (by omega)
        · refine Or.inr ((hc.mix (Dk.has_store (tileL_len _ _) (tileL_ok hok _) ?_) (Dk.had_store (i3 k hk))).elim id id)
          rw [if_neg (by omega)]; exact i2 k (by omega) hk
  · obtain ⟨i1, i2, i3, i4⟩ := went_says hok h h1 (Nat.le_refl _)
    have e := i4 rfl
    subst e
    refine Or.inl ⟨rfl, ⟨i1, fun k hk => ?_⟩, hd⟩
    rw [Dk.has_det (i1 k hk) (h.has k hk)]
    exact i3 k hk
  · obtain ⟨i1, i2, i3, _⟩ := went_says hok h h1 (Nat.le_refl _)
    have hd1 := hdw h1
    rcases h2 with ⟨hx, _⟩ | ⟨_, _, rfl, rfl⟩ | ⟨_, _, _, rfl, rfl⟩ | ⟨_, _, _, rfl, hc⟩
    · rw [hd1] at hx; cases hx
    · exact Or.inl ⟨rfl, ⟨i1, fun k hk => Dk.had_synced (i1 k hk)⟩, hd1⟩
    · exact Or.inl ⟨rfl, ⟨i1, fun k hk => Dk.had_synced (i1 k hk)⟩, hd1⟩
    · exact Or.inr ⟨rfl, hc.down, fun k hk => hc.mix (i1 k hk) (i3 k hk)⟩
/-- A crash of a disk of which nothing is loose. -/
theorem crash_says {S : List Int} {first : Int} {K : Nat} {d d' : Dk} {ms : List Int} (h : Says d first K S) (hc : Crashes d ms d') : Mixed d' first K S S := fun k hk => hc.mix (h.has k hk) (h.had k hk)
/-- A disk that has crashed keeps what it has. -/
theorem mixed_had {d : Dk} {i : Int} {l : List Int} (ho : d.old i = none) (h : d.has i l) : d.had i l := by
  refine ⟨?_, h.2⟩
  rw [ho]
  exact h.1

theorem pre_drop {X S : List Int} (h : X <+: S) (n : Nat) : X.drop n <+: S.drop n := by
  obtain ⟨t, rfl⟩ := h
  exact ⟨t.drop (n - X.length), by rw [List.drop_append]⟩
theorem part_pre {X S : List Int} (h : X <+: S) (i : Nat) : partL X i = (S.drop (63 * i)).take (partL X i).length :=
  List.prefix_iff_eq_take.1 ((List.take_prefix 63 _).trans (pre_drop h (63 * i)))
theorem tile_head (X : List Int) (i : Nat) : (tileL X i).headD 0 = ((partL X i).length : Int) := rfl
theorem tile_body (X : List Int) (i : Nat) : ((tileL X i).drop 1).take ((tileL X i).headD 0).toNat = partL X i := by
  rw [tile_head]
  show (partL X i ++ List.replicate _ 0).take _ = _
  rw [List.take_append_of_le_length (by omega), List.take_of_length_le (by omega)]
/-- What is read of tiles that are mixed: the old stream and some more of the new one. -/
theorem rd_mix {T : Nat → List Int} {S0 S : List Int} (hS : S0 <+: S) {K : Nat} (hT : ∀ k, k < K → T k = tileL S k ∨ T k = tileL S0 k) (hfit : S.length ≤ 63 * K) : ∀ (m i : Nat), i + m = K → 63 * i ≤ S.length → ∃ r, rdL T m i = (S.drop (63 * i)).take r ∧ S0.length ≤ 63 * i + r ∧ 63 * i + r ≤ S.length
  | 0, i, hm, hi => by
    have := hS.length_le
    exact ⟨0, by simp [rdL], by omega, by omega⟩
  | m + 1, i, hm, hi => by
    have hle0 := hS.length_le
    obtain ⟨X, hX, hTX⟩ : ∃ X, (X = S ∨ X = S0) ∧ T i = tileL X i := by
      rcases hT i (by omega) with h | h
      · exact ⟨S, Or.inl rfl, h⟩
      · exact ⟨S0, Or.inr rfl, h⟩
    have hXS : X <+: S := by rcases hX with rfl | rfl; exact List.prefix_refl _; exact hS
    have hX0 : S0.length ≤ X.length := by rcases hX with rfl | rfl; exact hle0; exact Nat.le_refl _
    have hXl := hXS.length_le
    have hp := part_pre hXS i
    have hpl := partL_len X i
    obtain ⟨c, hc⟩ : ∃ c, c = (partL X i).length := ⟨_, rfl⟩
    rw [← hc] at hp hpl
    unfold rdL
    rw [hTX, tile_body, tile_head, ← hc, if_neg (by omega)]
    by_cases h63 : c < 63
    · rw [if_pos (by omega), hp]
      exact ⟨c, rfl, by omega, by omega⟩
    · have h63 : c = 63 := by omega
      subst h63
      rw [if_neg (by decide)]
      obtain ⟨r, h1, h2, h3⟩ := rd_mix hS hT hfit m (i + 1) (by omega) (by omega)
      refine ⟨63 + r, ?_, by omega, by omega⟩
      rw [h1, hp, List.take_add, List.drop_drop]
      rfl
theorem unf_short {b : List Int} {l : List Int} (hl : b.length < 65536) {rest : List Int} {m : Nat} (h : l = (frB b ++ rest).take m) (hm : m < b.length + 4) : unf l = none := by
  subst h
  have hlen : ((frB b ++ rest).take m).length = m := by rw [List.length_take, List.length_append, frB_len]; omega
  unfold unf
  rw [hlen]
  by_cases h2 : m < 2
  · rw [if_pos h2]
  · rw [if_neg h2]
    have hN : unN ((frB b ++ rest).take m) = b.length := by
      obtain ⟨m', rfl⟩ : ∃ m', m = m' + 2 := ⟨m - 2, by omega⟩
      unfold unN frB
      show (((b.length / 256 : Nat) : Int) * 256 + ((b.length % 256 : Nat) : Int)).toNat = _
      omega
    rw [hN, if_pos (by omega)]
/-- What is scanned of the first m bytes of some frames: those that are whole. -/
theorem scan_cut : ∀ (bs : List (List Int)) (m : Nat), (∀ b ∈ bs, b.length < 65536 ∧ tkB b = true) → ∃ j, j ≤ bs.length ∧ scan ((bs.flatMap frB).take m) = bs.take j ∧ ∀ i, i ≤ bs.length → frsN (bs.take i) ≤ m → i ≤ j
  | [], m, _ => ⟨0, Nat.le_refl _, by simp [scan_none unf_nil], fun i hi _ => hi⟩
  | b :: bs, m, h => by
    have hb := h b (List.mem_cons_self ..)
    rw [List.flatMap_cons]
    by_cases hm : m < b.length + 4
    · refine ⟨0, Nat.zero_le _, by rw [scan_none (unf_short hb.1 rfl hm)]; rfl, fun i hi hf => ?_⟩
      cases i with
      | zero => exact Nat.le_refl _
      | succ i =>
        rw [List.take_succ_cons, frsN_cons] at hf
        omega
    · obtain ⟨j, h1, h2, h3⟩ := scan_cut bs (m - (b.length + 4)) fun x hx => h x (List.mem_cons_of_mem _ hx)
      refine ⟨j + 1, by rw [List.length_cons]; omega, ?_, fun i hi hf => ?_⟩
      · rw [List.take_append, frB_len, List.take_of_length_le (by rw [frB_len]; omega), scan_fr hb.1 hb.2, h2, List.take_succ_cons]
      · cases i with
        | zero => omega
        | succ i =>
          rw [List.take_succ_cons, frsN_cons] at hf
          have := h3 i (by rw [List.length_cons] at hi; omega) (by omega)
          omega
end Go.Proofs.YthhnmpobkekbbaaGreat
