/- tree: a part's count, least key; halves as parts; a child put in. -/
import Derived.Test.YtejbbojephiifaaTeP
namespace Go.Proofs.Ytejbbojephiifaa
open Go.RowKit

theorem countP_any (w : World) {b : Nat} {R : Rest} {v : Value} {l : List KV} (h : PAP w b R v l) (hsm : l.length ≤ 1000) :
    Calls Try.prog 30 #[.pointer (some ⟨b, 0, none⟩)] w fun e w' => e = .returned (.int .i64 l.length) ∧ Below w.heap.size w w' := by
  obtain ⟨a, cp, rfl⟩ := own_shape h.own
  have c0 := h.at_.c0
  have c1 := h.at_.c1
  clear h
  have hi : (l.length : Int) ≤ 1000 := by omega
  generalize l.length = n at *
  go_enter Try.func30, Try.ntmps30
  go_wp2
  go_region
  all_goals go_wp2
  all_goals go_ret
  all_goals exact ⟨by simp, (Below.refl _ _).drew⟩
set_option maxHeartbeats 1000000 in
theorem splitP_any (w : World) {b : Nat} {R : Rest} {v : Value} {l : List KV} (h : PAP w b R v l) (hl : 2 ≤ l.length) (hsm : l.length ≤ 1000) :
    Calls Try.prog 35 #[.pointer (some ⟨b, 0, none⟩)] w fun e w' => ∃ N v1 v2, e = .returned (.pointer (some ⟨N, 0, none⟩)) ∧ PAP w' b R v1 (l.take (l.length / 2)) ∧ v1.ownBlock = v.ownBlock ∧ PAP w' N R0 v2 (l.drop (l.length / 2)) ∧ w.heap.size ≤ N ∧ (∀ k, v2.ownBlock = some k → w.heap.size ≤ k) ∧ Fr w.heap.size (MineP b v) w w' := by
  have H := Lib.hid h
  have HL := Lib.hid hl
  have HS := Lib.hid hsm
  have HN : Hid (∀ W v1 l1, PAP W b R v1 l1 → Calls Try.prog 45 #[.pointer (some ⟨b, 1, none⟩)] W fun e w' => e = .returned (.slice none 0 0) ∧ Below W.heap.size W w') := fun W v1 l1 hp => halveQ_nil W b R.1 _ hp.at_ rfl
  obtain ⟨l1, hl1⟩ : ∃ l1, l1 = l.take (l.length / 2) := ⟨_, rfl⟩
  obtain ⟨l2, hl2⟩ : ∃ l2, l2 = l.drop (l.length / 2) := ⟨_, rfl⟩
  rw [← hl1, ← hl2]
  have HE1 := Lib.hid hl1
  have HE2 := Lib.hid hl2
  clear h hl hsm hl1 hl2
  go_enter Try.func35, Try.ntmps35
  go_wp2_with fail
  have HHd := Lib.hid (halveP_own w.drew (H.out.same (w' := w.drew) rfl (fun _ _ => rfl)) HL.out HS.out)
  rw [← HE1.out, ← HE2.out] at HHd
  go_region_with (first
    | (go_at_call 44; refine (HHd.out).mono ?_; rintro e w1 ⟨v1, v2, rfl, h1, ho, h2, hfr, hf⟩; obtain ⟨A2, cp2, rfl⟩ := own_shape h2)
    | (go_at_call 45; refine (HN.out _ _ _ h1).mono ?_; rintro e w2 ⟨rfl, hb2⟩))
  all_goals go_wp2
  all_goals go_ret
  all_goals
    have hs : w.heap.size ≤ w2.heap.size := Nat.le_trans hf.size hb2.size
    refine ⟨w2.heap.size, v1, _, rfl, (h1.below hb2).below ((Below.refl _ _).alloc (Nat.le_refl _) _), ho, ⟨heap_alloc_new _ _, own_same (own_same h2 (fun k hk => hb2.block k (own_lt h2 hk))) (fun k hk => Below.heap_alloc _ _ _ (Nat.lt_of_lt_of_le (own_lt h2 hk) hb2.size)), (fun e => Nat.lt_irrefl _ (Nat.lt_of_lt_of_le (own_lt h2 e) hb2.size))⟩, hs, hfr, ?_⟩
    exact ((Fr.refl _ _ w).drew.trans hf (Nat.le_refl _) (fun _ _ e => e)).below hb2 hf.size |>.alloc hs _

theorem countQ_any (w : World) {b : Nat} {R : Rest} {v : Value} {l : List KN} (h : PAQ w b R v l) (hsm : l.length ≤ 1000) :
    Calls Try.prog 30 #[.pointer (some ⟨b, 0, none⟩)] w fun e w' => e = .returned (.int .i64 l.length) ∧ Below w.heap.size w w' := by
  obtain ⟨a, cp, rfl⟩ := own_shape h.own
  have c0 := h.at_.c0
  have c1 := h.at_.c1
  clear h
  have hi : (l.length : Int) ≤ 1000 := by omega
  generalize l.length = n at *
  go_enter Try.func30, Try.ntmps30
  go_wp2
  go_region
  all_goals go_wp2
  all_goals go_ret
  all_goals exact ⟨by simp, (Below.refl _ _).drew⟩
set_option maxHeartbeats 1000000 in
theorem splitQ_any (w : World) {b : Nat} {R : Rest} {v : Value} {l : List KN} (h : PAQ w b R v l) (hl : 2 ≤ l.length) (hsm : l.length ≤ 1000) :
    Calls Try.prog 35 #[.pointer (some ⟨b, 0, none⟩)] w fun e w' => ∃ N v1 v2, e = .returned (.pointer (some ⟨N, 0, none⟩)) ∧ PAQ w' b R v1 (l.take (l.length / 2)) ∧ v1.ownBlock = v.ownBlock ∧ PAQ w' N R0 v2 (l.drop (l.length / 2)) ∧ w.heap.size ≤ N ∧ (∀ k, v2.ownBlock = some k → w.heap.size ≤ k) ∧ Fr w.heap.size (MineQ b v) w w' := by
  have H := Lib.hid h
  have HL := Lib.hid hl
  have HS := Lib.hid hsm
  have HN : Hid (∀ W v1 l1, PAQ W b R v1 l1 → Calls Try.prog 44 #[.pointer (some ⟨b, 0, none⟩)] W fun e w' => e = .returned (.slice none 0 0) ∧ Below W.heap.size W w') := fun W v1 l1 hp => halveP_nil W b R.1 _ hp.at_ rfl
  obtain ⟨l1, hl1⟩ : ∃ l1, l1 = l.take (l.length / 2) := ⟨_, rfl⟩
  obtain ⟨l2, hl2⟩ : ∃ l2, l2 = l.drop (l.length / 2) := ⟨_, rfl⟩
  rw [← hl1, ← hl2]
  have HE1 := Lib.hid hl1
  have HE2 := Lib.hid hl2
  clear h hl hsm hl1 hl2
  go_enter Try.func35, Try.ntmps35
  go_wp2_with fail
  have HHd := Lib.hid (fun W hW => halveQ_own W (h := hW) HL.out HS.out (b := b) (R := R) (v := v))
  rw [← HE1.out, ← HE2.out] at HHd
  have HNd := Lib.hid (halveP_nil w.drew b R.1 _ H.out.at_ rfl)
  have Hd : Hid (PAQ w.drew b R v l) := H.out.same (w' := w.drew) rfl (fun _ _ => rfl)
  go_region_with (first
    | (go_at_call 45; refine (HHd.out w1 (Hd.out.below hb2)).mono ?_; rintro e w2 ⟨v1, v2, rfl, h1, ho, h2, hfr, hf⟩; obtain ⟨A2, cp2, rfl⟩ := own_shape h2)
    | (go_at_call 44; refine (HNd.out).mono ?_; rintro e w1 ⟨rfl, hb2⟩))
  all_goals go_wp2
  all_goals go_ret
  all_goals
    have hs : w.heap.size ≤ w2.heap.size := Nat.le_trans hb2.size hf.size
    refine ⟨w2.heap.size, v1, _, rfl, h1.below ((Below.refl _ _).alloc (Nat.le_refl _) _), ho, ⟨heap_alloc_new _ _, own_same h2 (fun k hk => Below.heap_alloc _ _ _ (own_lt h2 hk)), (fun e => Nat.lt_irrefl _ (own_lt h2 e))⟩, hs, (fun k hk => Nat.le_trans hb2.size (hfr k hk)), ?_⟩
    exact ((((Fr.refl w.heap.size (MineQ b v) w).drew).below hb2 (Nat.le_refl _)).trans hf hb2.size (fun _ _ e => e)).alloc hs _

theorem leafP_any (w : World) {b : Nat} {R : Rest} {v : Value} {l : List KV} (h : PAP w b R v l) :
    Calls Try.prog 37 #[.pointer (some ⟨b, 0, none⟩)] w fun e w' => e = .returned (.bool true) ∧ w' = w := by
  have c1 := h.at_.c1
  clear h
  go_enter Try.func37, Try.ntmps37
  go_wp2
  go_ret
  exact ⟨rfl, rfl⟩
theorem leafQ_any (w : World) {b : Nat} {R : Rest} {v : Value} {l : List KN} (h : PAQ w b R v l) (hl : l ≠ []) :
    Calls Try.prog 37 #[.pointer (some ⟨b, 0, none⟩)] w fun e w' => e = .returned (.bool false) ∧ w' = w := by
  obtain ⟨a, cp, rfl⟩ := own_shape h.own
  have c1 := h.at_.c1
  have h0 := List.length_pos_iff.2 hl
  clear h hl
  generalize l.length = n at *
  have h1 : ¬ ((n : Int) = 0) := by omega
  go_enter Try.func37, Try.ntmps37
  go_wp2
  go_ret
  exact ⟨by simp; omega, rfl⟩
theorem leastP_any (w : World) {b : Nat} {R : Rest} {v : Value} {x : KV} {l : List KV} (h : PAP w b R v (x :: l)) :
    Calls Try.prog 47 #[.pointer (some ⟨b, 0, none⟩)] w fun e w' => e = .returned (.string x.k) ∧ w' = w := by
  obtain ⟨g, cap, rfl, _, _⟩ := h.own.form (by simp)
  have c0 := h.at_.c0
  have d0 := (own_cell KV.en_len h.own (i := 0) (j := 0) (by simp) (by omega)).1
  rw [show (x :: l)[0].en[0]? = some (.string x.k) from rfl, Nat.zero_mul, Nat.zero_add] at d0
  have HL := Lib.hid (leafP_any w h)
  clear h
  have hn : (0 : Int) < ((l.length + 1 : Nat) : Int) := by omega
  rw [List.length_cons] at c0
  generalize l.length = n at *
  go_enter Try.func47, Try.ntmps47
  go_wp2_with (go_at_call 37; refine (HL.out).mono ?_; rintro e w' ⟨rfl, hw⟩; obtain rfl := hw.symm; clear hw)
  go_ret
  exact ⟨rfl, rfl⟩
theorem leastQ_any (w : World) {b : Nat} {R : Rest} {v : Value} {x : KN} {l : List KN} (h : PAQ w b R v (x :: l)) :
    Calls Try.prog 47 #[.pointer (some ⟨b, 0, none⟩)] w fun e w' => e = .returned (.string x.k) ∧ w' = w := by
  obtain ⟨g, cap, rfl, _, _⟩ := h.own.form (by simp)
  have c0 := h.at_.c1
  have d0 := (own_cell KN.en_len h.own (i := 0) (j := 0) (by simp) (by omega)).1
  rw [show (x :: l)[0].en[0]? = some (.string x.k) from rfl, Nat.zero_mul, Nat.zero_add] at d0
  have HL := Lib.hid (leafQ_any w h (by simp))
  clear h
  have hn : (0 : Int) < ((l.length + 1 : Nat) : Int) := by omega
  rw [List.length_cons] at c0
  generalize l.length = n at *
  go_enter Try.func47, Try.ntmps47
  go_wp2_with (go_at_call 37; refine (HL.out).mono ?_; rintro e w' ⟨rfl, hw⟩; obtain rfl := hw.symm; clear hw)
  go_ret
  exact ⟨rfl, rfl⟩

set_option maxHeartbeats 1000000 in
/-- A child put in. -/
theorem insert_any (w : World) {b : Nat} {R : Rest} {v : Value} {l : List KN} (h : PAQ w b R v l) (hsm : l.length ≤ 1000) (i kb : Nat) (hi : i ≤ l.length) (k : ByteArray)
    (hk : ∀ W, Below w.heap.size w W → Calls Try.prog 47 #[.pointer (some ⟨kb, 0, none⟩)] W fun e w' => e = .returned (.string k) ∧ w' = W) :
    Calls Try.prog 36 #[.pointer (some ⟨b, 0, none⟩), .int .i64 i, .pointer (some ⟨kb, 0, none⟩)] w fun e w' => ∃ v1, e = .returned (.tuple #[]) ∧ PAQ w' b R v1 (l.take i ++ ⟨k, kb⟩ :: l.drop i) ∧ (∀ g, v1.ownBlock = some g → v.ownBlock = some g ∨ w.heap.size ≤ g) ∧ Fr w.heap.size (MineQ b v) w w' := by
  have hbl := h.lt
  obtain ⟨A0, cp0, rfl⟩ := own_shape h.own
  have c0 : w.cell? ⟨b, 1, none⟩ = _ := h.at_.c1
  have HK := Lib.hid (hk w.drew (Below.refl _ _).drew)
  have HT : ∀ W, Below w.heap.size w W → PAQ W b R (.slice A0 l.length cp0) l := fun W hW => h.below hW
  have hI : ∀ W hh, Below w.heap.size w W → W.heap[hh]? = some (.cells (KN.en ⟨k, kb⟩).toArray 72 (0, 0)) → w.heap.size ≤ hh → Calls Try.prog 46 #[.slice A0 l.length cp0, .int .i64 i, .slice (some ⟨hh, 0, none⟩) 1 1] W (InsQ W (.slice A0 l.length cp0) l.length i l ⟨k, kb⟩) := fun W hh hW hq hle => insQ_any W l ⟨k, kb⟩ hh hq _ i hsm hi (HT W hW).own (fun e => by have := own_lt h.own e; omega)
  have HI := Lib.hid (hI (w.alloc (.cells (KN.en ⟨k, kb⟩).toArray 72)).drew w.heap.size ((Below.refl _ _).alloc (Nat.le_refl _) _).drew (heap_alloc_new w _) (Nat.le_refl _))
  have HT2 := Lib.hid (HT (w.alloc (.cells (KN.en ⟨k, kb⟩).toArray 72)).drew ((Below.refl _ _).alloc (Nat.le_refl _) _).drew)
  have HF2 : Hid (Fr w.heap.size (MineQ b (.slice A0 l.length cp0)) w (w.alloc (.cells (KN.en ⟨k, kb⟩).toArray 72)).drew) := ((Fr.refl _ _ w).alloc (Nat.le_refl _) _).drew
  have HNE := Lib.hid h.ne
  obtain ⟨n, hn⟩ : ∃ n, n = l.length := ⟨_, rfl⟩
  rw [← hn] at c0 HI HT2 HF2 HNE ⊢
  have HNn := Lib.hid hn
  have hen : (KN.en ⟨k, kb⟩).toArray = #[.string k, .pointer (some ⟨kb, 0, none⟩)] := rfl
  rw [hen] at HI HT2 HF2
  clear hI HT hk h hn hen
  go_enter Try.func36, Try.ntmps36
  go_wp2_with fail
  go_region_law (first
    | (go_simp; go_at_call 46; refine (HI.out).mono ?_; rintro e w2 ⟨g, cp, rfl, ho2, hf2, hg2⟩; have e1 : w2.cell? ⟨b, 1, none⟩ = some (.slice A0 n cp0) := (World.cell?_of_block (hf2.block b (Nat.lt_of_lt_of_le HT2.out.lt (Nat.le_refl _)) HNE.out)).trans HT2.out.at_.c1; have e2 : w2.frozen? ⟨b, 1, none⟩ = false := (World.frozen?_of_block (hf2.block b (Nat.lt_of_lt_of_le HT2.out.lt (Nat.le_refl _)) HNE.out)).trans (HT2.out.at_.fz 1); have HO2 := Lib.hid ho2; have HF3 := Lib.hid hf2; have HG2 := Lib.hid hg2; clear ho2 hf2 hg2)
    | (go_simp; go_at_call 47; refine (HK.out).mono ?_; rintro e w1 ⟨rfl, hw⟩; obtain rfl := hw.symm; clear hw))
  all_goals
    have hs2 : w.heap.size ≤ (w.alloc (.cells #[.string k, .pointer (some ⟨kb, 0, none⟩)] 72)).drew.heap.size := by
      show w.heap.size ≤ (w.heap.push _).size
      rw [Array.size_push]; omega
    have hl1 : (l.take i ++ ⟨k, kb⟩ :: l.drop i : List KN).length = n + 1 := by
      have := HNn.out
      rw [List.length_append, List.length_cons, List.length_take, List.length_drop]; omega
    have hb2 := HF3.out.block b (Nat.lt_of_lt_of_le HT2.out.lt (Nat.le_refl _)) HNE.out
    have hgb : g ≠ b := fun e => by
      subst e
      rcases HG2.out with e | e
      · exact HNE.out e
      · exact Nat.lt_irrefl _ (Nat.lt_of_lt_of_le HT2.out.lt e)
    go_end0
    refine ⟨.slice (some ⟨g, 0, none⟩) (n + 1) cp, rfl, ?_, (fun q hq => by cases hq; exact HG2.out.imp_right (fun e => Nat.le_trans hs2 e)), ?_⟩
    · have ho3 := HO2.out
      rw [← hl1] at ho3
      have := PAQ.put HT2.out hb2 ho3 (fun e => hgb (Option.some.inj e))
      rw [hl1] at this
      exact this
    · exact (HF2.out.trans HF3.out hs2 (fun _ _ e => .inr e)).setCell (p := ⟨b, 1, none⟩) (.inl (.inl rfl)) _
end Go.Proofs.Ytejbbojephiifaa
