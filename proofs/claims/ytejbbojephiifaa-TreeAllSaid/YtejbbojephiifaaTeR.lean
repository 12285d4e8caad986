/- tree: a key stored; relieve. -/
import Derived.Test.YtejbbojephiifaaTeH
namespace Go.Proofs.Ytejbbojephiifaa
open Go.RowKit

theorem own_set {w : World} {e : TypeId} {k q n c j : Nat} {xs : List Value} (h : w.ownsRow 0 e k (.slice (some ⟨q, 0, none⟩) n c) n xs) (_ : j < n * k) (u : Value) : (w.setCell ⟨q, j, none⟩ u).ownsRow 0 e k (.slice (some ⟨q, 0, none⟩) n c) n (xs.set j u) := by
  rcases h.2 with ⟨h2, _⟩ | ⟨g', cap, cur, h2, h3, hg, h4, h5, h6, h7⟩
  · cases h2
  · cases h2
    refine ⟨by rw [List.length_set]; exact h.1, .inr ⟨q, c, cur.setIfInBounds j u, rfl, Nat.zero_le _, ?_, h4, h5, by rw [Array.size_setIfInBounds]; exact h6, ?_⟩⟩
    · rw [setCell_eq_setRow w q j _ _ (0, 0) u hg, setRow_heap w q _ _ _ _ hg]
    · rw [Array.toList_setIfInBounds, List.take_set, h7]
theorem set_at {α : Type} (A : List α) (x y : α) (B : List α) : (A ++ x :: B).set A.length y = A ++ y :: B := by simp
theorem flat_set {α : Type} {f : α → List Value} {k : Nat} (hf : ∀ x, (f x).length = k) (A : List α) (x y : α) (B : List α) {j : Nat} {u : Value} (hj : j < k) (hy : (f x).set j u = f y) : ((A ++ x :: B).flatMap f).set (A.length * k + j) u = (A ++ y :: B).flatMap f := by
  rw [List.flatMap_append, List.flatMap_append, List.flatMap_cons, List.flatMap_cons, List.set_append_right _ _ (by rw [flat_len hf]; omega), flat_len hf, Nat.add_sub_cancel_left, List.set_append_left _ _ (by rw [hf]; exact hj), hy]
theorem PAQ.key {w : World} {b q n c : Nat} {R : Rest} {A B : List KN} {x : KN} (h : PAQ w b R (.slice (some ⟨q, 0, none⟩) n c) (A ++ x :: B)) (hn : n = (A ++ x :: B).length) (k : ByteArray) : PAQ (w.setCell ⟨q, A.length * 2, none⟩ (.string k)) b R (.slice (some ⟨q, 0, none⟩) n c) (A ++ ⟨k, x.b⟩ :: B) := by
  have hqb : q ≠ b := fun e => h.ne (by rw [e]; rfl)
  have hl : (A ++ ⟨k, x.b⟩ :: B).length = n := by rw [hn]; simp
  refine ⟨h.at_.same (Below.heap_setCell _ _ _ _ hqb.symm), ?_, h.ne⟩
  have ho := h.own
  rw [← hn] at ho
  rw [hl]
  have h2 := own_set ho (j := A.length * 2 + 0) (by rw [hn]; simp) (.string k)
  rw [flat_set KN.en_len A x ⟨k, x.b⟩ B (by omega) rfl] at h2
  exact h2

/-- A node in memory. -/
structure NS (h : Nat) (w : World) (b : Nat) (R : Rest) (v : Value) (l : List (ByteArray × G h)) : Prop where
  pa : PAQ w b R v (kns h l)
  kids : KidsAt h w l
  nd : (b :: (own1 v ++ kf h l)).Nodup
theorem NS.lt {h : Nat} {w : World} {b : Nat} {R : Rest} {v : Value} {l : List (ByteArray × G h)} (s : NS h w b R v l) : ∀ a ∈ b :: (own1 v ++ kf h l), a < w.heap.size := fun a hm => At.lt (h := h + 1) (g := (⟨b, v, l⟩ : Nd (G h))) ⟨s.pa, s.kids⟩ a hm
theorem NS.at_ {h : Nat} {w : World} {b : Nat} {R : Rest} {v : Value} {l : List (ByteArray × G h)} (s : NS h w b R v l) : At (h + 1) R w (⟨b, v, l⟩ : Nd (G h)) := ⟨s.pa, s.kids⟩
theorem NS.below {h : Nat} {w w' : World} {b : Nat} {R : Rest} {v : Value} {l : List (ByteArray × G h)} (s : NS h w b R v l) (hb : Below w.heap.size w w') : NS h w' b R v l := ⟨s.pa.below hb, fun x hx => (s.kids x hx).below hb, s.nd⟩
theorem NS.alike {h : Nat} {w w' : World} {b : Nat} {R : Rest} {v : Value} {l : List (ByteArray × G h)} (s : NS h w b R v l) (hb : w'.heap = w.heap) : NS h w' b R v l := ⟨s.pa.same (by rw [hb]) (fun _ _ => by rw [hb]), fun x hx => (s.kids x hx).same (fun _ _ => by rw [hb]), s.nd⟩
/-- A node's children stand in order again, two to four each. -/
def Mend (h : Nat) (w : World) (b : Nat) (R : Rest) (v : Value) (l : List (ByteArray × G h)) (lo hi : Nat) (w' : World) : Prop :=
  ∃ v' l', NS h w' b R v' l' ∧ kk h l' = kk h l ∧ (∀ x ∈ l', Kid h (Ok h) x) ∧ lo ≤ l'.length ∧ l'.length ≤ hi ∧ Foot w.heap.size (b :: (own1 v ++ kf h l)) (b :: (own1 v' ++ kf h l')) ∧ Fr w.heap.size (· ∈ b :: (own1 v ++ kf h l)) w w'

/-- The last statement: a child's key is stored. -/
theorem NS.key {h : Nat} {w : World} {b q n c : Nat} {R : Rest} {A B : List (ByteArray × G h)} {x : ByteArray × G h} (s : NS h w b R (.slice (some ⟨q, 0, none⟩) n c) (A ++ x :: B)) (hn : n = (A ++ x :: B).length) (k : ByteArray) :
    NS h (w.setCell ⟨q, A.length * 2, none⟩ (.string k)) b R (.slice (some ⟨q, 0, none⟩) n c) (A ++ (k, x.2) :: B) := by
  have hp := s.pa
  rw [kns_app, kns_cons] at hp
  have h1 := hp.key (by rw [hn]; simp [kns_len]) k
  rw [kns_len] at h1
  have e : kf h (A ++ (k, x.2) :: B) = kf h (A ++ x :: B) := by rw [kf_app, kf_app, kf_cons, kf_cons]
  refine ⟨by rw [kns_app, kns_cons]; exact h1, fun y hy => ?_, by rw [e]; exact s.nd⟩
  have hq : ∀ z : ByteArray × G h, z ∈ A ++ x :: B → At h R0 (w.setCell ⟨q, A.length * 2, none⟩ (.string k)) z.2 := fun z hz => (s.kids z hz).same (fun a ha => Below.heap_setCell _ _ _ _ (fun e2 => by
    have e2 : a = q := e2
    have h3 := nd_count.1 s.nd a
    have m4 : a ∈ kf h (A ++ x :: B) := List.mem_flatMap.2 ⟨z, hz, ha⟩
    have h4 := mem_count.1 m4
    have m5 : a ∈ own1 (.slice (some ⟨q, 0, none⟩) n c) := own1_mem.2 (by rw [e2]; rfl)
    have h5 := mem_count.1 m5
    rw [List.count_cons, List.count_append] at h3
    omega))
  rcases List.mem_append.1 hy with hy | hy
  · exact hq y (List.mem_append_left _ hy)
  · rcases List.mem_cons.1 hy with rfl | hy
    · exact hq x (List.mem_append_right _ (List.mem_cons_self ..))
    · exact hq y (List.mem_append_right _ (List.mem_cons_of_mem _ hy))
theorem kns_at (h : Nat) (A B : List (ByteArray × G h)) (x : ByteArray × G h) (hlt : A.length < (kns h (A ++ x :: B)).length) : (kns h (A ++ x :: B))[A.length] = ⟨x.1, gb h x.2⟩ := by
  simp [kns]
/-- A child's cells. -/
theorem NS.item {h : Nat} {w : World} {b q n c : Nat} {R : Rest} {A B : List (ByteArray × G h)} {x : ByteArray × G h} (s : NS h w b R (.slice (some ⟨q, 0, none⟩) n c) (A ++ x :: B)) :
    w.cell? ⟨q, A.length * 2 + 1, none⟩ = some (.pointer (some ⟨gb h x.2, 0, none⟩)) ∧ (∃ k, w.cell? ⟨q, A.length * 2, none⟩ = some (.string k)) ∧ w.frozen? ⟨q, A.length * 2, none⟩ = false := by
  have hlt : A.length < (kns h (A ++ x :: B)).length := by rw [kns_len]; simp
  have h1 := own_cell KN.en_len s.pa.own hlt (j := 1) (by omega)
  have h0 := own_cell KN.en_len s.pa.own hlt (j := 0) (by omega)
  rw [kns_at] at h1 h0
  exact ⟨h1.1, ⟨x.1, h0.1⟩, h0.2⟩

set_option maxRecDepth 100000 in
set_option maxHeartbeats 2000000 in
theorem relieve_few (w : World) {h : Nat} {b q n cp : Nat} {R : Rest} {A B : List (ByteArray × G h)} {k0 : ByteArray} {c : G h} (s : NS h w b R (.slice (some ⟨q, 0, none⟩) n cp) (A ++ (k0, c) :: B)) (hn : n = (A ++ (k0, c) :: B).length)
    (hA : ∀ x ∈ A, Kid h (Ok h) x) (hB : ∀ x ∈ B, Kid h (Ok h) x) (ho : Ok h c) (h2 : 2 ≤ cnt h c) (h4 : cnt h c ≤ 4) :
    Calls Try.prog 42 #[.pointer (some ⟨b, 0, none⟩), .int .i64 A.length] w fun e w' => e = .returned (.tuple #[]) ∧ Mend h w b R (.slice (some ⟨q, 0, none⟩) n cp) (A ++ (k0, c) :: B) n (n + 1) w' := by
  have hx : (k0, c) ∈ A ++ (k0, c) :: B := List.mem_append_right _ (List.mem_cons_self ..)
  have hca : At h R0 w c := s.kids _ hx
  have c1 := s.pa.at_.c1
  have hbl := s.pa.lt
  obtain ⟨d1, _, _⟩ := s.item
  have hlen : A.length < n := by rw [hn]; simp
  have hcg : cnt h c ≤ 1000 := by omega
  have HC := Lib.hid (count_G w hca hcg)
  have HL := Lib.hid (fun W (hW : Below w.heap.size w W) => least_G W (hca.below hW) ho (by omega))
  have HS := Lib.hid s
  have hfin : ∀ W, Below w.heap.size w W → Mend h w b R (.slice (some ⟨q, 0, none⟩) n cp) (A ++ (k0, c) :: B) n (n + 1) (W.setCell ⟨q, A.length * 2, none⟩ (.string (leastK (kvs h c)))) := fun W hW => by
    have s1 := (HS.out.below hW).key hn (leastK (kvs h c))
    have e : kf h (A ++ (leastK (kvs h c), c) :: B) = kf h (A ++ (k0, c) :: B) := by rw [kf_app, kf_app, kf_cons, kf_cons]
    refine ⟨_, _, s1, by rw [kk_app, kk_app, kk_cons, kk_cons], fun x hx => ?_, by rw [hn]; simp, by rw [hn]; simp, by rw [e]; exact Foot.refl HS.out.lt, ?_⟩
    · rcases List.mem_append.1 hx with hx | hx
      · exact hA x hx
      · rcases List.mem_cons.1 hx with rfl | hx
        · exact ⟨h2, h4, ho, rfl⟩
        · exact hB x hx
    · exact (Fr.of_below hW).setCell (p := ⟨q, A.length * 2, none⟩) (.inl (List.mem_cons_of_mem _ (List.mem_append_left _ (own1_mem.2 rfl)))) _
  have hcell : ∀ W, Below w.heap.size w W → (∃ k, W.cell? ⟨q, A.length * 2, none⟩ = some (.string k)) ∧ W.frozen? ⟨q, A.length * 2, none⟩ = false := fun W hW => (HS.out.below hW).item.2
  have HF := Lib.hid hfin
  have HCE := Lib.hid hcell
  have h4I : ¬ (4 : Int) < (cnt h c : Int) := by omega
  have hli : (A.length : Int) < (n : Int) := by omega
  generalize cnt h c = m at *
  generalize leastK (kvs h c) = kq at *
  generalize gb h c = bc at *
  generalize A.length = i at *
  clear hfin hcell hca hx s hA hB h2 h4 ho hcg hn
  go_enter Try.func42, Try.ntmps42
  go_wp2_with (go_at_call 30; refine HC.out.mono ?_; rintro e w1 ⟨rfl, hb1⟩)
  have HB1 := Lib.hid hb1
  have a1 : w1.cell? ⟨b, 1, none⟩ = some (.slice (some ⟨q, 0, none⟩) n cp) := (World.cell?_of_block (hb1.block b hbl)).trans c1
  obtain ⟨⟨kx, a0⟩, af⟩ := HCE.out w1 hb1
  clear hb1
  go_region_with (go_at_call 47; refine (HL.out w1.drew HB1.out.drew).mono ?_; rintro e w2 ⟨rfl, hw⟩; obtain rfl := hw.symm; clear hw)
  all_goals go_wp2
  all_goals go_end0
  all_goals exact ⟨rfl, HF.out w1.drew HB1.out.drew⟩

/-- What stands of a node when a child has been split, and its second half is put in. -/
theorem ns_split {h : Nat} {w w2 w3 : World} {b : Nat} {R : Rest} {v v1 : Value} {A B : List (ByteArray × G h)} {k0 : ByteArray} {c g1 g2 : G h} (s : NS h w b R v (A ++ (k0, c) :: B)) (a1 : At h R0 w2 g1) (a2 : At h R0 w2 g2) (hh : Halves h w.heap.size c g1 g2) (hf2 : Fr w.heap.size (· ∈ fp h c) w w2)
    (k2 : ByteArray) (hp : PAQ w3 b R v1 (kns h (A ++ (k0, g1) :: (k2, g2) :: B))) (hm : ∀ g, v1.ownBlock = some g → v.ownBlock = some g ∨ w2.heap.size ≤ g) (hf3 : Fr w2.heap.size (MineQ b v) w2 w3) :
    NS h w3 b R v1 (A ++ (k0, g1) :: (k2, g2) :: B) ∧ Foot w.heap.size (b :: (own1 v ++ kf h (A ++ (k0, c) :: B))) (b :: (own1 v1 ++ kf h (A ++ (k0, g1) :: (k2, g2) :: B))) ∧ Fr w.heap.size (· ∈ b :: (own1 v ++ kf h (A ++ (k0, c) :: B))) w w3 := by
  have e1 : ∀ a, (b :: (own1 v ++ kf h (A ++ (k0, c) :: B))).count a = (b :: own1 v).count a + (kf h A).count a + (fp h c).count a + (kf h B).count a := fun a => by
    rw [kf_app, kf_cons]
    simp only [List.count_cons, List.count_append]
    omega
  have e2 : ∀ a, (b :: (own1 v1 ++ kf h (A ++ (k0, g1) :: (k2, g2) :: B))).count a = (b :: own1 v1).count a + (kf h A).count a + (fp h g1 ++ fp h g2).count a + (kf h B).count a := fun a => by
    rw [kf_app, kf_cons, kf_cons]
    simp only [List.count_cons, List.count_append]
    omega
  have hlt := s.lt
  have hltc : ∀ a, w.heap.size ≤ a → (b :: own1 v).count a = 0 ∧ (kf h A).count a = 0 ∧ (fp h c).count a = 0 ∧ (kf h B).count a = 0 := fun a ha => by
    have := count_zero hlt ha
    rw [e1] at this
    omega
  have hv1 : ∀ a, a < w.heap.size → (own1 v1).count a ≤ (own1 v).count a := fun a ha => by
    by_cases e : v1.ownBlock = some a
    · rcases hm a e with e3 | e3
      · rw [count_one v1 a a e, count_one v a a e3]; omega
      · have := hf2.size; omega
    · rw [own1_zero e]; omega
  have hnew : ∀ a, v1.ownBlock = some a → w.heap.size ≤ a → (fp h g1 ++ fp h g2).count a = 0 := fun a e ha => by
    rcases hm a e with e3 | e3
    · have := hlt a (List.mem_cons_of_mem _ (List.mem_append_left _ (own1_mem.2 e3))); omega
    · exact count_zero (N := w2.heap.size) (fun x hx => (List.mem_append.1 hx).elim (a1.lt x) (a2.lt x)) e3
  have ft : Foot w.heap.size (b :: (own1 v ++ kf h (A ++ (k0, c) :: B))) (b :: (own1 v1 ++ kf h (A ++ (k0, g1) :: (k2, g2) :: B))) := by
    refine ⟨fun a ha => ?_, fun a ha => ?_⟩
    · rw [e1, e2]
      have h1 := hv1 a ha
      have h2 := hh.foot.lo a ha
      simp only [List.count_cons] at h1 ⊢
      omega
    · rw [e2]
      obtain ⟨z1, z2, z3, z4⟩ := hltc a ha
      have h2 := hh.foot.hi a ha
      have h3 := own1_count v1 a
      rw [List.count_cons] at z1 ⊢
      by_cases e : v1.ownBlock = some a
      · have := hnew a e ha
        omega
      · rw [own1_zero e]
        omega
  have hbA : ∀ x, x ∈ A ∨ x ∈ B → ∀ a ∈ fp h x.2, a ∉ fp h c ∧ ¬ MineQ b v a ∧ a < w.heap.size := fun x hx a ha => by
    have h1 := nd_count.1 s.nd a
    rw [e1] at h1
    have h2 : 0 < (kf h A).count a + (kf h B).count a := by
      rcases hx with hx | hx
      · have m1 : a ∈ kf h A := List.mem_flatMap.2 ⟨x, hx, ha⟩
        have := mem_count.1 m1; omega
      · have m1 : a ∈ kf h B := List.mem_flatMap.2 ⟨x, hx, ha⟩
        have := mem_count.1 m1; omega
    refine ⟨fun e => ?_, fun e => ?_, ?_⟩
    · have := mem_count.1 e; omega
    · rw [List.count_cons] at h1
      rcases e with e | e
      · have : (b == a) = true := by simp [e]
        rw [if_pos this] at h1; omega
      · have := mem_count.1 (own1_mem.2 e); omega
    · have hx2 : x ∈ A ++ (k0, c) :: B := by
        rcases hx with hx | hx
        · exact List.mem_append_left _ hx
        · exact List.mem_append_right _ (List.mem_cons_of_mem _ hx)
      exact (s.kids x hx2).lt a ha
  have hold : ∀ x, x ∈ A ∨ x ∈ B → At h R0 w3 x.2 := fun x hx => by
    have hx2 : x ∈ A ++ (k0, c) :: B := by
      rcases hx with hx | hx
      · exact List.mem_append_left _ hx
      · exact List.mem_append_right _ (List.mem_cons_of_mem _ hx)
    have s2 := (s.kids x hx2).fr hf2 (Nat.le_refl _) (fun a ha => (hbA x hx a ha).1)
    exact s2.fr hf3 (Nat.le_refl _) (fun a ha => (hbA x hx a ha).2.1)
  have hmine : ∀ a, MineQ b v a → a ∈ b :: (own1 v ++ kf h (A ++ (k0, c) :: B)) := fun a e => by
    rcases e with rfl | e
    · exact List.mem_cons_self ..
    · exact List.mem_cons_of_mem _ (List.mem_append_left _ (own1_mem.2 e))
  have hhalf : ∀ a ∈ fp h g1 ++ fp h g2, ¬ MineQ b v a := fun a ha e => by
    rcases hh.foot.mem ha with h1 | h1
    · have h2 := nd_count.1 s.nd a
      rw [e1, List.count_cons] at h2
      have h3 := mem_count.1 h1
      rcases e with e | e
      · have : (b == a) = true := by simp [e]
        rw [if_pos this] at h2; omega
      · have := mem_count.1 (own1_mem.2 e); omega
    · have := hlt a (hmine a e); omega
  refine ⟨⟨hp, fun x hx => ?_, ft.nodup s.nd⟩, ft, ?_⟩
  · rcases List.mem_append.1 hx with hx | hx
    · exact hold x (.inl hx)
    · rcases List.mem_cons.1 hx with rfl | hx
      · exact a1.fr hf3 (Nat.le_refl _) (fun a ha => hhalf a (List.mem_append_left _ ha))
      · rcases List.mem_cons.1 hx with rfl | hx
        · exact a2.fr hf3 (Nat.le_refl _) (fun a ha => hhalf a (List.mem_append_right _ ha))
        · exact hold x (.inr hx)
  · refine (hf2.mono (Nat.le_refl _) (fun k _ e => ?_)).trans hf3 hf2.size (fun x _ e => hmine x e)
    refine List.mem_cons_of_mem _ (List.mem_append_right _ ?_)
    rw [kf_app, kf_cons]
    exact List.mem_append_right _ (List.mem_append_left _ e)

set_option maxRecDepth 100000 in
set_option maxHeartbeats 2000000 in
theorem relieve_many (w : World) {h : Nat} {b q n cp : Nat} {R : Rest} {A B : List (ByteArray × G h)} {k0 : ByteArray} {c : G h} (s : NS h w b R (.slice (some ⟨q, 0, none⟩) n cp) (A ++ (k0, c) :: B)) (hn : n = (A ++ (k0, c) :: B).length) (hsm : n ≤ 900)
    (hA : ∀ x ∈ A, Kid h (Ok h) x) (hB : ∀ x ∈ B, Kid h (Ok h) x) (ho : Ok h c) (h5 : cnt h c = 5) :
    Calls Try.prog 42 #[.pointer (some ⟨b, 0, none⟩), .int .i64 A.length] w fun e w' => e = .returned (.tuple #[]) ∧ Mend h w b R (.slice (some ⟨q, 0, none⟩) n cp) (A ++ (k0, c) :: B) n (n + 1) w' := by
  have hx : (k0, c) ∈ A ++ (k0, c) :: B := List.mem_append_right _ (List.mem_cons_self ..)
  have hca : At h R0 w c := s.kids _ hx
  have c1 := s.pa.at_.c1
  have hbl := s.pa.lt
  obtain ⟨d1, _, _⟩ := s.item
  have hlen : A.length < n := by rw [hn]; simp
  have HC := Lib.hid (count_G w hca (by omega))
  have hndc : (fp h c).Nodup := nd_count.2 fun a => by
    have h1 := nd_count.1 s.nd a
    rw [kf_app, kf_cons] at h1
    simp only [List.count_cons, List.count_append] at h1
    omega
  have HSP := Lib.hid (fun W (hW : Below w.heap.size w W) => split_G W (hca.below hW) hndc (by omega) (by omega))
  have HS := Lib.hid s
  have hins : ∀ w1 W (g1 g2 : G h), Below w.heap.size w w1 → At h R0 W g1 → At h R0 W g2 → Halves h w1.heap.size c g1 g2 → Fr w1.heap.size (· ∈ fp h c) w1 W → Calls Try.prog 36 #[.pointer (some ⟨b, 0, none⟩), .int .i64 ((A.length : Int) + 1), .pointer (some ⟨gb h g2, 0, none⟩)] W fun e w' => ∃ q1 cp1, e = .returned (.tuple #[]) ∧
      NS h w' b R (.slice (some ⟨q1, 0, none⟩) (n + 1) cp1) (A ++ (k0, g1) :: (leastK (kvs h g2), g2) :: B) ∧ Foot w1.heap.size (b :: (own1 (.slice (some ⟨q, 0, none⟩) n cp) ++ kf h (A ++ (k0, c) :: B))) (b :: (own1 (.slice (some ⟨q1, 0, none⟩) (n + 1) cp1) ++ kf h (A ++ (k0, g1) :: (leastK (kvs h g2), g2) :: B))) ∧ Fr w1.heap.size (· ∈ b :: (own1 (.slice (some ⟨q, 0, none⟩) n cp) ++ kf h (A ++ (k0, c) :: B))) w1 w' := fun w1 W g1 g2 hb1 a1 a2 hh hf => by
    have s1 := HS.out.below hb1
    have hpa : PAQ W b R (.slice (some ⟨q, 0, none⟩) n cp) (kns h (A ++ (k0, c) :: B)) := s1.pa.fr hf (Nat.le_refl _) (fun e => by
      have h1 := nd_count.1 s1.nd b
      rw [kf_app, kf_cons] at h1
      simp only [List.count_cons, List.count_append] at h1
      have := mem_count.1 e
      simp at h1
      omega) (fun k hk e => by
      have h1 := nd_count.1 s1.nd k
      rw [kf_app, kf_cons] at h1
      simp only [List.count_cons, List.count_append] at h1
      have := mem_count.1 e
      have := mem_count.1 (own1_mem.2 hk)
      omega)
    have ho2 := hh.ok ho
    have hc2 : 0 < cnt h g2 := by rw [hh.c2]; omega
    have := insert_any W hpa (by rw [kns_len]; omega) (A.length + 1) (gb h g2) (by rw [kns_len]; simp) (leastK (kvs h g2)) (fun V hV => least_G V (a2.below hV) ho2.2 hc2)
    refine this.mono ?_
    rintro e w' ⟨v1, rfl, hp, hm, hf3⟩
    have el : (kns h (A ++ (k0, c) :: B)).take (A.length + 1) ++ ⟨leastK (kvs h g2), gb h g2⟩ :: (kns h (A ++ (k0, c) :: B)).drop (A.length + 1) = kns h (A ++ (k0, g1) :: (leastK (kvs h g2), g2) :: B) := by
      rw [kns_take, kns_drop]
      have t1 : (A ++ (k0, c) :: B).take (A.length + 1) = A ++ [(k0, c)] := by rw [List.take_append, List.take_of_length_le (by omega), Nat.add_sub_cancel_left]; rfl
      have t2 : (A ++ (k0, c) :: B).drop (A.length + 1) = B := by rw [List.drop_append]; simp
      rw [t1, t2, kns_app, kns_app, kns_cons, kns_cons, kns_cons]
      show kns h A ++ [⟨k0, gb h c⟩] ++ _ = _
      rw [hh.b]
      simp
    rw [el] at hp
    obtain ⟨r1, r2, r3⟩ := ns_split s1 a1 a2 hh hf (leastK (kvs h g2)) hp hm hf3
    obtain ⟨q1, cp1, rfl, _, _⟩ := hp.own.form (by rw [kns_len]; simp; omega)
    have hl : (kns h (A ++ (k0, g1) :: (leastK (kvs h g2), g2) :: B)).length = n + 1 := by rw [kns_len, hn]; simp; omega
    rw [hl] at r1 r2
    exact ⟨q1, cp1, rfl, r1, r2, r3⟩
  have HI := Lib.hid hins
  have h5I : (4 : Int) < (cnt h c : Int) := by omega
  have hli : (A.length : Int) < (n : Int) := by omega
  have hli2 : (A.length : Int) < ((n + 1 : Nat) : Int) := by omega
  have hA9 : (A.length : Int) ≤ 1000 := by omega
  have hit : ∀ W q1 cp1 (g1 : G h) k2 (g2 : G h), NS h W b R (.slice (some ⟨q1, 0, none⟩) (n + 1) cp1) (A ++ (k0, g1) :: (k2, g2) :: B) → W.cell? ⟨b, 1, none⟩ = some (.slice (some ⟨q1, 0, none⟩) (n + 1) cp1) ∧ (∃ k, W.cell? ⟨q1, A.length * 2, none⟩ = some (.string k)) ∧ W.frozen? ⟨q1, A.length * 2, none⟩ = false ∧
      (gb h g1 = gb h c → Ok h g1 → 0 < cnt h g1 → Calls Try.prog 47 #[.pointer (some ⟨gb h c, 0, none⟩)] W.drew fun e w' => e = .returned (.string (leastK (kvs h g1))) ∧ w' = W.drew) := fun W q1 cp1 g1 k2 g2 s1 => by
    have hc1 := s1.pa.at_.c1
    refine ⟨hc1, s1.item.2.1, s1.item.2.2, fun hb ho hc => ?_⟩
    have := least_G W.drew ((s1.kids (k0, g1) (List.mem_append_right _ (List.mem_cons_self ..))).same (w' := W.drew) (fun _ _ => rfl)) ho hc
    rw [hb] at this
    exact this
  have hfin : ∀ w1 W (g1 g2 : G h) q1 cp1, Below w.heap.size w w1 → Halves h w1.heap.size c g1 g2 → NS h W b R (.slice (some ⟨q1, 0, none⟩) (n + 1) cp1) (A ++ (k0, g1) :: (leastK (kvs h g2), g2) :: B) → Foot w1.heap.size (b :: (own1 (.slice (some ⟨q, 0, none⟩) n cp) ++ kf h (A ++ (k0, c) :: B))) (b :: (own1 (.slice (some ⟨q1, 0, none⟩) (n + 1) cp1) ++ kf h (A ++ (k0, g1) :: (leastK (kvs h g2), g2) :: B))) → Fr w1.heap.size (· ∈ b :: (own1 (.slice (some ⟨q, 0, none⟩) n cp) ++ kf h (A ++ (k0, c) :: B))) w1 W →
      Mend h w b R (.slice (some ⟨q, 0, none⟩) n cp) (A ++ (k0, c) :: B) n (n + 1) (W.setCell ⟨q1, A.length * 2, none⟩ (.string (leastK (kvs h g1)))) := fun w1 W g1 g2 q1 cp1 hb1 hh s3 f3 r3 => by
    have s4 := s3.key (by rw [hn]; simp; omega) (leastK (kvs h g1))
    have e : kf h (A ++ (leastK (kvs h g1), g1) :: (leastK (kvs h g2), g2) :: B) = kf h (A ++ (k0, g1) :: (leastK (kvs h g2), g2) :: B) := by rw [kf_app, kf_app, kf_cons, kf_cons, kf_cons, kf_cons]
    have ho2 := hh.ok ho
    have f4 := (Foot.refl HS.out.lt).trans f3 hb1.size
    refine ⟨_, _, s4, ?_, fun x hx => ?_, by rw [hn]; simp, by rw [hn]; simp; omega, by rw [e]; exact f4, ?_⟩
    · rw [kk_app, kk_app, kk_cons, kk_cons, kk_cons, ← List.append_assoc (kvs h g1), hh.kv]
    · rcases List.mem_append.1 hx with hx | hx
      · exact hA x hx
      · rcases List.mem_cons.1 hx with rfl | hx
        · exact ⟨by show 2 ≤ cnt h g1; rw [hh.c1]; omega, by show cnt h g1 ≤ 4; rw [hh.c1]; omega, ho2.1, rfl⟩
        · rcases List.mem_cons.1 hx with rfl | hx
          · exact ⟨by show 2 ≤ cnt h g2; rw [hh.c2]; omega, by show cnt h g2 ≤ 4; rw [hh.c2]; omega, ho2.2, rfl⟩
          · exact hB x hx
    · refine ((Fr.of_below hb1).trans r3 hb1.size (fun x _ e => e)).setCell (p := ⟨q1, A.length * 2, none⟩) ?_ _
      exact f4.mem (List.mem_cons_of_mem _ (List.mem_append_left _ (own1_mem.2 rfl)))
  have hcs : ∀ (g1 g2 : G h) N, Halves h N c g1 g2 → gb h g1 = gb h c ∧ Ok h g1 ∧ 0 < cnt h g1 := fun g1 g2 N hh => ⟨hh.b, (hh.ok ho).1, by rw [hh.c1]; omega⟩
  have HIT := Lib.hid hit
  have HF := Lib.hid hfin
  have HCS := Lib.hid hcs
  generalize cnt h c = m at *
  generalize gb h c = bc at *
  generalize A.length = i at *
  clear hfin hit hcs hins hca hx s hA hB h5 ho hn HS hndc
  go_enter Try.func42, Try.ntmps42
  go_upto_region 3 with (first
    | (go_at_call 36; refine (HI.out w1 w2 g1 g2 HB1.out A1.out A2.out HH.out HFR.out).mono ?_; rintro e w3 ⟨q1, cp1, rfl, s3, f3, r3⟩)
    | (go_at_call 35; refine (HSP.out w1 HB1.out).mono ?_; rintro e w2 ⟨g1, g2, rfl, a1, a2, hh, hf⟩; have A1 := Lib.hid a1; have A2 := Lib.hid a2; have HH := Lib.hid hh; have HFR := Lib.hid hf; clear a1 a2 hh hf)
    | (go_at_call 30; refine HC.out.mono ?_; rintro e w1 ⟨rfl, hb1⟩; have HB1 := Lib.hid hb1; clear hb1))
  obtain ⟨x1, ⟨kx, x2⟩, x3, x4⟩ := HIT.out w3 q1 cp1 g1 _ g2 s3
  obtain ⟨y1, y2, y3⟩ := HCS.out g1 g2 _ HH.out
  have HL := Lib.hid (x4 y1 y2 y3)
  have HM := Lib.hid (HF.out w1 w3.drew g1 g2 q1 cp1 HB1.out HH.out (s3.alike rfl) f3 r3.drew)
  generalize leastK (kvs h g1) = kq at *
  clear x4 y1 y2 y3 s3 f3 r3
  go_region_with (go_at_call 47; refine (HL.out).mono ?_; rintro e w4 ⟨rfl, hw⟩; obtain rfl := hw.symm; clear hw)
  all_goals go_wp2
  all_goals go_end0
  all_goals exact ⟨rfl, HM.out⟩

/-- A child that may have one too many is relieved. -/
theorem relieve_any (w : World) {h : Nat} {b : Nat} {R : Rest} {v : Value} {A B : List (ByteArray × G h)} {k0 : ByteArray} {c : G h} (s : NS h w b R v (A ++ (k0, c) :: B)) (hsm : (A ++ (k0, c) :: B).length ≤ 900)
    (hA : ∀ x ∈ A, Kid h (Ok h) x) (hB : ∀ x ∈ B, Kid h (Ok h) x) (ho : Ok h c) (h2 : 2 ≤ cnt h c) (h5 : cnt h c ≤ 5) :
    Calls Try.prog 42 #[.pointer (some ⟨b, 0, none⟩), .int .i64 A.length] w fun e w' => e = .returned (.tuple #[]) ∧ Mend h w b R v (A ++ (k0, c) :: B) (A ++ (k0, c) :: B).length ((A ++ (k0, c) :: B).length + 1) w' := by
  obtain ⟨q, cp, hv, _, _⟩ := s.pa.own.form (by rw [kns_len]; simp; omega)
  rw [kns_len] at hv
  subst hv
  by_cases h4 : cnt h c ≤ 4
  · exact relieve_few w s rfl hA hB ho h2 h4
  · exact relieve_many w s rfl hsm hA hB ho (by omega)
end Go.Proofs.Ytejbbojephiifaa
