/- tree: refill where two neighbours share. -/
import Derived.Test.YtejbbojephiifaaTeL
namespace Go.Proofs.Ytejbbojephiifaa
open Go.RowKit

/-- A node some of whose children have been changed, and its list with them. -/
theorem ns_mid {h : Nat} {w w2 w3 : World} {b : Nat} {R : Rest} {v v1 : Value} {A B M M' M2 : List (ByteArray × G h)} (s : NS h w b R v (A ++ (M ++ B))) (a1 : KidsAt h w2 M') (hh : Foot w.heap.size (kf h M) (kf h M')) (hf2 : Fr w.heap.size (· ∈ kf h M) w w2) (e2k : ∀ x ∈ M2, ∃ y ∈ M', x.2 = y.2) (e2f : kf h M2 = kf h M')
    (hp : PAQ w3 b R v1 (kns h (A ++ (M2 ++ B)))) (hm : ∀ g, v1.ownBlock = some g → v.ownBlock = some g ∨ w2.heap.size ≤ g) (hf3 : Fr w2.heap.size (MineQ b v) w2 w3) :
    NS h w3 b R v1 (A ++ (M2 ++ B)) ∧ Foot w.heap.size (b :: (own1 v ++ kf h (A ++ (M ++ B)))) (b :: (own1 v1 ++ kf h (A ++ (M2 ++ B)))) ∧ Fr w.heap.size (· ∈ b :: (own1 v ++ kf h (A ++ (M ++ B)))) w w3 := by
  have e1 : ∀ a, (b :: (own1 v ++ kf h (A ++ (M ++ B)))).count a = (b :: own1 v).count a + (kf h A).count a + (kf h M).count a + (kf h B).count a := fun a => by
    rw [kf_app, kf_app]
    simp only [List.count_cons, List.count_append]
    omega
  have e2 : ∀ a, (b :: (own1 v1 ++ kf h (A ++ (M2 ++ B)))).count a = (b :: own1 v1).count a + (kf h A).count a + (kf h M').count a + (kf h B).count a := fun a => by
    rw [kf_app, kf_app, e2f]
    simp only [List.count_cons, List.count_append]
    omega
  have hlt := s.lt
  have hltc : ∀ a, w.heap.size ≤ a → (b :: own1 v).count a = 0 ∧ (kf h A).count a = 0 ∧ (kf h M).count a = 0 ∧ (kf h B).count a = 0 := fun a ha => by
    have := count_zero hlt ha
    rw [e1] at this
    omega
  have hv1 : ∀ a, a < w.heap.size → (own1 v1).count a ≤ (own1 v).count a := fun a ha => by
    by_cases e : v1.ownBlock = some a
    · rcases hm a e with e3 | e3
      · rw [count_one v1 a a e, count_one v a a e3]; omega
      · have := hf2.size; omega
    · rw [own1_zero e]; omega
  have hnew : ∀ a, v1.ownBlock = some a → w.heap.size ≤ a → (kf h M').count a = 0 := fun a e ha => by
    rcases hm a e with e3 | e3
    · have := hlt a (List.mem_cons_of_mem _ (List.mem_append_left _ (own1_mem.2 e3))); omega
    · exact count_zero (N := w2.heap.size) a1.lt e3
  have ft : Foot w.heap.size (b :: (own1 v ++ kf h (A ++ (M ++ B)))) (b :: (own1 v1 ++ kf h (A ++ (M2 ++ B)))) := by
    refine ⟨fun a ha => ?_, fun a ha => ?_⟩
    · rw [e1, e2]
      have h1 := hv1 a ha
      have h2 := hh.lo a ha
      simp only [List.count_cons] at h1 ⊢
      omega
    · rw [e2]
      obtain ⟨z1, z2, z3, z4⟩ := hltc a ha
      have h2 := hh.hi a ha
      have h3 := own1_count v1 a
      rw [List.count_cons] at z1 ⊢
      by_cases e : v1.ownBlock = some a
      · have := hnew a e ha
        omega
      · rw [own1_zero e]
        omega
  have hbA : ∀ x, x ∈ A ∨ x ∈ B → ∀ a ∈ fp h x.2, a ∉ kf h M ∧ ¬ MineQ b v a := fun x hx a ha => by
    have h1 := nd_count.1 s.nd a
    rw [e1] at h1
    have h2 : 0 < (kf h A).count a + (kf h B).count a := by
      rcases hx with hx | hx
      · have m1 : a ∈ kf h A := List.mem_flatMap.2 ⟨x, hx, ha⟩
        have := mem_count.1 m1; omega
      · have m1 : a ∈ kf h B := List.mem_flatMap.2 ⟨x, hx, ha⟩
        have := mem_count.1 m1; omega
    refine ⟨fun e => ?_, fun e => ?_⟩
    · have := mem_count.1 e; omega
    · rw [List.count_cons] at h1
      rcases e with e | e
      · have : (b == a) = true := by simp [e]
        rw [if_pos this] at h1; omega
      · have := mem_count.1 (own1_mem.2 e); omega
  have hold : ∀ x, x ∈ A ∨ x ∈ B → At h R0 w3 x.2 := fun x hx => by
    have hx2 : x ∈ A ++ (M ++ B) := by
      rcases hx with hx | hx
      · exact List.mem_append_left _ hx
      · exact List.mem_append_right _ (List.mem_append_right _ hx)
    have s2 := (s.kids x hx2).fr hf2 (Nat.le_refl _) (fun a ha => (hbA x hx a ha).1)
    exact s2.fr hf3 (Nat.le_refl _) (fun a ha => (hbA x hx a ha).2)
  have hmine : ∀ a, MineQ b v a → a ∈ b :: (own1 v ++ kf h (A ++ (M ++ B))) := fun a e => by
    rcases e with rfl | e
    · exact List.mem_cons_self ..
    · exact List.mem_cons_of_mem _ (List.mem_append_left _ (own1_mem.2 e))
  have hhalf : ∀ a ∈ kf h M', ¬ MineQ b v a := fun a ha e => by
    rcases hh.mem ha with h1 | h1
    · have h2 := nd_count.1 s.nd a
      rw [e1, List.count_cons] at h2
      have h3 := mem_count.1 h1
      rcases e with e | e
      · have : (b == a) = true := by simp [e]
        rw [if_pos this] at h2; omega
      · have := mem_count.1 (own1_mem.2 e); omega
    · have := hlt a (hmine a e); omega
  refine ⟨⟨hp, fun x hx => ?_, ft.nodup s.nd⟩, ft, ?_⟩
  · rcases List.mem_append.1 hx with hx | hx
    · exact hold x (.inl hx)
    · rcases List.mem_append.1 hx with hx | hx
      · obtain ⟨y, hy, e⟩ := e2k x hx
        rw [e]
        exact (a1 y hy).fr hf3 (Nat.le_refl _) (fun a ha => hhalf a (List.mem_flatMap.2 ⟨y, hy, ha⟩))
      · exact hold x (.inr hx)
  · refine (hf2.mono (Nat.le_refl _) (fun k _ e => ?_)).trans hf3 hf2.size (fun x _ e => hmine x e)
    refine List.mem_cons_of_mem _ (List.mem_append_right _ ?_)
    rw [kf_app, kf_app]
    exact List.mem_append_right _ (List.mem_append_left _ e)
theorem kf_two (h : Nat) (x y : ByteArray × G h) : kf h [x, y] = fp h x.2 ++ fp h y.2 := by simp [kf]
theorem kf_one (h : Nat) (x : ByteArray × G h) : kf h [x] = fp h x.2 := by simp [kf]
/-- The node's own list stays where it is while some children change. -/
theorem ns_pa {h : Nat} {w w2 : World} {b : Nat} {R : Rest} {v : Value} {A B M : List (ByteArray × G h)} (s : NS h w b R v (A ++ (M ++ B))) {S : Nat → Prop} (hf2 : Fr w.heap.size S w w2) (hS : ∀ a, S a → a ∈ kf h M) : PAQ w2 b R v (kns h (A ++ (M ++ B))) := by
  have h1 : ∀ a, a ∈ b :: own1 v → ¬ S a := fun a ha e => by
    have h2 := nd_count.1 s.nd a
    have h3 := mem_count.1 ha
    have h4 := mem_count.1 (hS a e)
    rw [kf_app, kf_app] at h2
    simp only [List.count_cons, List.count_append] at h2 h3
    omega
  exact s.pa.fr hf2 (Nat.le_refl _) (h1 b (List.mem_cons_self ..)) (fun k hk => h1 k (List.mem_cons_of_mem _ (own1_mem.2 hk)))

/-- What is behind share, for a node's two children. -/
theorem shared_kids {h : Nat} {w w2 : World} {c1 c2 : G h} (hs : Shared h w R0 c1 c2 w2) (k1 k2 : ByteArray) :
    (cnt h c1 + cnt h c2 < 4 ∧ ∃ g1 : G h, KidsAt h w2 [(k1, g1)] ∧ gb h g1 = gb h c1 ∧ kvs h g1 = kvs h c1 ++ kvs h c2 ∧ cnt h g1 = cnt h c1 + cnt h c2 ∧ (Ok h c1 → Ok h c2 → Ok h g1) ∧ Foot w.heap.size (kf h [(k1, c1), (k2, c2)]) (kf h [(k1, g1)]) ∧ PartAt w2 (gb h c2) R0 (.slice none 0 0) (.slice none 0 0) ∧ Fr w.heap.size (· ∈ kf h [(k1, c1), (k2, c2)]) w w2) ∨
    (4 ≤ cnt h c1 + cnt h c2 ∧ ∃ g1 g2 : G h, (∀ k3 : ByteArray, KidsAt h w2 [(k1, g1), (k3, g2)]) ∧ gb h g1 = gb h c1 ∧ gb h g2 = gb h c2 ∧ kvs h g1 ++ kvs h g2 = kvs h c1 ++ kvs h c2 ∧ cnt h g1 = (cnt h c1 + cnt h c2) / 2 ∧ cnt h g2 = cnt h c1 + cnt h c2 - (cnt h c1 + cnt h c2) / 2 ∧ (Ok h c1 → Ok h c2 → Ok h g1 ∧ Ok h g2) ∧ (∀ k3 : ByteArray, Foot w.heap.size (kf h [(k1, c1), (k2, c2)]) (kf h [(k1, g1), (k3, g2)])) ∧ Fr w.heap.size (· ∈ kf h [(k1, c1), (k2, c2)]) w w2) := by
  have ek := kf_two h (k1, c1) (k2, c2)
  rcases hs with ⟨h4, g1, a1, b1, e1, e2, e3, e4, e5, e6⟩ | ⟨h4, g1, g2, a1, a2, b1, b2, e1, e2, e3, e4, e5, e6⟩
  · refine .inl ⟨h4, g1, fun x hx => ?_, b1, e1, e2, e3, ?_, e5, e6.mono (Nat.le_refl _) (fun k _ e => by rw [ek]; exact e)⟩
    · rw [List.mem_singleton.1 hx]; exact a1
    · rw [ek, kf_one]
      refine ⟨fun a ha => ?_, fun a ha => ?_⟩
      · have := e4.lo a ha
        rw [List.count_append] at this
        show (fp h g1).count a ≤ (fp h c1 ++ fp h c2).count a
        omega
      · have := e4.hi a ha
        rw [List.count_append] at this
        show (fp h g1).count a ≤ _
        omega
  · refine .inr ⟨h4, g1, g2, fun k3 x hx => ?_, b1, b2, e1, e2, e3, e4, fun k3 => by rw [ek, kf_two]; exact e5, e6.mono (Nat.le_refl _) (fun k _ e => by rw [ek]; exact e)⟩
    rcases List.mem_cons.1 hx with rfl | hx
    · exact a1
    · rw [List.mem_singleton.1 hx]; exact a2

/-- Behind slices.Delete of the second one of two children. -/
theorem del_two (w : World) {h : Nat} {b q n cp : Nat} {R : Rest} {X Y : List (ByteArray × G h)} {x y g : ByteArray × G h} (hp : PAQ w b R (.slice (some ⟨q, 0, none⟩) n cp) (kns h (X ++ ([x, y] ++ Y)))) (hn : n = (X ++ ([x, y] ++ Y)).length) (hsm : n ≤ 900) (hg : g.1 = x.1 ∧ gb h g.2 = gb h x.2) :
    Calls Try.prog 53 #[.slice (some ⟨q, 0, none⟩) n cp, .int .i64 ((X.length : Int) + 1), .int .i64 ((X.length : Int) + 2)] w fun e w' =>
      e = .returned (.slice (some ⟨q, 0, none⟩) (n - 1) cp) ∧ PAQ (w'.setCell ⟨b, 1, none⟩ (.slice (some ⟨q, 0, none⟩) (n - 1) cp)) b R (.slice (some ⟨q, 0, none⟩) (n - 1) cp) (kns h (X ++ (g :: Y))) ∧ w'.cell? ⟨b, 1, none⟩ = some (.slice (some ⟨q, 0, none⟩) n cp) ∧ w'.frozen? ⟨b, 1, none⟩ = false ∧ Fr w.heap.size (MineQ b (.slice (some ⟨q, 0, none⟩) n cp)) w (w'.setCell ⟨b, 1, none⟩ (.slice (some ⟨q, 0, none⟩) (n - 1) cp)) := by
  have hqb : b ≠ q := fun e => hp.ne (by rw [e]; rfl)
  have hl : (X ++ ([x, y] ++ Y)).length = X.length + 2 + Y.length := by simp; omega
  have ho := hp.own
  rw [kns_len, ← hn] at ho
  refine (delQ_any w q n cp (kns h (X ++ ([x, y] ++ Y))) (X.length + 1) (X.length + 2) (by rw [kns_len, hn]) (by omega) (by omega) (by omega) ho).mono ?_
  rintro e w' ⟨rfl, h2, hf⟩
  have el : (kns h (X ++ ([x, y] ++ Y))).take (X.length + 1) ++ (kns h (X ++ ([x, y] ++ Y))).drop (X.length + 2) = kns h (X ++ (g :: Y)) := by
    rw [kns_take, kns_drop]
    have t1 : (X ++ ([x, y] ++ Y)).take (X.length + 1) = X ++ [x] := by rw [List.take_append, List.take_of_length_le (by omega), Nat.add_sub_cancel_left]; rfl
    have t2 : (X ++ ([x, y] ++ Y)).drop (X.length + 2) = Y := by rw [List.drop_append, List.drop_of_length_le (by omega), Nat.add_sub_cancel_left]; rfl
    rw [t1, t2, kns_app, kns_app, kns_cons, kns_cons, hg.1, hg.2]
    simp [kns]
  have en : n - (X.length + 2 - (X.length + 1)) = n - 1 := by omega
  rw [el, en] at h2
  rw [en]
  have hb := hf.block b hp.lt hqb
  have hl2 : (kns h (X ++ (g :: Y))).length = n - 1 := by rw [kns_len, hn, hl]; simp; omega
  refine ⟨rfl, hp.put hb (by rw [hl2]; exact h2) (fun e => hqb (Option.some.inj e).symm), (World.cell?_of_block hb).trans ?_, (World.frozen?_of_block hb).trans (hp.at_.fz 1), ?_⟩
  · have := hp.at_.c1
    exact this
  · exact (hf.mono (Nat.le_refl _) (fun k _ e => .inr (by rw [e]; rfl))).setCell (p := ⟨b, 1, none⟩) (.inl (.inl rfl)) _

set_option maxRecDepth 100000 in
set_option maxHeartbeats 4000000 in
theorem refill_join (w : World) {h : Nat} {b q n cp i : Nat} {R : Rest} {X Y : List (ByteArray × G h)} {k1 k2 : ByteArray} {c1 c2 : G h} (s : NS h w b R (.slice (some ⟨q, 0, none⟩) n cp) (X ++ ([(k1, c1), (k2, c2)] ++ Y))) (hn : n = (X ++ ([(k1, c1), (k2, c2)] ++ Y)).length) (hsm : n ≤ 900)
    (hX : ∀ x ∈ X, Kid h (Ok h) x) (hY : ∀ x ∈ Y, Kid h (Ok h) x) (o1 : Ok h c1) (o2 : Ok h c2) (m1 : 0 < cnt h c1) (m2 : 0 < cnt h c2) (ms : 3 ≤ cnt h c1 + cnt h c2) (m5 : cnt h c1 + cnt h c2 ≤ 5) (hi : i = X.length + 1 ∧ cnt h c2 = 1 ∨ i = 0 ∧ X.length = 0 ∧ cnt h c1 = 1) :
    Calls Try.prog 40 #[.pointer (some ⟨b, 0, none⟩), .int .i64 i] w fun e w' => e = .returned (.tuple #[]) ∧ Mend h w b R (.slice (some ⟨q, 0, none⟩) n cp) (X ++ ([(k1, c1), (k2, c2)] ++ Y)) (n - 1) n w' := by
  have s1 : NS h w b R (.slice (some ⟨q, 0, none⟩) n cp) (X ++ (k1, c1) :: ((k2, c2) :: Y)) := s
  have s2 : NS h w b R (.slice (some ⟨q, 0, none⟩) n cp) ((X ++ [(k1, c1)]) ++ (k2, c2) :: Y) := by
    have e : X ++ ([(k1, c1), (k2, c2)] ++ Y) = (X ++ [(k1, c1)]) ++ (k2, c2) :: Y := by simp
    rw [e] at s; exact s
  have hl : (X ++ ([(k1, c1), (k2, c2)] ++ Y)).length = X.length + 2 + Y.length := by simp; omega
  have it1 := s1.item.1
  have it2 := s2.item.1
  have hXl : (X ++ [(k1, c1)]).length = X.length + 1 := by simp
  rw [hXl] at it2
  have hc0 := s.pa.at_.c1
  have a1 : At h R0 w c1 := s1.kids (k1, c1) (List.mem_append_right _ (List.mem_cons_self ..))
  have a2 : At h R0 w c2 := s2.kids (k2, c2) (List.mem_append_right _ (List.mem_cons_self ..))
  have hndm : (fp h c1 ++ fp h c2).Nodup := nd_count.2 fun a => by
    have h1 := nd_count.1 s.nd a
    rw [kf_app, kf_app, kf_two] at h1
    simp only [List.count_cons, List.count_append] at h1 ⊢
    omega
  -- the child that was asked for
  obtain ⟨bc, hic, hib⟩ : ∃ bc, w.cell? ⟨q, i * 2 + 1, none⟩ = some (.pointer (some ⟨bc, 0, none⟩)) ∧ Calls Try.prog 30 #[.pointer (some ⟨bc, 0, none⟩)] w fun e w' => e = .returned (.int .i64 1) ∧ Below w.heap.size w w' := by
    rcases hi with ⟨rfl, hc⟩ | ⟨rfl, hx, hc⟩
    · refine ⟨_, it2, ?_⟩
      have := count_G w a2 (by omega)
      rw [hc] at this
      exact this
    · rw [hx] at it1
      refine ⟨_, it1, ?_⟩
      have := count_G w a1 (by omega)
      rw [hc] at this
      exact this
  have hmax : max ((i : Int) - 1) 0 = (X.length : Int) := by rcases hi with ⟨rfl, _⟩ | ⟨rfl, hx, _⟩ <;> omega
  have HSHR := Lib.hid (fun W (hW : Below w.heap.size w W) => share_G W (a1.below hW) (a2.below hW) hndm m1 m2 (by omega))
  have HCE := Lib.hid (fun W (hW : Below w.heap.size w W) => And.intro ((World.cell?_of_block (hW.block b s.pa.lt)).trans hc0) (And.intro ((World.cell?_of_block (hW.block q (own_lt s.pa.own rfl))).trans it1) ((World.cell?_of_block (hW.block q (own_lt s.pa.own rfl))).trans it2)))
  have HPA := Lib.hid (fun w1 w2 (hb1 : Below w.heap.size w w1) (hf : Fr w1.heap.size (· ∈ kf h [(k1, c1), (k2, c2)]) w1 w2) => ns_pa (s.below hb1) hf (fun _ e => e))
  have HDEL := Lib.hid (fun w2 (g1 : G h) (hp : PAQ w2 b R (.slice (some ⟨q, 0, none⟩) n cp) (kns h (X ++ ([(k1, c1), (k2, c2)] ++ Y)))) (hg : gb h g1 = gb h c1) => del_two w2 (g := (k1, g1)) hp hn hsm ⟨rfl, hg⟩)
  have hnoq : ∀ a, MineQ b (.slice (some ⟨q, 0, none⟩) n cp) a → a ∉ kf h [(k1, c1), (k2, c2)] := fun a e hm => by
    have h2 := nd_count.1 s.nd a
    have h4 := mem_count.1 hm
    rw [kf_app, kf_app, List.count_cons] at h2
    simp only [List.count_append] at h2
    rcases e with e | e
    · have : (b == a) = true := by simp [e]
      rw [if_pos this] at h2; omega
    · have := mem_count.1 (own1_mem.2 e); omega
  have hgm2 : gb h c2 ∈ kf h [(k1, c1), (k2, c2)] := by rw [kf_two]; exact List.mem_append_right _ (gb_mem h c2)
  have hRight : ∀ w2 w4, PartAt w2 (gb h c2) R0 (.slice none 0 0) (.slice none 0 0) → Fr w2.heap.size (MineQ b (.slice (some ⟨q, 0, none⟩) n cp)) w2 w4 → Calls Try.prog 30 #[.pointer (some ⟨gb h c2, 0, none⟩)] w4 fun e w' => e = .returned (.int .i64 0) ∧ Below w4.heap.size w4 w' := fun w2 w4 hr hf => by
    have := countP_any w4 (b := gb h c2) (R := R0) (v := .slice none 0 0) (l := []) ⟨hr.same (hf.block _ hr.lt (fun e => hnoq _ e hgm2)), own_none _ _ _, (by intro e; cases e)⟩ (by simp)
    exact this
  have HR := Lib.hid hRight
  have HS := Lib.hid s
  have HNQ := Lib.hid hnoq
  have hsmall : ∀ w1 w2 w4 (g1 : G h), Below w.heap.size w w1 → KidsAt h w2 [(k1, g1)] → kvs h g1 = kvs h c1 ++ kvs h c2 → Foot w1.heap.size (kf h [(k1, c1), (k2, c2)]) (kf h [(k1, g1)]) → Fr w1.heap.size (· ∈ kf h [(k1, c1), (k2, c2)]) w1 w2 → PAQ w4 b R (.slice (some ⟨q, 0, none⟩) (n - 1) cp) (kns h (X ++ ((k1, g1) :: Y))) → Fr w2.heap.size (MineQ b (.slice (some ⟨q, 0, none⟩) n cp)) w2 w4 → Ok h g1 → 2 ≤ cnt h g1 → cnt h g1 ≤ 4 →
      NS h w4 b R (.slice (some ⟨q, 0, none⟩) (n - 1) cp) (X ++ (k1, g1) :: Y) ∧ ∀ W, Below w4.heap.size w4 W → Mend h w b R (.slice (some ⟨q, 0, none⟩) n cp) (X ++ ([(k1, c1), (k2, c2)] ++ Y)) (n - 1) n (W.setCell ⟨q, X.length * 2, none⟩ (.string (leastK (kvs h g1)))) := fun w1 w2 w4 g1 hb1 ka ekv ef hf p3 f3 og g2 g4 => by
    obtain ⟨n4, t4, r4⟩ := ns_mid (M2 := [(k1, g1)]) (HS.out.below hb1) ka ef hf (fun x hx => ⟨x, hx, rfl⟩) rfl p3 (fun g e => .inl e) f3
    refine ⟨n4, fun W hW => ?_⟩
    refine mend_key (n4.below hW) (by rw [hn, hl]; simp; omega) hX hY og g2 g4 ?_ (Nat.le_refl _) (by omega) ((Foot.refl HS.out.lt).trans t4 hb1.size) (((Fr.of_below hb1).trans r4 hb1.size (fun x _ e => e)).below hW (Nat.le_trans hb1.size r4.size))
    rw [kk_app, kk_app, kk_cons, kk_app, ekv]
    simp [kk]
  have hlarge : ∀ w1 w2 w6 (g1 g2 : G h) q6 cp6, Below w.heap.size w w1 → KidsAt h w2 [(k1, g1), (leastK (kvs h g2), g2)] → kvs h g1 ++ kvs h g2 = kvs h c1 ++ kvs h c2 → Foot w1.heap.size (kf h [(k1, c1), (k2, c2)]) (kf h [(k1, g1), (leastK (kvs h g2), g2)]) → Fr w1.heap.size (· ∈ kf h [(k1, c1), (k2, c2)]) w1 w2 → PAQ w6 b R (.slice (some ⟨q6, 0, none⟩) n cp6) (kns h (X ++ ([(k1, g1), (leastK (kvs h g2), g2)] ++ Y))) → (q = q6 ∨ w2.heap.size ≤ q6) → Fr w2.heap.size (MineQ b (.slice (some ⟨q, 0, none⟩) n cp)) w2 w6 → Ok h g1 → Ok h g2 → cnt h g1 = (cnt h c1 + cnt h c2) / 2 → cnt h g2 = cnt h c1 + cnt h c2 - (cnt h c1 + cnt h c2) / 2 → 4 ≤ cnt h c1 + cnt h c2 →
      NS h w6 b R (.slice (some ⟨q6, 0, none⟩) n cp6) (X ++ (k1, g1) :: ((leastK (kvs h g2), g2) :: Y)) ∧ ∀ W, Below w6.heap.size w6 W → Mend h w b R (.slice (some ⟨q, 0, none⟩) n cp) (X ++ ([(k1, c1), (k2, c2)] ++ Y)) (n - 1) n (W.setCell ⟨q6, X.length * 2, none⟩ (.string (leastK (kvs h g1)))) := fun w1 w2 w6 g1 g2 q6 cp6 hb1 ka ekv ef hf p3 hq f3 og1 og2 e1 e2 e4 => by
    obtain ⟨n4, t4, r4⟩ := ns_mid (M2 := [(k1, g1), (leastK (kvs h g2), g2)]) (HS.out.below hb1) ka ef hf (fun x hx => ⟨x, hx, rfl⟩) rfl p3 (fun g e => by cases e; exact hq.imp_left (fun e => by rw [e]; rfl)) f3
    refine ⟨n4, fun W hW => ?_⟩
    refine mend_key (B := (leastK (kvs h g2), g2) :: Y) (n4.below hW) (by rw [hn, hl]; simp; omega) hX (fun x hx => ?_) og1 (by rw [e1]; omega) (by rw [e1]; omega) ?_ (by omega) (Nat.le_refl _) ((Foot.refl HS.out.lt).trans t4 hb1.size) (((Fr.of_below hb1).trans r4 hb1.size (fun x _ e => e)).below hW (Nat.le_trans hb1.size r4.size))
    · rcases List.mem_cons.1 hx with rfl | hx
      · exact ⟨by show 2 ≤ cnt h g2; rw [e2]; omega, by show cnt h g2 ≤ 4; rw [e2]; omega, og2, rfl⟩
      · exact hY x hx
    · rw [kk_app, kk_app, kk_cons, kk_cons, kk_app, ← List.append_assoc (kvs h g1), ekv]
      simp [kk]
  have HSM := Lib.hid hsmall
  have HLG := Lib.hid hlarge
  have HO : Hid (Ok h c1 ∧ Ok h c2 ∧ 3 ≤ cnt h c1 + cnt h c2 ∧ cnt h c1 + cnt h c2 ≤ 5) := ⟨o1, o2, ms, m5⟩
  have HIB := Lib.hid hib
  have HLEN : Hid (n = X.length + 2 + Y.length) := by show _ = _; rw [hn, hl]
  have hli : (X.length : Int) + 1 < (n : Int) := by omega
  have hli1 : (X.length : Int) < (n : Int) := by omega
  have hii : (i : Int) < (n : Int) := by omega
  have hi9 : (i : Int) ≤ 1000 := by omega
  have hx9 : (X.length : Int) ≤ 1000 := by omega
  clear hsmall hlarge hRight hnoq hib s1 s2 a1 a2 hndm s hX hY o1 o2 m1 m2 ms m5 hi hn hl hXl it1 it2
  have HXN : Hid (∃ z, z = X.length) := ⟨_, rfl⟩
  generalize hxe : X.length = x at *
  have HXE := Lib.hid hxe
  clear hxe
  go_enter Try.func40, Try.ntmps40
  go_upto_region 4 with (first
    | (go_at_call 52; refine (HSHR.out w1 HB1.out).mono ?_; rintro e w2 ⟨rfl, hs⟩; have HS2 := Lib.hid hs; clear hs)
    | (go_at_call 30; refine HIB.out.mono ?_; rintro e w1 ⟨rfl, hb1⟩; have HB1 := Lib.hid hb1; obtain ⟨y1, y2, y3⟩ := HCE.out w1 hb1; clear hb1))
  have hsk := shared_kids HS2.out k1 k2
  rcases hsk with ⟨h4, g1, ka, eb, ekv, ec, eo, ef, er, hf⟩ | ⟨h4, g1, g2, ka, eb, eb2, ekv, ec, ec2, eo, ef, hf⟩
  · have hp2 := HPA.out w1 w2 HB1.out hf
    have b1 : w2.cell? ⟨b, 1, none⟩ = some (.slice (some ⟨q, 0, none⟩) n cp) := hp2.at_.c1
    have HD := Lib.hid (HDEL.out w2 g1 hp2 eb)
    have HKA := Lib.hid (And.intro ka (And.intro ekv (And.intro ec (And.intro (eo HO.out.1 HO.out.2.1) (And.intro ef (And.intro er hf))))))
    have H4 := Lib.hid h4
    clear hp2 ka ekv ec eo ef er hf h4 eb
    go_upto_region 5 with (go_at_call 53; refine HD.out.mono ?_; rintro e w3 ⟨rfl, p3, x3, y3, f3⟩; have P3 := Lib.hid p3; have F3 := Lib.hid f3; clear p3 f3)
    generalize w3.setCell ⟨b, 1, none⟩ (.slice (some ⟨q, 0, none⟩) (n - 1) cp) = w4 at *
    clear x3 y3 b1
    obtain ⟨ka, ekv, ec, og, ef, er, hf⟩ := HKA.out
    have hms := HO.out.2.2
    have hg2 : 2 ≤ cnt h g1 := by rw [ec]; omega
    have hg4 : cnt h g1 ≤ 4 := by have := H4.out; rw [ec]; omega
    obtain ⟨n4, hmend⟩ := HSM.out w1 w2 w4 g1 HB1.out ka ekv ef hf P3.out F3.out og hg2 hg4
    have HCR := Lib.hid (HR.out w2 w4 er F3.out)
    have HMD := Lib.hid hmend
    have HTL := Lib.hid (fun W (hW : Below w4.heap.size w4 W) => (n4.below hW).tail og (by omega))
    rw [HXE.out] at HTL
    have hlt : (x : Int) < ((n - 1 : Nat) : Int) := by have := HLEN.out; omega
    have hlt2 : x < n - 1 := by omega
    clear ka ekv ec ef er hf hmend n4 HKA hms
    go_upto_region 7 with (go_at_call 30; refine HCR.out.mono ?_; rintro e w5 ⟨rfl, hb5⟩; have HB5 := Lib.hid hb5; clear hb5)
    obtain ⟨z1, z2, ⟨kx, z3⟩, z4, hL⟩ := HTL.out w5 HB5.out
    have HL := Lib.hid hL
    have HM := Lib.hid (HMD.out w5.drew HB5.out.drew)
    generalize leastK (kvs h g1) = kq at *
    clear hL
    go_region_with (go_at_call 47; refine (HL.out).mono ?_; rintro e w6 ⟨rfl, hw⟩; obtain rfl := hw.symm; clear hw)
    all_goals go_wp2
    all_goals go_end0
    all_goals exact ⟨rfl, HM.out⟩
  · have hp2 := HPA.out w1 w2 HB1.out hf
    have b1 : w2.cell? ⟨b, 1, none⟩ = some (.slice (some ⟨q, 0, none⟩) n cp) := hp2.at_.c1
    have HD := Lib.hid (HDEL.out w2 g1 hp2 eb)
    have og := eo HO.out.1 HO.out.2.1
    have hc2 : 0 < cnt h g2 := by have := HO.out.2.2; rw [ec2]; omega
    have hc1 : 0 < cnt h g1 := by rw [ec]; omega
    have hc9 : cnt h g2 ≤ 1000 := by have := HO.out.2.2; rw [ec2]; omega
    have a2 : At h R0 w2 g2 := ka ⟨#[]⟩ (⟨#[]⟩, g2) (by simp)
    have hf2 : ∀ a ∈ fp h g2, ¬ MineQ b (.slice (some ⟨q, 0, none⟩) n cp) a := fun a ha e => by
      have hm : a ∈ kf h [(k1, g1), (⟨#[]⟩, g2)] := by rw [kf_two]; exact List.mem_append_right _ ha
      rcases (ef ⟨#[]⟩).mem hm with h5 | h5
      · exact HNQ.out a e h5
      · have h6 : a < w1.heap.size := (HS.out.below HB1.out).lt a (by
          rcases e with rfl | e
          · exact List.mem_cons_self ..
          · exact List.mem_cons_of_mem _ (List.mem_append_left _ (own1_mem.2 e)))
        omega
    have HA2 := Lib.hid (fun w4 (h3 : Fr w2.heap.size (MineQ b (.slice (some ⟨q, 0, none⟩) n cp)) w2 w4) => a2.fr h3 (Nat.le_refl _) hf2)
    have HKA := Lib.hid (And.intro (ka (leastK (kvs h g2))) (And.intro ekv (And.intro ec (And.intro ec2 (And.intro og (And.intro (ef (leastK (kvs h g2))) (And.intro hf (And.intro eb2 (And.intro hc1 (And.intro hc2 hc9))))))))))
    have H4 := Lib.hid h4
    clear eb hp2 ka ekv ec ec2 eo ef hf h4 og hc1 hc2 hc9 a2 hf2
    go_upto_region 5 with (go_at_call 53; refine HD.out.mono ?_; rintro e w3 ⟨rfl, p3, x3, y3, f3⟩; have P3 := Lib.hid p3; have F3 := Lib.hid f3; clear p3 f3)
    generalize w3.setCell ⟨b, 1, none⟩ (.slice (some ⟨q, 0, none⟩) (n - 1) cp) = w4 at *
    clear x3 y3 b1
    obtain ⟨ka, ekv, ec, ec2, og, ef, hf, eb2', hc1, hc2, hc9⟩ := HKA.out
    have a4 := HA2.out w4 F3.out
    have hcr := count_G w4 a4 hc9
    rw [eb2'] at hcr
    have HCR := Lib.hid hcr
    have hposI : (0 : Int) < (cnt h g2 : Int) := by omega
    have hl1 : (kns h (X ++ ((k1, g1) :: Y))).length = n - 1 := by have := HLEN.out; have := HXE.out; rw [kns_len]; simp; omega
    have hins : ∀ W, Below w4.heap.size w4 W → Calls Try.prog 36 #[.pointer (some ⟨b, 0, none⟩), .int .i64 ((x : Int) + 1), .pointer (some ⟨gb h c2, 0, none⟩)] W fun e w' => ∃ q6 cp6, e = .returned (.tuple #[]) ∧ NS h w' b R (.slice (some ⟨q6, 0, none⟩) n cp6) (X ++ (k1, g1) :: ((leastK (kvs h g2), g2) :: Y)) ∧ ∀ V, Below w'.heap.size w' V → Mend h w b R (.slice (some ⟨q, 0, none⟩) n cp) (X ++ ([(k1, c1), (k2, c2)] ++ Y)) (n - 1) n (V.setCell ⟨q6, X.length * 2, none⟩ (.string (leastK (kvs h g1)))) := fun W hW => by
      have := insert_any W (P3.out.below hW) (by rw [hl1]; omega) (x + 1) (gb h g2) (by have := HLEN.out; have := HXE.out; rw [hl1]; omega) (leastK (kvs h g2)) (fun V hV => least_G V ((a4.below hW).below hV) og.2 hc2)
      rw [eb2'] at this
      refine this.mono ?_
      rintro e w6 ⟨v6, rfl, p6, m6, f6⟩
      have el : (kns h (X ++ ((k1, g1) :: Y))).take (x + 1) ++ ⟨leastK (kvs h g2), gb h c2⟩ :: (kns h (X ++ ((k1, g1) :: Y))).drop (x + 1) = kns h (X ++ ([(k1, g1), (leastK (kvs h g2), g2)] ++ Y)) := by
        have hxe := HXE.out
        rw [kns_take, kns_drop]
        have t1 : (X ++ ((k1, g1) :: Y)).take (x + 1) = X ++ [(k1, g1)] := by rw [List.take_append, List.take_of_length_le (by omega), hxe, Nat.add_sub_cancel_left]; rfl
        have t2 : (X ++ ((k1, g1) :: Y)).drop (x + 1) = Y := by rw [List.drop_append, List.drop_of_length_le (by omega), hxe, Nat.add_sub_cancel_left]; rfl
        rw [t1, t2, ← eb2']
        simp [kns]
      rw [el] at p6
      obtain ⟨q6, cp6, rfl, _, _⟩ := p6.own.form (by rw [kns_len]; simp; omega)
      have hl6 : (kns h (X ++ ([(k1, g1), (leastK (kvs h g2), g2)] ++ Y))).length = n := by have := HLEN.out; have := HXE.out; rw [kns_len]; simp; omega
      rw [hl6] at p6 m6
      have f26 : Fr w2.heap.size (MineQ b (.slice (some ⟨q, 0, none⟩) n cp)) w2 w6 := (F3.out.below hW F3.out.size).trans f6 (Nat.le_trans F3.out.size hW.size) (fun _ _ e => e)
      obtain ⟨n6, hm6⟩ := HLG.out w1 w2 w6 g1 g2 q6 cp6 HB1.out ka ekv ef hf p6 ((m6 q6 rfl).imp (fun e => Option.some.inj e) (fun e => Nat.le_trans (Nat.le_trans F3.out.size hW.size) e)) f26 og.1 og.2 ec ec2 H4.out
      exact ⟨q6, cp6, rfl, n6, by rw [HXE.out]; exact hm6⟩
    have HI := Lib.hid hins
    have HOG := Lib.hid (And.intro og.1 hc1)
    have hlt2 : x < n := by have := HLEN.out; have := HXE.out; omega
    clear ka ekv ec ec2 ef hf hins HKA hcr a4 eb2' eb2 hl1 og hc1 hc2 hc9
    go_upto_region 7 with (first
      | (go_at_call 36; refine (HI.out w5 HB5.out).mono ?_; rintro e w6 ⟨q6, cp6, rfl, n6, hm6⟩; have HN6 := Lib.hid n6; have HM6 := Lib.hid hm6; clear n6 hm6)
      | (go_at_call 30; refine HCR.out.mono ?_; rintro e w5 ⟨rfl, hb5⟩; have HB5 := Lib.hid hb5; clear hb5))
    obtain ⟨z1, z2, ⟨kx, z3⟩, z4, hL⟩ := HN6.out.tail HOG.out.1 HOG.out.2
    rw [HXE.out] at z2 z3 z4
    have HL := Lib.hid hL
    have HM := HM6.out w6.drew (Below.refl _ _).drew
    rw [HXE.out] at HM
    have HM := Lib.hid HM
    generalize leastK (kvs h g1) = kq at *
    clear hL
    go_region_with (go_at_call 47; refine (HL.out).mono ?_; rintro e w7 ⟨rfl, hw⟩; obtain rfl := hw.symm; clear hw)
    all_goals go_wp2
    all_goals go_end0
    all_goals exact ⟨rfl, HM.out⟩
end Go.Proofs.Ytejbbojephiifaa
