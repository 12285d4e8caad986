/- tree: count, least, split, share of a tree of whatever height. -/
import Derived.Test.YtejbbojephiifaaTeG
namespace Go.Proofs.Ytejbbojephiifaa
open Go.RowKit

theorem count_G (w : World) {h : Nat} {R : Rest} {g : G h} (ha : At h R w g) (hsm : cnt h g ≤ 1000) :
    Calls Try.prog 30 #[.pointer (some ⟨gb h g, 0, none⟩)] w fun e w' => e = .returned (.int .i64 (cnt h g)) ∧ Below w.heap.size w w' := by
  cases h with
  | zero => exact countP_any w ha hsm
  | succ h =>
    have := countQ_any w ha.1 (by rw [kns_len]; exact hsm)
    rw [kns_len] at this
    exact this
theorem leaf_0 (w : World) {R : Rest} {g : G 0} (ha : At 0 R w g) : Calls Try.prog 37 #[.pointer (some ⟨gb 0 g, 0, none⟩)] w fun e w' => e = .returned (.bool true) ∧ w' = w := leafP_any w ha
theorem leaf_s (w : World) {h : Nat} {R : Rest} {g : G (h + 1)} (ha : At (h + 1) R w g) (hc : 0 < cnt (h + 1) g) : Calls Try.prog 37 #[.pointer (some ⟨gb (h + 1) g, 0, none⟩)] w fun e w' => e = .returned (.bool false) ∧ w' = w :=
  leafQ_any w ha.1 (fun e => by have := congrArg List.length e; rw [kns_len] at this; have h1 : (Nd.l g).length = 0 := this; have h2 : 0 < (Nd.l g).length := hc; omega)
theorem least_G (w : World) {h : Nat} {R : Rest} {g : G h} (ha : At h R w g) (ho : Ok h g) (hc : 0 < cnt h g) :
    Calls Try.prog 47 #[.pointer (some ⟨gb h g, 0, none⟩)] w fun e w' => e = .returned (.string (leastK (kvs h g))) ∧ w' = w := by
  cases h with
  | zero =>
    obtain ⟨b, v, l⟩ : Lf := g
    cases l with
    | nil => exact absurd hc (by show ¬ 0 < 0; omega)
    | cons x r => exact leastP_any w ha
  | succ h =>
    obtain ⟨b, v, l⟩ : Nd (G h) := g
    cases l with
    | nil => exact absurd hc (by show ¬ 0 < 0; omega)
    | cons x r =>
      have hk := ho x (List.mem_cons_self ..)
      have := leastQ_any w (x := ⟨x.1, gb h x.2⟩) (l := kns h r) ha.1
      rw [kvs_s, show (Nd.mk b v (x :: r)).l = x :: r from rfl, kk_cons, leastK_app (cnt_pos_kvs hk.2.2.1 (by have := hk.1; omega)), ← hk.2.2.2]
      exact this

/-- Halves of a tree. -/
structure Halves (h N : Nat) (g g1 g2 : G h) : Prop where
  b : gb h g1 = gb h g
  kv : kvs h g1 ++ kvs h g2 = kvs h g
  c1 : cnt h g1 = cnt h g / 2
  c2 : cnt h g2 = cnt h g - cnt h g / 2
  ok : Ok h g → Ok h g1 ∧ Ok h g2
  foot : Foot N (fp h g) (fp h g1 ++ fp h g2)

theorem foot_halves {N M b : Nat} {v v1 v2 : Value} {K1 K2 : List Nat} (hv : v1.ownBlock = v.ownBlock) (hM : N ≤ M) (h2 : ∀ k, v2.ownBlock = some k → N ≤ k) (hne : v2.ownBlock ≠ some M) (hlt : ∀ a ∈ b :: (own1 v ++ (K1 ++ K2)), a < N) :
    Foot N (b :: (own1 v ++ (K1 ++ K2))) ((b :: (own1 v1 ++ K1)) ++ (M :: (own1 v2 ++ K2))) := by
  have e : ∀ a, ((b :: (own1 v1 ++ K1)) ++ (M :: (own1 v2 ++ K2))).count a = (b :: (own1 v ++ (K1 ++ K2))).count a + (M :: own1 v2).count a := fun a => by
    rw [own1_same hv]
    simp only [List.count_append, List.count_cons]
    omega
  refine ⟨fun a ha => ?_, fun a ha => ?_⟩
  · have : (M :: own1 v2).count a = 0 := List.count_eq_zero.2 (fun hm => by
      rcases List.mem_cons.1 hm with hm | hm
      · omega
      · have := h2 a (own1_mem.1 hm); omega)
    rw [e]; omega
  · rw [e, count_zero hlt ha]
    have h1 := own1_count v2 a
    rw [List.count_cons]
    split
    · rename_i he
      have he : M = a := by simpa using he
      subst he
      rw [List.count_eq_zero.2 (fun hm => hne (own1_mem.1 hm))]
      omega
    · omega

theorem Foot.perm {N : Nat} {L L' M M' : List Nat} (f : Foot N L L') (h : ∀ a, M.count a = L.count a) (h' : ∀ a, M'.count a = L'.count a) : Foot N M M' :=
  ⟨fun a ha => by rw [h, h']; exact f.lo a ha, fun a ha => by rw [h']; exact f.hi a ha⟩

theorem split_G (w : World) {h : Nat} {R : Rest} {g : G h} (ha : At h R w g) (hnd : (fp h g).Nodup) (hc : 2 ≤ cnt h g) (hsm : cnt h g ≤ 1000) :
    Calls Try.prog 35 #[.pointer (some ⟨gb h g, 0, none⟩)] w fun e w' => ∃ g1 g2 : G h, e = .returned (.pointer (some ⟨gb h g2, 0, none⟩)) ∧ At h R w' g1 ∧ At h R0 w' g2 ∧ Halves h w.heap.size g g1 g2 ∧ Fr w.heap.size (· ∈ fp h g) w w' := by
  cases h with
  | zero =>
    obtain ⟨b, v, l⟩ : Lf := g
    refine (splitP_any w ha hc hsm).mono ?_
    rintro e w' ⟨N, v1, v2, rfl, h1, hv, h2, hN, hf, hfr⟩
    refine ⟨(⟨b, v1, l.take (l.length / 2)⟩ : Lf), (⟨N, v2, l.drop (l.length / 2)⟩ : Lf), rfl, h1, h2, ⟨rfl, List.take_append_drop _ l, ?_, ?_, fun _ => ⟨trivial, trivial⟩, ?_⟩, hfr.mono (Nat.le_refl _) (fun k _ e => ?_)⟩
    · show (l.take _).length = _; rw [List.length_take]; show _ = l.length / 2; omega
    · show (l.drop _).length = _; rw [List.length_drop]; rfl
    · have := foot_halves (N := w.heap.size) (M := N) (b := b) (v := v) (K1 := []) (K2 := []) hv hN hf h2.ne (fun a hm => At.lt (h := 0) ha a (by rw [List.append_nil, List.append_nil] at hm; exact hm))
      exact this.perm (fun a => by simp only [fp, List.count_append, List.count_cons, List.count_nil]; omega) (fun a => by simp only [fp, List.count_append, List.count_cons, List.count_nil]; omega)
    · rcases e with rfl | e
      · exact List.mem_cons_self ..
      · exact List.mem_cons_of_mem _ (own1_mem.2 e)
  | succ h =>
    obtain ⟨b, v, l⟩ : Nd (G h) := g
    have hkn := kns_len h l
    have := splitQ_any w ha.1 (by rw [kns_len]; exact hc) (by rw [kns_len]; exact hsm)
    rw [kns_len, kns_take, kns_drop] at this
    refine this.mono ?_
    rintro e w' ⟨N, v1, v2, rfl, h1, hv, h2, hN, hf, hfr⟩
    have hkids : KidsAt h w' l := KidsAt.fr ha.2 hfr (Nat.le_refl _) (fun a hm e => by
      have h3 := nd_count.1 hnd a
      rw [fp_s, List.count_cons, List.count_append] at h3
      have h4 := mem_count.1 hm
      rcases e with e | e
      · have : (b == a) = true := by simp [e]
        rw [if_pos this] at h3
        have e2 : ({ b := b, v := v, l := l } : Nd (G h)).l = l := rfl
        rw [e2] at h3
        omega
      · have := mem_count.1 (own1_mem.2 e)
        have e2 : ({ b := b, v := v, l := l } : Nd (G h)).l = l := rfl
        have e3 : ({ b := b, v := v, l := l } : Nd (G h)).v = v := rfl
        have e4 : Nd.v ({ b := b, v := v, l := l } : Nd (G h)) = v := rfl
        rw [e2, e3] at h3
        rw [e4] at this
        omega)
    refine ⟨(⟨b, v1, l.take (l.length / 2)⟩ : Nd (G h)), (⟨N, v2, l.drop (l.length / 2)⟩ : Nd (G h)), rfl, ⟨h1, fun x hx => hkids x (List.mem_of_mem_take hx)⟩, ⟨h2, fun x hx => hkids x (List.mem_of_mem_drop hx)⟩, ⟨rfl, ?_, ?_, ?_, fun ho => ⟨fun x hx => ho x (List.mem_of_mem_take hx), fun x hx => ho x (List.mem_of_mem_drop hx)⟩, ?_⟩, hfr.mono (Nat.le_refl _) (fun k _ e => ?_)⟩
    · show kk h (l.take _) ++ kk h (l.drop _) = kk h l
      rw [← kk_app, List.take_append_drop]
    · show (l.take _).length = _; rw [List.length_take]; show _ = l.length / 2; omega
    · show (l.drop _).length = _; rw [List.length_drop]; rfl
    · have e : kf h l = kf h (l.take (l.length / 2)) ++ kf h (l.drop (l.length / 2)) := by rw [← kf_app, List.take_append_drop]
      have hlt : ∀ a ∈ b :: (own1 v ++ kf h l), a < w.heap.size := fun a hm => At.lt (h := h + 1) ha a hm
      rw [e] at hlt
      have := foot_halves (N := w.heap.size) (M := N) hv hN hf h2.ne hlt
      rw [← e] at this
      exact this
    · rcases e with rfl | e
      · exact List.mem_cons_self ..
      · exact List.mem_cons_of_mem _ (List.mem_append_left _ (own1_mem.2 e))

/-- What two neighbours share. -/
def Shared (h : Nat) (w : World) (R : Rest) (g g' : G h) (w' : World) : Prop :=
  (cnt h g + cnt h g' < 4 ∧ ∃ g1 : G h, At h R w' g1 ∧ gb h g1 = gb h g ∧ kvs h g1 = kvs h g ++ kvs h g' ∧ cnt h g1 = cnt h g + cnt h g' ∧ (Ok h g → Ok h g' → Ok h g1) ∧ Foot w.heap.size (fp h g ++ fp h g') (fp h g1 ++ [gb h g']) ∧ PartAt w' (gb h g') R0 (.slice none 0 0) (.slice none 0 0) ∧ Fr w.heap.size (fun k => k ∈ fp h g ++ fp h g') w w') ∨
  (4 ≤ cnt h g + cnt h g' ∧ ∃ g1 g2 : G h, At h R w' g1 ∧ At h R0 w' g2 ∧ gb h g1 = gb h g ∧ gb h g2 = gb h g' ∧ kvs h g1 ++ kvs h g2 = kvs h g ++ kvs h g' ∧ cnt h g1 = (cnt h g + cnt h g') / 2 ∧ cnt h g2 = cnt h g + cnt h g' - (cnt h g + cnt h g') / 2 ∧ (Ok h g → Ok h g' → Ok h g1 ∧ Ok h g2) ∧ Foot w.heap.size (fp h g ++ fp h g') (fp h g1 ++ fp h g2) ∧ Fr w.heap.size (fun k => k ∈ fp h g ++ fp h g') w w')

theorem count_one (v : Value) (a k : Nat) (h : v.ownBlock = some k) : (own1 v).count a = if k == a then 1 else 0 := by
  unfold own1; rw [h]; simp only [Option.toList_some, List.count_singleton]
theorem own1_zero {v : Value} {a : Nat} (h : v.ownBlock ≠ some a) : (own1 v).count a = 0 := List.count_eq_zero.2 (fun hm => h (own1_mem.1 hm))
theorem foot_join {N b b' q q' : Nat} {v v' v1 : Value} {K : List Nat} (hv : v.ownBlock = some q) (_ : v'.ownBlock = some q') (hm : ∀ k, v1.ownBlock = some k → q = k ∨ N ≤ k) (hlt : ∀ a ∈ b :: b' :: (own1 v ++ (own1 v' ++ K)), a < N) :
    Foot N (b :: b' :: (own1 v ++ (own1 v' ++ K))) (b :: b' :: (own1 v1 ++ K)) := by
  refine ⟨fun a ha => ?_, fun a ha => ?_⟩
  · have : (own1 v1).count a ≤ (own1 v).count a := by
      by_cases e : v1.ownBlock = some a
      · rcases hm a e with e2 | e2
        · have h1 := own1_count v1 a
          rw [count_one v a q hv, e2]; simp; exact h1
        · omega
      · rw [own1_zero e]; omega
    simp only [List.count_cons, List.count_append]
    omega
  · have h0 := count_zero hlt ha
    simp only [List.count_cons, List.count_append] at h0 ⊢
    have := own1_count v1 a
    omega
theorem foot_part {N b b' q q' : Nat} {v v' v1 v2 : Value} {K : List Nat} (hv : v.ownBlock = some q) (hv' : v'.ownBlock = some q') (hm : ∀ k, v1.ownBlock = some k → q = k ∨ N ≤ k) (hm2 : ∀ k, v2.ownBlock = some k → N ≤ k ∧ v1.ownBlock ≠ some k) (hlt : ∀ a ∈ b :: b' :: (own1 v ++ (own1 v' ++ K)), a < N) :
    Foot N (b :: b' :: (own1 v ++ (own1 v' ++ K))) (b :: b' :: (own1 v1 ++ (own1 v2 ++ K))) := by
  have f := foot_join hv hv' hm hlt
  have e : ∀ a, (b :: b' :: (own1 v1 ++ (own1 v2 ++ K))).count a = (b :: b' :: (own1 v1 ++ K)).count a + (own1 v2).count a := fun a => by
    simp only [List.count_cons, List.count_append]
    omega
  refine ⟨fun a ha => ?_, fun a ha => ?_⟩
  · have h0 : (own1 v2).count a = 0 := own1_zero (fun e => by have := (hm2 a e).1; omega)
    rw [e, h0]
    exact f.lo a ha
  · by_cases e2 : v2.ownBlock = some a
    · have h0 := count_zero hlt ha
      have h1 := own1_zero (hm2 a e2).2
      have h2 := own1_count v2 a
      simp only [List.count_cons, List.count_append] at h0 ⊢
      omega
    · rw [e, own1_zero e2]
      exact f.hi a ha
theorem share_G (w : World) {h : Nat} {R : Rest} {g g' : G h} (ha : At h R w g) (ha' : At h R0 w g') (hnd : (fp h g ++ fp h g').Nodup) (hc : 0 < cnt h g) (hc' : 0 < cnt h g') (hsm : cnt h g + cnt h g' ≤ 1000) :
    Calls Try.prog 52 #[.pointer (some ⟨gb h g, 0, none⟩), .pointer (some ⟨gb h g', 0, none⟩)] w fun e w' => e = .returned (.tuple #[]) ∧ Shared h w R g g' w' := by
  have hdis : ∀ a, a ∈ fp h g → a ∈ fp h g' → False := fun a h1 h2 => by
    have h3 := nd_count.1 hnd a
    rw [List.count_append] at h3
    have := mem_count.1 h1
    have := mem_count.1 h2
    omega
  cases h with
  | zero =>
    obtain ⟨b, v, l⟩ : Lf := g
    obtain ⟨b', v', l'⟩ : Lf := g'
    have hp : PAP w b R v l := ha
    have hp' : PAP w b' R0 v' l' := ha'
    obtain ⟨q, c, rfl, _, hq⟩ := hp.own.form hc
    obtain ⟨q', c', rfl, _, hq'⟩ := hp'.own.form hc'
    have mb : b ∈ fp 0 ({ b := b, v := .slice (some ⟨q, 0, none⟩) l.length c, l := l } : Lf) := List.mem_cons_self ..
    have mv : q ∈ fp 0 ({ b := b, v := .slice (some ⟨q, 0, none⟩) l.length c, l := l } : Lf) := List.mem_cons_of_mem _ (own1_mem.2 rfl)
    have mb' : b' ∈ fp 0 ({ b := b', v := .slice (some ⟨q', 0, none⟩) l'.length c', l := l' } : Lf) := List.mem_cons_self ..
    have mv' : q' ∈ fp 0 ({ b := b', v := .slice (some ⟨q', 0, none⟩) l'.length c', l := l' } : Lf) := List.mem_cons_of_mem _ (own1_mem.2 rfl)
    refine (shareP_any w hp hp' ⟨fun e => hdis b mb (by rw [e]; exact mb'), fun e => hdis b mb (by cases e; exact mv'), fun e => hdis b' (by cases e; exact mv) mb', fun k e1 e2 => by cases e1; cases e2; exact hdis q mv mv'⟩ rfl rfl hc' hsm).mono ?_
    rintro e w' ⟨rfl, hs⟩
    have hlt : ∀ a ∈ b :: b' :: (own1 (.slice (some ⟨q, 0, none⟩) l.length c) ++ (own1 (.slice (some ⟨q', 0, none⟩) l'.length c') ++ ([] : List Nat))), a < w.heap.size := fun a hm => by
      rcases List.mem_cons.1 hm with rfl | hm
      · exact hp.lt
      · rcases List.mem_cons.1 hm with rfl | hm
        · exact hp'.lt
        · rcases List.mem_append.1 hm with hm | hm
          · exact own_lt hp.own (own1_mem.1 hm)
          · rw [List.append_nil] at hm
            exact own_lt hp'.own (own1_mem.1 hm)
    have hfr : ∀ k, BothP b (.slice (some ⟨q, 0, none⟩) l.length c) b' (.slice (some ⟨q', 0, none⟩) l'.length c') k → k ∈ fp 0 ({ b := b, v := .slice (some ⟨q, 0, none⟩) l.length c, l := l } : Lf) ++ fp 0 ({ b := b', v := .slice (some ⟨q', 0, none⟩) l'.length c', l := l' } : Lf) := fun k e => by
      rcases e with (e | e) | (e | e)
      · rw [e]; exact List.mem_append_left _ mb
      · cases e; exact List.mem_append_left _ mv
      · rw [e]; exact List.mem_append_right _ mb'
      · cases e; exact List.mem_append_right _ mv'
    refine ⟨rfl, ?_⟩
    rcases hs with ⟨h4, v1, h1, h2, hm, hf⟩ | ⟨h4, v1, v2, h1, h2, hm, hm2, hf⟩
    · refine .inl ⟨h4, (⟨b, v1, l ++ l'⟩ : Lf), h1, rfl, rfl, List.length_append, fun _ _ => trivial, ?_, h2, hf.mono (Nat.le_refl _) (fun k _ e => hfr k e)⟩
      exact (foot_join (K := []) rfl rfl hm hlt).perm (fun a => by simp only [fp, List.count_append, List.count_cons, List.count_nil]; omega) (fun a => by simp only [fp, gb, List.count_append, List.count_cons, List.count_nil]; omega)
    · refine .inr ⟨h4, (⟨b, v1, (l ++ l').take ((l.length + l'.length) / 2)⟩ : Lf), (⟨b', v2, (l ++ l').drop ((l.length + l'.length) / 2)⟩ : Lf), h1, h2, rfl, rfl, List.take_append_drop _ _, ?_, ?_, fun _ _ => ⟨trivial, trivial⟩, ?_, hf.mono (Nat.le_refl _) (fun k _ e => hfr k e)⟩
      · show (List.take _ _).length = (l.length + l'.length) / 2; rw [List.length_take, List.length_append]; omega
      · show (List.drop _ _).length = l.length + l'.length - (l.length + l'.length) / 2; rw [List.length_drop, List.length_append]
      · exact (foot_part (K := []) rfl rfl hm hm2 hlt).perm (fun a => by simp only [fp, List.count_append, List.count_cons, List.count_nil]; omega) (fun a => by simp only [fp, List.count_append, List.count_cons, List.count_nil]; omega)
  | succ h =>
    obtain ⟨b, v, l⟩ : Nd (G h) := g
    obtain ⟨b', v', l'⟩ : Nd (G h) := g'
    have hp : PAQ w b R v (kns h l) := ha.1
    have hp' : PAQ w b' R0 v' (kns h l') := ha'.1
    have hk : KidsAt h w l := ha.2
    have hk' : KidsAt h w l' := ha'.2
    have hc1 : 0 < l.length := hc
    have hc1' : 0 < l'.length := hc'
    have hsm1 : l.length + l'.length ≤ 1000 := hsm
    obtain ⟨q, c, hv, _, hq⟩ := hp.own.form (by rw [kns_len]; exact hc1)
    obtain ⟨q', c', hv', _, hq'⟩ := hp'.own.form (by rw [kns_len]; exact hc1')
    rw [kns_len] at hv hv'
    subst hv hv'
    have f1 : fp (h + 1) ({ b := b, v := .slice (some ⟨q, 0, none⟩) l.length c, l := l } : Nd (G h)) = b :: (own1 (.slice (some ⟨q, 0, none⟩) l.length c) ++ kf h l) := rfl
    have f2 : fp (h + 1) ({ b := b', v := .slice (some ⟨q', 0, none⟩) l'.length c', l := l' } : Nd (G h)) = b' :: (own1 (.slice (some ⟨q', 0, none⟩) l'.length c') ++ kf h l') := rfl
    have mb : b ∈ b :: (own1 (.slice (some ⟨q, 0, none⟩) l.length c) ++ kf h l) := List.mem_cons_self ..
    have mv : q ∈ b :: (own1 (.slice (some ⟨q, 0, none⟩) l.length c) ++ kf h l) := List.mem_cons_of_mem _ (List.mem_append_left _ (own1_mem.2 rfl))
    have mb' : b' ∈ b' :: (own1 (.slice (some ⟨q', 0, none⟩) l'.length c') ++ kf h l') := List.mem_cons_self ..
    have mv' : q' ∈ b' :: (own1 (.slice (some ⟨q', 0, none⟩) l'.length c') ++ kf h l') := List.mem_cons_of_mem _ (List.mem_append_left _ (own1_mem.2 rfl))
    rw [f1, f2] at hdis hnd
    refine (shareQ_any w hp hp' ⟨fun e => hdis b mb (by rw [e]; exact mb'), fun e => hdis b mb (by cases e; exact mv'), fun e => hdis b' (by cases e; exact mv) mb', fun k e1 e2 => by cases e1; cases e2; exact hdis q mv mv'⟩ (kns_len h l).symm (kns_len h l').symm hc1' hsm1).mono ?_
    rintro e w' ⟨rfl, hs⟩
    have hlt : ∀ a ∈ b :: b' :: (own1 (.slice (some ⟨q, 0, none⟩) l.length c) ++ (own1 (.slice (some ⟨q', 0, none⟩) l'.length c') ++ kf h (l ++ l'))), a < w.heap.size := fun a hm => by
      rcases List.mem_cons.1 hm with rfl | hm
      · exact hp.lt
      · rcases List.mem_cons.1 hm with rfl | hm
        · exact hp'.lt
        · rcases List.mem_append.1 hm with hm | hm
          · exact own_lt hp.own (own1_mem.1 hm)
          · rcases List.mem_append.1 hm with hm | hm
            · exact own_lt hp'.own (own1_mem.1 hm)
            · rw [kf_app] at hm
              rcases List.mem_append.1 hm with hm | hm
              · exact hk.lt a hm
              · exact hk'.lt a hm
    have hfr : ∀ k, BothQ b (.slice (some ⟨q, 0, none⟩) l.length c) b' (.slice (some ⟨q', 0, none⟩) l'.length c') k → k ∈ fp (h + 1) ({ b := b, v := .slice (some ⟨q, 0, none⟩) l.length c, l := l } : Nd (G h)) ++ fp (h + 1) ({ b := b', v := .slice (some ⟨q', 0, none⟩) l'.length c', l := l' } : Nd (G h)) := fun k e => by
      rw [f1, f2]
      rcases e with (e | e) | (e | e)
      · rw [e]; exact List.mem_append_left _ mb
      · cases e; exact List.mem_append_left _ mv
      · rw [e]; exact List.mem_append_right _ mb'
      · cases e; exact List.mem_append_right _ mv'
    have hnk : ∀ a ∈ kf h (l ++ l'), ¬ BothQ b (.slice (some ⟨q, 0, none⟩) l.length c) b' (.slice (some ⟨q', 0, none⟩) l'.length c') a := fun a hm e => by
      have h3 := nd_count.1 hnd a
      have h4 := mem_count.1 hm
      rw [kf_app, List.count_append] at h4
      simp only [List.count_append, List.count_cons] at h3
      rcases e with (e | e) | (e | e)
      · have : (b == a) = true := by simp [e]
        rw [if_pos this] at h3; omega
      · have := mem_count.1 (own1_mem.2 e); omega
      · have : (b' == a) = true := by simp [e]
        rw [if_pos this] at h3; omega
      · have := mem_count.1 (own1_mem.2 e); omega
    have hkk : KidsAt h w (l ++ l') := fun x hx => by
      rcases List.mem_append.1 hx with hx | hx
      · exact hk x hx
      · exact hk' x hx
    refine ⟨rfl, ?_⟩
    rcases hs with ⟨h4, v1, h1, h2, hm, hf⟩ | ⟨h4, v1, v2, h1, h2, hm, hm2, hf⟩
    · have hkk' := hkk.fr hf (Nat.le_refl _) hnk
      rw [← kns_app] at h1
      refine .inl ⟨h4, (⟨b, v1, l ++ l'⟩ : Nd (G h)), ⟨h1, hkk'⟩, rfl, kk_app .., List.length_append, fun o o' x hx => (List.mem_append.1 hx).elim (o x) (o' x), ?_, h2, hf.mono (Nat.le_refl _) (fun k _ e => hfr k e)⟩
      rw [f1, f2]
      exact (foot_join (K := kf h (l ++ l')) rfl rfl hm hlt).perm (fun a => by simp only [kf_app, List.count_append, List.count_cons]; omega) (fun a => by simp only [fp_s, gb, List.count_append, List.count_cons, List.count_nil]; omega)
    · have hkk' := hkk.fr hf (Nat.le_refl _) hnk
      rw [← kns_app] at h1 h2
      rw [kns_take] at h1
      rw [kns_drop] at h2
      refine .inr ⟨h4, (⟨b, v1, (l ++ l').take ((l.length + l'.length) / 2)⟩ : Nd (G h)), (⟨b', v2, (l ++ l').drop ((l.length + l'.length) / 2)⟩ : Nd (G h)), ⟨h1, fun x hx => hkk' x (List.mem_of_mem_take hx)⟩, ⟨h2, fun x hx => hkk' x (List.mem_of_mem_drop hx)⟩, rfl, rfl, ?_, ?_, ?_, fun o o' => ⟨fun x hx => (List.mem_append.1 (List.mem_of_mem_take hx)).elim (o x) (o' x), fun x hx => (List.mem_append.1 (List.mem_of_mem_drop hx)).elim (o x) (o' x)⟩, ?_, hf.mono (Nat.le_refl _) (fun k _ e => hfr k e)⟩
      · show kk h (List.take _ _) ++ kk h (List.drop _ _) = kk h l ++ kk h l'
        rw [← kk_app, List.take_append_drop, kk_app]
      · show (List.take _ _).length = (l.length + l'.length) / 2; rw [List.length_take, List.length_append]; omega
      · show (List.drop _ _).length = l.length + l'.length - (l.length + l'.length) / 2; rw [List.length_drop, List.length_append]
      · rw [f1, f2]
        have e : kf h (l ++ l') = kf h ((l ++ l').take ((l.length + l'.length) / 2)) ++ kf h ((l ++ l').drop ((l.length + l'.length) / 2)) := by rw [← kf_app, List.take_append_drop]
        exact (foot_part (K := kf h (l ++ l')) rfl rfl hm hm2 hlt).perm (fun a => by simp only [kf_app, List.count_append, List.count_cons]; omega) (fun a => by simp only [fp_s]; rw [e]; simp only [List.count_append, List.count_cons]; omega)
end Go.Proofs.Ytejbbojephiifaa
