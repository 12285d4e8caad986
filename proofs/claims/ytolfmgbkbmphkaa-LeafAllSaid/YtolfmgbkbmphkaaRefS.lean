/- The reference's Sheet. -/
import Derived.Test.YtolfmgbkbmphkaaBody
import Derived.Test.YtolfmgbkbmphkaaRefN
import Derived.Laws.AppendOwnNone
import Derived.Deep.AppendLies
import Derived.Deep.RegionLaw
namespace Go.Proofs.Ytolfmgbkbmphkaa
open Go.RowKit

/-- In W lies what the region reads. -/
def Sees (w W : World) (g : Nat) (L : List Int) : Prop := Below w.heap.size w W ∧ g < W.heap.size ∧ ∀ j (_ : j < L.length), W.cell? ⟨g, j, none⟩ = some (.int .u8 L[j])

theorem Sees.drew {w W : World} {g : Nat} {L : List Int} (h : Sees w W g L) : Sees w W.drew g L := ⟨h.1.drew, h.2.1, h.2.2⟩

theorem Sees.on {w W W' : World} {g : Nat} {L : List Int} (h : Sees w W g L) (hb : Below w.heap.size w W') (hs : W.heap.size ≤ W'.heap.size) (hk : W'.heap[g]? = W.heap[g]?) : Sees w W' g L :=
  ⟨hb, by have := h.2.1; omega, fun j hj => (World.cell?_of_block hk).trans (h.2.2 j hj)⟩

theorem num_in {w W : World} {g : Nat} {L : List Int} (h : Sees w W g L) (n : Int) (n0 : 0 ≤ n) (n1 : n < 2147483648) : Calls Try.prog 37 #[.int .i64 n, .int .i64 4] W fun e w' => ∃ q, e = .returned (.slice (some ⟨q, 0, none⟩) 4 4) ∧ Sees w w' g L ∧ w'.ownsRow w.heap.size 5 1 (.slice (some ⟨q, 0, none⟩) 4 4) 4 (byteV (head n)) ∧ W.heap.size ≤ q ∧ g < q ∧ (∀ k, k < W.heap.size → w'.heap[k]? = W.heap[k]?) := by
  refine (num_any W n n0 n1).mono ?_
  rintro e w' ⟨rfl, rfl⟩
  have hb := h.1.alloc h.1.size (.cells (byteV (head n)).toArray 5)
  exact ⟨W.heap.size, rfl, h.on hb (by simp) (Below.heap_alloc _ _ _ h.2.1), ⟨rfl, .inr ⟨_, 4, _, rfl, h.1.size, heap_alloc_new W _, Nat.le_refl _, by unfold maxLen; omega, rfl, rfl⟩⟩, Nat.le_refl _, h.2.1, fun k hk => Below.heap_alloc _ _ _ hk⟩

theorem Sees.news {w W : World} {g : Nat} {L : List Int} (h : Sees w W g L) (o m : Nat) (hm : o + m ≤ L.length) : ∀ j u, (byteV ((L.drop o).take m))[j]? = some u → W.cell? ((⟨g, o, none⟩ : Addr).add j) = some u := by
  intro q u hu
  have hj : q < m := by have := (List.getElem?_eq_some_iff.1 hu).1; simp [byteV] at this; omega
  have h2 : (⟨g, o, none⟩ : Addr).add q = ⟨g, o + q, none⟩ := by unfold Addr.add; split <;> simp_all
  rw [h2, h.2.2 (o + q) (by omega)]
  simp only [byteV, List.getElem?_map, List.getElem?_take, List.getElem?_drop, if_pos hj] at hu
  rw [List.getElem?_eq_getElem (by omega)] at hu
  exact hu

theorem half_1 (n : Int) {l : List Int} (hl : l.length ≤ 120) : byteV (head n) ++ byteV (((body l).drop 0).take 60) = byteV (tileL n (l.take 60)) := by
  have e : ((body l).drop 0).take 60 = pad (l.take 60) := by
    unfold body
    rw [List.drop_zero, List.take_left' (pad_len (by simp; omega))]
  rw [e]
  show _ = byteV (head n ++ pad (l.take 60))
  simp [byteV]

theorem half_2 (n : Int) {l : List Int} (hl : l.length ≤ 120) : byteV (head n) ++ byteV (((body l).drop 60).take 60) = byteV (tileL n (l.drop 60)) := by
  have e : ((body l).drop 60).take 60 = pad (l.drop 60) := by
    unfold body
    rw [List.drop_left' (pad_len (by simp; omega)), List.take_of_length_le (by rw [pad_len (by simp; omega)]; omega)]
  rw [e]
  show _ = byteV (head n ++ pad (l.drop 60))
  simp [byteV]

theorem own_on {w W : World} {B n q : Nat} {v : Value} {xs : List Value} {c : Nat} (h : w.ownsRow B 5 1 v n xs) (hv : v = .slice (some ⟨q, 0, none⟩) n c) (hk : W.heap[q]? = w.heap[q]?) : W.ownsRow B 5 1 v n xs := by
  subst hv
  obtain ⟨h1, ⟨e, _⟩ | ⟨g, cap, cur, e, a, b, r⟩⟩ := h
  · cases e
  · have e1 : q = g ∧ c = cap := by simpa using e
    obtain ⟨rfl, rfl⟩ := e1
    exact ⟨h1, .inr ⟨_, _, cur, rfl, a, hk.trans b, r⟩⟩

set_option maxRecDepth 100000 in
set_option maxHeartbeats 2000000 in
theorem ref_ok (w : World) (n : Int) (n0 : 0 ≤ n) (n1 : n < 2147483648) (v : Value) (l : List Int) (h : SlK .u8 w v l) (hl : l.length ≤ 120) : Calls Try.prog 23 #[.int .i64 n, v] w fun e w' => ∃ va vb, e = .returned (.tuple #[va, vb, .int .i64 0]) ∧ SlK .u8 w' va (tileL n (l.take 60)) ∧ SlK .u8 w' vb (tileL n (l.drop 60)) ∧ Below w.heap.size w w' := by
  obtain ⟨i, hi, hz0, hz1, hz2⟩ := info_parts infoU8
  have a1 : ¬ n < 0 := by omega
  have a2 : ¬ 2147483647 < n := by omega
  have d1 : decide (n < 0) = false := by simpa using a1
  have d2 : decide (2147483647 < n) = false := by simpa using a2
  have a3 : ¬ 120 < l.length := by omega
  have d3 : decide (120 < (l.length : Int)) = false := by simp; omega
  have hok := h.ok
  obtain ⟨p, cap, rfl, h1, h2, h3, h4⟩ := h
  cases p with
  | none =>
    obtain ⟨rfl, rfl⟩ := h3 rfl
    clear h2 h3 h4
    go_enter Try.func23, Try.ntmps23
    go_wp2
    have x3 : 120 ≤ (Question.appendCap 120 0 5).cut (w.tape w.drawn (Question.appendCap 120 0 5)) := grownCap_ge w 120 0 5
    generalize (Question.appendCap 120 0 5).cut (w.tape w.drawn (Question.appendCap 120 0 5)) = c3 at *
    have hZ : Builtin.zeroCells #[Value.int .u8 0] 120 ++ Builtin.zeroCells #[Value.int .u8 0] (c3 - 120) = (byteV (List.replicate c3 0)).toArray := by
      have e1 := zero_cells 120
      have e2 := zero_cells (c3 - 120)
      simp only [Value.cells] at e1 e2
      rw [e1, e2]
      simp only [byteV, List.map_replicate]
      rw [List.append_toArray, List.replicate_append_replicate]
      congr 2; omega
    rw [hZ]
    have S0 : Sees w ((w.alloc (.cells #[] 5)).alloc (.cells (byteV (List.replicate c3 0)).toArray 5)).drew (w.heap.size + 1) (body ([] : List Int)) := by
      have k0 := blk_new2 w (.cells #[] 5) (List.replicate c3 0)
      have e0 : body ([] : List Int) = List.replicate 120 0 := rfl
      refine ⟨(((Below.refl _ _).alloc (Nat.le_refl _) _).alloc (by simp) _).drew, k0.lt, fun j hj => ?_⟩
      have hj' : j < 120 := by simpa [e0] using hj
      have e3 : ∀ L : List Int, L = List.replicate 120 0 → ∀ h : j < L.length, L[j] = 0 := by
        intro L hL h
        subst hL
        exact List.getElem_replicate _
      rw [k0.cell (j := j) (by simp; omega), List.getElem_replicate, e3 _ e0 hj]
    generalize ((w.alloc (.cells #[] 5)).alloc (.cells (byteV (List.replicate c3 0)).toArray 5)).drew = w3 at *
    generalize w.heap.size + 1 = g3 at *
    clear hZ
    have S0d := S0.drew
    have hbl120 := body_len hl
    have y1 : ¬ c3 = 60 := by omega
    have y2 : 60 ≤ c3 := by omega
    have y3 : (60 : Int) ≤ (c3 : Int) := by omega
    have y4 : (120 : Int) ≤ (c3 : Int) := by omega
    go_region_law (first
      | (refine step_append_lies _ rfl (.tmp 32) (.tmp 34) 22 rfl w.heap.size 5 i (.int .u8 0) 1 1 Try.underlying22 hi hz0 hz1 hz2 rfl (by decide) (.slice (some ⟨q2, 0, none⟩) 4 4) 4 (byteV (head n)) rfl o3 ⟨g3, 60, none⟩ 60 (c3 - 60) (byteV (((body ([] : List Int)).drop 60).take 60)) rfl (by simp [body, pad, byteV]) (s3.news 60 60 (by omega)) (byteV_one _) (by omega) (by unfold maxLen; omega) (by omega) s3.1.size _ rfl ?_; intro q2' cap2 w7 o4 r4 p4 p4')
      | (go_simp; go_at_call 37; refine (num_in s2 n n0 n1).mono ?_; rintro e w6 ⟨q2, rfl, s3, o3, lt3, lt3', k3⟩)
      | (go_simp; go_at_call 37; first | (refine (num_in S0 n n0 n1).mono ?_; rintro e w4 ⟨q1, rfl, s1, o1, lt1, lt1', k1⟩) | (refine (num_in S0d n n0 n1).mono ?_; rintro e w4 ⟨q1, rfl, s1, o1, lt1, lt1', k1⟩))
      | (refine step_append_lies _ rfl (.tmp 27) (.tmp 29) 22 rfl w.heap.size 5 i (.int .u8 0) 1 1 Try.underlying22 hi hz0 hz1 hz2 rfl (by decide) (.slice (some ⟨q1, 0, none⟩) 4 4) 4 (byteV (head n)) rfl o1 ⟨g3, 0, none⟩ 60 c3 (byteV (((body ([] : List Int)).drop 0).take 60)) rfl (by simp [body, pad, byteV]) (s1.news 0 60 (by omega)) (byteV_one _) (by omega) (by unfold maxLen; omega) (by omega) s1.1.size _ rfl ?_; intro q1' cap1 w5 o2 r2 p2 p2'; have s2 := s1.on (s1.1.grown r2 s1.1.size (fun k hk => by cases hk; exact (o1.lt q1 rfl).1)) r2.size (r2.block g3 s1.2.1 (fun e => absurd (show g3 = q1 by simpa [Value.ownBlock] using e) (by omega)))))
    all_goals (go_wp2; go_ret3)
    rw [half_1 n hl] at o2
    rw [half_2 n hl] at o4
    have f1 := own_on (own_on o2 rfl (k3 q1' p2')) rfl (r4.block q1' (by have := s3.1.size; have := (o3.lt q2 rfl).2; omega) (fun e => by
      have e' : q1' = q2 := by simpa [Value.ownBlock] using e
      omega))
    exact ⟨_, _, rfl, own_slK f1 (tile_ok n0 n1 (ok_take hok _)), own_slK o4 (tile_ok n0 n1 (ok_drop hok _)), s3.1.grown r4 s3.1.size (fun k hk => by cases hk; exact (o3.lt q2 rfl).1)⟩
  | some a =>
    obtain ⟨hs, hbl, hc⟩ := h4 a rfl
    obtain ⟨b, off, asp⟩ := a
    cases hs
    have HC := Lib.hid hc
    clear h2 h3 h4 hc
    go_enter Try.func23, Try.ntmps23
    go_wp2_with (at_builtin; refine wpList_append_own _ rfl _ _ 22 rfl w.heap.size 5 i (.int .u8 0) 1 1 Try.underlying22 hi hz0 hz1 hz2 rfl (by decide) _ 0 [] rfl ?c1 ⟨b, off, none⟩ l.length cap (byteV l) rfl ?c2 ?c3 ?c4 ?c5 ?c6 (by simp) ?_)
    case c1 => exact World.ownsRow_made w #[] 0 (Nat.le_refl _) (by unfold maxLen; omega) rfl
    case c2 => simp [byteV]
    case c3 =>
      intro q u hu
      have hj : q < l.length := by have := (List.getElem?_eq_some_iff.1 hu).1; simpa [byteV] using this
      rw [HC.out q hj]
      simp [byteV] at hu
      obtain ⟨x, hx, rfl⟩ := hu
      rw [List.getElem?_eq_getElem hj] at hx
      cases hx
      rfl
    case c4 => exact byteV_one _
    case c5 => unfold maxLen; omega
    case c6 => omega
    intro v' w2 hown hgrow hnil
    have hb2 : Below w.heap.size w w2 := ((Below.refl _ w).alloc (Nat.le_refl _) _).grown hgrow (by simp) (fun k hk => by cases hk; exact Nat.le_refl _)
    obtain ⟨g2, c2, rfl⟩ : ∃ g2 c2, v' = .slice (some ⟨g2, 0, none⟩) l.length c2 := by
      rcases hown.2 with ⟨rfl, _⟩ | ⟨g, cap, cur, rfl, _⟩
      · exact (hnil rfl).elim
      · exact ⟨g, cap, rfl⟩
    obtain ⟨v3, w3, hr3, ho3, hg3⟩ := zeros_own w2 w.heap.size g2 l.length c2 l (120 - l.length) hown (by omega) hb2.size
    have hb3 : Below w.heap.size w w3 := hb2.grown hg3 hb2.size (fun k hk => by cases hk; exact (hown.lt g2 rfl).1)
    rw [show ((120 - l.length : Nat) : Int) = 120 - (l.length : Int) by omega] at hr3
    rw [show l.length + (120 - l.length) = 120 by omega, ← body_eq hl] at ho3
    obtain ⟨g3, c3, rfl, x1, x2, x3, x4, x5, x6⟩ := own_pt ho3 (by omega)
    have HR := Lib.hid hr3
    have HB := Lib.hid hb3
    clear hown hgrow hnil hb2 hg3 hr3 hb3
    go_wp2_with (at_builtin; refine Lib.wpList_append_run _ rfl _ _ _ _ rfl _ _ rfl rfl _ _ (HR.out _) ?_)
    have S0 : Sees w w3 g3 (body l) := ⟨HB.out, x2, fun j hj => x6 j hj⟩
    have S0d := S0.drew
    have hbl120 := body_len hl
    have y1 : ¬ c3 = 60 := by omega
    have y2 : 60 ≤ c3 := by omega
    have y3 : (60 : Int) ≤ (c3 : Int) := by omega
    have y4 : (120 : Int) ≤ (c3 : Int) := by omega
    go_wp2
    go_region_law (first
      | (refine step_append_lies _ rfl (.tmp 32) (.tmp 34) 22 rfl w.heap.size 5 i (.int .u8 0) 1 1 Try.underlying22 hi hz0 hz1 hz2 rfl (by decide) (.slice (some ⟨q2, 0, none⟩) 4 4) 4 (byteV (head n)) rfl o3 ⟨g3, 60, none⟩ 60 (c3 - 60) (byteV (((body l).drop 60).take 60)) rfl (by simp [byteV, hbl120]) (s3.news 60 60 (by omega)) (byteV_one _) (by omega) (by unfold maxLen; omega) (by omega) s3.1.size _ rfl ?_; intro q2' cap2 w7 o4 r4 p4 p4')
      | (go_simp; go_at_call 37; refine (num_in s2 n n0 n1).mono ?_; rintro e w6 ⟨q2, rfl, s3, o3, lt3, lt3', k3⟩)
      | (go_simp; go_at_call 37; first | (refine (num_in S0 n n0 n1).mono ?_; rintro e w4 ⟨q1, rfl, s1, o1, lt1, lt1', k1⟩) | (refine (num_in S0d n n0 n1).mono ?_; rintro e w4 ⟨q1, rfl, s1, o1, lt1, lt1', k1⟩))
      | (refine step_append_lies _ rfl (.tmp 27) (.tmp 29) 22 rfl w.heap.size 5 i (.int .u8 0) 1 1 Try.underlying22 hi hz0 hz1 hz2 rfl (by decide) (.slice (some ⟨q1, 0, none⟩) 4 4) 4 (byteV (head n)) rfl o1 ⟨g3, 0, none⟩ 60 c3 (byteV (((body l).drop 0).take 60)) rfl (by simp [byteV, hbl120]) (s1.news 0 60 (by omega)) (byteV_one _) (by omega) (by unfold maxLen; omega) (by omega) s1.1.size _ rfl ?_; intro q1' cap1 w5 o2 r2 p2 p2'; have s2 := s1.on (s1.1.grown r2 s1.1.size (fun k hk => by cases hk; exact (o1.lt q1 rfl).1)) r2.size (r2.block g3 s1.2.1 (fun e => absurd (show g3 = q1 by simpa [Value.ownBlock] using e) (by omega)))))
    all_goals (go_wp2; go_ret3)
    rw [half_1 n hl] at o2
    rw [half_2 n hl] at o4
    have f1 := own_on (own_on o2 rfl (k3 q1' p2')) rfl (r4.block q1' (by have := s3.1.size; have := (o3.lt q2 rfl).2; omega) (fun e => by
      have e' : q1' = q2 := by simpa [Value.ownBlock] using e
      omega))
    exact ⟨_, _, rfl, own_slK f1 (tile_ok n0 n1 (ok_take hok _)), own_slK o4 (tile_ok n0 n1 (ok_drop hok _)), s3.1.grown r4 s3.1.size (fun k hk => by cases hk; exact (o3.lt q2 rfl).1)⟩

end Go.Proofs.Ytolfmgbkbmphkaa
