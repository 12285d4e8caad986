/- Which texts stand behind a front: the law walked. -/
import Derived.Test.YtdeljahdmdpdaaaDoorTwG
import Derived.Laws.Cover1
import Derived.Deep.RegionHeld
namespace Go.Proofs.YtdeljahdmdpdaaaDoor
open Go.RowKit Go.Lib

/-- A slice that reads as these texts. -/
def StL (w : World) (v : Value) (l : List (List UInt8)) : Prop := ∃ p cap, v = .slice p l.length cap ∧ (p = none → l = []) ∧
  ∀ a, p = some a → a.spot = none ∧ a.block < w.heap.size ∧ ∀ j, j < l.length → w.cell? ⟨a.block, a.off + j, none⟩ = some (.string (B (l.getD j [])))

/-- What the law asks of one text. -/
structure Gr (s k c : List UInt8) (r1 r2 r3 : Bool) : Prop where
  h1 : Op.bytesLess (jn s k) (jn c []) = r1
  h2 : decide (((jn c []).length : Int) ≤ ((jn s k).length : Int)) = r2
  h3 : ((jn s k).take (jn c []).length == jn c []) = r3
  h4 : (!r1 && r2 && r3) = (s == c)

theorem gr_of (s k c : List UInt8) : ∃ r1 r2 r3, Gr s k c r1 r2 r3 := by
  refine ⟨_, _, _, rfl, rfl, rfl, ?_⟩
  by_cases h : s = c
  · subst h
    have e := jn_front s k
    have h1 : Op.bytesLess (jn s k) (jn s []) = false := by rw [← e]; exact bl_front _ _
    have h2 : decide (((jn s []).length : Int) ≤ ((jn s k).length : Int)) = true := decide_eq_true (by rw [← e]; simp; omega)
    have h3 : ((jn s k).take (jn s []).length == jn s []) = true := by rw [← e]; simp
    rw [h1, h2, h3]; simp
  · have h3 : ((jn s k).take (jn c []).length == jn c []) = false := by
      apply beq_eq_false_iff_ne.2
      intro e
      apply h
      apply (pre_jn c s k).1
      apply List.isPrefixOf_iff_prefix.2
      exact ⟨(jn s k).drop (jn c []).length, by
        have := List.take_append_drop (jn c []).length (jn s k)
        rw [e] at this; exact this⟩
    rw [h3]; simp [h]

set_option maxHeartbeats 16000000 in
theorem groups_walk (w : World) (v1 v2 : Value) (l1 l2 : List (List UInt8)) (c : ByteArray) (hm : Ml w) (S1 : StL w v1 l1) (S2 : StL w v2 l2) :
    Calls Tryd.prog 6 #[v1, v2, .string c] w fun e w' => e = .returned (.bool true) ∧ Below w.heap.size w w' := by
  have hlt := hm.lt
  have hBt := B_list
  obtain ⟨c, rfl, hcs⟩ := B_surj c
  obtain ⟨p1, c1, rfl, q1, k1⟩ := S1
  obtain ⟨p2, c2, rfl, q2, k2⟩ := S2
  have K1 := hidI k1
  have K2 := hidI k2
  have Q1 := hidI q1
  have Q2 := hidI q2
  clear k1 k2 q1 q2
  go_enter Tryd.func6, Tryd.ntmps6
  go_wp2_with fail
  refine (begun_any w hm).mono ?_
  rintro e w1 ⟨rfl, hb1⟩
  have hs1 := hb1.size
  by_cases g1 : l1.length ≤ 8
  · by_cases g2 : l2.length < l1.length
    · go_wp2_with fail
      go_ret
      exact ⟨rfl, hb1⟩
    · by_cases g3 : c.length ≤ 10
      · have hl : (jn c []).length ≤ 100 := by have := esc_len c; simp [jn]; omega
        go_wp2_with fail
        go_loopw [7] (fun i wr => ∃ k : Nat, k ≤ l1.length ∧ i = .int .i64 k ∧ Below w.heap.size w wr) (fun i _ => l1.length - (RowKit.intOf i).toNat)
        case atStart => exact ⟨0, by omega, rfl, hb1⟩
        case round =>
          obtain ⟨k, hk, rfl, hB⟩ := hrel
          clear hb1 hs1
          have hsr := hB.size
          by_cases hkl : k < l1.length
          · cases p1 with
            | none => have := Q1.out rfl; subst this; simp at hkl
            | some a1 =>
              cases p2 with
              | none => have := Q2.out rfl; subst this; simp only [List.length_nil] at g2; omega
              | some a2 =>
                obtain ⟨b1, o1, t1⟩ := a1
                obtain ⟨b2, o2, t2⟩ := a2
                obtain ⟨z1, z2, z3⟩ := K1.out _ rfl
                obtain ⟨y1, y2, y3⟩ := K2.out _ rfl
                dsimp only at z1 z2 z3 y1 y2 y3
                subst z1; subst y1
                have x1 := (hB.cell (p := ⟨b1, o1 + k, none⟩) z2).trans (z3 k hkl)
                have x2 := (hB.cell (p := ⟨b2, o2 + k, none⟩) y2).trans (y3 k (by omega))
                clear z3 y3
                obtain ⟨s, hs⟩ : ∃ s, l1.getD k [] = s := ⟨_, rfl⟩
                obtain ⟨t, ht⟩ : ∃ t, l2.getD k [] = t := ⟨_, rfl⟩
                rw [hs] at x1
                rw [ht] at x2
                have ss := B_size s
                have st := B_size t
                by_cases g4 : s.length ≤ 10
                · by_cases g5 : t.length ≤ 10
                  · have kl2 : k < l2.length := by omega
                    have hmr := hm.below hB hlt
                    clear K1 K2 hk g1 g2
                    go_wp2_with fail
                    have HS : Hid (∀ W, Below wr.heap.size wr W → Below wr.heap.size wr W ∧ W.cell? ⟨b1, o1 + k, none⟩ = some (.string (B s)) ∧ W.cell? ⟨b2, o2 + k, none⟩ = some (.string (B t))) := fun W h =>
                      ⟨h, (h.cell (p := ⟨b1, o1 + k, none⟩) (by dsimp only; omega)).trans x1, (h.cell (p := ⟨b2, o2 + k, none⟩) (by dsimp only; omega)).trans x2⟩
                    have HJ : Hid (∀ W, Below wr.heap.size wr W → Calls Tryd.prog 10 #[.string (B s), .string (B t)] W fun e w' => e = .returned (.string (B (jn s t))) ∧ Below wr.heap.size wr w') := fun W h =>
                      (join_any s t W (hmr.below h hmr.lt) (by omega) (by omega)).mono fun e w' ⟨h1, h2⟩ => ⟨h1, h.trans (h2.mono h.size)⟩
                    have D0 := (Below.refl wr.heap.size wr).drew
                    go_region_held (fun W => Below wr.heap.size wr W ∧ W.cell? ⟨b1, o1 + k, none⟩ = some (.string (B s)) ∧ W.cell? ⟨b2, o2 + k, none⟩ = some (.string (B t))) (first | exact HS.out _ D0 | exact HS.out _ (by assumption))
                      (first | (go_at_call 10; refine (HJ.out _ (by first | assumption | (rename_i hh; exact hh.1))).mono ?_; rintro e w3 ⟨rfl, hb3⟩))
                    have hB3 := hB.trans (hb3.mono hsr)
                    have hs3 := hB3.size
                    have hm3 := hm.below hB3 hlt
                    obtain ⟨-, e1, -⟩ := ‹Below wr.heap.size wr w3 ∧ _›
                    clear HS HJ D0 x1 x2 hb3 hmr hB
                    obtain ⟨r1, r2, r3, G1, G2, G3, G4⟩ := gr_of s t c
                    have HF : Hid (∀ W, Below w3.heap.size w3 W → Calls Tryd.prog 12 #[.string (B c)] W fun e w' => e = .returned (.string (B (jn c []))) ∧ Below w3.heap.size w3 w') := fun W h =>
                      (front_any c W (hm3.below h hm3.lt) (by omega)).mono fun e w' ⟨h1, h2⟩ => ⟨h1, h.trans (h2.mono h.size)⟩
                    generalize jn s t = X at G1 G2 G3 ⊢
                    generalize jn c [] = F at hl G1 G2 G3 HF
                    have zX := B_size X
                    have zF := B_size F
                    have D0 := (Below.refl w3.heap.size w3).drew
                    have HS : Hid (∀ W, Below w3.heap.size w3 W → Below w3.heap.size w3 W) := fun W h => h
                    clear hm3 ht hs kl2 g4 g5 hl y2 st g3
                    cases r1 with
                    | true =>
                      have G5 : (s == c) = false := by rw [← G4]; rfl
                      clear G2 G3 G4
                      go_wp2_with fail
                      refine wp_region_held_drew (S := (fun W : World => Below w3.heap.size w3 W)) (by kernel_rfl) (HS.out _ D0) (fun hHeld => ?_)
                      refine wpAnyH_take (i := 0) (oi := ⟨_, _, _, _, _, _⟩) (v := ?_) rfl (by kernel_rfl) (by kernel_rfl) (by kernel_rfl) (fun _ _ _ h => h) (Or.inl ⟨by rfl, ?_⟩) (by assumption) ?_
                      rotate_left
                      · intro W hSW
                        try dsimp only at hSW
                        go_simp
                        try with_reducible rfl
                      rotate_left
                      try simp only [Act.put, List.setIfInBounds_toArray, List.set_cons_zero, List.set_cons_succ]
                      refine wpAnyH_take (i := 1) (oi := ⟨_, _, _, _, _, _⟩) (v := ?_) rfl (by kernel_rfl) (by kernel_rfl) (by kernel_rfl) (fun _ _ _ h => h) (Or.inl ⟨by rfl, ?_⟩) (by assumption) ?_
                      rotate_left
                      · intro W hSW
                        try dsimp only at hSW
                        go_simp
                        try with_reducible rfl
                      rotate_left
                      try simp only [Act.put, List.setIfInBounds_toArray, List.set_cons_zero, List.set_cons_succ]
                      refine wpAnyH_ready (rs := [2]) (by kernel_rfl) (by simp) ?_
                      refine AllReadyH.cons (o := ⟨_, _, _, _, _, _⟩) rfl (fun K hK => ?_) AllReadyH.nil
                      rw [if_pos (by rfl)]
                      go_simp
                      go_at_call 12
                      refine (HF.out _ (by assumption)).mono ?_
                      rintro e w4 ⟨rfl, hb4⟩
                      go_wp2_with fail
                      refine hK.out _ _ (HS.out _ hb4) (fun hHeld => ?_)
                      clear hK K
                      try simp only [Act.put, List.setIfInBounds_toArray, List.set_cons_zero, List.set_cons_succ]
                      refine wpAnyH_take (i := 3) (oi := ⟨_, _, _, _, _, _⟩) (v := ?_) rfl (by kernel_rfl) (by kernel_rfl) (by kernel_rfl) (fun _ _ _ h => h) (Or.inl ⟨by rfl, ?_⟩) (by assumption) ?_
                      rotate_left
                      · intro W hSW
                        try dsimp only at hSW
                        go_simp
                        try with_reducible rfl
                      rotate_left
                      try simp only [Act.put, List.setIfInBounds_toArray, List.set_cons_zero, List.set_cons_succ]
                      refine wpAnyH_take (i := 4) (oi := ⟨_, _, _, _, _, _⟩) (v := ?_) rfl (by kernel_rfl) (by kernel_rfl) (by kernel_rfl) (fun _ _ _ h => h) (Or.inl ⟨by rfl, ?_⟩) (by assumption) ?_
                      rotate_left
                      · intro W hSW
                        try dsimp only at hSW
                        go_simp
                        try with_reducible rfl
                      rotate_left
                      try simp only [Act.put, List.setIfInBounds_toArray, List.set_cons_zero, List.set_cons_succ]
                      refine wpAnyH_take (i := 5) (oi := ⟨_, _, _, _, _, _⟩) (v := undef) rfl (by kernel_rfl) (by kernel_rfl) (by kernel_rfl) (fun _ _ _ h => h) (Or.inr ⟨by rfl, rfl⟩) (by assumption) ?_
                      try simp only [Act.put, List.setIfInBounds_toArray, List.set_cons_zero, List.set_cons_succ]
                      refine wpAnyH_take (i := 6) (oi := ⟨_, _, _, _, _, _⟩) (v := undef) rfl (by kernel_rfl) (by kernel_rfl) (by kernel_rfl) (fun _ _ _ h => h) (Or.inr ⟨by rfl, rfl⟩) (by assumption) ?_
                      try simp only [Act.put, List.setIfInBounds_toArray, List.set_cons_zero, List.set_cons_succ]
                      refine wpAnyH_take (i := 7) (oi := ⟨_, _, _, _, _, _⟩) (v := undef) rfl (by kernel_rfl) (by kernel_rfl) (by kernel_rfl) (fun _ _ _ h => h) (Or.inr ⟨by rfl, rfl⟩) (by assumption) ?_
                      try simp only [Act.put, List.setIfInBounds_toArray, List.set_cons_zero, List.set_cons_succ]
                      refine wpAnyH_take (i := 8) (oi := ⟨_, _, _, _, _, _⟩) (v := undef) rfl (by kernel_rfl) (by kernel_rfl) (by kernel_rfl) (fun _ _ _ h => h) (Or.inr ⟨by rfl, rfl⟩) (by assumption) ?_
                      try simp only [Act.put, List.setIfInBounds_toArray, List.set_cons_zero, List.set_cons_succ]
                      refine wpAnyH_take (i := 9) (oi := ⟨_, _, _, _, _, _⟩) (v := undef) rfl (by kernel_rfl) (by kernel_rfl) (by kernel_rfl) (fun _ _ _ h => h) (Or.inr ⟨by rfl, rfl⟩) (by assumption) ?_
                      try simp only [Act.put, List.setIfInBounds_toArray, List.set_cons_zero, List.set_cons_succ]
                      refine wpAnyH_take (i := 10) (oi := ⟨_, _, _, _, _, _⟩) (v := undef) rfl (by kernel_rfl) (by kernel_rfl) (by kernel_rfl) (fun _ _ _ h => h) (Or.inr ⟨by rfl, rfl⟩) (by assumption) ?_
                      try simp only [Act.put, List.setIfInBounds_toArray, List.set_cons_zero, List.set_cons_succ]
                      refine wpAnyH_take (i := 11) (oi := ⟨_, _, _, _, _, _⟩) (v := ?_) rfl (by kernel_rfl) (by kernel_rfl) (by kernel_rfl) (fun _ _ _ h => h) (Or.inl ⟨by rfl, ?_⟩) (by assumption) ?_
                      rotate_left
                      · intro W hSW
                        try dsimp only at hSW
                        go_simp
                        try with_reducible rfl
                      rotate_left
                      try simp only [Act.put, List.setIfInBounds_toArray, List.set_cons_zero, List.set_cons_succ]
                      refine wpAnyH_take (i := 12) (oi := ⟨_, _, _, _, _, _⟩) (v := ?_) rfl (by kernel_rfl) (by kernel_rfl) (by kernel_rfl) (fun _ _ _ h => h) (Or.inl ⟨by rfl, ?_⟩) (by assumption) ?_
                      rotate_left
                      · intro W hSW
                        try dsimp only at hSW
                        go_simp
                        try with_reducible rfl
                      rotate_left
                      try simp only [Act.put, List.setIfInBounds_toArray, List.set_cons_zero, List.set_cons_succ]
                      refine wpAnyH_take (i := 13) (oi := ⟨_, _, _, _, _, _⟩) (v := undef) rfl (by kernel_rfl) (by kernel_rfl) (by kernel_rfl) (fun _ _ _ h => h) (Or.inr ⟨by rfl, rfl⟩) (by assumption) ?_
                      try simp only [Act.put, List.setIfInBounds_toArray, List.set_cons_zero, List.set_cons_succ]
                      refine wpAnyH_take (i := 14) (oi := ⟨_, _, _, _, _, _⟩) (v := undef) rfl (by kernel_rfl) (by kernel_rfl) (by kernel_rfl) (fun _ _ _ h => h) (Or.inr ⟨by rfl, rfl⟩) (by assumption) ?_
                      try simp only [Act.put, List.setIfInBounds_toArray, List.set_cons_zero, List.set_cons_succ]
                      refine wpAnyH_take (i := 15) (oi := ⟨_, _, _, _, _, _⟩) (v := undef) rfl (by kernel_rfl) (by kernel_rfl) (by kernel_rfl) (fun _ _ _ h => h) (Or.inr ⟨by rfl, rfl⟩) (by assumption) ?_
                      try simp only [Act.put, List.setIfInBounds_toArray, List.set_cons_zero, List.set_cons_succ]
                      refine wpAnyH_take (i := 16) (oi := ⟨_, _, _, _, _, _⟩) (v := undef) rfl (by kernel_rfl) (by kernel_rfl) (by kernel_rfl) (fun _ _ _ h => h) (Or.inr ⟨by rfl, rfl⟩) (by assumption) ?_
                      try simp only [Act.put, List.setIfInBounds_toArray, List.set_cons_zero, List.set_cons_succ]
                      refine wpAnyH_take (i := 17) (oi := ⟨_, _, _, _, _, _⟩) (v := undef) rfl (by kernel_rfl) (by kernel_rfl) (by kernel_rfl) (fun _ _ _ h => h) (Or.inr ⟨by rfl, rfl⟩) (by assumption) ?_
                      try simp only [Act.put, List.setIfInBounds_toArray, List.set_cons_zero, List.set_cons_succ]
                      refine wpAnyH_take (i := 18) (oi := ⟨_, _, _, _, _, _⟩) (v := undef) rfl (by kernel_rfl) (by kernel_rfl) (by kernel_rfl) (fun _ _ _ h => h) (Or.inr ⟨by rfl, rfl⟩) (by assumption) ?_
                      try simp only [Act.put, List.setIfInBounds_toArray, List.set_cons_zero, List.set_cons_succ]
                      refine wpAnyH_take (i := 19) (oi := ⟨_, _, _, _, _, _⟩) (v := undef) rfl (by kernel_rfl) (by kernel_rfl) (by kernel_rfl) (fun _ _ _ h => h) (Or.inr ⟨by rfl, rfl⟩) (by assumption) ?_
                      try simp only [Act.put, List.setIfInBounds_toArray, List.set_cons_zero, List.set_cons_succ]
                      refine wpAnyH_take (i := 20) (oi := ⟨_, _, _, _, _, _⟩) (v := undef) rfl (by kernel_rfl) (by kernel_rfl) (by kernel_rfl) (fun _ _ _ h => h) (Or.inr ⟨by rfl, rfl⟩) (by assumption) ?_
                      try simp only [Act.put, List.setIfInBounds_toArray, List.set_cons_zero, List.set_cons_succ]
                      refine wpAnyH_take (i := 21) (oi := ⟨_, _, _, _, _, _⟩) (v := ?_) rfl (by kernel_rfl) (by kernel_rfl) (by kernel_rfl) (fun _ _ _ h => h) (Or.inl ⟨by rfl, ?_⟩) (by assumption) ?_
                      rotate_left
                      · intro W hSW
                        try dsimp only at hSW
                        go_simp
                        try with_reducible rfl
                      rotate_left
                      try simp only [Act.put, List.setIfInBounds_toArray, List.set_cons_zero, List.set_cons_succ]
                      refine wpAnyH_take (i := 22) (oi := ⟨_, _, _, _, _, _⟩) (v := ?_) rfl (by kernel_rfl) (by kernel_rfl) (by kernel_rfl) (fun _ _ _ h => h) (Or.inl ⟨by rfl, ?_⟩) (by assumption) ?_
                      rotate_left
                      · intro W hSW
                        try dsimp only at hSW
                        go_simp
                        try with_reducible rfl
                      rotate_left
                      try simp only [Act.put, List.setIfInBounds_toArray, List.set_cons_zero, List.set_cons_succ]
                      refine wpAnyH_done (by kernel_rfl) ?_ _
                      have hB4 := hB3.trans (hb4.mono hs3)
                      have e2 := (hb4.cell (p := ⟨b1, o1 + k, none⟩) (by dsimp only; omega)).trans e1
                      clear HF HS D0
                      go_wp2_with fail
                      go_roundw
                      case rel => exact ⟨k + 1, by omega, by go_num, hB4⟩
                      case measure => simp [RowKit.intOf]; omega
                    | false =>
                      cases r2 with
                      | false =>
                        have G5 : (s == c) = false := by rw [← G4]; rfl
                        have G6 : decide (F.length ≤ X.length) = false := decide_eq_false (by have := of_decide_eq_false G2; omega)
                        clear G3 G4
                        go_wp2_with fail
                        refine wp_region_held_drew (S := (fun W : World => Below w3.heap.size w3 W)) (by kernel_rfl) (HS.out _ D0) (fun hHeld => ?_)
                        refine wpAnyH_take (i := 0) (oi := ⟨_, _, _, _, _, _⟩) (v := ?_) rfl (by kernel_rfl) (by kernel_rfl) (by kernel_rfl) (fun _ _ _ h => h) (Or.inl ⟨by rfl, ?_⟩) (by assumption) ?_
                        rotate_left
                        · intro W hSW
                          try dsimp only at hSW
                          go_simp
                          try with_reducible rfl
                        rotate_left
                        try simp only [Act.put, List.setIfInBounds_toArray, List.set_cons_zero, List.set_cons_succ]
                        refine wpAnyH_take (i := 1) (oi := ⟨_, _, _, _, _, _⟩) (v := ?_) rfl (by kernel_rfl) (by kernel_rfl) (by kernel_rfl) (fun _ _ _ h => h) (Or.inl ⟨by rfl, ?_⟩) (by assumption) ?_
                        rotate_left
                        · intro W hSW
                          try dsimp only at hSW
                          go_simp
                          try with_reducible rfl
                        rotate_left
                        try simp only [Act.put, List.setIfInBounds_toArray, List.set_cons_zero, List.set_cons_succ]
                        refine wpAnyH_ready (rs := [2]) (by kernel_rfl) (by simp) ?_
                        refine AllReadyH.cons (o := ⟨_, _, _, _, _, _⟩) rfl (fun K hK => ?_) AllReadyH.nil
                        rw [if_pos (by rfl)]
                        go_simp
                        go_at_call 12
                        refine (HF.out _ (by assumption)).mono ?_
                        rintro e w4 ⟨rfl, hb4⟩
                        go_wp2_with fail
                        refine hK.out _ _ (HS.out _ hb4) (fun hHeld => ?_)
                        clear hK K
                        try simp only [Act.put, List.setIfInBounds_toArray, List.set_cons_zero, List.set_cons_succ]
                        refine wpAnyH_take (i := 3) (oi := ⟨_, _, _, _, _, _⟩) (v := ?_) rfl (by kernel_rfl) (by kernel_rfl) (by kernel_rfl) (fun _ _ _ h => h) (Or.inl ⟨by rfl, ?_⟩) (by assumption) ?_
                        rotate_left
                        · intro W hSW
                          try dsimp only at hSW
                          go_simp
                          try with_reducible rfl
                        rotate_left
                        try simp only [Act.put, List.setIfInBounds_toArray, List.set_cons_zero, List.set_cons_succ]
                        refine wpAnyH_take (i := 4) (oi := ⟨_, _, _, _, _, _⟩) (v := ?_) rfl (by kernel_rfl) (by kernel_rfl) (by kernel_rfl) (fun _ _ _ h => h) (Or.inl ⟨by rfl, ?_⟩) (by assumption) ?_
                        rotate_left
                        · intro W hSW
                          try dsimp only at hSW
                          go_simp
                          try with_reducible rfl
                        rotate_left
                        try simp only [Act.put, List.setIfInBounds_toArray, List.set_cons_zero, List.set_cons_succ]
                        refine wpAnyH_take (i := 5) (oi := ⟨_, _, _, _, _, _⟩) (v := ?_) rfl (by kernel_rfl) (by kernel_rfl) (by kernel_rfl) (fun _ _ _ h => h) (Or.inl ⟨by rfl, ?_⟩) (by assumption) ?_
                        rotate_left
                        · intro W hSW
                          try dsimp only at hSW
                          go_simp
                          try with_reducible rfl
                        rotate_left
                        try simp only [Act.put, List.setIfInBounds_toArray, List.set_cons_zero, List.set_cons_succ]
                        refine wpAnyH_take (i := 6) (oi := ⟨_, _, _, _, _, _⟩) (v := ?_) rfl (by kernel_rfl) (by kernel_rfl) (by kernel_rfl) (fun _ _ _ h => h) (Or.inl ⟨by rfl, ?_⟩) (by assumption) ?_
                        rotate_left
                        · intro W hSW
                          try dsimp only at hSW
                          go_simp
                          try with_reducible rfl
                        rotate_left
                        try simp only [Act.put, List.setIfInBounds_toArray, List.set_cons_zero, List.set_cons_succ]
                        refine wpAnyH_take (i := 7) (oi := ⟨_, _, _, _, _, _⟩) (v := ?_) rfl (by kernel_rfl) (by kernel_rfl) (by kernel_rfl) (fun _ _ _ h => h) (Or.inl ⟨by rfl, ?_⟩) (by assumption) ?_
                        rotate_left
                        · intro W hSW
                          try dsimp only at hSW
                          go_simp
                          try with_reducible rfl
                        rotate_left
                        try simp only [Act.put, List.setIfInBounds_toArray, List.set_cons_zero, List.set_cons_succ]
                        refine wpAnyH_ready (rs := [8]) (by kernel_rfl) (by simp) ?_
                        refine AllReadyH.cons (o := ⟨_, _, _, _, _, _⟩) rfl (fun K hK => ?_) AllReadyH.nil
                        rw [if_pos (by rfl)]
                        go_simp
                        go_at_call 12
                        refine (HF.out _ (by assumption)).mono ?_
                        rintro e w5 ⟨rfl, hb5⟩
                        go_wp2_with fail
                        refine hK.out _ _ (HS.out _ hb5) (fun hHeld => ?_)
                        clear hK K
                        try simp only [Act.put, List.setIfInBounds_toArray, List.set_cons_zero, List.set_cons_succ]
                        refine wpAnyH_take (i := 9) (oi := ⟨_, _, _, _, _, _⟩) (v := ?_) rfl (by kernel_rfl) (by kernel_rfl) (by kernel_rfl) (fun _ _ _ h => h) (Or.inl ⟨by rfl, ?_⟩) (by assumption) ?_
                        rotate_left
                        · intro W hSW
                          try dsimp only at hSW
                          go_simp
                          try with_reducible rfl
                        rotate_left
                        try simp only [Act.put, List.setIfInBounds_toArray, List.set_cons_zero, List.set_cons_succ]
                        refine wpAnyH_take (i := 10) (oi := ⟨_, _, _, _, _, _⟩) (v := ?_) rfl (by kernel_rfl) (by kernel_rfl) (by kernel_rfl) (fun _ _ _ h => h) (Or.inl ⟨by rfl, ?_⟩) (by assumption) ?_
                        rotate_left
                        · intro W hSW
                          try dsimp only at hSW
                          go_simp
                          try with_reducible rfl
                        rotate_left
                        try simp only [Act.put, List.setIfInBounds_toArray, List.set_cons_zero, List.set_cons_succ]
                        refine wpAnyH_take (i := 11) (oi := ⟨_, _, _, _, _, _⟩) (v := ?_) rfl (by kernel_rfl) (by kernel_rfl) (by kernel_rfl) (fun _ _ _ h => h) (Or.inl ⟨by rfl, ?_⟩) (by assumption) ?_
                        rotate_left
                        · intro W hSW
                          try dsimp only at hSW
                          go_simp
                          try with_reducible rfl
                        rotate_left
                        try simp only [Act.put, List.setIfInBounds_toArray, List.set_cons_zero, List.set_cons_succ]
                        refine wpAnyH_take (i := 12) (oi := ⟨_, _, _, _, _, _⟩) (v := ?_) rfl (by kernel_rfl) (by kernel_rfl) (by kernel_rfl) (fun _ _ _ h => h) (Or.inl ⟨by rfl, ?_⟩) (by assumption) ?_
                        rotate_left
                        · intro W hSW
                          try dsimp only at hSW
                          go_simp
                          try with_reducible rfl
                        rotate_left
                        try simp only [Act.put, List.setIfInBounds_toArray, List.set_cons_zero, List.set_cons_succ]
                        refine wpAnyH_take (i := 13) (oi := ⟨_, _, _, _, _, _⟩) (v := undef) rfl (by kernel_rfl) (by kernel_rfl) (by kernel_rfl) (fun _ _ _ h => h) (Or.inr ⟨by rfl, rfl⟩) (by assumption) ?_
                        try simp only [Act.put, List.setIfInBounds_toArray, List.set_cons_zero, List.set_cons_succ]
                        refine wpAnyH_take (i := 14) (oi := ⟨_, _, _, _, _, _⟩) (v := undef) rfl (by kernel_rfl) (by kernel_rfl) (by kernel_rfl) (fun _ _ _ h => h) (Or.inr ⟨by rfl, rfl⟩) (by assumption) ?_
                        try simp only [Act.put, List.setIfInBounds_toArray, List.set_cons_zero, List.set_cons_succ]
                        refine wpAnyH_take (i := 15) (oi := ⟨_, _, _, _, _, _⟩) (v := undef) rfl (by kernel_rfl) (by kernel_rfl) (by kernel_rfl) (fun _ _ _ h => h) (Or.inr ⟨by rfl, rfl⟩) (by assumption) ?_
                        try simp only [Act.put, List.setIfInBounds_toArray, List.set_cons_zero, List.set_cons_succ]
                        refine wpAnyH_take (i := 16) (oi := ⟨_, _, _, _, _, _⟩) (v := undef) rfl (by kernel_rfl) (by kernel_rfl) (by kernel_rfl) (fun _ _ _ h => h) (Or.inr ⟨by rfl, rfl⟩) (by assumption) ?_
                        try simp only [Act.put, List.setIfInBounds_toArray, List.set_cons_zero, List.set_cons_succ]
                        refine wpAnyH_take (i := 17) (oi := ⟨_, _, _, _, _, _⟩) (v := undef) rfl (by kernel_rfl) (by kernel_rfl) (by kernel_rfl) (fun _ _ _ h => h) (Or.inr ⟨by rfl, rfl⟩) (by assumption) ?_
                        try simp only [Act.put, List.setIfInBounds_toArray, List.set_cons_zero, List.set_cons_succ]
                        refine wpAnyH_take (i := 18) (oi := ⟨_, _, _, _, _, _⟩) (v := undef) rfl (by kernel_rfl) (by kernel_rfl) (by kernel_rfl) (fun _ _ _ h => h) (Or.inr ⟨by rfl, rfl⟩) (by assumption) ?_
                        try simp only [Act.put, List.setIfInBounds_toArray, List.set_cons_zero, List.set_cons_succ]
                        refine wpAnyH_take (i := 19) (oi := ⟨_, _, _, _, _, _⟩) (v := undef) rfl (by kernel_rfl) (by kernel_rfl) (by kernel_rfl) (fun _ _ _ h => h) (Or.inr ⟨by rfl, rfl⟩) (by assumption) ?_
                        try simp only [Act.put, List.setIfInBounds_toArray, List.set_cons_zero, List.set_cons_succ]
                        refine wpAnyH_take (i := 20) (oi := ⟨_, _, _, _, _, _⟩) (v := undef) rfl (by kernel_rfl) (by kernel_rfl) (by kernel_rfl) (fun _ _ _ h => h) (Or.inr ⟨by rfl, rfl⟩) (by assumption) ?_
                        try simp only [Act.put, List.setIfInBounds_toArray, List.set_cons_zero, List.set_cons_succ]
                        refine wpAnyH_take (i := 21) (oi := ⟨_, _, _, _, _, _⟩) (v := ?_) rfl (by kernel_rfl) (by kernel_rfl) (by kernel_rfl) (fun _ _ _ h => h) (Or.inl ⟨by rfl, ?_⟩) (by assumption) ?_
                        rotate_left
                        · intro W hSW
                          try dsimp only at hSW
                          go_simp
                          try with_reducible rfl
                        rotate_left
                        try simp only [Act.put, List.setIfInBounds_toArray, List.set_cons_zero, List.set_cons_succ]
                        refine wpAnyH_take (i := 22) (oi := ⟨_, _, _, _, _, _⟩) (v := ?_) rfl (by kernel_rfl) (by kernel_rfl) (by kernel_rfl) (fun _ _ _ h => h) (Or.inl ⟨by rfl, ?_⟩) (by assumption) ?_
                        rotate_left
                        · intro W hSW
                          try dsimp only at hSW
                          go_simp
                          try with_reducible rfl
                        rotate_left
                        try simp only [Act.put, List.setIfInBounds_toArray, List.set_cons_zero, List.set_cons_succ]
                        refine wpAnyH_done (by kernel_rfl) ?_ _
                        have hB4 := hB3.trans (hb5.mono hs3)
                        have e2 := (hb5.cell (p := ⟨b1, o1 + k, none⟩) (by dsimp only; omega)).trans e1
                        clear HF HS D0
                        go_wp2_with fail
                        go_roundw
                        case rel => exact ⟨k + 1, by omega, by go_num, hB4⟩
                        case measure => simp [RowKit.intOf]; omega
                      | true =>
                        have G5 : (s == c) = r3 := by rw [← G4]; rfl
                        have hFX : F.length ≤ X.length := by have := of_decide_eq_true G2; omega
                        have G6 : decide (F.length ≤ X.length) = true := decide_eq_true hFX
                        have hsl : ∀ W, (Instr.slice 9 (.string (B X)) none (some (.int .i64 (F.length : Int))) none).run Tryd.prog W = .ok (.string (B (X.take F.length))) W := fun W => by
                          rw [run_slice_string_to_if W 9 (B X) .i64 F.length Tryd.underlying9, if_pos ⟨by omega, by omega⟩]
                          rw [show (F.length : Int).toNat = F.length by omega, B_ext X (by omega) hFX]; rfl
                        clear G4
                        cases r3
                        all_goals (
                          go_wp2_with fail
                          refine wp_region_held_drew (S := (fun W : World => Below w3.heap.size w3 W)) (by kernel_rfl) (HS.out _ D0) (fun hHeld => ?_)
                          refine wpAnyH_take (i := 0) (oi := ⟨_, _, _, _, _, _⟩) (v := ?_) rfl (by kernel_rfl) (by kernel_rfl) (by kernel_rfl) (fun _ _ _ h => h) (Or.inl ⟨by rfl, ?_⟩) (by assumption) ?_
                          rotate_left
                          · intro W hSW
                            try dsimp only at hSW
                            go_simp
                            try with_reducible rfl
                          rotate_left
                          try simp only [Act.put, List.setIfInBounds_toArray, List.set_cons_zero, List.set_cons_succ]
                          refine wpAnyH_take (i := 1) (oi := ⟨_, _, _, _, _, _⟩) (v := ?_) rfl (by kernel_rfl) (by kernel_rfl) (by kernel_rfl) (fun _ _ _ h => h) (Or.inl ⟨by rfl, ?_⟩) (by assumption) ?_
                          rotate_left
                          · intro W hSW
                            try dsimp only at hSW
                            go_simp
                            try with_reducible rfl
                          rotate_left
                          try simp only [Act.put, List.setIfInBounds_toArray, List.set_cons_zero, List.set_cons_succ]
                          refine wpAnyH_ready (rs := [2]) (by kernel_rfl) (by simp) ?_
                          refine AllReadyH.cons (o := ⟨_, _, _, _, _, _⟩) rfl (fun K hK => ?_) AllReadyH.nil
                          rw [if_pos (by rfl)]
                          go_simp
                          go_at_call 12
                          refine (HF.out _ (by assumption)).mono ?_
                          rintro e w4 ⟨rfl, hb4⟩
                          go_wp2_with fail
                          refine hK.out _ _ (HS.out _ hb4) (fun hHeld => ?_)
                          clear hK K
                          try simp only [Act.put, List.setIfInBounds_toArray, List.set_cons_zero, List.set_cons_succ]
                          refine wpAnyH_take (i := 3) (oi := ⟨_, _, _, _, _, _⟩) (v := ?_) rfl (by kernel_rfl) (by kernel_rfl) (by kernel_rfl) (fun _ _ _ h => h) (Or.inl ⟨by rfl, ?_⟩) (by assumption) ?_
                          rotate_left
                          · intro W hSW
                            try dsimp only at hSW
                            go_simp
                            try with_reducible rfl
                          rotate_left
                          try simp only [Act.put, List.setIfInBounds_toArray, List.set_cons_zero, List.set_cons_succ]
                          refine wpAnyH_take (i := 4) (oi := ⟨_, _, _, _, _, _⟩) (v := ?_) rfl (by kernel_rfl) (by kernel_rfl) (by kernel_rfl) (fun _ _ _ h => h) (Or.inl ⟨by rfl, ?_⟩) (by assumption) ?_
                          rotate_left
                          · intro W hSW
                            try dsimp only at hSW
                            go_simp
                            try with_reducible rfl
                          rotate_left
                          try simp only [Act.put, List.setIfInBounds_toArray, List.set_cons_zero, List.set_cons_succ]
                          refine wpAnyH_take (i := 5) (oi := ⟨_, _, _, _, _, _⟩) (v := ?_) rfl (by kernel_rfl) (by kernel_rfl) (by kernel_rfl) (fun _ _ _ h => h) (Or.inl ⟨by rfl, ?_⟩) (by assumption) ?_
                          rotate_left
                          · intro W hSW
                            try dsimp only at hSW
                            go_simp
                            try with_reducible rfl
                          rotate_left
                          try simp only [Act.put, List.setIfInBounds_toArray, List.set_cons_zero, List.set_cons_succ]
                          refine wpAnyH_take (i := 6) (oi := ⟨_, _, _, _, _, _⟩) (v := ?_) rfl (by kernel_rfl) (by kernel_rfl) (by kernel_rfl) (fun _ _ _ h => h) (Or.inl ⟨by rfl, ?_⟩) (by assumption) ?_
                          rotate_left
                          · intro W hSW
                            try dsimp only at hSW
                            go_simp
                            try with_reducible rfl
                          rotate_left
                          try simp only [Act.put, List.setIfInBounds_toArray, List.set_cons_zero, List.set_cons_succ]
                          refine wpAnyH_take (i := 7) (oi := ⟨_, _, _, _, _, _⟩) (v := ?_) rfl (by kernel_rfl) (by kernel_rfl) (by kernel_rfl) (fun _ _ _ h => h) (Or.inl ⟨by rfl, ?_⟩) (by assumption) ?_
                          rotate_left
                          · intro W hSW
                            try dsimp only at hSW
                            go_simp
                            try with_reducible rfl
                          rotate_left
                          try simp only [Act.put, List.setIfInBounds_toArray, List.set_cons_zero, List.set_cons_succ]
                          refine wpAnyH_ready (rs := [8]) (by kernel_rfl) (by simp) ?_
                          refine AllReadyH.cons (o := ⟨_, _, _, _, _, _⟩) rfl (fun K hK => ?_) AllReadyH.nil
                          rw [if_pos (by rfl)]
                          go_simp
                          go_at_call 12
                          refine (HF.out _ (by assumption)).mono ?_
                          rintro e w5 ⟨rfl, hb5⟩
                          go_wp2_with fail
                          refine hK.out _ _ (HS.out _ hb5) (fun hHeld => ?_)
                          clear hK K
                          try simp only [Act.put, List.setIfInBounds_toArray, List.set_cons_zero, List.set_cons_succ]
                          refine wpAnyH_take (i := 9) (oi := ⟨_, _, _, _, _, _⟩) (v := ?_) rfl (by kernel_rfl) (by kernel_rfl) (by kernel_rfl) (fun _ _ _ h => h) (Or.inl ⟨by rfl, ?_⟩) (by assumption) ?_
                          rotate_left
                          · intro W hSW
                            try dsimp only at hSW
                            go_simp
                            try with_reducible rfl
                          rotate_left
                          try simp only [Act.put, List.setIfInBounds_toArray, List.set_cons_zero, List.set_cons_succ]
                          refine wpAnyH_take (i := 10) (oi := ⟨_, _, _, _, _, _⟩) (v := ?_) rfl (by kernel_rfl) (by kernel_rfl) (by kernel_rfl) (fun _ _ _ h => h) (Or.inl ⟨by rfl, ?_⟩) (by assumption) ?_
                          rotate_left
                          · intro W hSW
                            try dsimp only at hSW
                            go_simp
                            try with_reducible rfl
                          rotate_left
                          try simp only [Act.put, List.setIfInBounds_toArray, List.set_cons_zero, List.set_cons_succ]
                          refine wpAnyH_take (i := 11) (oi := ⟨_, _, _, _, _, _⟩) (v := ?_) rfl (by kernel_rfl) (by kernel_rfl) (by kernel_rfl) (fun _ _ _ h => h) (Or.inl ⟨by rfl, ?_⟩) (by assumption) ?_
                          rotate_left
                          · intro W hSW
                            try dsimp only at hSW
                            go_simp
                            try with_reducible rfl
                          rotate_left
                          try simp only [Act.put, List.setIfInBounds_toArray, List.set_cons_zero, List.set_cons_succ]
                          refine wpAnyH_take (i := 12) (oi := ⟨_, _, _, _, _, _⟩) (v := ?_) rfl (by kernel_rfl) (by kernel_rfl) (by kernel_rfl) (fun _ _ _ h => h) (Or.inl ⟨by rfl, ?_⟩) (by assumption) ?_
                          rotate_left
                          · intro W hSW
                            try dsimp only at hSW
                            go_simp
                            try with_reducible rfl
                          rotate_left
                          try simp only [Act.put, List.setIfInBounds_toArray, List.set_cons_zero, List.set_cons_succ]
                          refine wpAnyH_take (i := 13) (oi := ⟨_, _, _, _, _, _⟩) (v := ?_) rfl (by kernel_rfl) (by kernel_rfl) (by kernel_rfl) (fun _ _ _ h => h) (Or.inl ⟨by rfl, ?_⟩) (by assumption) ?_
                          rotate_left
                          · intro W hSW
                            try dsimp only at hSW
                            go_simp
                            try with_reducible rfl
                          rotate_left
                          try simp only [Act.put, List.setIfInBounds_toArray, List.set_cons_zero, List.set_cons_succ]
                          refine wpAnyH_take (i := 14) (oi := ⟨_, _, _, _, _, _⟩) (v := ?_) rfl (by kernel_rfl) (by kernel_rfl) (by kernel_rfl) (fun _ _ _ h => h) (Or.inl ⟨by rfl, ?_⟩) (by assumption) ?_
                          rotate_left
                          · intro W hSW
                            try dsimp only at hSW
                            go_simp
                            try with_reducible rfl
                          rotate_left
                          try simp only [Act.put, List.setIfInBounds_toArray, List.set_cons_zero, List.set_cons_succ]
                          refine wpAnyH_take (i := 18) (oi := ⟨_, _, _, _, _, _⟩) (v := ?_) rfl (by kernel_rfl) (by kernel_rfl) (by kernel_rfl) (fun _ _ _ h => h) (Or.inl ⟨by rfl, ?_⟩) (by assumption) ?_
                          rotate_left
                          · intro W hSW
                            try dsimp only at hSW
                            go_simp
                            try with_reducible rfl
                          rotate_left
                          try simp only [Act.put, List.setIfInBounds_toArray, List.set_cons_zero, List.set_cons_succ]
                          refine wpAnyH_ready (rs := [15]) (by kernel_rfl) (by simp) ?_
                          refine AllReadyH.cons (o := ⟨_, _, _, _, _, _⟩) rfl (fun K hK => ?_) AllReadyH.nil
                          rw [if_pos (by rfl)]
                          go_simp
                          go_at_call 12
                          refine (HF.out _ (by assumption)).mono ?_
                          rintro e w6 ⟨rfl, hb6⟩
                          go_wp2_with fail
                          refine hK.out _ _ (HS.out _ hb6) (fun hHeld => ?_)
                          clear hK K
                          try simp only [Act.put, List.setIfInBounds_toArray, List.set_cons_zero, List.set_cons_succ]
                          refine wpAnyH_take (i := 16) (oi := ⟨_, _, _, _, _, _⟩) (v := ?_) rfl (by kernel_rfl) (by kernel_rfl) (by kernel_rfl) (fun _ _ _ h => h) (Or.inl ⟨by rfl, ?_⟩) (by assumption) ?_
                          rotate_left
                          · intro W hSW
                            try dsimp only at hSW
                            go_simp
                            try with_reducible rfl
                          rotate_left
                          try simp only [Act.put, List.setIfInBounds_toArray, List.set_cons_zero, List.set_cons_succ]
                          refine wpAnyH_take (i := 17) (oi := ⟨_, _, _, _, _, _⟩) (v := ?_) rfl (by kernel_rfl) (by kernel_rfl) (by kernel_rfl) (fun _ _ _ h => h) (Or.inl ⟨by rfl, ?_⟩) (by assumption) ?_
                          rotate_left
                          · intro W hSW
                            try dsimp only at hSW
                            go_simp
                            try with_reducible rfl
                          rotate_left
                          try simp only [Act.put, List.setIfInBounds_toArray, List.set_cons_zero, List.set_cons_succ]
                          refine wpAnyH_ready (rs := [19]) (by kernel_rfl) (by simp) ?_
                          refine AllReadyH.cons (o := ⟨_, _, _, _, _, _⟩) rfl (fun K hK => ?_) AllReadyH.nil
                          rw [if_pos (by rfl)]
                          go_simp
                          go_at_call 12
                          refine (HF.out _ (by assumption)).mono ?_
                          rintro e w7 ⟨rfl, hb7⟩
                          go_wp2_with fail
                          refine hK.out _ _ (HS.out _ hb7) (fun hHeld => ?_)
                          clear hK K
                          try simp only [Act.put, List.setIfInBounds_toArray, List.set_cons_zero, List.set_cons_succ]
                          refine wpAnyH_take (i := 20) (oi := ⟨_, _, _, _, _, _⟩) (v := ?_) rfl (by kernel_rfl) (by kernel_rfl) (by kernel_rfl) (fun _ _ _ h => h) (Or.inl ⟨by rfl, ?_⟩) (by assumption) ?_
                          rotate_left
                          · intro W hSW
                            try dsimp only at hSW
                            go_simp
                            try with_reducible rfl
                          rotate_left
                          try simp only [Act.put, List.setIfInBounds_toArray, List.set_cons_zero, List.set_cons_succ]
                          refine wpAnyH_take (i := 21) (oi := ⟨_, _, _, _, _, _⟩) (v := ?_) rfl (by kernel_rfl) (by kernel_rfl) (by kernel_rfl) (fun _ _ _ h => h) (Or.inl ⟨by rfl, ?_⟩) (by assumption) ?_
                          rotate_left
                          · intro W hSW
                            try dsimp only at hSW
                            go_simp
                            try with_reducible rfl
                          rotate_left
                          try simp only [Act.put, List.setIfInBounds_toArray, List.set_cons_zero, List.set_cons_succ]
                          refine wpAnyH_take (i := 22) (oi := ⟨_, _, _, _, _, _⟩) (v := ?_) rfl (by kernel_rfl) (by kernel_rfl) (by kernel_rfl) (fun _ _ _ h => h) (Or.inl ⟨by rfl, ?_⟩) (by assumption) ?_
                          rotate_left
                          · intro W hSW
                            try dsimp only at hSW
                            go_simp
                            try with_reducible rfl
                          rotate_left
                          try simp only [Act.put, List.setIfInBounds_toArray, List.set_cons_zero, List.set_cons_succ]
                          refine wpAnyH_done (by kernel_rfl) ?_ _
                          have hB4 := hB3.trans (hb7.mono hs3)
                          have e2 := (hb7.cell (p := ⟨b1, o1 + k, none⟩) (by dsimp only; omega)).trans e1
                          clear HF HS D0
                          go_wp2_with fail
                          go_roundw
                          case rel => exact ⟨k + 1, by omega, by go_num, hB4⟩
                          case measure => simp [RowKit.intOf]; omega)
                  · go_wp2_with fail
                    go_ret
                    exact ⟨rfl, hB⟩
                · go_wp2_with fail
                  go_ret
                  exact ⟨rfl, hB⟩
          · go_wp2_with fail
            go_ret
            exact ⟨rfl, hB⟩
      · go_wp2_with fail
        go_ret
        exact ⟨rfl, hb1⟩
  · go_wp2_with fail
    go_ret
    exact ⟨rfl, hb1⟩
end Go.Proofs.YtdeljahdmdpdaaaDoor
