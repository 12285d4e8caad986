/- DeedAll's walk: in any run both stacks answer the same. -/
import Derived.Test.YtacidmnhbhbmhaaDdD
namespace Go.Proofs.Ytacidmnhbhbmhaa
open Go.RowKit

theorem Rd.sl {w : World} {v : Value} {l : List Int} (h : Rd w v l) : ∃ A c, v = .slice A l.length c := by
  obtain ⟨A, c, h, _⟩ := h.at_
  exact ⟨A, c, h⟩
theorem rd_nil (w : World) : Rd w (.slice none 0 0) [] := .inl ⟨rfl, rfl⟩
theorem Rd.fr {w w' : World} {v : Value} {l : List Int} {X : Nat → Prop} (h : Rd w v l) (hf : Fr w.heap.size X w w') (hX : ∀ k, v.ownBlock = some k → ¬ X k) : Rd w' v l := by
  rcases h with h | ⟨g, o, c, rfl, h2, h3⟩
  · exact .inl h
  · exact .inr ⟨g, o, c, rfl, Nat.lt_of_lt_of_le h2 hf.size, fun j hj => (World.cell?_of_block (hf.block g h2 (hX g rfl))).trans (h3 j hj)⟩
theorem svB_out {S : Nat → Int} {n : Int} (h : n < 0 ∨ 4 ≤ n) : svB S n = false := by
  simp [svB]; omega

theorem fourD {P : Nat → Prop} (h0 : P 0) (h1 : P 1) (h2 : P 2) (h3 : P 3) : ∀ i, i < 4 → P i := fun i hi => by
  rcases (by omega : i = 0 ∨ i = 1 ∨ i = 2 ∨ i = 3) with rfl | rfl | rfl | rfl <;> assumption
theorem bo_start {w w0 w1 : World} {p bb g : Nat} (be : Below w.heap.size w w0) (h1 : DdAt w1 w0.heap.size p bb g (.slice none 0 0) [] none4) (hb1 : Below w0.heap.size w0 w1) :
    Bo w (w1.alloc (.cells #[.slice none 0 0, .int .i64 0, .int .i64 0, .int .i64 0, .int .i64 0, .bool false, .bool false, .bool false, .bool false] 31)) p w1.heap.size [] none4 [] none4 := by
  have hw := be.size
  have hw1 := hb1.size
  have h1' : DdAt w1 w.heap.size p bb g (.slice none 0 0) [] none4 := ⟨h1.hp, h1.hb, h1.hs, own_base h1.hl hw, h1.ne, by have := h1.lo.1; omega, by have := h1.lo.2.1; omega, by have := h1.lo.2.2; omega⟩
  refine ⟨⟨bb, g, _, .slice none 0 0, h1'.on ((Below.refl _ _).alloc (Nat.le_refl _) _), ⟨⟨_, heap_alloc_new _ _, rfl, rfl, fourD ?_ ?_ ?_ ?_⟩, World.ownsRow_nil _ _ _ _, by omega⟩, fun k hk => by cases hk⟩, (be.trans (hb1.mono hw)).alloc (by omega) _⟩
  all_goals exact ⟨0, rfl, rfl, fun h => absurd rfl h⟩

set_option maxRecDepth 100000 in
set_option maxHeartbeats 8000000 in
theorem all_walk (w : World) (A : Option Addr) (len cap b off : Nat) (hA : 0 < len → A = some ⟨b, off, none⟩) (hb : 0 < len → b < w.heap.size)
    (hc : ∀ i, i < len → ∃ (kd k : Int), w.cell? ⟨b, off + i * 2, none⟩ = some (.int .i64 kd) ∧ w.cell? ⟨b, off + i * 2 + 1, none⟩ = some (.int .i64 k) ∧ (-9223372036854775808 ≤ kd ∧ kd ≤ 9223372036854775807) ∧ (-9223372036854775808 ≤ k ∧ k ≤ 9223372036854775807)) :
    Calls Try.prog 3 #[.slice A len cap] w fun e w' => e = .returned (.bool true) ∧ Below w.heap.size w w' := by
  have CB := begun_any w
  have HA0 := Lib.hid hA
  have HB0 := Lib.hid hb
  have HC0 := Lib.hid hc
  clear hA hb hc
  go_enter Try.func3, Try.ntmps3
  go_upto_region 3 with (first | (go_at_call 6; refine CB.mono ?_; rintro e w0 ⟨rfl, hb0⟩))
  by_cases hlen : 60 < len
  · have hl : (60 : Int) < (len : Int) := by omega
    have HB := Lib.hid hb0
    clear CB hb0 hlen
    go_wp2
    go_ret
    exact ⟨rfl, HB.out⟩
  · have hl : ¬ (60 : Int) < (len : Int) := by omega
    have hl60 : (len : Int) ≤ 60 := by omega
    have CN := new_any w0
    have HB := Lib.hid hb0
    have HL := Lib.hid hlen
    clear CB hb0 hlen
    go_upto_region 6 with (first | (go_at_call 7; refine CN.mono ?_; rintro e w1 ⟨p, bb, g, rfl, h1, hb1⟩))
    have HW := Lib.hid (bo_start HB.out h1 hb1)
    clear CN h1 hb1 HB
    go_upto_region 7 with fail
    generalize w1.heap.size = q at *
    go_loopw [5] (fun iv wr => Hid (∃ (i : Nat) (L : List Int) (S : Nat → Int), i ≤ len ∧ iv = .int .i64 (i : Int) ∧ Ok L S ∧ L.length ≤ i ∧ Bo w wr p q L S L S)) (fun iv _ => len - ivN iv)
    case atStart => exact ⟨0, [], none4, Nat.zero_le _, rfl, fun _ _ => .inl rfl, Nat.le_refl _, HW.out⟩
    case round =>
      obtain ⟨i, L, S, hi, rfl, hok, hLi, h⟩ := hrel.out
      clear hrel HW
      have hi0 : 0 ≤ (i : Int) := by omega
      have HH := Lib.hid h
      have HO := Lib.hid hok
      have HLI := Lib.hid hLi
      clear h hok hLi
      by_cases hlt : i < len
      · have hltI : (i : Int) < (len : Int) := by omega
        have hpos : 0 < len := by omega
        obtain rfl := HA0.out hpos
        obtain ⟨kd, k, x0, x1, hkd, hk⟩ := HC0.out i hlt
        have HBB := Lib.hid (HB0.out hpos)
        have HX1 := Lib.hid x1
        have y0 : wr.cell? ⟨b, off + i * 2, none⟩ = some (.int .i64 kd) := (HH.out.be.cell (p := ⟨b, off + i * 2, none⟩) HBB.out).trans x0
        have HI := Lib.hid hlt
        clear x0 x1 hi hpos
        go_upto_region 9 with fail
        go_cut [34] (fun q' wx => ∃ z : Int, 0 ≤ z ∧ z < 8 ∧ q' = .int .i64 z ∧ wx = wr)
        case first =>
          go_wp2_with fail
          go_meet
          have y1 := Int.lt_tmod_of_pos kd (show (0:Int) < 8 by omega)
          have y2 := Int.tmod_lt_of_pos kd (show (0:Int) < 8 by omega)
          have y3 : wrap64 (kd.tmod 8 + 8) = kd.tmod 8 + 8 := by unfold wrap64; omega
          refine ⟨_, ?_, ?_, rfl, rfl⟩
          · rw [y3]; exact Int.tmod_nonneg 8 (by omega)
          · exact Int.tmod_lt_of_pos _ (by omega)
        case rest =>
          obtain ⟨z, hz0, hz9, rfl, rfl⟩ := hcut
          clear y0 hkd
          have y1 : wc.cell? ⟨b, off + i * 2 + 1, none⟩ = some (.int .i64 k) := (HH.out.be.cell (p := ⟨b, off + i * 2 + 1, none⟩) HBB.out).trans HX1.out
          go_upto_block 2 with (fail)
          go_cut [] (fun wx => Hid (∃ (L' : List Int) (S' : Nat → Int), Ok L' S' ∧ L'.length ≤ i + 1 ∧ Bo w wx p q L' S' L' S'))
          case first =>
            go_upto_if 49 with (fail)
            go_cut [49] (fun u wx => u = .bool (decide (z = 4 ∨ z = 5)) ∧ wx = wc)
            case first =>
              have hkk : z = 4 ∨ z = 5 ∨ ¬ (z = 4 ∨ z = 5) := by omega
              clear hz0 hz9
              rcases hkk with hz | hz | hz
              · subst hz
                go_wp2_with fail
                go_meet
                exact ⟨rfl, rfl⟩
              · subst hz
                go_wp2_with fail
                go_meet
                exact ⟨rfl, rfl⟩
              · have e4 : (z == 4) = false := by simp; omega
                have e5 : (z == 5) = false := by simp; omega
                have E5 : Hid (decide (z = 4 ∨ z = 5) = false) := Lib.hid (decide_eq_false hz)
                clear hz
                go_wp2_with fail
                go_meet
                exact ⟨by rw [E5.out], rfl⟩
            case rest =>
              obtain ⟨rfl, rfl⟩ := hcut
              by_cases hz5 : z = 4 ∨ z = 5
              · have e5 : decide (z = 4 ∨ z = 5) = true := decide_eq_true hz5
                rw [e5]
                clear hz5 e5 hz0 hz9
                as_aux_lemma =>
                  by_cases hk4 : k < 0 ∨ 4 ≤ k
                  · have HCS : Hid (∀ W, Bo w W p q L S L S → Calls Try.prog 8 #[.pointer (some ⟨p, 0, none⟩), .int .i64 k] W fun e w' => e = .returned (.bool false) ∧ Bo w w' p q L S L S) := fun W h => (save_no W ⟨p, 0, none⟩ k hk4).mono fun e w' ⟨he, hw⟩ => ⟨he, hw ▸ h⟩
                    have HCR : Hid (∀ W, Bo w W p q L S L S → Calls Try.prog 9 #[.pointer (some ⟨q, 0, none⟩), .int .i64 k] W fun e w' => e = .returned (.bool false) ∧ Bo w w' p q L S L S) := fun W h => (rsave_no W ⟨q, 0, none⟩ k hk4).mono fun e w' ⟨he, hw⟩ => ⟨he, hw ▸ h⟩
                    have HCL : Hid (∀ W L S L' S', Bo w W p q L S L' S' → W.cell? ⟨b, off + i * 2 + 1, none⟩ = some (.int .i64 k)) := fun W L S L' S' h => (h.be.cell (p := ⟨b, off + i * 2 + 1, none⟩) HBB.out).trans HX1.out
                    clear hk4 hk y1
                    go_upto_region 14 with fail
                    refine wp_region_F (fun (_ : Unit) W => W.cell? ⟨b, off + i * 2 + 1, none⟩ = some (.int .i64 k)) (fun _ j => Nat.beq j 99) (by kernel_rfl) ?_
                    have HK0 := Lib.hid HH.out.drew
                    generalize wc.drew = WK0 at *
                    refine wpAnyF_take0 (i := 0) (oi := ⟨_, _, _, _, _, _⟩) (v := ?_) rfl (by kernel_rfl) (by kernel_rfl) (by kernel_rfl) (fun _ _ _ h => h) (Or.inl ⟨by rfl, ?_⟩) ?_
                    rotate_left
                    · intro W _
                      go_simp
                      try with_reducible rfl
                    rotate_left
                    try simp only [Act.put, List.setIfInBounds_toArray, List.set_cons_zero, List.set_cons_succ]
                    refine wpAnyF_take0 (i := 1) (oi := ⟨_, _, _, _, _, _⟩) (v := ?_) rfl (by kernel_rfl) (by kernel_rfl) (by kernel_rfl) (fun _ _ _ h => h) (Or.inl ⟨by rfl, ?_⟩) ?_
                    rotate_left
                    · intro W _
                      go_simp
                      try with_reducible rfl
                    rotate_left
                    try simp only [Act.put, List.setIfInBounds_toArray, List.set_cons_zero, List.set_cons_succ]
                    refine wpAnyF_take0 (i := 2) (oi := ⟨_, _, _, _, _, _⟩) (v := ?_) rfl (by kernel_rfl) (by kernel_rfl) (by kernel_rfl) (fun _ _ _ h => h) (Or.inl ⟨by rfl, ?_⟩) ?_
                    rotate_left
                    · intro W _
                      go_simp
                      try with_reducible rfl
                    rotate_left
                    try simp only [Act.put, List.setIfInBounds_toArray, List.set_cons_zero, List.set_cons_succ]
                    refine wpAnyF_take0 (i := 3) (oi := ⟨_, _, _, _, _, _⟩) (v := ?_) rfl (by kernel_rfl) (by kernel_rfl) (by kernel_rfl) (fun _ _ _ h => h) (Or.inl ⟨by rfl, ?_⟩) ?_
                    rotate_left
                    · intro W _
                      go_simp
                      try with_reducible rfl
                    rotate_left
                    try simp only [Act.put, List.setIfInBounds_toArray, List.set_cons_zero, List.set_cons_succ]
                    refine wpAnyF_take0 (i := 4) (oi := ⟨_, _, _, _, _, _⟩) (v := ?_) rfl (by kernel_rfl) (by kernel_rfl) (by kernel_rfl) (fun _ _ _ h => h) (Or.inl ⟨by rfl, ?_⟩) ?_
                    rotate_left
                    · intro W _
                      go_simp
                      try with_reducible rfl
                    rotate_left
                    try simp only [Act.put, List.setIfInBounds_toArray, List.set_cons_zero, List.set_cons_succ]
                    refine wpAnyF_take () (i := 5) (oi := ⟨_, _, _, _, _, _⟩) (v := (.int .i64 k)) rfl (by kernel_rfl) (by kernel_rfl) (by kernel_rfl) (by kernel_rfl) (fun _ _ _ h => h) (HCL.out _ _ _ _ _ HK0.out) (Or.inl ⟨by rfl, fun W hSW => ?_⟩) ?_
                    · have hS : W.cell? ⟨b, off + i * 2 + 1, none⟩ = some (.int .i64 k) := hSW
                      go_simp
                    try simp only [Act.put, List.setIfInBounds_toArray, List.set_cons_zero, List.set_cons_succ]
                    refine wpAnyF_take0 (i := 7) (oi := ⟨_, _, _, _, _, _⟩) (v := ?_) rfl (by kernel_rfl) (by kernel_rfl) (by kernel_rfl) (fun _ _ _ h => h) (Or.inl ⟨by rfl, ?_⟩) ?_
                    rotate_left
                    · intro W _
                      go_simp
                      try with_reducible rfl
                    rotate_left
                    try simp only [Act.put, List.setIfInBounds_toArray, List.set_cons_zero, List.set_cons_succ]
                    refine wpAnyF_take0 (i := 8) (oi := ⟨_, _, _, _, _, _⟩) (v := ?_) rfl (by kernel_rfl) (by kernel_rfl) (by kernel_rfl) (fun _ _ _ h => h) (Or.inl ⟨by rfl, ?_⟩) ?_
                    rotate_left
                    · intro W _
                      go_simp
                      try with_reducible rfl
                    rotate_left
                    try simp only [Act.put, List.setIfInBounds_toArray, List.set_cons_zero, List.set_cons_succ]
                    refine wpAnyF_take0 (i := 9) (oi := ⟨_, _, _, _, _, _⟩) (v := ?_) rfl (by kernel_rfl) (by kernel_rfl) (by kernel_rfl) (fun _ _ _ h => h) (Or.inl ⟨by rfl, ?_⟩) ?_
                    rotate_left
                    · intro W _
                      go_simp
                      try with_reducible rfl
                    rotate_left
                    try simp only [Act.put, List.setIfInBounds_toArray, List.set_cons_zero, List.set_cons_succ]
                    refine wpAnyF_take0 (i := 10) (oi := ⟨_, _, _, _, _, _⟩) (v := ?_) rfl (by kernel_rfl) (by kernel_rfl) (by kernel_rfl) (fun _ _ _ h => h) (Or.inl ⟨by rfl, ?_⟩) ?_
                    rotate_left
                    · intro W _
                      go_simp
                      try with_reducible rfl
                    rotate_left
                    try simp only [Act.put, List.setIfInBounds_toArray, List.set_cons_zero, List.set_cons_succ]
                    refine wpAnyF_take0 (i := 11) (oi := ⟨_, _, _, _, _, _⟩) (v := ?_) rfl (by kernel_rfl) (by kernel_rfl) (by kernel_rfl) (fun _ _ _ h => h) (Or.inl ⟨by rfl, ?_⟩) ?_
                    rotate_left
                    · intro W _
                      go_simp
                      try with_reducible rfl
                    rotate_left
                    try simp only [Act.put, List.setIfInBounds_toArray, List.set_cons_zero, List.set_cons_succ]
                    refine wpAnyF_take () (i := 12) (oi := ⟨_, _, _, _, _, _⟩) (v := (.int .i64 k)) rfl (by kernel_rfl) (by kernel_rfl) (by kernel_rfl) (by kernel_rfl) (fun _ _ _ h => h) (HCL.out _ _ _ _ _ HK0.out) (Or.inl ⟨by rfl, fun W hSW => ?_⟩) ?_
                    · have hS : W.cell? ⟨b, off + i * 2 + 1, none⟩ = some (.int .i64 k) := hSW
                      go_simp
                    try simp only [Act.put, List.setIfInBounds_toArray, List.set_cons_zero, List.set_cons_succ]
                    refine wpAnyF_ready (rs := [6]) (by kernel_rfl) (by simp) ?_
                    refine AllReadyF.cons (o := ⟨_, _, _, _, _, _⟩) rfl (fun K hK => ?_) AllReadyF.nil
                    rw [if_pos (by rfl)]
                    go_simp
                    go_at_call 8
                    refine (HCS.out _ HK0.out).mono ?_
                    rintro e WK1 ⟨rfl, h1⟩
                    have HK1 := Lib.hid h1
                    clear h1
                    go_wp2_with fail
                    refine hK.out _ _ (fun _ _ _ => HCL.out _ _ _ _ _ HK1.out) ?_
                    clear hK K
                    try simp only [Act.put, List.setIfInBounds_toArray, List.set_cons_zero, List.set_cons_succ]
                    refine wpAnyF_ready (rs := [13]) (by kernel_rfl) (by simp) ?_
                    refine AllReadyF.cons (o := ⟨_, _, _, _, _, _⟩) rfl (fun K hK => ?_) AllReadyF.nil
                    rw [if_pos (by rfl)]
                    go_simp
                    go_at_call 9
                    refine (HCR.out _ HK1.out).mono ?_
                    rintro e WK2 ⟨rfl, h2⟩
                    have HK2 := Lib.hid h2
                    clear h2
                    go_wp2_with fail
                    refine hK.out _ _ (fun _ _ _ => HCL.out _ _ _ _ _ HK2.out) ?_
                    clear hK K
                    try simp only [Act.put, List.setIfInBounds_toArray, List.set_cons_zero, List.set_cons_succ]
                    refine wpAnyF_take0 (i := 14) (oi := ⟨_, _, _, _, _, _⟩) (v := (.bool false)) rfl (by kernel_rfl) (by kernel_rfl) (by kernel_rfl) (fun _ _ _ h => h) (Or.inl ⟨by rfl, fun W _ => ?_⟩) ?_
                    · go_simp
                    try simp only [Act.put, List.setIfInBounds_toArray, List.set_cons_zero, List.set_cons_succ]
                    refine wpAnyF_done (by kernel_rfl) ?_ _
                    go_wp2_with fail
                    go_meet
                    exact ⟨L, S, HO.out, by have := HLI.out; omega, HK2.out⟩
                  · obtain ⟨n, rfl⟩ : ∃ n : Nat, k = n := ⟨k.toNat, by omega⟩
                    have hn : n < 4 := by omega
                    have HCS : Hid (∀ W, Bo w W p q L S L S → Calls Try.prog 8 #[.pointer (some ⟨p, 0, none⟩), .int .i64 (n : Int)] W fun e w' => e = .returned (.bool true) ∧ Bo w w' p q L (upS S n (L.length : Int)) L S) := fun W h => bsave_s h hn
                    have HCR : Hid (∀ W, Bo w W p q L (upS S n (L.length : Int)) L S → Calls Try.prog 9 #[.pointer (some ⟨q, 0, none⟩), .int .i64 (n : Int)] W fun e w' => e = .returned (.bool true) ∧ Bo w w' p q L (upS S n (L.length : Int)) L (upS S n (L.length : Int))) := fun W h => bsave_r h hn
                    have HCL : Hid (∀ W L S L' S', Bo w W p q L S L' S' → W.cell? ⟨b, off + i * 2 + 1, none⟩ = some (.int .i64 (n : Int))) := fun W L S L' S' h => (h.be.cell (p := ⟨b, off + i * 2 + 1, none⟩) HBB.out).trans HX1.out
                    clear hk4 hk hn y1
                    go_upto_region 14 with fail
                    refine wp_region_F (fun (_ : Unit) W => W.cell? ⟨b, off + i * 2 + 1, none⟩ = some (.int .i64 (n : Int))) (fun _ j => Nat.beq j 99) (by kernel_rfl) ?_
                    have HK0 := Lib.hid HH.out.drew
                    generalize wc.drew = WK0 at *
                    refine wpAnyF_take0 (i := 0) (oi := ⟨_, _, _, _, _, _⟩) (v := ?_) rfl (by kernel_rfl) (by kernel_rfl) (by kernel_rfl) (fun _ _ _ h => h) (Or.inl ⟨by rfl, ?_⟩) ?_
                    rotate_left
                    · intro W _
                      go_simp
                      try with_reducible rfl
                    rotate_left
                    try simp only [Act.put, List.setIfInBounds_toArray, List.set_cons_zero, List.set_cons_succ]
                    refine wpAnyF_take0 (i := 1) (oi := ⟨_, _, _, _, _, _⟩) (v := ?_) rfl (by kernel_rfl) (by kernel_rfl) (by kernel_rfl) (fun _ _ _ h => h) (Or.inl ⟨by rfl, ?_⟩) ?_
                    rotate_left
                    · intro W _
                      go_simp
                      try with_reducible rfl
                    rotate_left
                    try simp only [Act.put, List.setIfInBounds_toArray, List.set_cons_zero, List.set_cons_succ]
                    refine wpAnyF_take0 (i := 2) (oi := ⟨_, _, _, _, _, _⟩) (v := ?_) rfl (by kernel_rfl) (by kernel_rfl) (by kernel_rfl) (fun _ _ _ h => h) (Or.inl ⟨by rfl, ?_⟩) ?_
                    rotate_left
                    · intro W _
                      go_simp
                      try with_reducible rfl
                    rotate_left
                    try simp only [Act.put, List.setIfInBounds_toArray, List.set_cons_zero, List.set_cons_succ]
                    refine wpAnyF_take0 (i := 3) (oi := ⟨_, _, _, _, _, _⟩) (v := ?_) rfl (by kernel_rfl) (by kernel_rfl) (by kernel_rfl) (fun _ _ _ h => h) (Or.inl ⟨by rfl, ?_⟩) ?_
                    rotate_left
                    · intro W _
                      go_simp
                      try with_reducible rfl
                    rotate_left
                    try simp only [Act.put, List.setIfInBounds_toArray, List.set_cons_zero, List.set_cons_succ]
                    refine wpAnyF_take0 (i := 4) (oi := ⟨_, _, _, _, _, _⟩) (v := ?_) rfl (by kernel_rfl) (by kernel_rfl) (by kernel_rfl) (fun _ _ _ h => h) (Or.inl ⟨by rfl, ?_⟩) ?_
                    rotate_left
                    · intro W _
                      go_simp
                      try with_reducible rfl
                    rotate_left
                    try simp only [Act.put, List.setIfInBounds_toArray, List.set_cons_zero, List.set_cons_succ]
                    refine wpAnyF_take () (i := 5) (oi := ⟨_, _, _, _, _, _⟩) (v := (.int .i64 (n : Int))) rfl (by kernel_rfl) (by kernel_rfl) (by kernel_rfl) (by kernel_rfl) (fun _ _ _ h => h) (HCL.out _ _ _ _ _ HK0.out) (Or.inl ⟨by rfl, fun W hSW => ?_⟩) ?_
                    · have hS : W.cell? ⟨b, off + i * 2 + 1, none⟩ = some (.int .i64 (n : Int)) := hSW
                      go_simp
                    try simp only [Act.put, List.setIfInBounds_toArray, List.set_cons_zero, List.set_cons_succ]
                    refine wpAnyF_take0 (i := 7) (oi := ⟨_, _, _, _, _, _⟩) (v := ?_) rfl (by kernel_rfl) (by kernel_rfl) (by kernel_rfl) (fun _ _ _ h => h) (Or.inl ⟨by rfl, ?_⟩) ?_
                    rotate_left
                    · intro W _
                      go_simp
                      try with_reducible rfl
                    rotate_left
                    try simp only [Act.put, List.setIfInBounds_toArray, List.set_cons_zero, List.set_cons_succ]
                    refine wpAnyF_take0 (i := 8) (oi := ⟨_, _, _, _, _, _⟩) (v := ?_) rfl (by kernel_rfl) (by kernel_rfl) (by kernel_rfl) (fun _ _ _ h => h) (Or.inl ⟨by rfl, ?_⟩) ?_
                    rotate_left
                    · intro W _
                      go_simp
                      try with_reducible rfl
                    rotate_left
                    try simp only [Act.put, List.setIfInBounds_toArray, List.set_cons_zero, List.set_cons_succ]
                    refine wpAnyF_take0 (i := 9) (oi := ⟨_, _, _, _, _, _⟩) (v := ?_) rfl (by kernel_rfl) (by kernel_rfl) (by kernel_rfl) (fun _ _ _ h => h) (Or.inl ⟨by rfl, ?_⟩) ?_
                    rotate_left
                    · intro W _
                      go_simp
                      try with_reducible rfl
                    rotate_left
                    try simp only [Act.put, List.setIfInBounds_toArray, List.set_cons_zero, List.set_cons_succ]
                    refine wpAnyF_take0 (i := 10) (oi := ⟨_, _, _, _, _, _⟩) (v := ?_) rfl (by kernel_rfl) (by kernel_rfl) (by kernel_rfl) (fun _ _ _ h => h) (Or.inl ⟨by rfl, ?_⟩) ?_
                    rotate_left
                    · intro W _
                      go_simp
                      try with_reducible rfl
                    rotate_left
                    try simp only [Act.put, List.setIfInBounds_toArray, List.set_cons_zero, List.set_cons_succ]
                    refine wpAnyF_take0 (i := 11) (oi := ⟨_, _, _, _, _, _⟩) (v := ?_) rfl (by kernel_rfl) (by kernel_rfl) (by kernel_rfl) (fun _ _ _ h => h) (Or.inl ⟨by rfl, ?_⟩) ?_
                    rotate_left
                    · intro W _
                      go_simp
                      try with_reducible rfl
                    rotate_left
                    try simp only [Act.put, List.setIfInBounds_toArray, List.set_cons_zero, List.set_cons_succ]
                    refine wpAnyF_take () (i := 12) (oi := ⟨_, _, _, _, _, _⟩) (v := (.int .i64 (n : Int))) rfl (by kernel_rfl) (by kernel_rfl) (by kernel_rfl) (by kernel_rfl) (fun _ _ _ h => h) (HCL.out _ _ _ _ _ HK0.out) (Or.inl ⟨by rfl, fun W hSW => ?_⟩) ?_
                    · have hS : W.cell? ⟨b, off + i * 2 + 1, none⟩ = some (.int .i64 (n : Int)) := hSW
                      go_simp
                    try simp only [Act.put, List.setIfInBounds_toArray, List.set_cons_zero, List.set_cons_succ]
                    refine wpAnyF_ready (rs := [6]) (by kernel_rfl) (by simp) ?_
                    refine AllReadyF.cons (o := ⟨_, _, _, _, _, _⟩) rfl (fun K hK => ?_) AllReadyF.nil
                    rw [if_pos (by rfl)]
                    go_simp
                    go_at_call 8
                    refine (HCS.out _ HK0.out).mono ?_
                    rintro e WK1 ⟨rfl, h1⟩
                    have HK1 := Lib.hid h1
                    clear h1
                    go_wp2_with fail
                    refine hK.out _ _ (fun _ _ _ => HCL.out _ _ _ _ _ HK1.out) ?_
                    clear hK K
                    try simp only [Act.put, List.setIfInBounds_toArray, List.set_cons_zero, List.set_cons_succ]
                    refine wpAnyF_ready (rs := [13]) (by kernel_rfl) (by simp) ?_
                    refine AllReadyF.cons (o := ⟨_, _, _, _, _, _⟩) rfl (fun K hK => ?_) AllReadyF.nil
                    rw [if_pos (by rfl)]
                    go_simp
                    go_at_call 9
                    refine (HCR.out _ HK1.out).mono ?_
                    rintro e WK2 ⟨rfl, h2⟩
                    have HK2 := Lib.hid h2
                    clear h2
                    go_wp2_with fail
                    refine hK.out _ _ (fun _ _ _ => HCL.out _ _ _ _ _ HK2.out) ?_
                    clear hK K
                    try simp only [Act.put, List.setIfInBounds_toArray, List.set_cons_zero, List.set_cons_succ]
                    refine wpAnyF_take0 (i := 14) (oi := ⟨_, _, _, _, _, _⟩) (v := (.bool false)) rfl (by kernel_rfl) (by kernel_rfl) (by kernel_rfl) (fun _ _ _ h => h) (Or.inl ⟨by rfl, fun W _ => ?_⟩) ?_
                    · go_simp
                    try simp only [Act.put, List.setIfInBounds_toArray, List.set_cons_zero, List.set_cons_succ]
                    refine wpAnyF_done (by kernel_rfl) ?_ _
                    go_wp2_with fail
                    go_meet
                    exact ⟨L, _, HO.out.save n, by have := HLI.out; omega, HK2.out⟩
              · have e5 : decide (z = 4 ∨ z = 5) = false := decide_eq_false hz5
                rw [e5]
                clear e5
                go_upto_if 67 with (fail)
                go_cut [67] (fun u wx => u = .bool (decide (z = 6 ∨ z = 7)) ∧ wx = wc)
                case first =>
                  have hkk : z = 6 ∨ z = 7 ∨ ¬ (z = 6 ∨ z = 7) := by omega
                  clear hz0 hz9 hz5
                  rcases hkk with hz | hz | hz
                  · subst hz
                    go_wp2_with fail
                    go_meet
                    exact ⟨rfl, rfl⟩
                  · subst hz
                    go_wp2_with fail
                    go_meet
                    exact ⟨rfl, rfl⟩
                  · have e4 : (z == 6) = false := by simp; omega
                    have e5 : (z == 7) = false := by simp; omega
                    have E5 : Hid (decide (z = 6 ∨ z = 7) = false) := Lib.hid (decide_eq_false hz)
                    clear hz
                    go_wp2_with fail
                    go_meet
                    exact ⟨by rw [E5.out], rfl⟩
                case rest =>
                  obtain ⟨rfl, rfl⟩ := hcut
                  by_cases hz7 : z = 6 ∨ z = 7
                  · have e5 : decide (z = 6 ∨ z = 7) = true := decide_eq_true hz7
                    rw [e5]
                    clear hz5 hz7 e5 hz0 hz9
                    as_aux_lemma =>
                      by_cases hsv : svB S k = true
                      · obtain ⟨n, t, rfl, hn, hS, ht⟩ := sv_yes HO.out hsv
                        have CS := bback_s HH.out (by have := HLI.out; omega) hn hS ht
                        have HN := Lib.hid hn
                        have HS := Lib.hid hS
                        have HT := Lib.hid ht
                        have HQ := Lib.hid HH.out.qlt
                        have HL5 : Hid (L.length < 50000) := Lib.hid (show L.length < 50000 by have := HLI.out; omega)
                        clear hsv hn hS ht hk
                        go_upto_region 19 with (first | (go_at_call 10; refine CS.mono ?_; rintro e w2 ⟨A2, c2, rfl, ho2, h2⟩))
                        have CR := bback_r h2 HL5.out HN.out HS.out HT.out
                        have z1 : w2.cell? ⟨b, off + i * 2 + 1, none⟩ = some (.int .i64 (n : Int)) := (h2.be.cell (p := ⟨b, off + i * 2 + 1, none⟩) HBB.out).trans HX1.out
                        have HO2 := Lib.hid ho2
                        clear h2 ho2 CS
                        go_upto_region 20 with (first | (go_at_call 11; refine CR.mono ?_; rintro e w3 ⟨A3, c3, rfl, hr3, hf3, h3⟩))
                        have CNU := numbers_any w3 _ _ _ _ (own_rd0 (own_fr HO2.out hf3 fun k hk e => by have := (HO2.out.lt k hk).1; have := HQ.out; omega)) hr3 (by rw [List.length_reverse, List.length_drop]; have := HL5.out; omega)
                        rw [show decide ((L.drop t).reverse = (L.drop t).reverse) = true by simp] at CNU
                        have H3 := Lib.hid h3
                        clear h3 hr3 hf3 CR z1
                        go_wp2_with (first | (go_at_call 12; refine CNU.mono ?_; rintro e w4 ⟨rfl, hb4⟩))
                        go_meet
                        exact ⟨L.take t, cutS S t, HO.out.back HT.out, by rw [List.length_take]; have := HLI.out; omega, H3.out.on hb4⟩
                      · have hsn : svB S k = false := by simpa using hsv
                        have CS := bback_sno HH.out hsn
                        have CR := bback_rno HH.out hsn
                        have CNU := numbers_any wc _ _ _ _ (rd_nil wc) (rd_nil wc) (by decide)
                        rw [show decide (([] : List Int) = []) = true by decide] at CNU
                        clear hsv hsn hk
                        go_wp2_with (first | (go_at_call 10; refine CS.mono ?_; rintro e w2 ⟨rfl, hw⟩; obtain rfl := hw.symm; clear hw) | (go_at_call 11; refine CR.mono ?_; rintro e w3 ⟨rfl, hw⟩; obtain rfl := hw.symm; clear hw) | (go_at_call 12; refine CNU.mono ?_; rintro e w4 ⟨rfl, hb4⟩))
                        go_meet
                        exact ⟨L, S, HO.out, by have := HLI.out; omega, HH.out.on hb4⟩
                  · have e5 : decide (z = 6 ∨ z = 7) = false := decide_eq_false hz7
                    rw [e5]
                    clear hz5 hz7 e5 hz0 hz9
                    as_aux_lemma =>
                      have CS := bpush_s HH.out (by have := HLI.out; omega) k
                      have HL5 : Hid (L.length < 50000) := Lib.hid (show L.length < 50000 by have := HLI.out; omega)
                      clear hk
                      go_wp2_with (first | (go_at_call 13; refine CS.mono ?_; rintro e w2 ⟨rfl, h2⟩; have CR := bpush_r h2 HL5.out k; have z1 : w2.cell? ⟨b, off + i * 2 + 1, none⟩ = some (.int .i64 k) := (h2.be.cell (p := ⟨b, off + i * 2 + 1, none⟩) HBB.out).trans HX1.out; clear h2) | (go_at_call 14; refine CR.mono ?_; rintro e w3 ⟨rfl, h3⟩))
                      go_meet
                      exact ⟨L ++ [k], S, HO.out.push k, by rw [List.length_append]; have := HLI.out; simp; omega, h3⟩
          case rest =>
            obtain ⟨L', S', hok, hLi, h⟩ := hcut.out
            have HO' := Lib.hid hok
            have HLI' := Lib.hid hLi
            have HH' := Lib.hid h
            clear hcut hok hLi h HH HO HLI y1 hk
            go_upto_region 22 with fail
            go_cut [114] (fun u wx => u = .bool false ∧ Hid (Bo w wx p q L' S' L' S'))
            case first =>
              have HL5 : Hid (L'.length < 50000) := Lib.hid (show L'.length < 50000 by have := HLI'.out; omega)
              have CS := ball_s HH'.out.drew (by have := HL5.out; omega)
              go_region_with (first | (go_at_call 15; refine CS.mono ?_; rintro e w2 ⟨A2, c2, rfl, ho2, h2⟩; have CR := ball_r h2 (by have := HL5.out; omega); have HO2 := Lib.hid ho2; clear ho2 h2) | (go_at_call 16; refine CR.mono ?_; rintro e w3 ⟨A3, c3, rfl, hr3, hb3, h3⟩; have CNU := numbers_any w3 _ _ _ _ (own_rd0 (own_up HO2.out hb3)) hr3 (by rw [List.length_reverse]; have := HL5.out; omega); rw [show decide (L'.reverse = L'.reverse) = true by simp] at CNU; have H3 := Lib.hid h3; clear h3 hr3 hb3) | (go_at_call 12; refine CNU.mono ?_; rintro e w4 ⟨rfl, hb4⟩; have H4 := Lib.hid (H3.out.on hb4); have CL := blen_s H4.out; obtain ⟨A4, c4, k4⟩ := bcell_r H4.out; clear hb4) | (go_at_call 17; refine CL.mono ?_; rintro e w5 ⟨rfl, hw⟩; obtain rfl := hw.symm; clear hw))
              all_goals
                go_wp2
                go_meet
                exact ⟨rfl, H4.out⟩
            case rest =>
              obtain ⟨rfl, h⟩ := hcut
              have H := h
              clear h HH'
              go_wp2
              exact ⟨⟨i + 1, L', S', HI.out, rfl, HO'.out, HLI'.out, H.out⟩, by have := HI.out; simp only [ivN]; omega⟩
      · have hil : i = len := by omega
        subst hil
        clear hi hlt HO HLI
        have C1 := push_nil wr 1
        have C2 := back_nil wr 0
        have C3 := save_nil wr 0
        have C4 := all_nil wr
        have C5 := len_nil wr
        go_wp2_with (first | (go_at_call 13; refine C1.mono ?_; rintro e w2 ⟨rfl, hw⟩; obtain rfl := hw.symm; clear hw) | (go_at_call 10; refine C2.mono ?_; rintro e w2 ⟨rfl, hw⟩; obtain rfl := hw.symm; clear hw) | (go_at_call 8; refine C3.mono ?_; rintro e w2 ⟨rfl, hw⟩; obtain rfl := hw.symm; clear hw) | (go_at_call 15; refine C4.mono ?_; rintro e w2 ⟨rfl, hw⟩; obtain rfl := hw.symm; clear hw) | (go_at_call 17; refine C5.mono ?_; rintro e w2 ⟨rfl, hw⟩; obtain rfl := hw.symm; clear hw))
        go_ret
        exact ⟨rfl, HH.out.be⟩
end Go.Proofs.Ytacidmnhbhbmhaa
