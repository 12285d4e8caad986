/- PoolNone, a part. -/
import Derived.Test.YtljbhdldfffpfaaGreatQn6
import Derived.Outline
namespace Go.Proofs.YtljbhdldfffpfaaGreat
open Go.RowKit

theorem numL_at (n : Int) : ∀ (k j : Nat), j < k → (numL n k).take (k - j) = (numL n k).take (k - (j + 1)) ++ [n / 256 ^ j % 256]
  | 0, _, h => by omega
  | k + 1, j, h => by
    by_cases e : j = k
    · subst e
      have e1 : j + 1 - j = 1 := by omega
      have e2 : j + 1 - (j + 1) = 0 := by omega
      rw [e1, e2]
      rfl
    · have hj := numL_at n k j (by omega)
      have e1 : k + 1 - j = (k - j) + 1 := by omega
      have e2 : k + 1 - (j + 1) = (k - (j + 1)) + 1 := by omega
      rw [e1, e2]
      simp only [numL, List.take_succ_cons, List.cons_append, hj]
theorem numL_pre (n : Int) {k j : Nat} (h : j < k) : (numL n k).take (k - j) = (numL n k).take (k - (j + 1)) ++ [n / 256 ^ j % 256] := numL_at n k j h
theorem pre_len (n : Int) {k j : Nat} : ((numL n k).take (k - j)).length = k - j := by rw [List.length_take, numL_len]; omega

/-- What holds at the head of a round. -/
def NumRel (w : World) (p : Nat) (v : Value) (l : List Int) (bad : Bool) (n : Int) (k : Nat) (i : Value) (wr : World) : Prop :=
  ∃ j v', j ≤ k ∧ ((j = 0 ∧ i = .int .i64 (-1)) ∨ (j = 1 ∧ i = .int .i64 0) ∨ (j = 2 ∧ i = .int .i64 1) ∨ (j = 3 ∧ i = .int .i64 2)) ∧ WS wr p v' (l ++ (numL n k).take (k - j)) bad ∧ Wr p w v wr v'

theorem WS.byte {w wb w1 : World} {p g cap : Nat} {v : Value} {l : List Int} {bad : Bool} (h : WS w p v l bad) (hb : Below w.heap.size w wb) (x : Int) (ho : w1.ownsRow (p + 1) 5 1 (.slice (some ⟨g, 0, none⟩) (l.length + 1) cap) (l.length + 1) (byteV l ++ [.int .u8 x])) (hg : wb.grownBy w1 v.ownBlock)
    (hv : v.ownBlock = some g ∨ w.heap.size ≤ g) : WS (w1.setCell ⟨p, 0, none⟩ (.slice (some ⟨g, 0, none⟩) (l.length + 1) cap)) p (.slice (some ⟨g, 0, none⟩) (l.length + 1) cap) (l ++ [x]) bad ∧ Wr p w v (w1.setCell ⟨p, 0, none⟩ (.slice (some ⟨g, 0, none⟩) (l.length + 1) cap)) (.slice (some ⟨g, 0, none⟩) (l.length + 1) cap) := by
  refine h.put (xs := [x]) (by simpa [byteV] using ho) ⟨hg.os.trans hb.os, hg.tape.trans hb.tape, hg.output.trans hb.output, Nat.le_trans hb.size hg.size, fun k hk hne => ?_⟩ (hv.imp (fun e => by rw [e]; rfl) (fun e k hk => by cases hk; exact e))
  exact (hg.block k (Nat.lt_of_lt_of_le hk hb.size) hne).trans (hb.block k hk)

set_option maxRecDepth 100000 in
set_option maxHeartbeats 4000000 in
theorem number_1 {w : World} {p : Nat} {v : Value} {l : List Int} {bad : Bool} (h : WS w p v l bad) (n : Int) (n0 : -9223372036854775808 ≤ n) (n1 : n ≤ 9223372036854775807) (hl : l.length ≤ 100000) :
    Calls Tryz.prog 132 #[.pointer (some ⟨p, 0, none⟩), .int .i64 n, .int .i64 1] w fun e w' => e = .returned (.tuple #[]) ∧ ∃ v', WS w' p v' (l ++ numL n 1) (bad || !fitB n 1) ∧ Wr p w v w' v' := by
  obtain ⟨i, hi, hz0, hz1, hz2⟩ := info_parts infoU8
  have HH := Lib.hid h
  clear h
  obtain ⟨B, hB⟩ : ∃ B, B = (bad || !fitB n 1) := ⟨_, rfl⟩
  rw [← hB]
  obtain ⟨K, hK⟩ : ∃ K : Nat, K = 1 := ⟨_, rfl⟩
  have h1 : 0 ≤ n → fitB n 1 = (n / 256 == 0) := fun h0 => by
    unfold fitB
    rw [Bool.eq_iff_iff]
    simp
    omega
  have h2 : ¬ 0 ≤ n → fitB n 1 = false := fun h0 => by
    unfold fitB
    simp
    omega
  have HF1 := Lib.hid h1
  have HF2 := Lib.hid h2
  have HB := Lib.hid hB
  clear hB h1 h2
  by_cases hf : 0 ≤ n
  all_goals
    go_enter Tryz.func132, Tryz.ntmps132
    go_wp2_with fail
    refine (need_any HH.out _).mono ?_
    rintro e w1 ⟨rfl, h1, g1⟩
    have H1 : Hid (WS w1 p v l B) := by
      rw [HB.out]
      first
        | rw [HF1.out hf]; exact h1
        | rw [HF2.out hf]; exact h1
    have G1 := Lib.hid g1
    clear h1 g1
    go_wp2
    go_loopw [6] (fun i wr => NumRel w p v l B n K i wr) (fun i _ => (RowKit.intOf i + 1).toNat)
    case atStart => exact ⟨1, v, by omega, .inr (.inl ⟨rfl, rfl⟩), by rw [hK]; simpa using H1.out, G1.out⟩
    case round =>
      obtain ⟨j, v2, hj, hd, H2, G2⟩ := hrel
      have HW := Lib.hid H2
      have HG := Lib.hid G2
      have c0 := H2.c0
      have f0 := H2.f 0
      clear H2 G2
      rcases hd with ⟨rfl, rfl⟩ | ⟨rfl, rfl⟩ | ⟨rfl, rfl⟩ | ⟨rfl, rfl⟩
      · go_wp2
        go_end0
        subst hK
        exact ⟨rfl, v2, by simpa [List.take_of_length_le, numL_len] using HW.out, HG.out⟩
      · try (exfalso; omega)
        all_goals
          have HX := Lib.hid (numL_pre n (k := K) (j := 0) (by omega))
          obtain ⟨L, hL⟩ : ∃ L, L = l ++ (numL n K).take (K - 1) := ⟨_, rfl⟩
          have hlen : L.length ≤ 100010 := by rw [hL, List.length_append, pre_len]; omega
          rw [← hL] at HW
          have HL := Lib.hid hL
          clear hL
          have HA : Hid (∀ o, (wr.alloc o).ownsRow (p + 1) 5 1 v2 L.length (byteV L)) := fun o => (HW.out.alloc o).2
          have HAd : Hid (∀ o, (wr.alloc o).drew.ownsRow (p + 1) 5 1 v2 L.length (byteV L)) := fun o => (HW.out.alloc o).2
          have hne : some p ≠ v2.ownBlock := fun e => HW.out.far (Nat.le_refl p) e.symm
          have hsz : p + 1 ≤ wr.heap.size := HW.out.lt
          have hsz2 : p < wr.heap.size := HW.out.lt
          go_wp2
          have z0 : IntKind.i64.wrap 0 = 0 := by decide
          go_region_law (first
            | (refine step_append_lies _ rfl (.tmp 28) (.tmp 34) 33 rfl (p + 1) 5 i (.int .u8 0) 1 1 Tryz.underlying33 hi hz0 hz1 hz2 rfl (by decide) v2 _ (byteV L) rfl (HAd.out _) ⟨wr.heap.size, 0, none⟩ 1 1 [.int .u8 (n % 256)] rfl rfl (World.news_of_block (heap_alloc_new wr _)) (fun u hu => by simp at hu; subst hu; rfl) (by omega) (by unfold maxLen; omega) (by omega) (by simp; omega) _ rfl ?_; intro g1 cap1 w5 o5 r5 p5 q5; have c5 : w5.cell? ⟨p, 0, none⟩ = some v2 := r5.cell (HW.out.alloc _).c0 hne; have f5 : w5.frozen? ⟨p, 0, none⟩ = false := (r5.frozen_far ⟨p, 0, none⟩ (HW.out.alloc _).lt hne).trans ((HW.out.alloc _).f 0))
            | (refine step_append_lies _ rfl (.tmp 28) (.tmp 34) 33 rfl (p + 1) 5 i (.int .u8 0) 1 1 Tryz.underlying33 hi hz0 hz1 hz2 rfl (by decide) v2 _ (byteV L) rfl (HA.out _) ⟨wr.heap.size, 0, none⟩ 1 1 [.int .u8 (n % 256)] rfl rfl (World.news_of_block (heap_alloc_new wr _)) (fun u hu => by simp at hu; subst hu; rfl) (by omega) (by unfold maxLen; omega) (by omega) (by simp; omega) _ rfl ?_; intro g1 cap1 w5 o5 r5 p5 q5; have c5 : w5.cell? ⟨p, 0, none⟩ = some v2 := r5.cell (HW.out.alloc _).c0 hne; have f5 : w5.frozen? ⟨p, 0, none⟩ = false := (r5.frozen_far ⟨p, 0, none⟩ (HW.out.alloc _).lt hne).trans ((HW.out.alloc _).f 0)))
          all_goals
            have HH5 : Hid (WS (w5.setCell ⟨p, 0, none⟩ (.slice (some ⟨g1, 0, none⟩) (L.length + 1) cap1)) p (.slice (some ⟨g1, 0, none⟩) (L.length + 1) cap1) (l ++ (numL n K).take (K - 0)) B ∧ Wr p w v (w5.setCell ⟨p, 0, none⟩ (.slice (some ⟨g1, 0, none⟩) (L.length + 1) cap1)) (.slice (some ⟨g1, 0, none⟩) (L.length + 1) cap1)) := by
              have e := HW.out.byte (((Below.refl _ wr).alloc (Nat.le_refl _) _).drew) (n / 256 ^ 0 % 256) (by simpa using o5) r5 (p5.imp id (fun e => by simp at e; omega))
              rw [HX.out, ← List.append_assoc, ← HL.out]
              exact ⟨e.1, HG.out.trans e.2⟩
            clear o5 r5 p5 q5 c5 f5 hne HA HAd HX
            go_wp2
            go_roundw
            all_goals first
              | exact ⟨0, _, by omega, .inl ⟨rfl, rfl⟩, HH5.out.1, HH5.out.2⟩
              | (simp [RowKit.intOf])
      · try (exfalso; omega)
        all_goals
          have HX := Lib.hid (numL_pre n (k := K) (j := 1) (by omega))
          obtain ⟨L, hL⟩ : ∃ L, L = l ++ (numL n K).take (K - 2) := ⟨_, rfl⟩
          have hlen : L.length ≤ 100010 := by rw [hL, List.length_append, pre_len]; omega
          rw [← hL] at HW
          have HL := Lib.hid hL
          clear hL
          have HA : Hid (∀ o, (wr.alloc o).ownsRow (p + 1) 5 1 v2 L.length (byteV L)) := fun o => (HW.out.alloc o).2
          have HAd : Hid (∀ o, (wr.alloc o).drew.ownsRow (p + 1) 5 1 v2 L.length (byteV L)) := fun o => (HW.out.alloc o).2
          have hne : some p ≠ v2.ownBlock := fun e => HW.out.far (Nat.le_refl p) e.symm
          have hsz : p + 1 ≤ wr.heap.size := HW.out.lt
          have hsz2 : p < wr.heap.size := HW.out.lt
          go_wp2
          have z0 : IntKind.i64.wrap 8 = 8 := by decide
          go_region_law (first
            | (refine step_append_lies _ rfl (.tmp 28) (.tmp 34) 33 rfl (p + 1) 5 i (.int .u8 0) 1 1 Tryz.underlying33 hi hz0 hz1 hz2 rfl (by decide) v2 _ (byteV L) rfl (HAd.out _) ⟨wr.heap.size, 0, none⟩ 1 1 [.int .u8 (n / 256 % 256)] rfl rfl (World.news_of_block (heap_alloc_new wr _)) (fun u hu => by simp at hu; subst hu; rfl) (by omega) (by unfold maxLen; omega) (by omega) (by simp; omega) _ rfl ?_; intro g1 cap1 w5 o5 r5 p5 q5; have c5 : w5.cell? ⟨p, 0, none⟩ = some v2 := r5.cell (HW.out.alloc _).c0 hne; have f5 : w5.frozen? ⟨p, 0, none⟩ = false := (r5.frozen_far ⟨p, 0, none⟩ (HW.out.alloc _).lt hne).trans ((HW.out.alloc _).f 0))
            | (refine step_append_lies _ rfl (.tmp 28) (.tmp 34) 33 rfl (p + 1) 5 i (.int .u8 0) 1 1 Tryz.underlying33 hi hz0 hz1 hz2 rfl (by decide) v2 _ (byteV L) rfl (HA.out _) ⟨wr.heap.size, 0, none⟩ 1 1 [.int .u8 (n / 256 % 256)] rfl rfl (World.news_of_block (heap_alloc_new wr _)) (fun u hu => by simp at hu; subst hu; rfl) (by omega) (by unfold maxLen; omega) (by omega) (by simp; omega) _ rfl ?_; intro g1 cap1 w5 o5 r5 p5 q5; have c5 : w5.cell? ⟨p, 0, none⟩ = some v2 := r5.cell (HW.out.alloc _).c0 hne; have f5 : w5.frozen? ⟨p, 0, none⟩ = false := (r5.frozen_far ⟨p, 0, none⟩ (HW.out.alloc _).lt hne).trans ((HW.out.alloc _).f 0)))
          all_goals
            have HH5 : Hid (WS (w5.setCell ⟨p, 0, none⟩ (.slice (some ⟨g1, 0, none⟩) (L.length + 1) cap1)) p (.slice (some ⟨g1, 0, none⟩) (L.length + 1) cap1) (l ++ (numL n K).take (K - 1)) B ∧ Wr p w v (w5.setCell ⟨p, 0, none⟩ (.slice (some ⟨g1, 0, none⟩) (L.length + 1) cap1)) (.slice (some ⟨g1, 0, none⟩) (L.length + 1) cap1)) := by
              have e := HW.out.byte (((Below.refl _ wr).alloc (Nat.le_refl _) _).drew) (n / 256 ^ 1 % 256) (by simpa using o5) r5 (p5.imp id (fun e => by simp at e; omega))
              rw [HX.out, ← List.append_assoc, ← HL.out]
              exact ⟨e.1, HG.out.trans e.2⟩
            clear o5 r5 p5 q5 c5 f5 hne HA HAd HX
            go_wp2
            go_roundw
            all_goals first
              | exact ⟨1, _, by omega, .inr (.inl ⟨rfl, rfl⟩), HH5.out.1, HH5.out.2⟩
              | (simp [RowKit.intOf])
      · try (exfalso; omega)
        all_goals
          have HX := Lib.hid (numL_pre n (k := K) (j := 2) (by omega))
          obtain ⟨L, hL⟩ : ∃ L, L = l ++ (numL n K).take (K - 3) := ⟨_, rfl⟩
          have hlen : L.length ≤ 100010 := by rw [hL, List.length_append, pre_len]; omega
          rw [← hL] at HW
          have HL := Lib.hid hL
          clear hL
          have HA : Hid (∀ o, (wr.alloc o).ownsRow (p + 1) 5 1 v2 L.length (byteV L)) := fun o => (HW.out.alloc o).2
          have HAd : Hid (∀ o, (wr.alloc o).drew.ownsRow (p + 1) 5 1 v2 L.length (byteV L)) := fun o => (HW.out.alloc o).2
          have hne : some p ≠ v2.ownBlock := fun e => HW.out.far (Nat.le_refl p) e.symm
          have hsz : p + 1 ≤ wr.heap.size := HW.out.lt
          have hsz2 : p < wr.heap.size := HW.out.lt
          go_wp2
          have z0 : IntKind.i64.wrap 16 = 16 := by decide
          go_region_law (first
            | (refine step_append_lies _ rfl (.tmp 28) (.tmp 34) 33 rfl (p + 1) 5 i (.int .u8 0) 1 1 Tryz.underlying33 hi hz0 hz1 hz2 rfl (by decide) v2 _ (byteV L) rfl (HAd.out _) ⟨wr.heap.size, 0, none⟩ 1 1 [.int .u8 (n / 65536 % 256)] rfl rfl (World.news_of_block (heap_alloc_new wr _)) (fun u hu => by simp at hu; subst hu; rfl) (by omega) (by unfold maxLen; omega) (by omega) (by simp; omega) _ rfl ?_; intro g1 cap1 w5 o5 r5 p5 q5; have c5 : w5.cell? ⟨p, 0, none⟩ = some v2 := r5.cell (HW.out.alloc _).c0 hne; have f5 : w5.frozen? ⟨p, 0, none⟩ = false := (r5.frozen_far ⟨p, 0, none⟩ (HW.out.alloc _).lt hne).trans ((HW.out.alloc _).f 0))
            | (refine step_append_lies _ rfl (.tmp 28) (.tmp 34) 33 rfl (p + 1) 5 i (.int .u8 0) 1 1 Tryz.underlying33 hi hz0 hz1 hz2 rfl (by decide) v2 _ (byteV L) rfl (HA.out _) ⟨wr.heap.size, 0, none⟩ 1 1 [.int .u8 (n / 65536 % 256)] rfl rfl (World.news_of_block (heap_alloc_new wr _)) (fun u hu => by simp at hu; subst hu; rfl) (by omega) (by unfold maxLen; omega) (by omega) (by simp; omega) _ rfl ?_; intro g1 cap1 w5 o5 r5 p5 q5; have c5 : w5.cell? ⟨p, 0, none⟩ = some v2 := r5.cell (HW.out.alloc _).c0 hne; have f5 : w5.frozen? ⟨p, 0, none⟩ = false := (r5.frozen_far ⟨p, 0, none⟩ (HW.out.alloc _).lt hne).trans ((HW.out.alloc _).f 0)))
          all_goals
            have HH5 : Hid (WS (w5.setCell ⟨p, 0, none⟩ (.slice (some ⟨g1, 0, none⟩) (L.length + 1) cap1)) p (.slice (some ⟨g1, 0, none⟩) (L.length + 1) cap1) (l ++ (numL n K).take (K - 2)) B ∧ Wr p w v (w5.setCell ⟨p, 0, none⟩ (.slice (some ⟨g1, 0, none⟩) (L.length + 1) cap1)) (.slice (some ⟨g1, 0, none⟩) (L.length + 1) cap1)) := by
              have e := HW.out.byte (((Below.refl _ wr).alloc (Nat.le_refl _) _).drew) (n / 256 ^ 2 % 256) (by simpa using o5) r5 (p5.imp id (fun e => by simp at e; omega))
              rw [HX.out, ← List.append_assoc, ← HL.out]
              exact ⟨e.1, HG.out.trans e.2⟩
            clear o5 r5 p5 q5 c5 f5 hne HA HAd HX
            go_wp2
            go_roundw
            all_goals first
              | exact ⟨2, _, by omega, .inr (.inr (.inl ⟨rfl, rfl⟩)), HH5.out.1, HH5.out.2⟩
              | (simp [RowKit.intOf])

set_option maxRecDepth 100000 in
set_option maxHeartbeats 4000000 in
theorem number_2 {w : World} {p : Nat} {v : Value} {l : List Int} {bad : Bool} (h : WS w p v l bad) (n : Int) (n0 : -9223372036854775808 ≤ n) (n1 : n ≤ 9223372036854775807) (hl : l.length ≤ 100000) :
    Calls Tryz.prog 132 #[.pointer (some ⟨p, 0, none⟩), .int .i64 n, .int .i64 2] w fun e w' => e = .returned (.tuple #[]) ∧ ∃ v', WS w' p v' (l ++ numL n 2) (bad || !fitB n 2) ∧ Wr p w v w' v' := by
  obtain ⟨i, hi, hz0, hz1, hz2⟩ := info_parts infoU8
  have HH := Lib.hid h
  clear h
  obtain ⟨B, hB⟩ : ∃ B, B = (bad || !fitB n 2) := ⟨_, rfl⟩
  rw [← hB]
  obtain ⟨K, hK⟩ : ∃ K : Nat, K = 2 := ⟨_, rfl⟩
  have h1 : 0 ≤ n → fitB n 2 = (n / 65536 == 0) := fun h0 => by
    unfold fitB
    rw [Bool.eq_iff_iff]
    simp
    omega
  have h2 : ¬ 0 ≤ n → fitB n 2 = false := fun h0 => by
    unfold fitB
    simp
    omega
  have HF1 := Lib.hid h1
  have HF2 := Lib.hid h2
  have HB := Lib.hid hB
  clear hB h1 h2
  by_cases hf : 0 ≤ n
  all_goals
    go_enter Tryz.func132, Tryz.ntmps132
    go_wp2_with fail
    refine (need_any HH.out _).mono ?_
    rintro e w1 ⟨rfl, h1, g1⟩
    have H1 : Hid (WS w1 p v l B) := by
      rw [HB.out]
      first
        | rw [HF1.out hf]; exact h1
        | rw [HF2.out hf]; exact h1
    have G1 := Lib.hid g1
    clear h1 g1
    go_wp2
    go_loopw [6] (fun i wr => NumRel w p v l B n K i wr) (fun i _ => (RowKit.intOf i + 1).toNat)
    case atStart => exact ⟨2, v, by omega, .inr (.inr (.inl ⟨rfl, rfl⟩)), by rw [hK]; simpa using H1.out, G1.out⟩
    case round =>
      obtain ⟨j, v2, hj, hd, H2, G2⟩ := hrel
      have HW := Lib.hid H2
      have HG := Lib.hid G2
      have c0 := H2.c0
      have f0 := H2.f 0
      clear H2 G2
      rcases hd with ⟨rfl, rfl⟩ | ⟨rfl, rfl⟩ | ⟨rfl, rfl⟩ | ⟨rfl, rfl⟩
      · go_wp2
        go_end0
        subst hK
        exact ⟨rfl, v2, by simpa [List.take_of_length_le, numL_len] using HW.out, HG.out⟩
      · try (exfalso; omega)
        all_goals
          have HX := Lib.hid (numL_pre n (k := K) (j := 0) (by omega))
          obtain ⟨L, hL⟩ : ∃ L, L = l ++ (numL n K).take (K - 1) := ⟨_, rfl⟩
          have hlen : L.length ≤ 100010 := by rw [hL, List.length_append, pre_len]; omega
          rw [← hL] at HW
          have HL := Lib.hid hL
          clear hL
          have HA : Hid (∀ o, (wr.alloc o).ownsRow (p + 1) 5 1 v2 L.length (byteV L)) := fun o => (HW.out.alloc o).2
          have HAd : Hid (∀ o, (wr.alloc o).drew.ownsRow (p + 1) 5 1 v2 L.length (byteV L)) := fun o => (HW.out.alloc o).2
          have hne : some p ≠ v2.ownBlock := fun e => HW.out.far (Nat.le_refl p) e.symm
          have hsz : p + 1 ≤ wr.heap.size := HW.out.lt
          have hsz2 : p < wr.heap.size := HW.out.lt
          go_wp2
          have z0 : IntKind.i64.wrap 0 = 0 := by decide
          go_region_law (first
            | (refine step_append_lies _ rfl (.tmp 28) (.tmp 34) 33 rfl (p + 1) 5 i (.int .u8 0) 1 1 Tryz.underlying33 hi hz0 hz1 hz2 rfl (by decide) v2 _ (byteV L) rfl (HAd.out _) ⟨wr.heap.size, 0, none⟩ 1 1 [.int .u8 (n % 256)] rfl rfl (World.news_of_block (heap_alloc_new wr _)) (fun u hu => by simp at hu; subst hu; rfl) (by omega) (by unfold maxLen; omega) (by omega) (by simp; omega) _ rfl ?_; intro g1 cap1 w5 o5 r5 p5 q5; have c5 : w5.cell? ⟨p, 0, none⟩ = some v2 := r5.cell (HW.out.alloc _).c0 hne; have f5 : w5.frozen? ⟨p, 0, none⟩ = false := (r5.frozen_far ⟨p, 0, none⟩ (HW.out.alloc _).lt hne).trans ((HW.out.alloc _).f 0))
            | (refine step_append_lies _ rfl (.tmp 28) (.tmp 34) 33 rfl (p + 1) 5 i (.int .u8 0) 1 1 Tryz.underlying33 hi hz0 hz1 hz2 rfl (by decide) v2 _ (byteV L) rfl (HA.out _) ⟨wr.heap.size, 0, none⟩ 1 1 [.int .u8 (n % 256)] rfl rfl (World.news_of_block (heap_alloc_new wr _)) (fun u hu => by simp at hu; subst hu; rfl) (by omega) (by unfold maxLen; omega) (by omega) (by simp; omega) _ rfl ?_; intro g1 cap1 w5 o5 r5 p5 q5; have c5 : w5.cell? ⟨p, 0, none⟩ = some v2 := r5.cell (HW.out.alloc _).c0 hne; have f5 : w5.frozen? ⟨p, 0, none⟩ = false := (r5.frozen_far ⟨p, 0, none⟩ (HW.out.alloc _).lt hne).trans ((HW.out.alloc _).f 0)))
          all_goals
            have HH5 : Hid (WS (w5.setCell ⟨p, 0, none⟩ (.slice (some ⟨g1, 0, none⟩) (L.length + 1) cap1)) p (.slice (some ⟨g1, 0, none⟩) (L.length + 1) cap1) (l ++ (numL n K).take (K - 0)) B ∧ Wr p w v (w5.setCell ⟨p, 0, none⟩ (.slice (some ⟨g1, 0, none⟩) (L.length + 1) cap1)) (.slice (some ⟨g1, 0, none⟩) (L.length + 1) cap1)) := by
              have e := HW.out.byte (((Below.refl _ wr).alloc (Nat.le_refl _) _).drew) (n / 256 ^ 0 % 256) (by simpa using o5) r5 (p5.imp id (fun e => by simp at e; omega))
              rw [HX.out, ← List.append_assoc, ← HL.out]
              exact ⟨e.1, HG.out.trans e.2⟩
            clear o5 r5 p5 q5 c5 f5 hne HA HAd HX
            go_wp2
            go_roundw
            all_goals first
              | exact ⟨0, _, by omega, .inl ⟨rfl, rfl⟩, HH5.out.1, HH5.out.2⟩
              | (simp [RowKit.intOf])
      · try (exfalso; omega)
        all_goals
          have HX := Lib.hid (numL_pre n (k := K) (j := 1) (by omega))
          obtain ⟨L, hL⟩ : ∃ L, L = l ++ (numL n K).take (K - 2) := ⟨_, rfl⟩
          have hlen : L.length ≤ 100010 := by rw [hL, List.length_append, pre_len]; omega
          rw [← hL] at HW
          have HL := Lib.hid hL
          clear hL
          have HA : Hid (∀ o, (wr.alloc o).ownsRow (p + 1) 5 1 v2 L.length (byteV L)) := fun o => (HW.out.alloc o).2
          have HAd : Hid (∀ o, (wr.alloc o).drew.ownsRow (p + 1) 5 1 v2 L.length (byteV L)) := fun o => (HW.out.alloc o).2
          have hne : some p ≠ v2.ownBlock := fun e => HW.out.far (Nat.le_refl p) e.symm
          have hsz : p + 1 ≤ wr.heap.size := HW.out.lt
          have hsz2 : p < wr.heap.size := HW.out.lt
          go_wp2
          have z0 : IntKind.i64.wrap 8 = 8 := by decide
          go_region_law (first
            | (refine step_append_lies _ rfl (.tmp 28) (.tmp 34) 33 rfl (p + 1) 5 i (.int .u8 0) 1 1 Tryz.underlying33 hi hz0 hz1 hz2 rfl (by decide) v2 _ (byteV L) rfl (HAd.out _) ⟨wr.heap.size, 0, none⟩ 1 1 [.int .u8 (n / 256 % 256)] rfl rfl (World.news_of_block (heap_alloc_new wr _)) (fun u hu => by simp at hu; subst hu; rfl) (by omega) (by unfold maxLen; omega) (by omega) (by simp; omega) _ rfl ?_; intro g1 cap1 w5 o5 r5 p5 q5; have c5 : w5.cell? ⟨p, 0, none⟩ = some v2 := r5.cell (HW.out.alloc _).c0 hne; have f5 : w5.frozen? ⟨p, 0, none⟩ = false := (r5.frozen_far ⟨p, 0, none⟩ (HW.out.alloc _).lt hne).trans ((HW.out.alloc _).f 0))
            | (refine step_append_lies _ rfl (.tmp 28) (.tmp 34) 33 rfl (p + 1) 5 i (.int .u8 0) 1 1 Tryz.underlying33 hi hz0 hz1 hz2 rfl (by decide) v2 _ (byteV L) rfl (HA.out _) ⟨wr.heap.size, 0, none⟩ 1 1 [.int .u8 (n / 256 % 256)] rfl rfl (World.news_of_block (heap_alloc_new wr _)) (fun u hu => by simp at hu; subst hu; rfl) (by omega) (by unfold maxLen; omega) (by omega) (by simp; omega) _ rfl ?_; intro g1 cap1 w5 o5 r5 p5 q5; have c5 : w5.cell? ⟨p, 0, none⟩ = some v2 := r5.cell (HW.out.alloc _).c0 hne; have f5 : w5.frozen? ⟨p, 0, none⟩ = false := (r5.frozen_far ⟨p, 0, none⟩ (HW.out.alloc _).lt hne).trans ((HW.out.alloc _).f 0)))
          all_goals
            have HH5 : Hid (WS (w5.setCell ⟨p, 0, none⟩ (.slice (some ⟨g1, 0, none⟩) (L.length + 1) cap1)) p (.slice (some ⟨g1, 0, none⟩) (L.length + 1) cap1) (l ++ (numL n K).take (K - 1)) B ∧ Wr p w v (w5.setCell ⟨p, 0, none⟩ (.slice (some ⟨g1, 0, none⟩) (L.length + 1) cap1)) (.slice (some ⟨g1, 0, none⟩) (L.length + 1) cap1)) := by
              have e := HW.out.byte (((Below.refl _ wr).alloc (Nat.le_refl _) _).drew) (n / 256 ^ 1 % 256) (by simpa using o5) r5 (p5.imp id (fun e => by simp at e; omega))
              rw [HX.out, ← List.append_assoc, ← HL.out]
              exact ⟨e.1, HG.out.trans e.2⟩
            clear o5 r5 p5 q5 c5 f5 hne HA HAd HX
            go_wp2
            go_roundw
            all_goals first
              | exact ⟨1, _, by omega, .inr (.inl ⟨rfl, rfl⟩), HH5.out.1, HH5.out.2⟩
              | (simp [RowKit.intOf])
      · try (exfalso; omega)
        all_goals
          have HX := Lib.hid (numL_pre n (k := K) (j := 2) (by omega))
          obtain ⟨L, hL⟩ : ∃ L, L = l ++ (numL n K).take (K - 3) := ⟨_, rfl⟩
          have hlen : L.length ≤ 100010 := by rw [hL, List.length_append, pre_len]; omega
          rw [← hL] at HW
          have HL := Lib.hid hL
          clear hL
          have HA : Hid (∀ o, (wr.alloc o).ownsRow (p + 1) 5 1 v2 L.length (byteV L)) := fun o => (HW.out.alloc o).2
          have HAd : Hid (∀ o, (wr.alloc o).drew.ownsRow (p + 1) 5 1 v2 L.length (byteV L)) := fun o => (HW.out.alloc o).2
          have hne : some p ≠ v2.ownBlock := fun e => HW.out.far (Nat.le_refl p) e.symm
          have hsz : p + 1 ≤ wr.heap.size := HW.out.lt
          have hsz2 : p < wr.heap.size := HW.out.lt
          go_wp2
          have z0 : IntKind.i64.wrap 16 = 16 := by decide
          go_region_law (first
            | (refine step_append_lies _ rfl (.tmp 28) (.tmp 34) 33 rfl (p + 1) 5 i (.int .u8 0) 1 1 Tryz.underlying33 hi hz0 hz1 hz2 rfl (by decide) v2 _ (byteV L) rfl (HAd.out _) ⟨wr.heap.size, 0, none⟩ 1 1 [.int .u8 (n / 65536 % 256)] rfl rfl (World.news_of_block (heap_alloc_new wr _)) (fun u hu => by simp at hu; subst hu; rfl) (by omega) (by unfold maxLen; omega) (by omega) (by simp; omega) _ rfl ?_; intro g1 cap1 w5 o5 r5 p5 q5; have c5 : w5.cell? ⟨p, 0, none⟩ = some v2 := r5.cell (HW.out.alloc _).c0 hne; have f5 : w5.frozen? ⟨p, 0, none⟩ = false := (r5.frozen_far ⟨p, 0, none⟩ (HW.out.alloc _).lt hne).trans ((HW.out.alloc _).f 0))
            | (refine step_append_lies _ rfl (.tmp 28) (.tmp 34) 33 rfl (p + 1) 5 i (.int .u8 0) 1 1 Tryz.underlying33 hi hz0 hz1 hz2 rfl (by decide) v2 _ (byteV L) rfl (HA.out _) ⟨wr.heap.size, 0, none⟩ 1 1 [.int .u8 (n / 65536 % 256)] rfl rfl (World.news_of_block (heap_alloc_new wr _)) (fun u hu => by simp at hu; subst hu; rfl) (by omega) (by unfold maxLen; omega) (by omega) (by simp; omega) _ rfl ?_; intro g1 cap1 w5 o5 r5 p5 q5; have c5 : w5.cell? ⟨p, 0, none⟩ = some v2 := r5.cell (HW.out.alloc _).c0 hne; have f5 : w5.frozen? ⟨p, 0, none⟩ = false := (r5.frozen_far ⟨p, 0, none⟩ (HW.out.alloc _).lt hne).trans ((HW.out.alloc _).f 0)))
          all_goals
            have HH5 : Hid (WS (w5.setCell ⟨p, 0, none⟩ (.slice (some ⟨g1, 0, none⟩) (L.length + 1) cap1)) p (.slice (some ⟨g1, 0, none⟩) (L.length + 1) cap1) (l ++ (numL n K).take (K - 2)) B ∧ Wr p w v (w5.setCell ⟨p, 0, none⟩ (.slice (some ⟨g1, 0, none⟩) (L.length + 1) cap1)) (.slice (some ⟨g1, 0, none⟩) (L.length + 1) cap1)) := by
              have e := HW.out.byte (((Below.refl _ wr).alloc (Nat.le_refl _) _).drew) (n / 256 ^ 2 % 256) (by simpa using o5) r5 (p5.imp id (fun e => by simp at e; omega))
              rw [HX.out, ← List.append_assoc, ← HL.out]
              exact ⟨e.1, HG.out.trans e.2⟩
            clear o5 r5 p5 q5 c5 f5 hne HA HAd HX
            go_wp2
            go_roundw
            all_goals first
              | exact ⟨2, _, by omega, .inr (.inr (.inl ⟨rfl, rfl⟩)), HH5.out.1, HH5.out.2⟩
              | (simp [RowKit.intOf])

set_option maxRecDepth 100000 in
set_option maxHeartbeats 4000000 in
theorem number_3 {w : World} {p : Nat} {v : Value} {l : List Int} {bad : Bool} (h : WS w p v l bad) (n : Int) (n0 : -9223372036854775808 ≤ n) (n1 : n ≤ 9223372036854775807) (hl : l.length ≤ 100000) :
    Calls Tryz.prog 132 #[.pointer (some ⟨p, 0, none⟩), .int .i64 n, .int .i64 3] w fun e w' => e = .returned (.tuple #[]) ∧ ∃ v', WS w' p v' (l ++ numL n 3) (bad || !fitB n 3) ∧ Wr p w v w' v' := by
  obtain ⟨i, hi, hz0, hz1, hz2⟩ := info_parts infoU8
  have HH := Lib.hid h
  clear h
  obtain ⟨B, hB⟩ : ∃ B, B = (bad || !fitB n 3) := ⟨_, rfl⟩
  rw [← hB]
  obtain ⟨K, hK⟩ : ∃ K : Nat, K = 3 := ⟨_, rfl⟩
  have h1 : 0 ≤ n → fitB n 3 = (n / 16777216 == 0) := fun h0 => by
    unfold fitB
    rw [Bool.eq_iff_iff]
    simp
    omega
  have h2 : ¬ 0 ≤ n → fitB n 3 = false := fun h0 => by
    unfold fitB
    simp
    omega
  have HF1 := Lib.hid h1
  have HF2 := Lib.hid h2
  have HB := Lib.hid hB
  clear hB h1 h2
  by_cases hf : 0 ≤ n
  all_goals
    go_enter Tryz.func132, Tryz.ntmps132
    go_wp2_with fail
    refine (need_any HH.out _).mono ?_
    rintro e w1 ⟨rfl, h1, g1⟩
    have H1 : Hid (WS w1 p v l B) := by
      rw [HB.out]
      first
        | rw [HF1.out hf]; exact h1
        | rw [HF2.out hf]; exact h1
    have G1 := Lib.hid g1
    clear h1 g1
    go_wp2
    go_loopw [6] (fun i wr => NumRel w p v l B n K i wr) (fun i _ => (RowKit.intOf i + 1).toNat)
    case atStart => exact ⟨3, v, by omega, .inr (.inr (.inr ⟨rfl, rfl⟩)), by rw [hK]; simpa using H1.out, G1.out⟩
    case round =>
      obtain ⟨j, v2, hj, hd, H2, G2⟩ := hrel
      have HW := Lib.hid H2
      have HG := Lib.hid G2
      have c0 := H2.c0
      have f0 := H2.f 0
      clear H2 G2
      rcases hd with ⟨rfl, rfl⟩ | ⟨rfl, rfl⟩ | ⟨rfl, rfl⟩ | ⟨rfl, rfl⟩
      · go_wp2
        go_end0
        subst hK
        exact ⟨rfl, v2, by simpa [List.take_of_length_le, numL_len] using HW.out, HG.out⟩
      · try (exfalso; omega)
        all_goals
          have HX := Lib.hid (numL_pre n (k := K) (j := 0) (by omega))
          obtain ⟨L, hL⟩ : ∃ L, L = l ++ (numL n K).take (K - 1) := ⟨_, rfl⟩
          have hlen : L.length ≤ 100010 := by rw [hL, List.length_append, pre_len]; omega
          rw [← hL] at HW
          have HL := Lib.hid hL
          clear hL
          have HA : Hid (∀ o, (wr.alloc o).ownsRow (p + 1) 5 1 v2 L.length (byteV L)) := fun o => (HW.out.alloc o).2
          have HAd : Hid (∀ o, (wr.alloc o).drew.ownsRow (p + 1) 5 1 v2 L.length (byteV L)) := fun o => (HW.out.alloc o).2
          have hne : some p ≠ v2.ownBlock := fun e => HW.out.far (Nat.le_refl p) e.symm
          have hsz : p + 1 ≤ wr.heap.size := HW.out.lt
          have hsz2 : p < wr.heap.size := HW.out.lt
          go_wp2
          have z0 : IntKind.i64.wrap 0 = 0 := by decide
          go_region_law (first
            | (refine step_append_lies _ rfl (.tmp 28) (.tmp 34) 33 rfl (p + 1) 5 i (.int .u8 0) 1 1 Tryz.underlying33 hi hz0 hz1 hz2 rfl (by decide) v2 _ (byteV L) rfl (HAd.out _) ⟨wr.heap.size, 0, none⟩ 1 1 [.int .u8 (n % 256)] rfl rfl (World.news_of_block (heap_alloc_new wr _)) (fun u hu => by simp at hu; subst hu; rfl) (by omega) (by unfold maxLen; omega) (by omega) (by simp; omega) _ rfl ?_; intro g1 cap1 w5 o5 r5 p5 q5; have c5 : w5.cell? ⟨p, 0, none⟩ = some v2 := r5.cell (HW.out.alloc _).c0 hne; have f5 : w5.frozen? ⟨p, 0, none⟩ = false := (r5.frozen_far ⟨p, 0, none⟩ (HW.out.alloc _).lt hne).trans ((HW.out.alloc _).f 0))
            | (refine step_append_lies _ rfl (.tmp 28) (.tmp 34) 33 rfl (p + 1) 5 i (.int .u8 0) 1 1 Tryz.underlying33 hi hz0 hz1 hz2 rfl (by decide) v2 _ (byteV L) rfl (HA.out _) ⟨wr.heap.size, 0, none⟩ 1 1 [.int .u8 (n % 256)] rfl rfl (World.news_of_block (heap_alloc_new wr _)) (fun u hu => by simp at hu; subst hu; rfl) (by omega) (by unfold maxLen; omega) (by omega) (by simp; omega) _ rfl ?_; intro g1 cap1 w5 o5 r5 p5 q5; have c5 : w5.cell? ⟨p, 0, none⟩ = some v2 := r5.cell (HW.out.alloc _).c0 hne; have f5 : w5.frozen? ⟨p, 0, none⟩ = false := (r5.frozen_far ⟨p, 0, none⟩ (HW.out.alloc _).lt hne).trans ((HW.out.alloc _).f 0)))
          all_goals
            have HH5 : Hid (WS (w5.setCell ⟨p, 0, none⟩ (.slice (some ⟨g1, 0, none⟩) (L.length + 1) cap1)) p (.slice (some ⟨g1, 0, none⟩) (L.length + 1) cap1) (l ++ (numL n K).take (K - 0)) B ∧ Wr p w v (w5.setCell ⟨p, 0, none⟩ (.slice (some ⟨g1, 0, none⟩) (L.length + 1) cap1)) (.slice (some ⟨g1, 0, none⟩) (L.length + 1) cap1)) := by
              have e := HW.out.byte (((Below.refl _ wr).alloc (Nat.le_refl _) _).drew) (n / 256 ^ 0 % 256) (by simpa using o5) r5 (p5.imp id (fun e => by simp at e; omega))
              rw [HX.out, ← List.append_assoc, ← HL.out]
              exact ⟨e.1, HG.out.trans e.2⟩
            clear o5 r5 p5 q5 c5 f5 hne HA HAd HX
            go_wp2
            go_roundw
            all_goals first
              | exact ⟨0, _, by omega, .inl ⟨rfl, rfl⟩, HH5.out.1, HH5.out.2⟩
              | (simp [RowKit.intOf])
      · try (exfalso; omega)
        all_goals
          have HX := Lib.hid (numL_pre n (k := K) (j := 1) (by omega))
          obtain ⟨L, hL⟩ : ∃ L, L = l ++ (numL n K).take (K - 2) := ⟨_, rfl⟩
          have hlen : L.length ≤ 100010 := by rw [hL, List.length_append, pre_len]; omega
          rw [← hL] at HW
          have HL := Lib.hid hL
          clear hL
          have HA : Hid (∀ o, (wr.alloc o).ownsRow (p + 1) 5 1 v2 L.length (byteV L)) := fun o => (HW.out.alloc o).2
          have HAd : Hid (∀ o, (wr.alloc o).drew.ownsRow (p + 1) 5 1 v2 L.length (byteV L)) := fun o => (HW.out.alloc o).2
          have hne : some p ≠ v2.ownBlock := fun e => HW.out.far (Nat.le_refl p) e.symm
          have hsz : p + 1 ≤ wr.heap.size := HW.out.lt
          have hsz2 : p < wr.heap.size := HW.out.lt
          go_wp2
          have z0 : IntKind.i64.wrap 8 = 8 := by decide
          go_region_law (first
            | (refine step_append_lies _ rfl (.tmp 28) (.tmp 34) 33 rfl (p + 1) 5 i (.int .u8 0) 1 1 Tryz.underlying33 hi hz0 hz1 hz2 rfl (by decide) v2 _ (byteV L) rfl (HAd.out _) ⟨wr.heap.size, 0, none⟩ 1 1 [.int .u8 (n / 256 % 256)] rfl rfl (World.news_of_block (heap_alloc_new wr _)) (fun u hu => by simp at hu; subst hu; rfl) (by omega) (by unfold maxLen; omega) (by omega) (by simp; omega) _ rfl ?_; intro g1 cap1 w5 o5 r5 p5 q5; have c5 : w5.cell? ⟨p, 0, none⟩ = some v2 := r5.cell (HW.out.alloc _).c0 hne; have f5 : w5.frozen? ⟨p, 0, none⟩ = false := (r5.frozen_far ⟨p, 0, none⟩ (HW.out.alloc _).lt hne).trans ((HW.out.alloc _).f 0))
            | (refine step_append_lies _ rfl (.tmp 28) (.tmp 34) 33 rfl (p + 1) 5 i (.int .u8 0) 1 1 Tryz.underlying33 hi hz0 hz1 hz2 rfl (by decide) v2 _ (byteV L) rfl (HA.out _) ⟨wr.heap.size, 0, none⟩ 1 1 [.int .u8 (n / 256 % 256)] rfl rfl (World.news_of_block (heap_alloc_new wr _)) (fun u hu => by simp at hu; subst hu; rfl) (by omega) (by unfold maxLen; omega) (by omega) (by simp; omega) _ rfl ?_; intro g1 cap1 w5 o5 r5 p5 q5; have c5 : w5.cell? ⟨p, 0, none⟩ = some v2 := r5.cell (HW.out.alloc _).c0 hne; have f5 : w5.frozen? ⟨p, 0, none⟩ = false := (r5.frozen_far ⟨p, 0, none⟩ (HW.out.alloc _).lt hne).trans ((HW.out.alloc _).f 0)))
          all_goals
            have HH5 : Hid (WS (w5.setCell ⟨p, 0, none⟩ (.slice (some ⟨g1, 0, none⟩) (L.length + 1) cap1)) p (.slice (some ⟨g1, 0, none⟩) (L.length + 1) cap1) (l ++ (numL n K).take (K - 1)) B ∧ Wr p w v (w5.setCell ⟨p, 0, none⟩ (.slice (some ⟨g1, 0, none⟩) (L.length + 1) cap1)) (.slice (some ⟨g1, 0, none⟩) (L.length + 1) cap1)) := by
              have e := HW.out.byte (((Below.refl _ wr).alloc (Nat.le_refl _) _).drew) (n / 256 ^ 1 % 256) (by simpa using o5) r5 (p5.imp id (fun e => by simp at e; omega))
              rw [HX.out, ← List.append_assoc, ← HL.out]
              exact ⟨e.1, HG.out.trans e.2⟩
            clear o5 r5 p5 q5 c5 f5 hne HA HAd HX
            go_wp2
            go_roundw
            all_goals first
              | exact ⟨1, _, by omega, .inr (.inl ⟨rfl, rfl⟩), HH5.out.1, HH5.out.2⟩
              | (simp [RowKit.intOf])
      · try (exfalso; omega)
        all_goals
          have HX := Lib.hid (numL_pre n (k := K) (j := 2) (by omega))
          obtain ⟨L, hL⟩ : ∃ L, L = l ++ (numL n K).take (K - 3) := ⟨_, rfl⟩
          have hlen : L.length ≤ 100010 := by rw [hL, List.length_append, pre_len]; omega
          rw [← hL] at HW
          have HL := Lib.hid hL
          clear hL
          have HA : Hid (∀ o, (wr.alloc o).ownsRow (p + 1) 5 1 v2 L.length (byteV L)) := fun o => (HW.out.alloc o).2
          have HAd : Hid (∀ o, (wr.alloc o).drew.ownsRow (p + 1) 5 1 v2 L.length (byteV L)) := fun o => (HW.out.alloc o).2
          have hne : some p ≠ v2.ownBlock := fun e => HW.out.far (Nat.le_refl p) e.symm
          have hsz : p + 1 ≤ wr.heap.size := HW.out.lt
          have hsz2 : p < wr.heap.size := HW.out.lt
          go_wp2
          have z0 : IntKind.i64.wrap 16 = 16 := by decide
          go_region_law (first
            | (refine step_append_lies _ rfl (.tmp 28) (.tmp 34) 33 rfl (p + 1) 5 i (.int .u8 0) 1 1 Tryz.underlying33 hi hz0 hz1 hz2 rfl (by decide) v2 _ (byteV L) rfl (HAd.out _) ⟨wr.heap.size, 0, none⟩ 1 1 [.int .u8 (n / 65536 % 256)] rfl rfl (World.news_of_block (heap_alloc_new wr _)) (fun u hu => by simp at hu; subst hu; rfl) (by omega) (by unfold maxLen; omega) (by omega) (by simp; omega) _ rfl ?_; intro g1 cap1 w5 o5 r5 p5 q5; have c5 : w5.cell? ⟨p, 0, none⟩ = some v2 := r5.cell (HW.out.alloc _).c0 hne; have f5 : w5.frozen? ⟨p, 0, none⟩ = false := (r5.frozen_far ⟨p, 0, none⟩ (HW.out.alloc _).lt hne).trans ((HW.out.alloc _).f 0))
            | (refine step_append_lies _ rfl (.tmp 28) (.tmp 34) 33 rfl (p + 1) 5 i (.int .u8 0) 1 1 Tryz.underlying33 hi hz0 hz1 hz2 rfl (by decide) v2 _ (byteV L) rfl (HA.out _) ⟨wr.heap.size, 0, none⟩ 1 1 [.int .u8 (n / 65536 % 256)] rfl rfl (World.news_of_block (heap_alloc_new wr _)) (fun u hu => by simp at hu; subst hu; rfl) (by omega) (by unfold maxLen; omega) (by omega) (by simp; omega) _ rfl ?_; intro g1 cap1 w5 o5 r5 p5 q5; have c5 : w5.cell? ⟨p, 0, none⟩ = some v2 := r5.cell (HW.out.alloc _).c0 hne; have f5 : w5.frozen? ⟨p, 0, none⟩ = false := (r5.frozen_far ⟨p, 0, none⟩ (HW.out.alloc _).lt hne).trans ((HW.out.alloc _).f 0)))
          all_goals
            have HH5 : Hid (WS (w5.setCell ⟨p, 0, none⟩ (.slice (some ⟨g1, 0, none⟩) (L.length + 1) cap1)) p (.slice (some ⟨g1, 0, none⟩) (L.length + 1) cap1) (l ++ (numL n K).take (K - 2)) B ∧ Wr p w v (w5.setCell ⟨p, 0, none⟩ (.slice (some ⟨g1, 0, none⟩) (L.length + 1) cap1)) (.slice (some ⟨g1, 0, none⟩) (L.length + 1) cap1)) := by
              have e := HW.out.byte (((Below.refl _ wr).alloc (Nat.le_refl _) _).drew) (n / 256 ^ 2 % 256) (by simpa using o5) r5 (p5.imp id (fun e => by simp at e; omega))
              rw [HX.out, ← List.append_assoc, ← HL.out]
              exact ⟨e.1, HG.out.trans e.2⟩
            clear o5 r5 p5 q5 c5 f5 hne HA HAd HX
            go_wp2
            go_roundw
            all_goals first
              | exact ⟨2, _, by omega, .inr (.inr (.inl ⟨rfl, rfl⟩)), HH5.out.1, HH5.out.2⟩
              | (simp [RowKit.intOf])

end Go.Proofs.YtljbhdldfffpfaaGreat
