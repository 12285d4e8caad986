/- PoolNone, a part. -/
import Derived.Test.YtljbhdldfffpfaaGreatQn8
namespace Go.Proofs.YtljbhdldfffpfaaGreat
open Go.RowKit

/-- A slice of elements of k cells each. -/
def Els (w : World) (sv : Value) (k : Nat) (xs : List (List Value)) : Prop := ∃ A cap, sv = .slice A xs.length cap ∧ xs.length ≤ cap ∧ (A = none → xs = []) ∧ ∀ a, A = some a → xs ≠ [] →
  a.spot = none ∧ a.block < w.heap.size ∧ ∀ i j, i < xs.length → j < k → w.cell? ⟨a.block, a.off + i * k + j, none⟩ = (xs[i]?.bind fun c => c[j]?)

theorem Els.below {B k : Nat} {w w' : World} {v : Value} {xs : List (List Value)} (h : Els w v k xs) (hb : Below B w w') (hB : w.heap.size ≤ B) : Els w' v k xs := by
  obtain ⟨A, cap, rfl, h1, h2, h3⟩ := h
  refine ⟨A, cap, rfl, h1, h2, fun a ha hne => ?_⟩
  obtain ⟨h5, h6, h7⟩ := h3 a ha hne
  refine ⟨h5, Nat.lt_of_lt_of_le h6 hb.size, fun i j hi hj => ?_⟩
  rw [← h7 i j hi hj]
  exact World.cell?_of_block (hb.block a.block (by omega))

/-- One element's cells. -/
theorem Els.one {w : World} {A : Option Addr} {n cap k : Nat} {xs : List (List Value)} (h : Els w (.slice A n cap) k xs) {i : Nat} (hi : i < xs.length) : ∃ b off, A = some ⟨b, off, none⟩ ∧ b < w.heap.size ∧ ∀ j, j < k → w.cell? ⟨b, off + i * k + j, none⟩ = xs[i][j]? := by
  obtain ⟨A', cap', e, h1, h2, h3⟩ := h
  cases e
  have hne : xs ≠ [] := fun e => by rw [e] at hi; cases hi
  cases A with
  | none => exact absurd (h2 rfl) hne
  | some a =>
    obtain ⟨h5, h6, h7⟩ := h3 a rfl hne
    obtain ⟨b, off, sp⟩ := a
    cases h5
    refine ⟨b, off, rfl, h6, fun j hj => ?_⟩
    rw [h7 i j hi hj, List.getElem?_eq_getElem hi]
    rfl

/-- The state at the head of a round of a list. -/
def LRel {α : Type} (w : World) (p : Nat) (v : Value) (bad : Bool) (l : List Int) (xs : List α) (f : α → List Int) (g : α → Bool) (i : Value) (wr : World) : Prop :=
  ∃ (k : Nat) (v' : Value), k ≤ xs.length ∧ i = .int .i64 k ∧ WS wr p v' (l ++ (numL xs.length 1 ++ (xs.take k).flatMap f)) (bad || !(xs.take k).all g) ∧ Wr p w v wr v'

theorem flat_snoc {α : Type} (f : α → List Int) (xs : List α) (k : Nat) (h : k < xs.length) : (xs.take (k + 1)).flatMap f = (xs.take k).flatMap f ++ f xs[k] := by
  rw [List.take_succ_eq_append_getElem h, List.flatMap_append, List.flatMap_singleton]
theorem all_snoc {α : Type} (g : α → Bool) (xs : List α) (k : Nat) (h : k < xs.length) : (xs.take (k + 1)).all g = ((xs.take k).all g && g xs[k]) := by
  rw [List.take_succ_eq_append_getElem h, List.all_append]; simp
theorem flat_len {α : Type} (f : α → List Int) {n : Nat} (hf : ∀ x, (f x).length ≤ n) (xs : List α) : (xs.flatMap f).length ≤ n * xs.length := by
  induction xs with
  | nil => simp
  | cons a t ih =>
    have := hf a
    rw [List.flatMap_cons, List.length_append, List.length_cons, Nat.mul_succ]
    omega
theorem flat_pre {α : Type} (f : α → List Int) {n : Nat} (hf : ∀ x, (f x).length ≤ n) (xs : List α) (k : Nat) (h : xs.length ≤ 40) : ((xs.take k).flatMap f).length ≤ n * 40 := by
  refine Nat.le_trans (flat_len f hf _) (Nat.mul_le_mul_left _ ?_)
  rw [List.length_take]; omega

/-- Too many: the list is not begun. -/
theorem lst_many {α : Type} (f : α → List Int) (g : α → Bool) {xs : List α} (h : ¬ xs.length ≤ 40) : lstL f xs = [] ∧ lstB g xs = false := by
  refine ⟨by unfold lstL; rw [if_neg h], by unfold lstB; rw [decide_eq_false h]; rfl⟩
theorem lst_few {α : Type} (f : α → List Int) (g : α → Bool) {xs : List α} (h : xs.length ≤ 40) : lstL f xs = numL xs.length 1 ++ xs.flatMap f ∧ lstB g xs = xs.all g := by
  refine ⟨by unfold lstL; rw [if_pos h], by unfold lstB; rw [decide_eq_true h]; rfl⟩

set_option maxRecDepth 100000 in
set_option maxHeartbeats 1000000 in
theorem wmoves_any {w0 w : World} {p : Nat} {v sv : Value} {l : List Int} {bad : Bool} {ms : List Mv} (h : WS w p v l bad) (hb : Below p w0 w) (hB : w0.heap.size ≤ p) (hs : Els w0 sv 4 (ms.map mvV)) (hi : ∀ m ∈ ms, mvI m) (hl : l.length ≤ 80000) :
    Calls Tryz.prog 135 #[.pointer (some ⟨p, 0, none⟩), sv, .func (.func 136) #[] #[]] w (WPost p w v (l ++ lstL mvL ms) (bad || !lstB mvB ms)) := by
  have HS := Lib.hid hs
  have HH := Lib.hid h
  have HB := Lib.hid hb
  have HI := Lib.hid hi
  obtain ⟨A, cap, rfl, q1, q2, q3⟩ := hs
  rw [List.length_map] at q1 HS ⊢
  clear h hb q2 q3 hi
  by_cases h40 : ms.length ≤ 40
  · have hd : decide ((ms.length : Int) ≤ 40) = true := decide_eq_true (by omega)
    have HF := Lib.hid (lst_few mvL mvB h40)
    go_enter Tryz.func135, Tryz.ntmps135
    go_wp2_with fail
    refine (need_any HH.out _).mono ?_
    rintro e w1 ⟨rfl, h1, g1⟩
    have h1' : WS w1 p v l bad := by simpa using h1
    have H1 := Lib.hid h1'
    have G1 := Lib.hid g1
    clear h1 h1' g1
    go_wp2_with fail
    refine (number_1 H1.out _ (by omega) (by omega) (by omega)).mono ?_
    rintro e w2 ⟨rfl, v2, h2, g2⟩
    have h2' : LRel w p v bad l ms mvL mvB (.int .i64 0) w2 := ⟨0, v2, Nat.zero_le _, rfl, by
      rw [fit_iff.2 (show 0 ≤ (ms.length : Int) ∧ (ms.length : Int) < 256 ^ 1 by omega)] at h2
      simpa using h2, G1.out.trans g2⟩
    have H2 := Lib.hid h2'
    clear h2 h2' g2 G1 H1
    go_wp2
    go_loopw [20] (fun i wr => LRel w p v bad l ms mvL mvB i wr) (fun i _ => ms.length - (RowKit.intOf i).toNat)
    case atStart => exact H2.out
    case round =>
      obtain ⟨k, v3, hk, rfl, H3, G3⟩ := hrel
      have HW := Lib.hid H3
      have HG := Lib.hid G3
      clear H3 G3
      by_cases hlt : k < ms.length
      · have HB3 := Lib.hid (HB.out.trans (HG.out.below HH.out))
        obtain ⟨b, off, rfl, hbl, hc⟩ := (HS.out.below HB3.out hB).one (i := k) (by simpa using hlt)
        have hpl : (l ++ (numL ms.length 1 ++ (ms.take k).flatMap mvL)).length ≤ 88000 := by
          have := flat_pre mvL (n := 4) (fun x => by rw [mvL_len]; exact Nat.le_refl _) ms k h40
          rw [List.length_append, List.length_append, numL_len]
          omega
        have k0 : wr.cell? ⟨b, off + k * 4, none⟩ = some (.int .i64 ms[k].1) := by simpa [mvV] using hc 0 (by omega)
        have k1 : wr.cell? ⟨b, off + k * 4 + 1, none⟩ = some (.int .i64 ms[k].2.1) := by simpa [mvV] using hc 1 (by omega)
        have k2 : wr.cell? ⟨b, off + k * 4 + 2, none⟩ = some (.int .i64 ms[k].2.2.1) := by simpa [mvV] using hc 2 (by omega)
        have k3 : wr.cell? ⟨b, off + k * 4 + 3, none⟩ = some (.int .i64 ms[k].2.2.2) := by simpa [mvV] using hc 3 (by omega)
        clear hc
        go_wp2_with fail
        refine (move_any (HW.out.alloc _) ms[k] (HI.out _ (List.getElem_mem _)) (by omega)).mono ?_
        rintro e w4 ⟨rfl, v4, h4, g4⟩
        have h5 : LRel w p v bad l ms mvL mvB (.int .i64 (k + 1)) w4 := ⟨k + 1, v4, hlt, rfl, by
          rw [flat_snoc _ _ _ hlt, all_snoc _ _ _ hlt, ← or_not2, ← List.append_assoc (numL _ _), ← List.append_assoc l]
          exact h4, (HG.out.trans (Wr.alloc p wr v3 _)).trans g4⟩
        have H5 := Lib.hid h5
        clear h4 g4 h5 k0 k1 k2 k3
        go_wp2
        go_roundw
        all_goals first
          | exact H5.out
          | (simp [RowKit.intOf]; omega)
      · obtain rfl : k = ms.length := by omega
        go_wp2
        go_end0
        rw [HF.out.1, HF.out.2]
        have := HW.out
        rw [List.take_length] at this
        exact ⟨rfl, v3, this, HG.out⟩
  · have hd : decide ((ms.length : Int) ≤ 40) = false := decide_eq_false (by omega)
    have HF := Lib.hid (lst_many mvL mvB h40)
    clear h40
    go_enter Tryz.func135, Tryz.ntmps135
    go_wp2_with fail
    refine (need_any HH.out _).mono ?_
    rintro e w1 ⟨rfl, h1, g1⟩
    have H1 := Lib.hid h1
    have G1 := Lib.hid g1
    clear h1 g1
    go_wp2
    go_end0
    rw [HF.out.1, HF.out.2, List.append_nil]
    exact ⟨rfl, v, H1.out, G1.out⟩

set_option maxRecDepth 100000 in
set_option maxHeartbeats 1000000 in
theorem wlives_any {w0 w : World} {p : Nat} {v sv : Value} {l : List Int} {bad : Bool} {ms : List Lv} (h : WS w p v l bad) (hb : Below p w0 w) (hB : w0.heap.size ≤ p) (hs : Els w0 sv 4 (ms.map lvV)) (hi : ∀ m ∈ ms, lvI m) (hl : l.length ≤ 80000) :
    Calls Tryz.prog 137 #[.pointer (some ⟨p, 0, none⟩), sv, .func (.func 138) #[] #[]] w (WPost p w v (l ++ lstL lvL ms) (bad || !lstB lvB ms)) := by
  have HS := Lib.hid hs
  have HH := Lib.hid h
  have HB := Lib.hid hb
  have HI := Lib.hid hi
  obtain ⟨A, cap, rfl, q1, q2, q3⟩ := hs
  rw [List.length_map] at q1 HS ⊢
  clear h hb q2 q3 hi
  by_cases h40 : ms.length ≤ 40
  · have hd : decide ((ms.length : Int) ≤ 40) = true := decide_eq_true (by omega)
    have HF := Lib.hid (lst_few lvL lvB h40)
    go_enter Tryz.func137, Tryz.ntmps137
    go_wp2_with fail
    refine (need_any HH.out _).mono ?_
    rintro e w1 ⟨rfl, h1, g1⟩
    have h1' : WS w1 p v l bad := by simpa using h1
    have H1 := Lib.hid h1'
    have G1 := Lib.hid g1
    clear h1 h1' g1
    go_wp2_with fail
    refine (number_1 H1.out _ (by omega) (by omega) (by omega)).mono ?_
    rintro e w2 ⟨rfl, v2, h2, g2⟩
    have h2' : LRel w p v bad l ms lvL lvB (.int .i64 0) w2 := ⟨0, v2, Nat.zero_le _, rfl, by
      rw [fit_iff.2 (show 0 ≤ (ms.length : Int) ∧ (ms.length : Int) < 256 ^ 1 by omega)] at h2
      simpa using h2, G1.out.trans g2⟩
    have H2 := Lib.hid h2'
    clear h2 h2' g2 G1 H1
    go_wp2
    go_loopw [20] (fun i wr => LRel w p v bad l ms lvL lvB i wr) (fun i _ => ms.length - (RowKit.intOf i).toNat)
    case atStart => exact H2.out
    case round =>
      obtain ⟨k, v3, hk, rfl, H3, G3⟩ := hrel
      have HW := Lib.hid H3
      have HG := Lib.hid G3
      clear H3 G3
      by_cases hlt : k < ms.length
      · have HB3 := Lib.hid (HB.out.trans (HG.out.below HH.out))
        obtain ⟨b, off, rfl, hbl, hc⟩ := (HS.out.below HB3.out hB).one (i := k) (by simpa using hlt)
        have hpl : (l ++ (numL ms.length 1 ++ (ms.take k).flatMap lvL)).length ≤ 88000 := by
          have := flat_pre lvL (n := 8) (fun x => by rw [lvL_len]; exact Nat.le_refl _) ms k h40
          rw [List.length_append, List.length_append, numL_len]
          omega
        have k0 : wr.cell? ⟨b, off + k * 4, none⟩ = some (.int .i64 ms[k].1) := by simpa [lvV] using hc 0 (by omega)
        have k1 : wr.cell? ⟨b, off + k * 4 + 1, none⟩ = some (.int .i64 ms[k].2.1) := by simpa [lvV] using hc 1 (by omega)
        have k2 : wr.cell? ⟨b, off + k * 4 + 2, none⟩ = some (.int .i64 ms[k].2.2.1) := by simpa [lvV] using hc 2 (by omega)
        have k3 : wr.cell? ⟨b, off + k * 4 + 3, none⟩ = some (.bool ms[k].2.2.2) := by simpa [lvV] using hc 3 (by omega)
        clear hc
        go_wp2_with fail
        refine (live_any (HW.out.alloc _) ms[k] (HI.out _ (List.getElem_mem _)) (by omega)).mono ?_
        rintro e w4 ⟨rfl, v4, h4, g4⟩
        have h5 : LRel w p v bad l ms lvL lvB (.int .i64 (k + 1)) w4 := ⟨k + 1, v4, hlt, rfl, by
          rw [flat_snoc _ _ _ hlt, all_snoc _ _ _ hlt, ← or_not2, ← List.append_assoc (numL _ _), ← List.append_assoc l]
          exact h4, (HG.out.trans (Wr.alloc p wr v3 _)).trans g4⟩
        have H5 := Lib.hid h5
        clear h4 g4 h5 k0 k1 k2 k3
        go_wp2
        go_roundw
        all_goals first
          | exact H5.out
          | (simp [RowKit.intOf]; omega)
      · obtain rfl : k = ms.length := by omega
        go_wp2
        go_end0
        rw [HF.out.1, HF.out.2]
        have := HW.out
        rw [List.take_length] at this
        exact ⟨rfl, v3, this, HG.out⟩
  · have hd : decide ((ms.length : Int) ≤ 40) = false := decide_eq_false (by omega)
    have HF := Lib.hid (lst_many lvL lvB h40)
    clear h40
    go_enter Tryz.func137, Tryz.ntmps137
    go_wp2_with fail
    refine (need_any HH.out _).mono ?_
    rintro e w1 ⟨rfl, h1, g1⟩
    have H1 := Lib.hid h1
    have G1 := Lib.hid g1
    clear h1 g1
    go_wp2
    go_end0
    rw [HF.out.1, HF.out.2, List.append_nil]
    exact ⟨rfl, v, H1.out, G1.out⟩

set_option maxRecDepth 100000 in
set_option maxHeartbeats 1000000 in
theorem wdirty_any {w0 w : World} {p : Nat} {v sv : Value} {l : List Int} {bad : Bool} {ms : List Dt} (h : WS w p v l bad) (hb : Below p w0 w) (hB : w0.heap.size ≤ p) (hs : Els w0 sv 2 (ms.map dtV)) (hi : ∀ m ∈ ms, dtI m) (hl : l.length ≤ 80000) :
    Calls Tryz.prog 139 #[.pointer (some ⟨p, 0, none⟩), sv, .func (.func 140) #[] #[]] w (WPost p w v (l ++ lstL dtL ms) (bad || !lstB dtB ms)) := by
  have HS := Lib.hid hs
  have HH := Lib.hid h
  have HB := Lib.hid hb
  have HI := Lib.hid hi
  obtain ⟨A, cap, rfl, q1, q2, q3⟩ := hs
  rw [List.length_map] at q1 HS ⊢
  clear h hb q2 q3 hi
  by_cases h40 : ms.length ≤ 40
  · have hd : decide ((ms.length : Int) ≤ 40) = true := decide_eq_true (by omega)
    have HF := Lib.hid (lst_few dtL dtB h40)
    go_enter Tryz.func139, Tryz.ntmps139
    go_wp2_with fail
    refine (need_any HH.out _).mono ?_
    rintro e w1 ⟨rfl, h1, g1⟩
    have h1' : WS w1 p v l bad := by simpa using h1
    have H1 := Lib.hid h1'
    have G1 := Lib.hid g1
    clear h1 h1' g1
    go_wp2_with fail
    refine (number_1 H1.out _ (by omega) (by omega) (by omega)).mono ?_
    rintro e w2 ⟨rfl, v2, h2, g2⟩
    have h2' : LRel w p v bad l ms dtL dtB (.int .i64 0) w2 := ⟨0, v2, Nat.zero_le _, rfl, by
      rw [fit_iff.2 (show 0 ≤ (ms.length : Int) ∧ (ms.length : Int) < 256 ^ 1 by omega)] at h2
      simpa using h2, G1.out.trans g2⟩
    have H2 := Lib.hid h2'
    clear h2 h2' g2 G1 H1
    go_wp2
    go_loopw [20] (fun i wr => LRel w p v bad l ms dtL dtB i wr) (fun i _ => ms.length - (RowKit.intOf i).toNat)
    case atStart => exact H2.out
    case round =>
      obtain ⟨k, v3, hk, rfl, H3, G3⟩ := hrel
      have HW := Lib.hid H3
      have HG := Lib.hid G3
      clear H3 G3
      by_cases hlt : k < ms.length
      · have HB3 := Lib.hid (HB.out.trans (HG.out.below HH.out))
        obtain ⟨b, off, rfl, hbl, hc⟩ := (HS.out.below HB3.out hB).one (i := k) (by simpa using hlt)
        have hpl : (l ++ (numL ms.length 1 ++ (ms.take k).flatMap dtL)).length ≤ 88000 := by
          have := flat_pre dtL (n := 4) (fun x => by rw [dtL_len]; exact Nat.le_refl _) ms k h40
          rw [List.length_append, List.length_append, numL_len]
          omega
        have k0 : wr.cell? ⟨b, off + k * 2, none⟩ = some (.int .i64 ms[k].1) := by simpa [dtV] using hc 0 (by omega)
        have k1 : wr.cell? ⟨b, off + k * 2 + 1, none⟩ = some (.int .i64 ms[k].2) := by simpa [dtV] using hc 1 (by omega)
        clear hc
        go_wp2_with fail
        refine (dirty_any (HW.out.alloc _) ms[k] (HI.out _ (List.getElem_mem _)) (by omega)).mono ?_
        rintro e w4 ⟨rfl, v4, h4, g4⟩
        have h5 : LRel w p v bad l ms dtL dtB (.int .i64 (k + 1)) w4 := ⟨k + 1, v4, hlt, rfl, by
          rw [flat_snoc _ _ _ hlt, all_snoc _ _ _ hlt, ← or_not2, ← List.append_assoc (numL _ _), ← List.append_assoc l]
          exact h4, (HG.out.trans (Wr.alloc p wr v3 _)).trans g4⟩
        have H5 := Lib.hid h5
        clear h4 g4 h5 k0 k1
        go_wp2
        go_roundw
        all_goals first
          | exact H5.out
          | (simp [RowKit.intOf]; omega)
      · obtain rfl : k = ms.length := by omega
        go_wp2
        go_end0
        rw [HF.out.1, HF.out.2]
        have := HW.out
        rw [List.take_length] at this
        exact ⟨rfl, v3, this, HG.out⟩
  · have hd : decide ((ms.length : Int) ≤ 40) = false := decide_eq_false (by omega)
    have HF := Lib.hid (lst_many dtL dtB h40)
    clear h40
    go_enter Tryz.func139, Tryz.ntmps139
    go_wp2_with fail
    refine (need_any HH.out _).mono ?_
    rintro e w1 ⟨rfl, h1, g1⟩
    have H1 := Lib.hid h1
    have G1 := Lib.hid g1
    clear h1 g1
    go_wp2
    go_end0
    rw [HF.out.1, HF.out.2, List.append_nil]
    exact ⟨rfl, v, H1.out, G1.out⟩

end Go.Proofs.YtljbhdldfffpfaaGreat
