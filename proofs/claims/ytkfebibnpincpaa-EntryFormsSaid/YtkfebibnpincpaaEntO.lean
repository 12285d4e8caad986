/- The writer: open units, and their list. -/
import Derived.Test.YtkfebibnpincpaaEntS
namespace Go.Proofs.Ytkfebibnpincpaa
open Go.RowKit

/-- An open unit's cells, with the slice of its moves. -/
def opV (o : Opn × Value) : List Value := [.int .i64 o.1.1, o.2, .int .i64 o.1.2.1]
def opL1 (o : Opn × Value) : List Int := opL o.1
def opB1 (o : Opn × Value) : Bool := opB o.1
def opI1 (o : Opn) : Prop := I64 o.1 ∧ I64 o.2.1 ∧ ∀ m ∈ o.2.2, mvI m
def opI (o : Opn × Value) : Prop := opI1 o.1
theorem lstL_len {α : Type} (f : α → List Int) {n : Nat} (hf : ∀ x, (f x).length ≤ n) (xs : List α) : (lstL f xs).length ≤ n * 40 + 1 := by
  unfold lstL
  split
  · rename_i h
    have := flat_pre f hf xs xs.length h
    rw [List.take_length] at this
    rw [List.length_append, numL_len]
    omega
  · simp
theorem opL_len (o : Opn) : (opL o).length ≤ 164 := by
  unfold opL
  have := lstL_len mvL (n := 4) (fun x => by rw [mvL_len]; exact Nat.le_refl _) o.2.2
  rw [List.length_append, List.length_append, numL_len, numL_len]
  omega

set_option maxRecDepth 100000 in
set_option maxHeartbeats 400000 in
theorem open_any {w0 w : World} {p : Nat} {v sv : Value} {l : List Int} {bad : Bool} (h : WS w p v l bad) (hb : Below p w0 w) (hB : w0.heap.size ≤ p) (o : Opn) (ho : opI1 o) (hs : Els w0 sv 4 (o.2.2.map mvV)) (hl : l.length ≤ 79000) :
    Calls Try.prog 74 #[.pointer (some ⟨p, 0, none⟩), .agg #[.int .i64 o.1, sv, .int .i64 o.2.1]] w (WPost p w v (l ++ opL o) (bad || !opB o)) := by
  obtain ⟨a, b, ms⟩ := o
  obtain ⟨ia, ib, im⟩ := ho
  simp only at ia ib im hs ⊢
  have HS := Lib.hid hs
  obtain ⟨A, cap, rfl, q1, q2, q3⟩ := hs
  rw [List.length_map] at q1 HS ⊢
  have HH0 := Lib.hid h
  have HB := Lib.hid hb
  have HI := Lib.hid im
  have H0 : Hd w p v w.heap.size (.cells #[.int .i64 a, .slice A ms.length cap, .int .i64 b] 50) (w.alloc (.cells #[.int .i64 a, .slice A ms.length cap, .int .i64 b] 50)) v l bad := Hd.init h _
  have HH := Lib.hid H0
  clear h H0 hb im q2 q3
  go_enter Try.func74, Try.ntmps74
  go_wp2_with fail
  refine (number_2 HH.out.ws a ia.1 ia.2 (by omega)).mono ?_
  rintro e w1 ⟨rfl, v1, h1, g1⟩
  have H1 := HH.out.step h1 g1
  have k2 := H1.c 2
  have HH1 := Lib.hid H1
  clear H1 h1 g1
  go_wp2_with fail
  refine (number_1 HH1.out.ws b ib.1 ib.2 (by simp [numL_len]; omega)).mono ?_
  rintro e w2 ⟨rfl, v2, h2, g2⟩
  have H2 := HH1.out.step h2 g2
  have k1 := H2.c 1
  have HH2 := Lib.hid H2
  clear H2 h2 g2 k2
  go_wp2_with fail
  refine (wmoves_any HH2.out.ws (HB.out.trans (HH2.out.wr.below HH0.out)) hB HS.out HI.out (by simp [numL_len]; omega)).mono ?_
  rintro e w3 ⟨rfl, v3, h3, g3⟩
  have HH3 := Lib.hid (HH2.out.step h3 g3)
  clear k1 h3 g3
  go_wp2
  go_end0
  exact HH3.out.post (by simp [opL]) (by rw [or_not2, or_not2]; simp [opB, Bool.and_assoc])

set_option maxRecDepth 100000 in
set_option maxHeartbeats 1000000 in
theorem wopen_any {w0 w : World} {p : Nat} {v sv : Value} {l : List Int} {bad : Bool} {ms : List (Opn × Value)} (h : WS w p v l bad) (hb : Below p w0 w) (hB : w0.heap.size ≤ p) (hs : Els w0 sv 3 (ms.map opV) ∧ ∀ o ∈ ms, Els w0 o.2 4 (o.1.2.2.map mvV)) (hi : ∀ m ∈ ms, opI m) (hl : l.length ≤ 70000) :
    Calls Try.prog 73 #[.pointer (some ⟨p, 0, none⟩), sv, .func (.func 74) #[] #[]] w (WPost p w v (l ++ lstL opL1 ms) (bad || !lstB opB1 ms)) := by
  have HS := Lib.hid hs
  have HH := Lib.hid h
  have HB := Lib.hid hb
  have HI := Lib.hid hi
  obtain ⟨A, cap, rfl, q1, q2, q3⟩ := hs.1
  rw [List.length_map] at q1 HS ⊢
  clear h hb q2 q3 hi
  by_cases h40 : ms.length ≤ 40
  · have hd : decide ((ms.length : Int) ≤ 40) = true := decide_eq_true (by omega)
    have HF := Lib.hid (lst_few opL1 opB1 h40)
    go_enter Try.func73, Try.ntmps73
    go_wp2_with fail
    refine (need_any HH.out _).mono ?_
    rintro e w1 ⟨rfl, h1, g1⟩
    have h1' : WS w1 p v l bad := by simpa using h1
    have H1 := Lib.hid h1'
    have G1 := Lib.hid g1
    clear h1 h1' g1
    go_wp2_with fail
    refine (number_1 H1.out _ (by omega) (by omega) (by omega)).mono ?_
    rintro e w2 ⟨rfl, v2, h2, g2⟩
    have h2' : LRel w p v bad l ms opL1 opB1 (.int .i64 0) w2 := ⟨0, v2, Nat.zero_le _, rfl, by
      rw [fit_iff.2 (show 0 ≤ (ms.length : Int) ∧ (ms.length : Int) < 256 ^ 1 by omega)] at h2
      simpa using h2, G1.out.trans g2⟩
    have H2 := Lib.hid h2'
    clear h2 h2' g2 G1 H1
    go_wp2
    go_loopw [20] (fun i wr => LRel w p v bad l ms opL1 opB1 i wr) (fun i _ => ms.length - (intOf i).toNat)
    case atStart => exact H2.out
    case round =>
      obtain ⟨k, v3, hk, rfl, H3, G3⟩ := hrel
      have HW := Lib.hid H3
      have HG := Lib.hid G3
      clear H3 G3
      by_cases hlt : k < ms.length
      · have HB3 := Lib.hid (HB.out.trans (HG.out.below HH.out))
        obtain ⟨b, off, rfl, hbl, hc⟩ := (HS.out.1.below HB3.out hB).one (i := k) (by simpa using hlt)
        have hpl : (l ++ (numL ms.length 1 ++ (ms.take k).flatMap opL1)).length ≤ 79000 := by
          have := flat_pre opL1 (n := 164) (fun x => opL_len _) ms k h40
          rw [List.length_append, List.length_append, numL_len]
          omega
        have k0 : wr.cell? ⟨b, off + k * 3, none⟩ = some (.int .i64 ms[k].1.1) := by simpa [opV] using hc 0 (by omega)
        have k1 : wr.cell? ⟨b, off + k * 3 + 1, none⟩ = some (ms[k].2) := by simpa [opV] using hc 1 (by omega)
        have k2 : wr.cell? ⟨b, off + k * 3 + 2, none⟩ = some (.int .i64 ms[k].1.2.1) := by simpa [opV] using hc 2 (by omega)
        have hmm := HS.out.2 ms[k] (List.getElem_mem _)
        obtain ⟨A2, cap2, e2, z1, z2, z3⟩ := hmm
        rw [List.length_map] at e2
        rw [e2] at k1
        have HM : Hid (Els w0 (.slice A2 ms[k].1.2.2.length cap2) 4 (ms[k].1.2.2.map mvV)) := by
          have h := HS.out.2 ms[k] (List.getElem_mem _)
          rw [e2] at h
          exact h
        have HBa : Hid (∀ o, Below p w0 (wr.alloc o)) := fun o => HB3.out.trans ((Below.refl p wr).alloc (Nat.le_of_lt HW.out.lt) o)
        clear e2 z1 z2 z3
        clear hc
        go_wp2_with fail
        refine (open_any (HW.out.alloc _) (HBa.out _) hB ms[k].1 (HI.out _ (List.getElem_mem _)) HM.out (by omega)).mono ?_
        rintro e w4 ⟨rfl, v4, h4, g4⟩
        have h5 : LRel w p v bad l ms opL1 opB1 (.int .i64 (k + 1)) w4 := ⟨k + 1, v4, hlt, rfl, by
          rw [flat_snoc _ _ _ hlt, all_snoc _ _ _ hlt, ← or_not2, ← List.append_assoc (numL _ _), ← List.append_assoc l]
          exact h4, (HG.out.trans (Wr.alloc p wr v3 _)).trans g4⟩
        have H5 := Lib.hid h5
        clear h4 g4 h5 k0 k1 k2
        go_wp2
        go_roundw
        all_goals first
          | exact H5.out
          | (simp [intOf]; omega)
      · obtain rfl : k = ms.length := by omega
        go_wp2
        go_end0
        rw [HF.out.1, HF.out.2]
        have := HW.out
        rw [List.take_length] at this
        exact ⟨rfl, v3, this, HG.out⟩
  · have hd : decide ((ms.length : Int) ≤ 40) = false := decide_eq_false (by omega)
    have HF := Lib.hid (lst_many opL1 opB1 h40)
    clear h40
    go_enter Try.func73, Try.ntmps73
    go_wp2_with fail
    refine (need_any HH.out _).mono ?_
    rintro e w1 ⟨rfl, h1, g1⟩
    have H1 := Lib.hid h1
    have G1 := Lib.hid g1
    clear h1 g1
    go_wp2
    go_end0
    rw [HF.out.1, HF.out.2, List.append_nil]
    exact ⟨rfl, v, H1.out, G1.out⟩

end Go.Proofs.Ytkfebibnpincpaa
