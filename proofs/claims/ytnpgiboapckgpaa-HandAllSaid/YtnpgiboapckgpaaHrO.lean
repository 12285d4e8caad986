/- The reference's cache: Get, Pin, Drop, Keys, New. -/
import Derived.Test.YtnpgiboapckgpaaHrB
namespace Go.Proofs.Ytnpgiboapckgpaa
open Go.RowKit

set_option maxHeartbeats 1000000 in
theorem rget_any (w : World) {p g : Nat} {s s' : St} {k : Int} {e0 : Ending} (hh : RA w p g s) (hr : GetR s k s' e0) :
    Calls Try.prog 15 #[.pointer (some ⟨p, 0, none⟩), .int .i64 k] w fun e w' => e = e0 ∧ RA w' p g s' ∧ Fr w.heap.size (Two p g) w w' := by
  have HH := Lib.hid hh
  have h0 := hh.c0
  cases hr with
  | none hf =>
    have HF := Lib.hid hf
    clear hh hf
    go_enter Try.func15, Try.ntmps15
    go_wp2_with (first | (go_at_call 28; refine (rfind_any _ HH.out HF.out).mono ?_; rintro e w1 ⟨rfl, hw1⟩; obtain rfl := hw1.symm; clear hw1; rw [num_none]))
    go_ret2
    exact ⟨rfl, HH.out, Fr.refl _ _ _⟩
  | hit i hf hi =>
    have HF := Lib.hid hf
    have HI := Lib.hid hi
    have hn := hh.ln
    have hi1 : (i : Int) < (s.n : Int) := by omega
    have c3 := hh.cell hi (j := 3) (by omega)
    rw [show (s.P i).r[3]? = some (.bool (s.P i).b) from rfl] at c3
    have f3 := hh.froz (i * 5 + 3)
    have h2 := hh.set hi (j := 3) (by omega) (.bool true) { s.P i with b := true } rfl
    have c1 := h2.cell (i := i) hi (j := 1) (by omega)
    simp only [up_same] at c1
    rw [show (Pl.r { s.P i with b := true })[1]? = some (.string (s.P i).v) from rfl] at c1
    have h02 := h2.c0
    have H2 := Lib.hid h2
    have HFR := Lib.hid ((Fr.refl w.heap.size (Two p g) w).setCell (p := ⟨g, i * 5 + 3, none⟩) (Or.inl (Or.inr rfl)) (.bool true))
    clear hh hf hi h2
    go_enter Try.func15, Try.ntmps15
    go_wp2_with (first | (go_at_call 28; refine (rfind_any _ HH.out HF.out).mono ?_; rintro e w1 ⟨rfl, hw1⟩; obtain rfl := hw1.symm; clear hw1; rw [num_some HI.out]))
    go_ret2
    exact ⟨rfl, H2.out, HFR.out⟩
set_option maxHeartbeats 1000000 in
theorem rpin_any (w : World) {p g : Nat} {s s' : St} {k : Int} {b : Bool} (hh : RA w p g s) (hr : PinR s k s' b) :
    Calls Try.prog 17 #[.pointer (some ⟨p, 0, none⟩), .int .i64 k, .int .i64 (1)] w fun e w' => e = .returned (.bool b) ∧ RA w' p g s' ∧ Fr w.heap.size (Two p g) w w' := by
  have HH := Lib.hid hh
  have h0 := hh.c0
  cases hr with
  | none hf =>
    have HF := Lib.hid hf
    clear hh hf
    go_enter Try.func17, Try.ntmps17
    go_wp2_with (first | (go_at_call 28; refine (rfind_any _ HH.out HF.out).mono ?_; rintro e w1 ⟨rfl, hw1⟩; obtain rfl := hw1.symm; clear hw1; rw [num_none]))
    go_ret
    exact ⟨rfl, HH.out, Fr.refl _ _ _⟩
  | hit i hf hi hn =>
    have HF := Lib.hid hf
    have HI := Lib.hid hi
    have hnn := hh.ln
    have hi1 : (i : Int) < (s.n : Int) := by omega
    have c4 := hh.cell hi (j := 4) (by omega)
    rw [show (s.P i).r[4]? = some (.int .i64 ((s.P i).n : Int)) from rfl] at c4
    have f4 := hh.froz (i * 5 + 4)
    have h2 := hh.set hi (j := 4) (by omega) (.int .i64 (((s.P i).n : Int) + 1)) { s.P i with n := (s.P i).n + 1 } rfl
    have hq : ¬ ((s.P i).n : Int) + 1 < 0 := by omega
    have H2 := Lib.hid h2
    have HFR := Lib.hid ((Fr.refl w.heap.size (Two p g) w).setCell (p := ⟨g, i * 5 + 4, none⟩) (Or.inl (Or.inr rfl)) (.int .i64 (((s.P i).n : Int) + 1)))
    clear hh hf hi h2
    go_enter Try.func17, Try.ntmps17
    go_wp2_with (first | (go_at_call 28; refine (rfind_any _ HH.out HF.out).mono ?_; rintro e w1 ⟨rfl, hw1⟩; obtain rfl := hw1.symm; clear hw1; rw [num_some HI.out]))
    go_region
    go_wp2_with fail
    go_ret
    exact ⟨rfl, H2.out.drewN 1, HFR.out.drew⟩
set_option maxHeartbeats 1000000 in
theorem runpin_any (w : World) {p g : Nat} {s s' : St} {k : Int} {b : Bool} (hh : RA w p g s) (hr : UnpinR s k s' b) :
    Calls Try.prog 17 #[.pointer (some ⟨p, 0, none⟩), .int .i64 k, .int .i64 (-1)] w fun e w' => e = .returned (.bool b) ∧ RA w' p g s' ∧ Fr w.heap.size (Two p g) w w' := by
  have HH := Lib.hid hh
  have h0 := hh.c0
  cases hr with
  | none hf =>
    have HF := Lib.hid hf
    clear hh hf
    go_enter Try.func17, Try.ntmps17
    go_wp2_with (first | (go_at_call 28; refine (rfind_any _ HH.out HF.out).mono ?_; rintro e w1 ⟨rfl, hw1⟩; obtain rfl := hw1.symm; clear hw1; rw [num_none]))
    go_ret
    exact ⟨rfl, HH.out, Fr.refl _ _ _⟩
  | hit i hf hi h0n hn =>
    have HF := Lib.hid hf
    have HI := Lib.hid hi
    have hnn := hh.ln
    have hi1 : (i : Int) < (s.n : Int) := by omega
    have c4 := hh.cell hi (j := 4) (by omega)
    rw [show (s.P i).r[4]? = some (.int .i64 ((s.P i).n : Int)) from rfl] at c4
    have f4 := hh.froz (i * 5 + 4)
    have h2 := hh.set hi (j := 4) (by omega) (.int .i64 (((s.P i).n : Int) + -1)) { s.P i with n := (s.P i).n - 1 } (by simp only [Pl.r, show (((s.P i).n - 1 : Nat) : Int) = ((s.P i).n : Int) + -1 by omega]; rfl)
    have hq : ¬ ((s.P i).n : Int) + -1 < 0 := by omega
    have H2 := Lib.hid h2
    have HFR := Lib.hid ((Fr.refl w.heap.size (Two p g) w).setCell (p := ⟨g, i * 5 + 4, none⟩) (Or.inl (Or.inr rfl)) (.int .i64 (((s.P i).n : Int) + -1)))
    clear hh hf hi h2
    go_enter Try.func17, Try.ntmps17
    go_wp2_with (first | (go_at_call 28; refine (rfind_any _ HH.out HF.out).mono ?_; rintro e w1 ⟨rfl, hw1⟩; obtain rfl := hw1.symm; clear hw1; rw [num_some HI.out]))
    go_region
    go_wp2_with fail
    go_ret
    exact ⟨rfl, H2.out.drewN 1, HFR.out.drew⟩
  | no i hf hi hz =>
    have HF := Lib.hid hf
    have HI := Lib.hid hi
    have hnn := hh.ln
    have hi1 : (i : Int) < (s.n : Int) := by omega
    have c4 := hh.cell hi (j := 4) (by omega)
    rw [show (s.P i).r[4]? = some (.int .i64 ((s.P i).n : Int)) from rfl, hz] at c4
    clear hh hf hi hz
    go_enter Try.func17, Try.ntmps17
    go_wp2_with (first | (go_at_call 28; refine (rfind_any _ HH.out HF.out).mono ?_; rintro e w1 ⟨rfl, hw1⟩; obtain rfl := hw1.symm; clear hw1; rw [num_some HI.out]))
    go_ret
    exact ⟨rfl, HH.out, Fr.refl _ _ _⟩
set_option maxHeartbeats 1000000 in
theorem rdrop_any (w : World) {p g : Nat} {s s' : St} {k : Int} {b : Bool} (hh : RA w p g s) (hr : DropR s k s' b) :
    Calls Try.prog 20 #[.pointer (some ⟨p, 0, none⟩), .int .i64 k] w fun e w' => e = .returned (.bool b) ∧ RA w' p g s' ∧ Fr w.heap.size (Two p g) w w' := by
  have HH := Lib.hid hh
  have h0 := hh.c0
  cases hr with
  | none hf =>
    have HF := Lib.hid hf
    clear hh hf
    go_enter Try.func20, Try.ntmps20
    go_wp2_with (first | (go_at_call 28; refine (rfind_any _ HH.out HF.out).mono ?_; rintro e w1 ⟨rfl, hw1⟩; obtain rfl := hw1.symm; clear hw1; rw [num_none]))
    go_ret
    exact ⟨rfl, HH.out, Fr.refl _ _ _⟩
  | no i hf hi hz =>
    have HF := Lib.hid hf
    have HI := Lib.hid hi
    have hnn := hh.ln
    have hi1 : (i : Int) < (s.n : Int) := by omega
    have c4 := hh.cell hi (j := 4) (by omega)
    rw [show (s.P i).r[4]? = some (.int .i64 ((s.P i).n : Int)) from rfl] at c4
    have hq : (0 : Int) < ((s.P i).n : Int) := by omega
    clear hh hf hi hz
    go_enter Try.func20, Try.ntmps20
    go_wp2_with (first | (go_at_call 28; refine (rfind_any _ HH.out HF.out).mono ?_; rintro e w1 ⟨rfl, hw1⟩; obtain rfl := hw1.symm; clear hw1; rw [num_some HI.out]))
    go_ret
    exact ⟨rfl, HH.out, Fr.refl _ _ _⟩
  | hit i hf hi hz =>
    have HF := Lib.hid hf
    have HI := Lib.hid hi
    have hnn := hh.ln
    have hi1 : (i : Int) < (s.n : Int) := by omega
    have c4 := hh.cell hi (j := 4) (by omega)
    rw [show (s.P i).r[4]? = some (.int .i64 ((s.P i).n : Int)) from rfl, hz] at c4
    have HG := Lib.hid hh.hg
    have HI3 := Lib.hid (info_rplace Pl.zero)
    have HON3 := Lib.hid (rplace_one Pl.zero)
    have HLE : Hid (i * 5 + Pl.zero.r.size ≤ (rowR s.n s.P).size) := by
      have := HI.out
      rw [Pl.r_size, rowR_size]
      show i * 5 + 5 ≤ s.n * 5
      omega
    have H2 := Lib.hid (hh.put hi Pl.zero)
    have HFR := Lib.hid ((Fr.refl w.heap.size (Two p g) w).setRow (b := g) (Or.inl (Or.inr rfl)) (putRow (rowR s.n s.P) (i * 5) Pl.zero.r.toList))
    clear hh hf hi hz
    go_enter Try.func20, Try.ntmps20
    go_wp2_with (first | (go_at_call 28; refine (rfind_any _ HH.out HF.out).mono ?_; rintro e w1 ⟨rfl, hw1⟩; obtain rfl := hw1.symm; clear hw1; rw [num_some HI.out]) | (with_reducible refine wpList_store_at rfl 60 (.tmp 28) (.tmp 27) rfl g (i * 5) Pl.zero.r rfl rfl 60 _ HG.out HI3.out HLE.out HON3.out ?_))
    go_ret
    exact ⟨rfl, H2.out, HFR.out⟩

set_option maxRecDepth 100000 in
set_option maxHeartbeats 2000000 in
theorem rkeys_any (w : World) {p g : Nat} {s : St} (hh : RA w p g s) : Calls Try.prog 22 #[.pointer (some ⟨p, 0, none⟩)] w fun e w' => ∃ v, e = .returned v ∧ w'.ownsRow w.heap.size 3 1 v (keysTo s.P s.n).length (intV (keysTo s.P s.n)) ∧ Below w.heap.size w w' := by
  obtain ⟨ii, hi, hz0, hz1, hz2⟩ := info_parts infoI64
  have HH := Lib.hid hh
  have hN := hh.ln
  clear hh
  go_enter Try.func22, Try.ntmps22
  go_wp2_with fail
  go_loopw [3, 4] (fun sv iv wr => ∃ i : Nat, i ≤ s.n ∧ iv = .int .i64 (i : Int) ∧ wr.ownsRow w.heap.size 3 1 sv (keysTo s.P i).length (intV (keysTo s.P i)) ∧ Below w.heap.size w wr) (fun sv iv _ => s.n - lvN iv)
  case atStart => exact ⟨0, Nat.zero_le _, rfl, World.ownsRow_nil _ _ _ _, Below.refl _ _⟩
  case round =>
    obtain ⟨i, hi', rfl, ho, hb⟩ := hrel
    have h1 := HH.out.on hb
    have h0 := h1.c0
    have HB := Lib.hid hb
    have hz := hb.size
    have HO := Lib.hid ho
    clear ho hb
    by_cases hlt : i < s.n
    · have c2 := h1.cell hlt (j := 2) (by omega)
      rw [show (s.P i).r[2]? = some (.bool (s.P i).u) from rfl] at c2
      have c0 := h1.cell hlt (j := 0) (by omega)
      rw [Nat.add_zero, show (s.P i).r[0]? = some (.int .i64 (s.P i).k) from rfl] at c0
      clear h1
      cases hu : (s.P i).u with
      | false =>
        rw [hu] at c2
        have E1 : Hid (keysTo s.P (i + 1) = keysTo s.P i) := by
          show (if (s.P i).u = true then _ else _) = _
          rw [hu]; rfl
        clear hu c0
        go_wp2
        exact ⟨⟨i + 1, by omega, by go_num, by rw [E1.out]; exact HO.out, HB.out⟩, by simp [lvN]; omega⟩
      | true =>
        rw [hu] at c2
        have E1 : Hid (keysTo s.P (i + 1) = keysTo s.P i ++ [(s.P i).k]) := by
          show (if (s.P i).u = true then _ else _) = _
          rw [hu]; rfl
        have hL := keysTo_len s.P i
        clear hu
        generalize (s.P i).k = kk at *
        go_wp2_with (at_builtin; refine wpList_append_own _ rfl _ _ 38 rfl w.heap.size 3 ii (.int .i64 0) 1 8 Try.underlying38 hi hz0 hz1 hz2 rfl (by decide) _ _ _ rfl (HO.out.alloc _) ⟨wr.heap.size, 0, none⟩ 1 1 [.int .i64 kk] rfl ?c2 ?c3 ?c4 ?c5 ?c6 ?c7 ?_)
        · rfl
        · exact news_one wr kk
        · intro u hu; obtain rfl := List.mem_singleton.1 hu; rfl
        · unfold maxLen; omega
        · omega
        · simp only [heapSize_alloc]; omega
        intro v' w3 hown hgrow _
        have hb3 : Below w.heap.size w w3 := (HB.out.alloc hz _).grown hgrow (by simp; omega) (fun k hk => (HO.out.lt k hk).1)
        have e2 : intV (keysTo s.P i) ++ [Value.int .i64 kk] = intV (keysTo s.P (i + 1)) := by rw [E1.out]; simp [intV]
        have e3 : (keysTo s.P i).length + 1 = (keysTo s.P (i + 1)).length := by rw [E1.out]; simp
        rw [e2, e3] at hown
        have HW := Lib.hid hown
        clear e2 e3 hown hgrow
        go_wp2
        go_roundw
        case rel => exact ⟨i + 1, by omega, by go_num, HW.out, hb3⟩
        case measure => simp [lvN]; omega
    · obtain rfl : i = s.n := by omega
      clear h1
      go_wp2
      go_ret
      exact ⟨_, rfl, HO.out, HB.out⟩
theorem infoRp : (Try.prog.info? 60).map (fun i => (i.zero, i.size, i.bytes)) = some (some (.agg #[.int .i64 0, .string ⟨#[]⟩, .bool false, .bool false, .int .i64 0]), 5, 40) := by kernel_rfl
theorem made_rplaces (n : Nat) : madeCells (Value.agg #[.int .i64 0, .string ⟨#[]⟩, .bool false, .bool false, .int .i64 0]).cells (n * 5) = rowR n fun _ => Pl.zero := by
  show _ = rowV n 5 fun _ => Pl.zero.r
  refine rowV_ext (n := n) (k := 5) (V := fun _ => Pl.zero.r) (fun _ => rfl) (by decide) (by rw [size_madeCells]) fun i j hi hj => ?_
  have h : i * 5 + j < n * 5 := by omega
  have e : (i * 5 + j) % 5 = j := by omega
  unfold madeCells
  rw [Array.getElem?_map, Array.getElem?_range, if_pos h]
  show some ((Value.agg #[.int .i64 0, .string ⟨#[]⟩, .bool false, .bool false, .int .i64 0]).cells[(i * 5 + j) % 5]!) = _
  rw [e]
  match j, hj with
  | 0, _ => rfl
  | 1, _ => rfl
  | 2, _ => rfl
  | 3, _ => rfl
  | 4, _ => rfl
theorem make_rplaces (w : World) (n : Nat) (hn : n ≤ 64) : (Instr.makeSlice 50 (.int .i64 (n : Int)) (.int .i64 (n : Int))).run Try.prog w = .ok (.slice (some ⟨w.heap.size, 0, none⟩) n n) (w.alloc (.cells (rowR n fun _ => Pl.zero) 60)) := by
  obtain ⟨i, hi, hz, h1, h2⟩ := info_parts infoRp
  have h := run_make (P := Try.prog) w 50 60 i _ Try.underlying50 hi hz .i64 .i64 (n : Int) (n : Int) (by omega) (by omega) (by rw [h2]; omega) (by omega)
  rw [h1, Int.toNat_natCast, made_rplaces] at h
  exact h

set_option maxHeartbeats 1000000 in
theorem rnew_at (w : World) (n : Int) (m : Nat) (h1 : 1 ≤ m) (h64 : m ≤ 64) (hm : (m : Int) = min (max n 1) 64) : Calls Try.prog 11 #[.int .i64 n] w fun e w' => e = .returned (.pointer (some ⟨w.heap.size + 1, 0, none⟩)) ∧ RA w' (w.heap.size + 1) w.heap.size (newS m) ∧ Below w.heap.size w w' := by
  have hmk := fun w => make_rplaces w m h64
  have HB : Hid (∀ (w : World), RA ((w.alloc (.cells (rowR m fun _ => Pl.zero) 60)).alloc (.cells #[.slice (some ⟨w.heap.size, 0, none⟩) m m, .int .i64 0] 52)) (w.heap.size + 1) w.heap.size (newS m)) := by
    intro w
    refine ⟨?_, ?_, by omega, h1, h64⟩
    · rw [← heapSize_alloc w (.cells (rowR m fun _ => Pl.zero) 60), heap_alloc_new]; rfl
    · rw [Below.heap_alloc _ _ _ (by simp), heap_alloc_new]; rfl
  by_cases c1 : n < 1
  · obtain rfl : m = 1 := by omega
    have c1' : ¬ 1 ≤ n := by omega
    have hmk1 : ∀ w, (Instr.makeSlice 50 (.int .i64 1) (.int .i64 1)).run Try.prog w = .ok (.slice (some ⟨w.heap.size, 0, none⟩) 1 1) (w.alloc (.cells (rowR 1 fun _ => Pl.zero) 60)) := hmk
    clear hm h1 h64 c1 hmk
    go_enter Try.func11, Try.ntmps11
    go_wp2_with fail
    go_ret
    exact ⟨rfl, HB.out w, ((Below.refl _ _).alloc (Nat.le_refl _) _).alloc (by simp) _⟩
  · by_cases c2 : 64 < n
    · obtain rfl : m = 64 := by omega
      have c1' : 1 ≤ n := by omega
      have hmk1 : ∀ w, (Instr.makeSlice 50 (.int .i64 64) (.int .i64 64)).run Try.prog w = .ok (.slice (some ⟨w.heap.size, 0, none⟩) 64 64) (w.alloc (.cells (rowR 64 fun _ => Pl.zero) 60)) := by
        intro w
        have h := hmk w
        rw [show ((64 : Nat) : Int) = 64 from rfl] at h
        exact h
      clear hm h1 h64 c1 hmk
      go_enter Try.func11, Try.ntmps11
      go_wp2_with fail
      go_ret
      exact ⟨rfl, HB.out w, ((Below.refl _ _).alloc (Nat.le_refl _) _).alloc (by simp) _⟩
    · obtain rfl : n = (m : Int) := by omega
      have c1' : (1 : Int) ≤ (m : Int) := by omega
      have c2' : (m : Int) ≤ 64 := by omega
      clear hm h1 h64 c1 c2
      go_enter Try.func11, Try.ntmps11
      go_wp2_with fail
      go_ret
      exact ⟨rfl, HB.out w, ((Below.refl _ _).alloc (Nat.le_refl _) _).alloc (by simp) _⟩
theorem rnew_any (w : World) (n : Int) : Calls Try.prog 11 #[.int .i64 n] w fun e w' => e = .returned (.pointer (some ⟨w.heap.size + 1, 0, none⟩)) ∧ RA w' (w.heap.size + 1) w.heap.size (newS (roomOf n)) ∧ Below w.heap.size w w' :=
  rnew_at w n (roomOf n) (by unfold roomOf; omega) (by unfold roomOf; omega) (by unfold roomOf; omega)
end Go.Proofs.Ytnpgiboapckgpaa
