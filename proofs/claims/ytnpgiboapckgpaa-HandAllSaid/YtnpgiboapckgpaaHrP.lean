/- The reference's cache: Put. -/
import Derived.Test.YtnpgiboapckgpaaHrO
import Derived.BigRegion
import Derived.StillTailTactics
namespace Go.Proofs.Ytnpgiboapckgpaa
open Go.RowKit

def cntP (P : Nat → Pl) : Nat → Nat
  | 0 => 0
  | n + 1 => cntP P n + if 0 < (P n).n then 1 else 0
theorem cntP_le (P : Nat → Pl) : ∀ n, cntP P n ≤ n
  | 0 => Nat.le_refl _
  | n + 1 => by unfold cntP; have := cntP_le P n; split <;> omega
theorem cntP_all {P : Nat → Pl} : ∀ n, (∀ j, j < n → 0 < (P j).n) → cntP P n = n
  | 0, _ => rfl
  | n + 1, h => by unfold cntP; rw [cntP_all n fun j hj => h j (by omega), if_pos (h n (by omega))]
theorem cntP_some {P : Nat → Pl} {t : Nat} (h : (P t).n = 0) : ∀ n, t < n → cntP P n < n
  | 0, e => by omega
  | n + 1, e => by
    unfold cntP
    by_cases e2 : t = n
    · subst e2; rw [if_neg (by omega)]; have := cntP_le P t; omega
    · have := cntP_some h n (by omega); split <;> omega

set_option maxRecDepth 100000 in
set_option maxHeartbeats 2000000 in
theorem rput_hit (w : World) {p g : Nat} {s : St} {k : Int} {v : ByteArray} {i : Nat} (hh : RA w p g s) (hf : First s.n (hit s k) i) (hi : i < s.n) :
    Calls Try.prog 13 #[.pointer (some ⟨p, 0, none⟩), .int .i64 k, .string v] w fun e w' => e = tup4 0 emp false 0 ∧ RA w' p g { s with P := up s.P i { s.P i with v := v, b := true } } ∧ Fr w.heap.size (Two p g) w w' := by
  have HH := Lib.hid hh
  have HF := Lib.hid hf
  have HI := Lib.hid hi
  have h0 := hh.c0
  have hnn := hh.ln
  have hi1 : (i : Int) < (s.n : Int) := by omega
  have c1 := hh.cell hi (j := 1) (by omega)
  rw [show (s.P i).r[1]? = some (.string (s.P i).v) from rfl] at c1
  have c3 := hh.cell hi (j := 3) (by omega)
  rw [show (s.P i).r[3]? = some (.bool (s.P i).b) from rfl] at c3
  have f1 := hh.froz (i * 5 + 1)
  have f3 := hh.froz (i * 5 + 3)
  have h2 := hh.set hi (j := 1) (by omega) (.string v) { s.P i with v := v } rfl
  have h3 := h2.set (i := i) hi (j := 3) (by omega) (.bool true) { s.P i with v := v, b := true } (by simp only [up_same]; rfl)
  simp only [up_up] at h3
  have H3 := Lib.hid h3
  have HFR := Lib.hid (((Fr.refl w.heap.size (Two p g) w).setCell (p := ⟨g, i * 5 + 1, none⟩) (Or.inl (Or.inr rfl)) (.string v)).setCell (p := ⟨g, i * 5 + 3, none⟩) (Or.inl (Or.inr rfl)) (.bool true))
  clear hh hf hi h2 h3
  go_enter Try.func13, Try.ntmps13
  go_upto_region 3 with (first | (go_at_call 28; refine (rfind_any _ HH.out HF.out).mono ?_; rintro e w1 ⟨rfl, hw1⟩; obtain rfl := hw1.symm; clear hw1; rw [num_some HI.out]))
  go_region
  go_wp2_with fail
  refine bodyPost_ret (v := .tuple #[.int .i64 0, .string emp, .bool false, .int .i64 0]) (by simp [results, Try.results13, go_sem, emp]) rfl ⟨rfl, H3.out.drewN 1, HFR.out.drew⟩

set_option maxRecDepth 100000 in
set_option maxHeartbeats 2000000 in
theorem rput_vac (w : World) {p g : Nat} {s : St} {k : Int} {v : ByteArray} {i : Nat} (hh : RA w p g s) (hf : First s.n (hit s k) s.n) (hv : First s.n (vac s) i) (hi : i < s.n) (hz : s.P i = Pl.zero) :
    Calls Try.prog 13 #[.pointer (some ⟨p, 0, none⟩), .int .i64 k, .string v] w fun e w' => e = tup4 0 emp false 0 ∧ RA w' p g { s with P := up s.P i ⟨true, k, v, true, 0⟩ } ∧ Fr w.heap.size (Two p g) w w' := by
  have HH := Lib.hid hh
  have HF := Lib.hid hf
  have HI := Lib.hid hi
  have HV := Lib.hid hv
  have HZ := Lib.hid hz
  have h0 := hh.c0
  have hnn := hh.ln
  have HG := Lib.hid hh.hg
  have HI3 := Lib.hid (info_rplace ⟨true, k, v, true, 0⟩)
  have HON3 := Lib.hid (rplace_one ⟨true, k, v, true, 0⟩)
  have HLE : Hid (i * 5 + (Pl.r ⟨true, k, v, true, 0⟩).size ≤ (rowR s.n s.P).size) := by
    have := HI.out
    rw [Pl.r_size, rowR_size]
    show i * 5 + 5 ≤ s.n * 5
    omega
  have H2 := Lib.hid (hh.put hi ⟨true, k, v, true, 0⟩)
  have HFR := Lib.hid ((Fr.refl w.heap.size (Two p g) w).setRow (b := g) (Or.inl (Or.inr rfl)) (putRow (rowR s.n s.P) (i * 5) (Pl.r ⟨true, k, v, true, 0⟩).toList))
  have hnot : ∀ (x : Bool) (w : World), (Op.unary .not (.bool x)).run Try.prog w = .ok (.bool (!x)) w := fun _ _ => rfl
  clear hh hf hi hv hz
  go_enter Try.func13, Try.ntmps13
  go_wp2_with (first | (go_at_call 28; refine (rfind_any _ HH.out HF.out).mono ?_; rintro e w1 ⟨rfl, hw1⟩; obtain rfl := hw1.symm; clear hw1; rw [num_none]))
  go_loopw [11, 12] (fun c v wr => ∃ t m : Nat, t ≤ i ∧ m ≤ t ∧ v = .int .i64 (t : Int) ∧ c = .int .i64 (m : Int) ∧ w = wr) (fun _ v _ => s.n - lvN v)
  case atStart => exact ⟨0, 0, Nat.zero_le _, Nat.zero_le _, rfl, rfl, rfl⟩
  case round =>
    obtain ⟨t, m, ht, hm, rfl, rfl, rfl⟩ := hrel
    have hti := HI.out
    have hlt : t < s.n := by omega
    have hlI : (t : Int) < (s.n : Int) := by omega
    have c2 := HH.out.cell hlt (j := 2) (by omega)
    rw [show (s.P t).r[2]? = some (.bool (s.P t).u) from rfl] at c2
    by_cases he : t = i
    · subst he
      rw [HZ.out, show Pl.zero.u = false from rfl] at c2
      clear ht hti hlt
      go_wp2_with (first | (with_reducible refine wpList_store_at rfl 60 (.tmp 60) (.tmp 59) rfl g (t * 5) (Pl.r ⟨true, k, v, true, 0⟩) rfl rfl 60 _ HG.out HI3.out HLE.out HON3.out ?_))
      refine bodyPost_ret (v := .tuple #[.int .i64 0, .string emp, .bool false, .int .i64 0]) (by simp [results, Try.results13, go_sem, emp]) rfl ⟨rfl, H2.out, HFR.out⟩
    · have hu : (s.P t).u = true := by have := HV.out.no t (by omega); unfold vac at this; simpa using this
      have c4 := HH.out.cell hlt (j := 4) (by omega)
      rw [show (s.P t).r[4]? = some (.int .i64 ((s.P t).n : Int)) from rfl] at c4
      rw [hu] at c2
      have HT : Hid (t + 1 ≤ i) := Lib.hid (by omega)
      clear hu ht hti he
      by_cases hp : 0 < (s.P t).n
      · have hpI : (0 : Int) < ((s.P t).n : Int) := by omega
        clear hp
        go_wp2_with fail
        exact ⟨⟨t + 1, m + 1, HT.out, by omega, by go_num, by go_num, trivial⟩, by simp [lvN]; omega⟩
      · have hpI : ¬ (0 : Int) < ((s.P t).n : Int) := by omega
        clear hp
        go_wp2_with fail
        exact ⟨⟨t + 1, m, HT.out, by omega, by go_num, by go_num, trivial⟩, by simp [lvN]; omega⟩

set_option maxRecDepth 100000 in
set_option maxHeartbeats 2000000 in
theorem rput_full (w : World) {p g : Nat} {s : St} {k : Int} {v : ByteArray} (hh : RA w p g s) (hf : First s.n (hit s k) s.n) (hv : First s.n (vac s) s.n) (hl : First s.n (loose s) s.n) :
    Calls Try.prog 13 #[.pointer (some ⟨p, 0, none⟩), .int .i64 k, .string v] w fun e w' => e = tup4 0 emp false 5 ∧ RA w' p g s ∧ Fr w.heap.size (Two p g) w w' := by
  have HH := Lib.hid hh
  have HF := Lib.hid hf
  have HV := Lib.hid hv
  have HL := Lib.hid hl
  have h0 := hh.c0
  have hnn := hh.ln
  have hnot : ∀ (x : Bool) (w : World), (Op.unary .not (.bool x)).run Try.prog w = .ok (.bool (!x)) w := fun _ _ => rfl
  clear hh hf hv hl
  go_enter Try.func13, Try.ntmps13
  go_wp2_with (first | (go_at_call 28; refine (rfind_any _ HH.out HF.out).mono ?_; rintro e w1 ⟨rfl, hw1⟩; obtain rfl := hw1.symm; clear hw1; rw [num_none]))
  go_loopw [11, 12] (fun c v wr => ∃ t : Nat, t ≤ s.n ∧ v = .int .i64 (t : Int) ∧ c = .int .i64 (t : Int) ∧ w = wr) (fun _ v _ => s.n - lvN v)
  case atStart => exact ⟨0, Nat.zero_le _, rfl, rfl, rfl⟩
  case round =>
    obtain ⟨t, ht, rfl, rfl, rfl⟩ := hrel
    by_cases hlt : t < s.n
    · have hlI : (t : Int) < (s.n : Int) := by omega
      have c2 := HH.out.cell hlt (j := 2) (by omega)
      rw [show (s.P t).r[2]? = some (.bool (s.P t).u) from rfl] at c2
      have hu : (s.P t).u = true := by have := HV.out.no t (by omega); unfold vac at this; simpa using this
      have c4 := HH.out.cell hlt (j := 4) (by omega)
      rw [show (s.P t).r[4]? = some (.int .i64 ((s.P t).n : Int)) from rfl] at c4
      rw [hu] at c2
      have hpI : (0 : Int) < ((s.P t).n : Int) := by have := HL.out.no t (by omega); unfold loose at this; simp at this; omega
      have HT : Hid (t + 1 ≤ s.n) := Lib.hid (by omega)
      clear hu ht hlt
      go_wp2_with fail
      exact ⟨⟨t + 1, HT.out, by go_num, by go_num, trivial⟩, by simp [lvN]; omega⟩
    · obtain rfl : t = s.n := by omega
      clear ht hlt
      go_wp2_with fail
      refine bodyPost_ret (v := .tuple #[.int .i64 0, .string emp, .bool false, .int .i64 5]) (by simp [results, Try.results13, go_sem, emp]) rfl ⟨rfl, HH.out, Fr.refl _ _ _⟩
end Go.Proofs.Ytnpgiboapckgpaa
