/- hand: Put, Get, Pin, Unpin, Drop. -/
import Derived.Test.YtnpgiboapckgpaaHdT
import Derived.Deep.CutBlock
import Derived.Deep.DeepCutAuto
namespace Go.Proofs.Ytnpgiboapckgpaa
open Go.RowKit

def emp : ByteArray := ⟨#[]⟩
def tup4 (out : Int) (was : ByteArray) (had : Bool) (e : Int) : Ending := .returned (.tuple #[.int .i64 out, .string was, .bool had, .int .i64 e])
theorem up_up (P : Nat → Pl) (i : Nat) (x y : Pl) : up (up P i x) i y = up P i y := by
  funext j; unfold up; split <;> simp_all
theorem setRow_far (w : World) (g : Nat) (cs : Array Value) {k : Nat} (h : k ≠ g) : (w.setRow g cs).heap[k]? = w.heap[k]? := setRow_other _ _ _ _ h
theorem setRow_alloc (w : World) (old cs : Array Value) (t : TypeId) : (w.alloc (.cells old t)).setRow w.heap.size cs = w.alloc (.cells cs t) := by
  have h := setRow_heap (w.alloc (.cells old t)) w.heap.size old cs t (0, 0) (heap_alloc_new w _)
  have e2 : ((w.alloc (.cells old t)).setRow w.heap.size cs).heap = (w.alloc (.cells cs t)).heap := by
    apply Array.ext_getElem?
    intro i
    by_cases hi : i = w.heap.size
    · subst hi
      rw [h, heap_alloc_new]
    · rw [setRow_far _ _ _ hi]
      show (w.heap.push _)[i]? = (w.heap.push _)[i]?
      rw [Array.getElem?_push, Array.getElem?_push, if_neg hi, if_neg hi]
  have e3 : ∀ a b : World, a.heap = b.heap → a.tape = b.tape → a.drawn = b.drawn → a.os = b.os → a.output = b.output → a = b := by
    intro a b h1 h2 h3 h4 h5
    cases a; cases b
    simp only at h1 h2 h3 h4 h5
    subst h1 h2 h3 h4 h5
    rfl
  exact e3 _ _ e2 rfl rfl rfl rfl
theorem run_place : Try.prog.underlying 56 = some (.struct (Try.prog.fieldsOf 56)) := by kernel_rfl
theorem info_place (x : Pl) : (Try.prog.info? 56).map (·.size) = some x.c.size := by
  rw [x.c_size]; kernel_rfl
theorem place_one (x : Pl) : x.c.all (·.oneCell') = true := by simp [Pl.c, Value.oneCell']

set_option maxHeartbeats 1000000 in
theorem put_hit (w : World) {p g : Nat} {s : St} {k : Int} {v : ByteArray} {i : Nat} (hh : HA w p g s) (hf : First s.n (hit s k) i) (hi : i < s.n) :
    Calls Try.prog 12 #[.pointer (some ⟨p, 0, none⟩), .int .i64 k, .string v] w fun e w' => e = tup4 0 emp false 0 ∧ HA w' p g { s with P := up s.P i { s.P i with v := v, b := true } } ∧ Fr w.heap.size (Two p g) w w' := by
  have HH := Lib.hid hh
  have HF := Lib.hid hf
  have HI := Lib.hid hi
  clear hh hf hi
  go_enter Try.func12, Try.ntmps12
  go_upto_region 3 with (first | (go_at_call 25; refine (find_any _ HH.out HF.out).mono ?_; rintro e w1 ⟨rfl, hb1⟩; rw [ptr_some HI.out]))
  have h1 := HH.out.on hb1
  have h2 := h1.set HI.out (j := 2) (by omega) (.string v) { s.P i with v := v } rfl
  have h3 := h2.set (i := i) HI.out (j := 3) (by omega) (.bool true) { s.P i with v := v, b := true } (by simp only [up_same]; rfl)
  have c2 := h1.cell HI.out (j := 2) (by omega)
  rw [show (s.P i).c[2]? = some (.string (s.P i).v) from rfl] at c2
  have c3 := h2.cell (i := i) HI.out (j := 3) (by omega)
  simp only [up_same] at c3
  rw [show ({ s.P i with v := v } : Pl).c[3]? = some (.bool (s.P i).b) from rfl] at c3
  have f2 := h1.froz (i * 5 + 2)
  have f3 := h2.froz (i * 5 + 3)
  have HFr : Fr w.heap.size (Two p g) w ((w1.setCell ⟨g, i * 5 + 2, none⟩ (.string v)).setCell ⟨g, i * 5 + 3, none⟩ (.bool true)) := ((Fr.of_below hb1).setCell (p := ⟨g, i * 5 + 2, none⟩) (Or.inl (Or.inr rfl)) _).setCell (p := ⟨g, i * 5 + 3, none⟩) (Or.inl (Or.inr rfl)) _
  have H3 := Lib.hid h3
  have HFR := Lib.hid HFr
  clear h1 h2 h3 HFr
  go_wp2_with fail
  refine bodyPost_ret (v := .tuple #[.int .i64 0, .string emp, .bool false, .int .i64 0]) (by simp [results, Try.results12, go_sem, emp]) rfl ⟨rfl, ?_, HFR.out⟩
  have h4 := H3.out
  simpa only [up_up] using h4
set_option maxHeartbeats 1000000 in
theorem put_full (w : World) {p g : Nat} {s : St} {k : Int} {v : ByteArray} (hh : HA w p g s) (hf : First s.n (hit s k) s.n) (hv : First s.n (vac s) s.n) (hl : First s.n (loose s) s.n) :
    Calls Try.prog 12 #[.pointer (some ⟨p, 0, none⟩), .int .i64 k, .string v] w fun e w' => e = tup4 0 emp false 5 ∧ HA w' p g s ∧ Fr w.heap.size (Two p g) w w' := by
  have HH := Lib.hid hh
  have HF := Lib.hid hf
  have HV := Lib.hid hv
  have HL := Lib.hid hl
  clear hh hf hv hl
  go_enter Try.func12, Try.ntmps12
  go_wp2_with (first | (go_at_call 25; refine (find_any _ HH.out HF.out).mono ?_; rintro e w1 ⟨rfl, hb1⟩; rw [ptr_none]) | (go_at_call 26; refine (empty_any _ (HH.out.on hb1) HV.out).mono ?_; rintro e w2 ⟨rfl, hb2⟩; rw [ptr_none]) | (go_at_call 27; refine (turn_full _ ((HH.out.on hb1).on hb2) HL.out).mono ?_; rintro e w3 ⟨rfl, hb3⟩))
  refine bodyPost_ret (v := .tuple #[.int .i64 0, .string emp, .bool false, .int .i64 5]) (by simp [results, Try.results12, go_sem, emp]) rfl ⟨rfl, ((HH.out.on hb1).on hb2).on hb3, ?_⟩
  exact ((Fr.of_below hb1).below hb2 hb1.size).below hb3 (Nat.le_trans hb1.size hb2.size)
set_option maxHeartbeats 1000000 in
theorem put_vac (w : World) {p g : Nat} {s : St} {k : Int} {v : ByteArray} {i : Nat} (hh : HA w p g s) (hf : First s.n (hit s k) s.n) (hv : First s.n (vac s) i) (hi : i < s.n) :
    Calls Try.prog 12 #[.pointer (some ⟨p, 0, none⟩), .int .i64 k, .string v] w fun e w' => e = tup4 (s.P i).k (s.P i).v (s.P i).u 0 ∧ HA w' p g { s with P := up s.P i ⟨true, k, v, true, 0⟩ } ∧ Fr w.heap.size (Two p g) w w' := by
  have HH := Lib.hid hh
  have HF := Lib.hid hf
  have HV := Lib.hid hv
  have HI := Lib.hid hi
  have hi' := hi
  clear hh hf hv hi
  go_enter Try.func12, Try.ntmps12
  go_upto_region 10 with (first | (go_at_call 25; refine (find_any _ HH.out HF.out).mono ?_; rintro e w1 ⟨rfl, hb1⟩; rw [ptr_none]) | (go_at_call 26; refine (empty_any _ (HH.out.on hb1) HV.out).mono ?_; rintro e w2 ⟨rfl, hb2⟩; rw [ptr_some HI.out]))
  have h1 := (HH.out.on hb1).on hb2
  have hfr := (Fr.of_below (S := Two p g) hb1).below hb2 hb1.size
  generalize hold : s.P i = old at *
  have HOLD := Lib.hid hold
  have HC : Hid (∀ jj x, old.c[jj]? = some x → w2.cell? ⟨g, i * 5 + jj, none⟩ = some x) := fun jj x h => (h1.cell (i := i) HI.out (j := jj) (Nat.lt_of_not_ge fun hj => by rw [Array.getElem?_eq_none (by rw [old.c_size]; exact hj)] at h; cases h)).trans ((congrArg (fun y : Pl => y.c[jj]?) hold).trans h)
  have HI2 := Lib.hid (info_place old)
  have HON := Lib.hid (place_one old)
  have HAL := Lib.hid (heap_alloc_new w2 (.cells #[.bool false, .int .i64 0, .string ⟨#[]⟩, .bool false, .int .i64 0] 56))
  have HSZ := Lib.hid (show (#[.bool false, .int .i64 0, .string ⟨#[]⟩, .bool false, .int .i64 0] : Array Value).size = old.c.size from rfl)
  have HSET := Lib.hid (setRow_alloc w2 #[.bool false, .int .i64 0, .string ⟨#[]⟩, .bool false, .int .i64 0] old.c 56)
  clear hold
  go_upto_region 11 with (first | (with_reducible refine wpList_load_at rfl 56 (.tmp 38) rfl g (i * 5) rfl old.c _ HC.out run_place rfl HI2.out ?_) | (with_reducible refine wpList_store_row rfl 56 (.tmp 12) (.tmp 39) rfl w2.heap.size old.c rfl rfl 56 _ HAL.out HI2.out HSZ.out HON.out ?_))
  rw [HSET.out]
  have h3 := h1.on ((Below.refl _ _).alloc (Nat.le_refl _) (.cells old.c 56))
  have hfr3 := hfr.alloc hfr.size (.cells old.c 56)
  have hv3 := heap_alloc_new w2 (.cells old.c 56)
  have hgv : ¬ g = w2.heap.size := Nat.ne_of_lt h1.lg
  have hlv : w.heap.size ≤ w2.heap.size := hfr.size
  generalize w2.alloc (.cells old.c 56) = w4 at h3 hfr3 hv3 ⊢
  generalize w2.heap.size = q at *
  clear HSET HSZ HAL HON HI2 HC
  have h4 := h3.put (i := i) HI.out ⟨true, k, v, true, 0⟩
  have hfr4 := hfr3.setRow (b := g) (Or.inl (Or.inr rfl)) (putRow (rowH s) (i * 5) (Pl.c ⟨true, k, v, true, 0⟩).toList)
  have hv4 : (w4.setRow g (putRow (rowH s) (i * 5) (Pl.c ⟨true, k, v, true, 0⟩).toList)).heap[q]? = some (.cells old.c 56 (0, 0)) := by
    rw [← hv3]
    show (w4.heap.modify g _)[q]? = _
    rw [Array.getElem?_modify, if_neg hgv]
  have c0 := (cell_of hv4 0).1
  have c1 := (cell_of hv4 1).1
  have c2 := (cell_of hv4 2).1
  rw [show old.c[0]? = some (.bool old.u) from rfl] at c0
  rw [show old.c[1]? = some (.int .i64 old.k) from rfl] at c1
  rw [show old.c[2]? = some (.string old.v) from rfl] at c2
  have HG := Lib.hid h3.hg
  have HI3 := Lib.hid (info_place ⟨true, k, v, true, 0⟩)
  have HON3 := Lib.hid (place_one ⟨true, k, v, true, 0⟩)
  have hl64 : s.n ≤ 64 := h3.ln
  have HLE : Hid (i * 5 + (Pl.c ⟨true, k, v, true, 0⟩).size ≤ (rowH s).size) := by
    have := HI.out
    rw [Pl.c_size, rowH_size]
    show i * 5 + 5 ≤ 322
    omega
  have H4 := Lib.hid h4
  have HFR := Lib.hid hfr4
  clear h1 h3 h4 hfr hfr3 hfr4 hv3 hv4 hgv hlv
  go_upto_region 12 with (first | (with_reducible refine wpList_store_at rfl 56 (.tmp 44) (.tmp 43) rfl g (i * 5) (Pl.c ⟨true, k, v, true, 0⟩) rfl rfl 65 _ HG.out HI3.out HLE.out HON3.out ?_))
  simp only [Act.put]
  generalize w4.setRow g (putRow (rowH s) (i * 5) (Pl.c ⟨true, k, v, true, 0⟩).toList) = w5 at *
  go_quiet (fail)
  go_wp2_with fail
  refine bodyPost_ret (v := .tuple #[.int .i64 old.k, .string old.v, .bool old.u, .int .i64 0]) (by simp [results, Try.results12, go_sem]) rfl ⟨by rw [HOLD.out]; rfl, H4.out.drewN _, HFR.out.drewN _⟩
theorem turnF_lt {n : Nat} : ∀ (f : Nat) (P : Nat → Pl) (a : Nat) {P' : Nat → Pl} {a' j : Nat}, a < n → turnF n f P a = some (P', a', j) → j < n ∧ a' < n ∧ (P' j).n = 0
  | 0, _, _, _, _, _, _, h => by cases h
  | f + 1, P, a, P', a', j, ha, h => by
    have h2 : (a + 1) % n < n := Nat.mod_lt _ (by omega)
    unfold turnF at h
    split at h
    · exact turnF_lt f _ _ h2 h
    · split at h
      · exact turnF_lt f _ _ h2 h
      · injection h with h
        injection h with h1 h3
        injection h3 with h3 h4
        subst h1 h3 h4
        exact ⟨ha, h2, by omega⟩

set_option maxHeartbeats 1000000 in
theorem put_turn (w : World) {p g : Nat} {s : St} {k : Int} {v : ByteArray} {i j a f : Nat} {P : Nat → Pl} (hh : HA w p g s) (hf : First s.n (hit s k) s.n) (hv : First s.n (vac s) s.n) (hl : First s.n (loose s) i) (hi : i < s.n) (ht : turnF s.n f s.P s.a = some (P, a, j)) :
    Calls Try.prog 12 #[.pointer (some ⟨p, 0, none⟩), .int .i64 k, .string v] w fun e w' => e = tup4 (P j).k (P j).v (P j).u 0 ∧ HA w' p g { s with P := up P j ⟨true, k, v, true, 0⟩, a := a } ∧ Fr w.heap.size (Two p g) w w' := by
  have HH := Lib.hid hh
  have HF := Lib.hid hf
  have HV := Lib.hid hv
  have HL := Lib.hid hl
  have HI := Lib.hid hi
  have HT := Lib.hid ht
  have HJ := Lib.hid (turnF_lt f _ _ hh.la ht).1
  clear hh hf hv hi hl ht
  go_enter Try.func12, Try.ntmps12
  go_upto_region 10 with (first | (go_at_call 25; refine (find_any _ HH.out HF.out).mono ?_; rintro e w1 ⟨rfl, hb1⟩; rw [ptr_none]) | (go_at_call 26; refine (empty_any _ (HH.out.on hb1) HV.out).mono ?_; rintro e w2 ⟨rfl, hb2⟩; rw [ptr_none]) | (go_at_call 27; refine (turn_any _ ((HH.out.on hb1).on hb2) HL.out HI.out HT.out).mono ?_; rintro e w3 ⟨rfl, hA3, hF3⟩))
  have h1 := hA3
  have hfr : Fr w.heap.size (Two p g) w w3 := ((Fr.of_below hb1).below hb2 hb1.size).trans hF3 (Nat.le_trans hb1.size hb2.size) (fun _ _ h => h)
  clear hA3 hF3
  generalize hold : P j = old at *
  have HOLD := Lib.hid hold
  have HC : Hid (∀ jj x, old.c[jj]? = some x → w3.cell? ⟨g, j * 5 + jj, none⟩ = some x) := fun jj x h => (h1.cell (i := j) HJ.out (j := jj) (Nat.lt_of_not_ge fun hj => by rw [Array.getElem?_eq_none (by rw [old.c_size]; exact hj)] at h; cases h)).trans ((congrArg (fun y : Pl => y.c[jj]?) hold).trans h)
  have HI2 := Lib.hid (info_place old)
  have HON := Lib.hid (place_one old)
  have HAL := Lib.hid (heap_alloc_new w3 (.cells #[.bool false, .int .i64 0, .string ⟨#[]⟩, .bool false, .int .i64 0] 56))
  have HSZ := Lib.hid (show (#[.bool false, .int .i64 0, .string ⟨#[]⟩, .bool false, .int .i64 0] : Array Value).size = old.c.size from rfl)
  have HSET := Lib.hid (setRow_alloc w3 #[.bool false, .int .i64 0, .string ⟨#[]⟩, .bool false, .int .i64 0] old.c 56)
  clear hold
  go_upto_region 11 with (first | (with_reducible refine wpList_load_at rfl 56 (.tmp 38) rfl g (j * 5) rfl old.c _ HC.out run_place rfl HI2.out ?_) | (with_reducible refine wpList_store_row rfl 56 (.tmp 12) (.tmp 39) rfl w3.heap.size old.c rfl rfl 56 _ HAL.out HI2.out HSZ.out HON.out ?_))
  rw [HSET.out]
  have h3 := h1.on ((Below.refl _ _).alloc (Nat.le_refl _) (.cells old.c 56))
  have hfr3 := hfr.alloc hfr.size (.cells old.c 56)
  have hv3 := heap_alloc_new w3 (.cells old.c 56)
  have hgv : ¬ g = w3.heap.size := Nat.ne_of_lt h1.lg
  have hlv : w.heap.size ≤ w3.heap.size := hfr.size
  generalize w3.alloc (.cells old.c 56) = w4 at h3 hfr3 hv3 ⊢
  generalize w3.heap.size = q at *
  clear HSET HSZ HAL HON HI2 HC
  have h4 := h3.put (i := j) HJ.out ⟨true, k, v, true, 0⟩
  have hfr4 := hfr3.setRow (b := g) (Or.inl (Or.inr rfl)) (putRow (rowH ⟨s.n, P, a⟩) (j * 5) (Pl.c ⟨true, k, v, true, 0⟩).toList)
  have hv4 : (w4.setRow g (putRow (rowH ⟨s.n, P, a⟩) (j * 5) (Pl.c ⟨true, k, v, true, 0⟩).toList)).heap[q]? = some (.cells old.c 56 (0, 0)) := by
    rw [← hv3]
    show (w4.heap.modify g _)[q]? = _
    rw [Array.getElem?_modify, if_neg hgv]
  have c0 := (cell_of hv4 0).1
  have c1 := (cell_of hv4 1).1
  have c2 := (cell_of hv4 2).1
  rw [show old.c[0]? = some (.bool old.u) from rfl] at c0
  rw [show old.c[1]? = some (.int .i64 old.k) from rfl] at c1
  rw [show old.c[2]? = some (.string old.v) from rfl] at c2
  have HG := Lib.hid h3.hg
  have HI3 := Lib.hid (info_place ⟨true, k, v, true, 0⟩)
  have HON3 := Lib.hid (place_one ⟨true, k, v, true, 0⟩)
  have hl64 : s.n ≤ 64 := h3.ln
  have HLE : Hid (j * 5 + (Pl.c ⟨true, k, v, true, 0⟩).size ≤ (rowH ⟨s.n, P, a⟩).size) := by
    have := HJ.out
    rw [Pl.c_size, rowH_size]
    show j * 5 + 5 ≤ 322
    omega
  have H4 := Lib.hid h4
  have HFR := Lib.hid hfr4
  clear h1 h3 h4 hfr hfr3 hfr4 hv3 hv4 hgv hlv
  go_upto_region 12 with (first | (with_reducible refine wpList_store_at rfl 56 (.tmp 44) (.tmp 43) rfl g (j * 5) (Pl.c ⟨true, k, v, true, 0⟩) rfl rfl 65 _ HG.out HI3.out HLE.out HON3.out ?_))
  simp only [Act.put]
  generalize w4.setRow g (putRow (rowH ⟨s.n, P, a⟩) (j * 5) (Pl.c ⟨true, k, v, true, 0⟩).toList) = w5 at *
  go_quiet (fail)
  go_wp2_with fail
  refine bodyPost_ret (v := .tuple #[.int .i64 old.k, .string old.v, .bool old.u, .int .i64 0]) (by simp [results, Try.results12, go_sem]) rfl ⟨by rw [HOLD.out]; rfl, H4.out.drewN _, HFR.out.drewN _⟩
theorem get_none (w : World) {p g : Nat} {s : St} {k : Int} (hh : HA w p g s) (hf : First s.n (hit s k) s.n) :
    Calls Try.prog 14 #[.pointer (some ⟨p, 0, none⟩), .int .i64 k] w fun e w' => e = .returned (.tuple #[.string emp, .bool false]) ∧ Below w.heap.size w w' := by
  have HH := Lib.hid hh
  have HF := Lib.hid hf
  clear hh hf
  go_enter Try.func14, Try.ntmps14
  go_wp2_with (first | (go_at_call 25; refine (find_any _ HH.out HF.out).mono ?_; rintro e w1 ⟨rfl, hb1⟩; rw [ptr_none]))
  go_ret2
  exact ⟨rfl, hb1⟩
theorem pin_none (w : World) {p g : Nat} {s : St} {k : Int} (hh : HA w p g s) (hf : First s.n (hit s k) s.n) :
    Calls Try.prog 16 #[.pointer (some ⟨p, 0, none⟩), .int .i64 k] w fun e w' => e = .returned (.bool false) ∧ Below w.heap.size w w' := by
  have HH := Lib.hid hh
  have HF := Lib.hid hf
  clear hh hf
  go_enter Try.func16, Try.ntmps16
  go_wp2_with (first | (go_at_call 25; refine (find_any _ HH.out HF.out).mono ?_; rintro e w1 ⟨rfl, hb1⟩; rw [ptr_none]))
  go_ret
  exact ⟨rfl, hb1⟩
theorem unpin_none (w : World) {p g : Nat} {s : St} {k : Int} (hh : HA w p g s) (hf : First s.n (hit s k) s.n) :
    Calls Try.prog 18 #[.pointer (some ⟨p, 0, none⟩), .int .i64 k] w fun e w' => e = .returned (.bool false) ∧ Below w.heap.size w w' := by
  have HH := Lib.hid hh
  have HF := Lib.hid hf
  clear hh hf
  go_enter Try.func18, Try.ntmps18
  go_wp2_with (first | (go_at_call 25; refine (find_any _ HH.out HF.out).mono ?_; rintro e w1 ⟨rfl, hb1⟩; rw [ptr_none]))
  go_ret
  exact ⟨rfl, hb1⟩
theorem drop_none (w : World) {p g : Nat} {s : St} {k : Int} (hh : HA w p g s) (hf : First s.n (hit s k) s.n) :
    Calls Try.prog 19 #[.pointer (some ⟨p, 0, none⟩), .int .i64 k] w fun e w' => e = .returned (.bool false) ∧ Below w.heap.size w w' := by
  have HH := Lib.hid hh
  have HF := Lib.hid hf
  clear hh hf
  go_enter Try.func19, Try.ntmps19
  go_wp2_with (first | (go_at_call 25; refine (find_any _ HH.out HF.out).mono ?_; rintro e w1 ⟨rfl, hb1⟩; rw [ptr_none]))
  go_ret
  exact ⟨rfl, hb1⟩
set_option maxHeartbeats 1000000 in
theorem get_one (w : World) {p g : Nat} {s : St} {k : Int} {i : Nat} (hh : HA w p g s) (hf : First s.n (hit s k) i) (hi : i < s.n) :
    Calls Try.prog 14 #[.pointer (some ⟨p, 0, none⟩), .int .i64 k] w fun e w' => e = .returned (.tuple #[.string (s.P i).v, .bool true]) ∧ HA w' p g { s with P := up s.P i { s.P i with b := true } } ∧ Fr w.heap.size (Two p g) w w' := by
  have HH := Lib.hid hh
  have HF := Lib.hid hf
  have HI := Lib.hid hi
  clear hh hf hi
  go_enter Try.func14, Try.ntmps14
  go_upto_region 4 with (first | (go_at_call 25; refine (find_any _ HH.out HF.out).mono ?_; rintro e w1 ⟨rfl, hb1⟩; rw [ptr_some HI.out]))
  have h1 := HH.out.on hb1
  have hfr := Fr.of_below (S := Two p g) hb1
  have c3 := h1.cell (i := i) HI.out (j := 3) (by omega)
  rw [show (s.P i).c[3]? = some (.bool (s.P i).b) from rfl] at c3
  have f3 := h1.froz (i * 5 + 3)
  have h2 := h1.set HI.out (j := 3) (by omega) (.bool true) { s.P i with b := true } rfl
  have hfr2 := hfr.setCell (p := ⟨g, i * 5 + 3, none⟩) (Or.inl (Or.inr rfl)) (.bool true)
  have c2 := h2.cell (i := i) HI.out (j := 2) (by omega)
  simp only [up_same] at c2
  rw [show (Pl.c { s.P i with b := true })[2]? = some (.string (s.P i).v) from rfl] at c2
  have H2 := Lib.hid h2
  have HFR := Lib.hid hfr2
  clear h1 h2 hfr hfr2
  go_wp2_with fail
  go_ret2
  exact ⟨rfl, H2.out, HFR.out⟩
set_option maxHeartbeats 1000000 in
theorem pin_on (w : World) {p g : Nat} {s : St} {k : Int} {i : Nat} (hh : HA w p g s) (hf : First s.n (hit s k) i) (hi : i < s.n) (hn : (s.P i).n < 1000000) :
    Calls Try.prog 16 #[.pointer (some ⟨p, 0, none⟩), .int .i64 k] w fun e w' => e = .returned (.bool true) ∧ HA w' p g { s with P := up s.P i { s.P i with n := (s.P i).n + 1 } } ∧ Fr w.heap.size (Two p g) w w' := by
  have HH := Lib.hid hh
  have HF := Lib.hid hf
  have HI := Lib.hid hi
  clear hh hf hi
  go_enter Try.func16, Try.ntmps16
  go_upto_region 4 with (first | (go_at_call 25; refine (find_any _ HH.out HF.out).mono ?_; rintro e w1 ⟨rfl, hb1⟩; rw [ptr_some HI.out]))
  have h1 := HH.out.on hb1
  have hfr := Fr.of_below (S := Two p g) hb1
  have c4 := h1.cell (i := i) HI.out (j := 4) (by omega)
  rw [show (s.P i).c[4]? = some (.int .i64 ((s.P i).n : Int)) from rfl] at c4
  have f4 := h1.froz (i * 5 + 4)
  have h2 := h1.set HI.out (j := 4) (by omega) (.int .i64 (((s.P i).n : Int) + 1)) { s.P i with n := (s.P i).n + 1 } rfl
  have hfr2 := hfr.setCell (p := ⟨g, i * 5 + 4, none⟩) (Or.inl (Or.inr rfl)) (.int .i64 (((s.P i).n : Int) + 1))
  have H2 := Lib.hid h2
  have HFR := Lib.hid hfr2
  clear h1 h2 hfr hfr2
  go_wp2_with fail
  go_ret
  exact ⟨rfl, H2.out, HFR.out⟩
set_option maxHeartbeats 1000000 in
theorem unpin_on (w : World) {p g : Nat} {s : St} {k : Int} {i : Nat} (hh : HA w p g s) (hf : First s.n (hit s k) i) (hi : i < s.n) (hn : 0 < (s.P i).n) (hn2 : (s.P i).n < 1000000) :
    Calls Try.prog 18 #[.pointer (some ⟨p, 0, none⟩), .int .i64 k] w fun e w' => e = .returned (.bool true) ∧ HA w' p g { s with P := up s.P i { s.P i with n := (s.P i).n - 1 } } ∧ Fr w.heap.size (Two p g) w w' := by
  have HH := Lib.hid hh
  have HF := Lib.hid hf
  have HI := Lib.hid hi
  clear hh hf hi
  go_enter Try.func18, Try.ntmps18
  go_upto_region 2 with (first | (go_at_call 25; refine (find_any _ HH.out HF.out).mono ?_; rintro e w1 ⟨rfl, hb1⟩; rw [ptr_some HI.out]))
  have h1 := HH.out.on hb1
  have hfr := Fr.of_below (S := Two p g) hb1
  have c4 := h1.cell (i := i) HI.out (j := 4) (by omega)
  rw [show (s.P i).c[4]? = some (.int .i64 ((s.P i).n : Int)) from rfl] at c4
  have hz : (((s.P i).n : Int) == 0) = false := by simp; omega
  have f4 := h1.froz (i * 5 + 4)
  have h2 := h1.set HI.out (j := 4) (by omega) (.int .i64 (((s.P i).n : Int) - 1)) { s.P i with n := (s.P i).n - 1 } (by simp only [Pl.c, show (((s.P i).n - 1 : Nat) : Int) = ((s.P i).n : Int) - 1 by omega]; rfl)
  have hfr2 := hfr.setCell (p := ⟨g, i * 5 + 4, none⟩) (Or.inl (Or.inr rfl)) (.int .i64 (((s.P i).n : Int) - 1))
  have H2 := Lib.hid h2
  have HFR := Lib.hid hfr2
  clear h1 h2 hfr hfr2 hn
  go_wp2_with fail
  go_ret
  exact ⟨rfl, H2.out, HFR.out⟩
set_option maxHeartbeats 1000000 in
theorem drop_on (w : World) {p g : Nat} {s : St} {k : Int} {i : Nat} (hh : HA w p g s) (hf : First s.n (hit s k) i) (hi : i < s.n) (hn : (s.P i).n = 0) :
    Calls Try.prog 19 #[.pointer (some ⟨p, 0, none⟩), .int .i64 k] w fun e w' => e = .returned (.bool true) ∧ HA w' p g { s with P := up s.P i Pl.zero } ∧ Fr w.heap.size (Two p g) w w' := by
  have HH := Lib.hid hh
  have HF := Lib.hid hf
  have HI := Lib.hid hi
  clear hh hf hi
  go_enter Try.func19, Try.ntmps19
  go_upto_region 2 with (first | (go_at_call 25; refine (find_any _ HH.out HF.out).mono ?_; rintro e w1 ⟨rfl, hb1⟩; rw [ptr_some HI.out]))
  have h1 := HH.out.on hb1
  have hfr := Fr.of_below (S := Two p g) hb1
  have c4 := h1.cell (i := i) HI.out (j := 4) (by omega)
  rw [show (s.P i).c[4]? = some (.int .i64 ((s.P i).n : Int)) from rfl] at c4
  have hz : ¬ (0 : Int) < ((s.P i).n : Int) := by omega
  have H1 := Lib.hid h1
  have HFR1 := Lib.hid hfr
  clear h1 hfr hn
  go_upto_region 4 with fail
  have h1 := H1.out
  have hfr := HFR1.out
  clear c4 hz
  have HG := Lib.hid h1.hg
  have HI3 := Lib.hid (info_place Pl.zero)
  have HON3 := Lib.hid (place_one Pl.zero)
  have hl64 : s.n ≤ 64 := h1.ln
  have HLE : Hid (i * 5 + Pl.zero.c.size ≤ (rowH s).size) := by
    have := HI.out
    rw [Pl.c_size, rowH_size]
    show i * 5 + 5 ≤ 322
    omega
  have H2 := Lib.hid (h1.put HI.out Pl.zero)
  have HFR := Lib.hid (hfr.setRow (b := g) (Or.inl (Or.inr rfl)) (putRow (rowH s) (i * 5) Pl.zero.c.toList))
  clear h1 hfr hl64 H1 HFR1 HH HF HI hb1
  go_upto_region 5 with (first | (with_reducible refine wpList_store_at rfl 56 (.tmp 20) (.tmp 19) rfl g (i * 5) Pl.zero.c rfl rfl 65 _ HG.out HI3.out HLE.out HON3.out ?_))
  simp only [Act.put]
  have H2' := H2.out
  have HFR' := HFR.out
  generalize w1.setRow g (putRow (rowH s) (i * 5) Pl.zero.c.toList) = w5 at H2' HFR' ⊢
  clear H2 HFR HG HI3 HON3 HLE
  go_wp2_with fail
  go_ret
  exact ⟨rfl, H2', HFR'⟩
set_option maxHeartbeats 1000000 in
theorem unpin_no (w : World) {p g : Nat} {s : St} {k : Int} {i : Nat} (hh : HA w p g s) (hf : First s.n (hit s k) i) (hi : i < s.n) (hn : (s.P i).n = 0) :
    Calls Try.prog 18 #[.pointer (some ⟨p, 0, none⟩), .int .i64 k] w fun e w' => e = .returned (.bool false) ∧ HA w' p g s ∧ Fr w.heap.size (Two p g) w w' := by
  have HH := Lib.hid hh
  have HF := Lib.hid hf
  have HI := Lib.hid hi
  clear hh hf hi
  go_enter Try.func18, Try.ntmps18
  go_upto_region 2 with (first | (go_at_call 25; refine (find_any _ HH.out HF.out).mono ?_; rintro e w1 ⟨rfl, hb1⟩; rw [ptr_some HI.out]))
  have h1 := HH.out.on hb1
  have c4 := h1.cell (i := i) HI.out (j := 4) (by omega)
  rw [show (s.P i).c[4]? = some (.int .i64 ((s.P i).n : Int)) from rfl] at c4
  have hz : (((s.P i).n : Int) == 0) = true := by simp; omega
  clear h1 hn
  go_wp2_with fail
  go_ret
  exact ⟨rfl, HH.out.on hb1, Fr.of_below hb1⟩
set_option maxHeartbeats 1000000 in
theorem drop_no (w : World) {p g : Nat} {s : St} {k : Int} {i : Nat} (hh : HA w p g s) (hf : First s.n (hit s k) i) (hi : i < s.n) (hn : 0 < (s.P i).n) :
    Calls Try.prog 19 #[.pointer (some ⟨p, 0, none⟩), .int .i64 k] w fun e w' => e = .returned (.bool false) ∧ HA w' p g s ∧ Fr w.heap.size (Two p g) w w' := by
  have HH := Lib.hid hh
  have HF := Lib.hid hf
  have HI := Lib.hid hi
  clear hh hf hi
  go_enter Try.func19, Try.ntmps19
  go_upto_region 2 with (first | (go_at_call 25; refine (find_any _ HH.out HF.out).mono ?_; rintro e w1 ⟨rfl, hb1⟩; rw [ptr_some HI.out]))
  have h1 := HH.out.on hb1
  have c4 := h1.cell (i := i) HI.out (j := 4) (by omega)
  rw [show (s.P i).c[4]? = some (.int .i64 ((s.P i).n : Int)) from rfl] at c4
  have hz : (0 : Int) < ((s.P i).n : Int) := by omega
  clear h1 hn
  go_wp2_with fail
  go_ret
  exact ⟨rfl, HH.out.on hb1, Fr.of_below hb1⟩
end Go.Proofs.Ytnpgiboapckgpaa
