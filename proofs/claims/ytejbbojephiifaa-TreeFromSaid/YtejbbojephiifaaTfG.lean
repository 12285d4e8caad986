/- The reference's tree: Get. -/
import Derived.Test.YtejbbojephiifaaTfB
namespace Go.Proofs.Ytejbbojephiifaa
open Go.RowKit

theorem rids_at {w : World} {B : Nat} {sv : Value} {xs : List KV} (h : w.ownsRow B 35 2 sv xs.length (xs.flatMap ridV)) {i : Nat} (hi : i < xs.length) : ∃ q c, sv = .slice (some ⟨q, 0, none⟩) xs.length c ∧ q < w.heap.size ∧ ∀ j u, (#[.int .i64 xs[i].p, .int .i64 xs[i].c] : Array Value)[j]? = some u → w.cell? ⟨q, i * 2 + j, none⟩ = some u := by
  rcases id h.2 with ⟨rfl, h2⟩ | ⟨q, cap, cur, rfl, _, hq, _⟩
  · omega
  · refine ⟨q, cap, rfl, (Array.getElem?_eq_some_iff.1 hq).1, fun j u hu => ?_⟩
    match j, hu with
    | 0, hu => rw [(own_cell (f := ridV) (k := 2) (fun _ => rfl) h hi (j := 0) (by omega)).1]; exact hu
    | 1, hu => rw [(own_cell (f := ridV) (k := 2) (fun _ => rfl) h hi (j := 1) (by omega)).1]; exact hu
    | (j + 2), hu => simp at hu

set_option maxRecDepth 100000 in
set_option maxHeartbeats 4000000 in
theorem rget_any (w : World) {B r : Nat} {xs : List KV} (h : RTr w B r xs) (hx : xs.length ≤ 100000) (k : ByteArray) :
    Calls Try.prog 17 #[.pointer (some ⟨r, 0, none⟩), .string k] w fun e w' => e = .returned (fndV (fnd k xs)) ∧ Below w.heap.size w w' := by
  have hb0 := (Below.refl w.heap.size w).alloc (Nat.le_refl _) (.cells #[.int .i64 0, .int .i64 0] 35)
  have H0 := Lib.hid (h.below hb0)
  have HB0 := Lib.hid hb0
  have HX := Lib.hid (heap_alloc_new w (.cells #[.int .i64 0, .int .i64 0] 35))
  have hfd := rfind_any _ (h.below hb0) hx k
  have HFN := Lib.hid (fnd_pos k xs)
  have HHP := Lib.hid (has_pos k xs)
  have HSZ0 := Lib.hid (szRID 0 0)
  clear h hb0
  cases hbz : has k xs with
  | false =>
    rw [hbz] at hfd
    have HFD := Lib.hid hfd
    have e3 : fnd k xs = none := by rw [HFN.out, hbz]; rfl
    have HE3 := Lib.hid e3
    clear hfd e3 hbz
    go_enter Try.func17, Try.ntmps17
    go_upto_region 3 with (first
      | (go_at_call 27; refine HFD.out.mono ?_; rintro e w1 ⟨rfl, hb1⟩; have HB1 := Lib.hid hb1; clear hb1))
    have hbx1 : w1.heap[w.heap.size]? = some (.cells #[.int .i64 0, .int .i64 0] 35 (0, 0)) := (HB1.out.block _ (Array.getElem?_eq_some_iff.1 HX.out).1).trans HX.out
    have HB2 := Lib.hid hbx1
    have HWB : Hid (Below w.heap.size w (w1.setRow w.heap.size (putRow #[.int .i64 0, .int .i64 0] 0 [.int .i64 0, .int .i64 0]))) := ((Fr.of_below (S := fun _ => False) (HB0.out.trans (HB1.out.mono HB0.out.size))).setRow (b := w.heap.size) (.inr (Nat.le_refl _)) _).toBelow (Nat.le_refl _) (fun k e => e.elim)
    have q0 : (w1.setRow w.heap.size (putRow #[.int .i64 0, .int .i64 0] 0 [.int .i64 0, .int .i64 0])).cell? ⟨w.heap.size, 0, none⟩ = some (.int .i64 0) := (cell_of (setRow_heap w1 w.heap.size _ _ _ _ hbx1) 0).1.trans rfl
    have q1 : (w1.setRow w.heap.size (putRow #[.int .i64 0, .int .i64 0] 0 [.int .i64 0, .int .i64 0])).cell? ⟨w.heap.size, 1, none⟩ = some (.int .i64 0) := (cell_of (setRow_heap w1 w.heap.size _ _ _ _ hbx1) 1).1.trans rfl
    clear hbx1
    go_wp2_with (first
      | (with_reducible refine wpList_store_at rfl 35 (.tmp 4) (.tmp 16) rfl w.heap.size 0 #[.int .i64 0, .int .i64 0] rfl rfl 35 #[.int .i64 0, .int .i64 0] HB2.out HSZ0.out (by simp) (by simp [Value.oneCell']) ?_))
    generalize w1.setRow w.heap.size (putRow #[.int .i64 0, .int .i64 0] 0 [.int .i64 0, .int .i64 0]) = w2 at *
    refine bodyPost_ret (v := .tuple #[.agg #[.int .i64 0, .int .i64 0], .bool false]) ?_ rfl ⟨by rw [HE3.out]; rfl, HWB.out⟩
    simp [results, Try.results17, go_sem, q0, q1]
  | true =>
    rw [hbz] at hfd
    have HFD := Lib.hid hfd
    rw [hbz] at HHP
    obtain ⟨hlt, hkk⟩ : ∃ h : pos k xs < xs.length, (xs[pos k xs]'h).k = k := of_decide_eq_true HHP.out.symm
    have e3 : fnd k xs = some xs[pos k xs] := by rw [HFN.out, hbz]; simp [hlt]
    obtain ⟨sk, sv, hr, _, hv⟩ := H0.out.ex
    obtain ⟨q, c, rfl, hq, hc⟩ := rids_at hv hlt
    obtain ⟨y, hy⟩ : ∃ y, xs[pos k xs] = y := ⟨_, rfl⟩
    rw [hy] at e3 hc
    have HE3 := Lib.hid e3
    have HSZ := Lib.hid (szRID y.p y.c)
    obtain ⟨n, hn⟩ : ∃ n, xs.length = n := ⟨_, rfl⟩
    obtain ⟨i, hi⟩ : ∃ i, pos k xs = i := ⟨_, rfl⟩
    rw [hn] at hlt hr
    rw [hi] at hlt hc HFD
    have hltI : (i : Int) < (n : Int) := by omega
    have HR := Lib.hid hr
    have HC := Lib.hid (And.intro hq hc)
    clear hfd e3 hbz hv HHP hkk hy hi hn hx hr hc hq H0
    go_enter Try.func17, Try.ntmps17
    go_upto_region 4 with (first
      | (go_at_call 27; refine HFD.out.mono ?_; rintro e w1 ⟨rfl, hb1⟩; have HB1 := Lib.hid hb1; clear hb1))
    have hbx1 : w1.heap[w.heap.size]? = some (.cells #[.int .i64 0, .int .i64 0] 35 (0, 0)) := (HB1.out.block _ (Array.getElem?_eq_some_iff.1 HX.out).1).trans HX.out
    have c1 : w1.cell? ⟨r, 1, none⟩ = some (.slice (some ⟨q, 0, none⟩) n c) := (World.cell?_of_block (HB1.out.block r (Array.getElem?_eq_some_iff.1 HR.out).1)).trans (cell_of HR.out 1).1
    have HLD : Hid (∀ j u, (#[.int .i64 y.p, .int .i64 y.c] : Array Value)[j]? = some u → w1.cell? ⟨q, i * 2 + j, none⟩ = some u) := fun j u hu => (World.cell?_of_block (HB1.out.block q HC.out.1)).trans (HC.out.2 j u hu)
    have HB2 := Lib.hid hbx1
    have HWB : Hid (Below w.heap.size w (w1.setRow w.heap.size (putRow #[.int .i64 0, .int .i64 0] 0 [.int .i64 y.p, .int .i64 y.c]))) := ((Fr.of_below (S := fun _ => False) (HB0.out.trans (HB1.out.mono HB0.out.size))).setRow (b := w.heap.size) (.inr (Nat.le_refl _)) _).toBelow (Nat.le_refl _) (fun k e => e.elim)
    have q0 : (w1.setRow w.heap.size (putRow #[.int .i64 0, .int .i64 0] 0 [.int .i64 y.p, .int .i64 y.c])).cell? ⟨w.heap.size, 0, none⟩ = some (.int .i64 y.p) := (cell_of (setRow_heap w1 w.heap.size _ _ _ _ hbx1) 0).1.trans rfl
    have q1 : (w1.setRow w.heap.size (putRow #[.int .i64 0, .int .i64 0] 0 [.int .i64 y.p, .int .i64 y.c])).cell? ⟨w.heap.size, 1, none⟩ = some (.int .i64 y.c) := (cell_of (setRow_heap w1 w.heap.size _ _ _ _ hbx1) 1).1.trans rfl
    clear hbx1
    go_wp2_with (first
      | (refine wpList_load_at (by rfl) 35 (.tmp 22) (by rfl) q (i * 2) (by rfl) #[.int .i64 y.p, .int .i64 y.c] _ HLD.out undRID (by rfl) HSZ.out ?_)
      | (with_reducible refine wpList_store_at rfl 35 (.tmp 4) (.tmp 23) rfl w.heap.size 0 #[.int .i64 y.p, .int .i64 y.c] rfl rfl 35 #[.int .i64 0, .int .i64 0] HB2.out HSZ.out (by simp) (by simp [Value.oneCell']) ?_))
    generalize w1.setRow w.heap.size (putRow #[.int .i64 0, .int .i64 0] 0 [.int .i64 y.p, .int .i64 y.c]) = w2 at *
    refine bodyPost_ret (v := .tuple #[.agg #[.int .i64 y.p, .int .i64 y.c], .bool true]) ?_ rfl ⟨by rw [HE3.out]; rfl, HWB.out⟩
    simp [results, Try.results17, go_sem, q0, q1]
end Go.Proofs.Ytejbbojephiifaa
