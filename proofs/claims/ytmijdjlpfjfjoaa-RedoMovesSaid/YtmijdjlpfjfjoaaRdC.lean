/- clone. -/
import Derived.Test.YtmijdjlpfjfjoaaRdG
namespace Go.Proofs.Ytmijdjlpfjfjoaa.Rx
open Go.RowKit

/-- A page's copy amid the loop: k cells are new. -/
def StC (w wr : World) (c : Nat → List Int) (n : Int) (k : Nat) : Prop := PgAt wr w.heap.size n c ∧ (∃ P N K, wr.heap[w.heap.size + 1]? = some (pgO P N K 0)) ∧ Below w.heap.size w wr ∧ w.heap.size + 2 ≤ wr.heap.size ∧ k ≤ 4
theorem cl_end {W : World} {tmps : Array Value} {g : Nat} {P : Nat → Option Addr} {N K : Nat → Nat} {n : Int} (h2 : tmps.getD 2 undef = .pointer (some ⟨g, 0, none⟩)) (k : W.heap[g]? = some (pgO P N K n)) : (results Try.f20 tmps).run Try.prog W = .ok (pgV P N K n) W := by
  rw [Array.getD_eq_getD_getElem?] at h2
  have hc := fun i => (cell_of (cs := pgC P N K n) k i).1
  have a0 := hc 0
  have a1 := hc 1
  have a2 := hc 2
  have a3 := hc 3
  have a4 := hc 4
  simp [results, Try.results20, go_sem, h2, a0, a1, a2, a3, a4, pgC, pgV]
/-- What a page as an answer is. -/
def PgIs (w : World) (n : Int) (c : Nat → List Int) (r : Ending) (w' : World) : Prop := ∃ P N K, r = .returned (pgV P N K n) ∧ Cs w' P N K c ∧ Below w.heap.size w w'

set_option maxRecDepth 100000 in
set_option maxHeartbeats 2000000 in
theorem pclone_any (w : World) (P : Nat → Option Addr) (N K : Nat → Nat) (n : Int) (c : Nat → List Int) (h : Cs w P N K c) (hl : ∀ i, i < 4 → (c i).length ≤ 100000) :
    Calls Try.prog 20 #[pgV P N K n] w (PgIs w n c) := by
  unfold pgV
  have hb0 : Below w.heap.size w ((w.alloc (pgO P N K n)).alloc (pgO P0 N0 N0 0)) := ((Below.refl _ _).alloc (Nat.le_refl _) _).alloc (by simp) _
  have hk0 : ((w.alloc (pgO P N K n)).alloc (pgO P0 N0 N0 0)).heap[w.heap.size]? = some (pgO P N K n) := (Below.heap_alloc _ _ _ (by simp)).trans (heap_alloc_new w _)
  have hk1 : ((w.alloc (pgO P N K n)).alloc (pgO P0 N0 N0 0)).heap[w.heap.size + 1]? = some (pgO P0 N0 N0 0) := by
    have h1 := heap_alloc_new (w.alloc (pgO P N K n)) (pgO P0 N0 N0 0)
    rwa [show (w.alloc (pgO P N K n)).heap.size = w.heap.size + 1 by simp] at h1
  have hs0 : ((w.alloc (pgO P N K n)).alloc (pgO P0 N0 N0 0)).heap.size = w.heap.size + 2 := by simp
  have HS0 : Hid (StC w ((w.alloc (pgO P N K n)).alloc (pgO P0 N0 N0 0)) c n 0) := ⟨⟨P, N, K, hk0, h.below hb0 (Nat.le_refl _)⟩, ⟨_, _, _, hk1⟩, hb0, by omega, by omega⟩
  have HH := Lib.hid h
  have HL := Lib.hid hl
  have HB0 := Lib.hid hb0
  have c0 := pg5 hk0
  obtain ⟨c0, c1, c2, c3, c4⟩ := c0
  clear h hl hb0 hk0 hk1 hs0
  go_enter Try.func20, Try.ntmps20
  go_upto_region 1 with (fail)
  show Code.wp _ _ _ _ ((w.alloc (pgO P N K n)).alloc (pgO P0 N0 N0 0))
  generalize (w.alloc (pgO P N K n)).alloc (pgO P0 N0 N0 0) = w1 at *
  go_wp2
  clear c0 c1 c2 c3 c4
  go_loopw [7] (fun i wr => ∃ k : Nat, k ≤ 4 ∧ i = .int .i64 (k : Int) ∧ Hid (StC w wr c n k)) (fun i _ => 4 - (RowKit.intOf i).toNat)
  case atStart => exact ⟨0, by omega, rfl, HS0⟩
  case round =>
    obtain ⟨k, hk, rfl, HS⟩ := hrel
    by_cases hlt : k < 4
    · have ix := ix_any wr P N K hlt
      obtain ⟨hp, hr, hb, hz, _⟩ := HS.out
      have hC := clone_any wr (.slice (P k) (N k) (K k)) (c k) ((HH.out k hlt).2.below hb (Nat.le_refl _)) (HL.out k hlt)
      have HC := Lib.hid hC
      have HP := Lib.hid (And.intro hp (And.intro hr (And.intro hb hz)))
      clear hC hp hr hb hz
      have HO := Lib.hid (HH.out k hlt).2.ok
      go_wp2_with (go_at_call 28; refine HC.out.mono ?_; rintro r w5 ⟨v, rfl, ho, hb5⟩; obtain ⟨A, q, rfl⟩ := own_sl ho; have hp5 := HP.out.1.below hb5; obtain ⟨P5, N5, K5, h5, hc5⟩ := hp5; have d5 := (pg_cell h5).1 k hlt; have f5 := (pg_cell h5).2.2 k; have H5 := Lib.hid (And.intro h5 (And.intro hc5 (And.intro ho hb5))); clear h5 hc5 ho hb5)
      obtain ⟨h5, hc5, ho, hb5⟩ := H5.out
      have HX : Hid (StC w (w5.setCell ⟨w.heap.size, k, none⟩ (.slice A (c k).length q)) c n (k + 1)) := by
        obtain ⟨_, ⟨P2, N2, K2, hr⟩, hb, hz⟩ := HP.out
        have hz5 := hb5.size
        have hn := PgAt.set ⟨P5, N5, K5, h5, hc5⟩ (own_slK ho HO.out) hlt
        rw [show (fun j => if j = k then c k else c j) = c from funext fun j => by by_cases e : j = k <;> simp [e]] at hn
        exact ⟨hn, ⟨P2, N2, K2, (Below.heap_setCell _ _ _ _ (by simp)).trans ((hb5.block _ (by omega)).trans hr)⟩, (hb.trans (hb5.mono (by omega))).setCell (p := ⟨w.heap.size, k, none⟩) (Nat.le_refl _) _, by simp; omega, by omega⟩
      clear h5 hc5 ho hb5 d5 f5 H5
      go_wp2
      go_roundw
      case rel => exact ⟨k + 1, by omega, by go_num, HX⟩
      case measure => simp [RowKit.intOf]; omega
    · obtain rfl : k = 4 := by omega
      obtain ⟨⟨P2, N2, K2, hp, hc⟩, ⟨P3, N3, K3, hr⟩, hb, hz, _⟩ := HS.out
      obtain ⟨d0, d1, d2, d3, d4⟩ := pg5 hp
      obtain ⟨e0, e1, e2, e3, e4⟩ := pg5 hr
      have hf := (pg_cell hr).2.2
      have f0 := hf 0
      have f1 := hf 1
      have f2 := hf 2
      have f3 := hf 3
      have f4 := hf 4
      have HE := Lib.hid (finP_heap (P := P2) (N := N2) (K := K2) (n := n) hr)
      have hset : ∀ (W : World) (i : Nat) (v : Value) (P' : Nat → Option Addr) (N' K' : Nat → Nat) (n' : Int), W.heap[w.heap.size + 1]? = some (pgO P' N' K' n') → Cs W P2 N2 K2 c → Cs (W.setCell ⟨w.heap.size + 1, i, none⟩ v) P2 N2 K2 c := fun W i v P' N' K' n' h' hcs j hj => ⟨(hcs j hj).1, SlK.tn (hcs j hj).2 (Tn.set _ _ _) (slK_off h' (hcs j hj).2)⟩
      have HP : Hid (PgIs w n c (.returned (pgV P2 N2 K2 n)) (finP wr (w.heap.size + 1) P2 N2 K2 n)) := by
        refine ⟨P2, N2, K2, rfl, ?_, finP_below hb (by omega)⟩
        unfold finP
        have q1 := pg_set hr (k := 0) (by decide) (P2 0) (N2 0) (K2 0)
        have q2 := pg_set q1 (k := 1) (by decide) (P2 1) (N2 1) (K2 1)
        have q3 := pg_set q2 (k := 2) (by decide) (P2 2) (N2 2) (K2 2)
        have q4 := pg_set q3 (k := 3) (by decide) (P2 3) (N2 3) (K2 3)
        exact hset _ _ _ _ _ _ _ q4 (hset _ _ _ _ _ _ _ q3 (hset _ _ _ _ _ _ _ q2 (hset _ _ _ _ _ _ _ q1 (hset _ _ _ _ _ _ _ hr hc))))
      clear hr hp hc hb hf hset hz
      go_wp2
      change bodyPost _ _ _ _ _ (finP wr (w.heap.size + 1) P2 N2 K2 n)
      exact bodyPost_ret (cl_end rfl HE.out) rfl HP.out
end Go.Proofs.Ytmijdjlpfjfjoaa.Rx
