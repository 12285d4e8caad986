/- begun of layer 4. -/
import Derived.Test.YtolfmgbkbmphkaaLeafB
import Derived.Test.YtolfmgbkbmphkaaLeafTake
namespace Go.Proofs.Ytolfmgbkbmphkaa
open Go.RowKit

theorem pg5 {w : World} {g : Nat} {P : Nat → Option Addr} {N K : Nat → Nat} {n : Int} (h : w.heap[g]? = some (pgO P N K n)) : w.cell? ⟨g, 0, none⟩ = some (.slice (P 0) (N 0) (K 0)) ∧ w.cell? ⟨g, 1, none⟩ = some (.slice (P 1) (N 1) (K 1)) ∧ w.cell? ⟨g, 2, none⟩ = some (.slice (P 2) (N 2) (K 2)) ∧ w.cell? ⟨g, 3, none⟩ = some (.slice (P 3) (N 3) (K 3)) ∧ w.cell? ⟨g, 4, none⟩ = some (.int .i64 n) := by
  have := pg_cell h
  exact ⟨this.1 0 (by decide), this.1 1 (by decide), this.1 2 (by decide), this.1 3 (by decide), this.2.1⟩

theorem infoA : (Try.prog.info? 23).map (·.size) = some 4 := by kernel_rfl
theorem field_any (w : World) (P : Nat → Option Addr) (N K : Nat → Nat) (n : Int) : (Instr.field 25 (.agg #[.slice (P 0) (N 0) (K 0), .slice (P 1) (N 1) (K 1), .slice (P 2) (N 2) (K 2), .slice (P 3) (N 3) (K 3), .int .i64 n]) 0).run Try.prog w = .ok (.agg #[.slice (P 0) (N 0) (K 0), .slice (P 1) (N 1) (K 1), .slice (P 2) (N 2) (K 2), .slice (P 3) (N 3) (K 3)]) w := by
  obtain ⟨i, hi, hz⟩ := Option.map_eq_some_iff.1 infoA
  simp [Instr.field, asAgg, isAgg, sizeOf, typeInfo, hi, hz, run_underlying Try.underlying25, run_underlying Try.underlying23, go_sem]

def bk : ByteArray := ⟨#[97]⟩
def bc : Nat → List Int := setC noC 0 2 5 (rowL ⟨#[97]⟩ ⟨#[]⟩ ⟨#[]⟩)
theorem bm : mayB ⟨#[97]⟩ ⟨#[]⟩ ⟨#[]⟩ = true := by decide
theorem bc_2 : bc 2 = rowL ⟨#[97]⟩ ⟨#[]⟩ ⟨#[]⟩ := rfl
theorem bc_ne {j : Nat} (h : j ≠ 2) : bc j = [] := by
  show (if setQ 0 2 5 = true then upd noC (Int.toNat 2) _ else noC) j = []
  rw [if_pos (by decide)]
  exact if_neg h
theorem rdOk_nil : rdOk [] := ⟨_, _, _, _, _, _, .empty (.inl rfl)⟩
theorem rdOk_z : rdOk z26 := ⟨_, _, _, _, _, _, .empty (.inr rfl)⟩
theorem rdOk_pd {l : List Int} (h : rdOk l) : rdOk (pd l) := by
  unfold pd
  by_cases h0 : l.length = 0
  · rw [if_pos h0]; exact rdOk_z
  · rw [if_neg h0]; exact h
theorem bc_ok : okC bc = true := by
  refine okC_all fun j hj => ?_
  by_cases e : j = 2
  · subst e; rw [bc_2]; decide
  · rw [bc_ne e]; rfl
theorem bc_rd (j : Nat) : rdOk (bc j) := by
  by_cases e : j = 2
  · subst e; rw [bc_2]; exact ⟨_, _, _, _, _, _, .row _ _ _ bm rfl⟩
  · rw [bc_ne e]; exact rdOk_nil
theorem bc_len (j : Nat) : (bc j).length ≤ 100000 := by
  by_cases e : j = 2
  · subst e; rw [bc_2]; decide
  · rw [bc_ne e]; decide
theorem sameB_nrm (l : List Int) : sameB l (nrm l) = true := by
  unfold sameB
  rw [decide_eq_true_eq]
  rcases nrm_or l with ⟨_, h⟩ | ⟨_, h, _⟩
  · rw [h]; decide
  · rw [h, h]

set_option maxRecDepth 100000 in
set_option maxHeartbeats 4000000 in
theorem begun_true (w : World) : Calls Try.prog 10 #[] w fun e w' => e = .returned (.bool true) ∧ Below w.heap.size w w' := by
  have HBm := Lib.hid bm
  have hb0 : Below w.heap.size w (w.alloc zP) := (Below.refl _ _).alloc (Nat.le_refl _) _
  have HB0 := Lib.hid hb0
  have HK0 : Hid ((w.alloc zP).heap[w.heap.size]? = some zP) := heap_alloc_new w _
  have HZ0 : Hid (w.heap.size < (w.alloc zP).heap.size) := by show _ < _; simp
  clear hb0
  go_enter Try.func10, Try.ntmps10
  go_upto_region 2 with (fail)
  show Code.wp _ _ _ _ (w.alloc zP)
  generalize w.alloc zP = w0 at *
  go_wp2_with fail
  refine (rrow_ok w0 _ _ _ HBm.out).mono ?_
  rintro e w1 ⟨x, rfl, ho, hb1⟩
  have hs := own_slK ho (rowL_ok HBm.out)
  obtain ⟨p, q, rfl⟩ := own_sl ho
  have HB1 := Lib.hid (HB0.out.trans (hb1.mono HB0.out.size))
  have HK1 := Lib.hid ((hb1.block _ HZ0.out).trans HK0.out)
  have HZ1 := Lib.hid (Nat.lt_of_lt_of_le HZ0.out hb1.size)
  have HSet : Hid (Calls Try.prog 21 #[.agg #[.slice none 0 0, .slice none 0 0, .slice none 0 0, .slice none 0 0, .int .i64 0], .int .i64 2, .slice p 26 q, .int .i64 5] w1 (PgPost w1 bc 5)) := set_any w1 P0 N0 N0 0 noC (cs_no w1) 2 5 p 26 q _ hs (by decide) (fun _ _ => Nat.zero_le _) (by decide)
  obtain ⟨d0, d1, d2, d3, d4⟩ := pg5 (HK1.out : _ = some (pgO P0 N0 N0 0))
  clear ho hs hb1 HB0 HK0 HZ0 HBm
  go_wp2_with fail
  refine HSet.out.mono ?_
  rintro e w2 ⟨P, N, K, rfl, hco, hb2⟩
  have hb3 : Below w1.heap.size w1 (w2.alloc (pgO P N K 5)) := hb2.alloc hb2.size _
  have HCs := Lib.hid (hco.cs.below (B := w2.heap.size) ((Below.refl _ _).alloc (Nat.le_refl _) (pgO P N K 5)) (Nat.le_refl _))
  have HB3 := Lib.hid (HB1.out.trans (hb3.mono HB1.out.size))
  have HK3 := Lib.hid ((hb3.block _ HZ1.out).trans HK1.out)
  have HQ3 := Lib.hid (heap_alloc_new w2 (pgO P N K 5))
  have HZ3 : Hid (w2.heap.size < (w2.alloc (pgO P N K 5)).heap.size) := by show _ < _; simp
  have HZ2 := Lib.hid (Nat.lt_of_lt_of_le HZ1.out hb2.size)
  clear hco hb2 hb3 HSet HB1 HK1 HZ1 d0 d1 d2 d3 d4
  unfold pgV
  go_upto_region 4 with (fail)
  show Code.wp _ _ _ _ (w2.alloc (pgO P N K 5))
  generalize w2.alloc (pgO P N K 5) = w3 at *
  generalize w2.heap.size = g4 at *
  have HPut := Lib.hid (lput_any w3 P N K 5 bc HCs.out)
  obtain ⟨d0, d1, d2, d3, d4⟩ := pg5 HQ3.out
  go_wp2_with fail
  refine HPut.out.mono ?_
  rintro e w4 ⟨va, vb, rfl, ka, kb, hb4⟩
  rw [(lf_tE (n := 5) (m := 5) bc_ok bc_ok (by decide) (by decide) (by decide) (by decide)).1]
  have HTake := Lib.hid (ltake_any w4 va vb _ _ ka kb)
  obtain ⟨pa, qa, rfl, -⟩ := ka
  obtain ⟨pb, qb, rfl, -⟩ := kb
  generalize (lfA bc 5).length = na at *
  generalize (lfB bc 5).length = nb at *
  have HCs4 := Lib.hid (HCs.out.below hb4 (Nat.le_refl _))
  have HB4 := Lib.hid (HB3.out.trans (hb4.mono HB3.out.size))
  have HK4 := Lib.hid ((hb4.block _ (Nat.lt_trans HZ2.out HZ3.out)).trans HK3.out)
  have HQ4 := Lib.hid ((hb4.block _ HZ3.out).trans HQ3.out)
  have HZ4 := Lib.hid (Nat.lt_of_lt_of_le HZ3.out hb4.size)
  clear hb4 HCs HB3 HK3 HQ3 HZ3 HPut d0 d1 d2 d3 d4
  go_wp2_with fail
  refine HTake.out.mono ?_
  rintro e w5 ⟨er, d, m, P', N', K', htk, rfl, hcs, hb5⟩
  obtain ⟨rfl, rfl, hd⟩ := put_take bc_ok (by decide) (by decide) (fun i _ => rdOk_pd (bc_rd i)) htk
  have hb6 : Below w4.heap.size w4 (w5.alloc (pgO P' N' K' 5)) := hb5.alloc hb5.size _
  have HCs6 := Lib.hid (HCs4.out.below hb6 (Nat.le_refl _))
  have HDs6 := Lib.hid (hcs.below (B := w5.heap.size) ((Below.refl _ _).alloc (Nat.le_refl _) (pgO P' N' K' 5)) (Nat.le_refl _))
  have HB6 := Lib.hid (HB4.out.trans (hb6.mono HB4.out.size))
  have HK6 := Lib.hid ((hb6.block _ (Nat.lt_trans HZ2.out HZ4.out)).trans HK4.out)
  have HQ6 := Lib.hid ((hb6.block _ HZ4.out).trans HQ4.out)
  have HR6 := Lib.hid (heap_alloc_new w5 (pgO P' N' K' 5))
  have HZ6 := Lib.hid (Nat.lt_of_lt_of_le HZ4.out hb6.size)
  have HY6 : Hid (w5.heap.size < (w5.alloc (pgO P' N' K' 5)).heap.size) := by show _ < _; simp
  have HD := Lib.hid hd
  clear htk hcs hb5 hb6 hd HTake HCs4 HB4 HK4 HQ4 HZ4
  unfold pgV
  go_upto_region 6 with (fail)
  show Code.wp _ _ _ _ (w5.alloc (pgO P' N' K' 5))
  generalize w5.alloc (pgO P' N' K' 5) = w6 at *
  generalize w5.heap.size = g8 at *
  have e1 : pgSame bc d 5 5 = true := by
    rw [pgSame_all (fun j hj => by rw [HD.out j hj]; exact sameB_nrm _)]; rfl
  have e2 : pgSame noC bc 0 5 = false := by unfold pgSame; rw [show decide ((0 : Int) = 5) = false from rfl, Bool.and_false]
  have h1 := same_any w6 P N K 5 bc P' N' K' 5 d HCs6.out HDs6.out
  rw [e1] at h1
  have H1 := Lib.hid h1
  obtain ⟨d0, d1, d2, d3, d4⟩ := pg5 HQ6.out
  obtain ⟨x0, x1, x2, x3, x4⟩ := pg5 HR6.out
  clear h1 e1
  go_wp2_with fail
  refine H1.out.mono ?_
  rintro e w7 ⟨rfl, hb7⟩
  have HCs7 := Lib.hid (HCs6.out.below hb7 (Nat.le_refl _))
  have HB7 := Lib.hid (HB6.out.trans (hb7.mono HB6.out.size))
  have HK7 := Lib.hid ((hb7.block _ (Nat.lt_trans HZ2.out HZ6.out)).trans HK6.out)
  have HQ7 := Lib.hid ((hb7.block _ HZ6.out).trans HQ6.out)
  have HZ7 := Lib.hid (Nat.lt_of_lt_of_le HZ6.out hb7.size)
  have h2 := same_any w7 P0 N0 N0 0 noC P N K 5 bc (cs_no w7) HCs7.out
  rw [e2] at h2
  have H2 := Lib.hid h2
  clear h2 e2 hb7 HCs6 HB6 HK6 HQ6 HZ6 HR6 HY6 HDs6 H1 d0 d1 d2 d3 d4 x0 x1 x2 x3 x4
  obtain ⟨d0, d1, d2, d3, d4⟩ := pg5 HQ7.out
  obtain ⟨x0, x1, x2, x3, x4⟩ := pg5 (HK7.out : _ = some (pgO P0 N0 N0 0))
  go_wp2_with fail
  refine H2.out.mono ?_
  rintro e w8 ⟨rfl, hb8⟩
  have HCs8 := Lib.hid (HCs7.out.below hb8 (Nat.le_refl _))
  have HB8 := Lib.hid (HB7.out.trans (hb8.mono HB7.out.size))
  have HQ8 := Lib.hid ((hb8.block _ HZ7.out).trans HQ7.out)
  have H3 : Hid (Calls Try.prog 21 #[.agg #[.slice (P 0) (N 0) (K 0), .slice (P 1) (N 1) (K 1), .slice (P 2) (N 2) (K 2), .slice (P 3) (N 3) (K 3), .int .i64 5], .int .i64 2, .slice none 0 0, .int .i64 5] w8 (PgPost w8 bc 5)) := set_any w8 P N K 5 bc HCs8.out 2 5 none 0 0 [] (slK_nil _) rfl (fun i _ => bc_len i) (by decide)
  clear hb8 HCs7 HB7 HK7 HQ7 HZ7 H2 d0 d1 d2 d3 d4 x0 x1 x2 x3 x4 HCs8
  obtain ⟨d0, d1, d2, d3, d4⟩ := pg5 HQ8.out
  go_wp2_with fail
  refine H3.out.mono ?_
  rintro e w9 ⟨P9, N9, K9, rfl, hco, hb9⟩
  have hn : N9 2 = 26 := by rw [(hco 2 (by decide)).1]; rfl
  have HB9 := Lib.hid (HB8.out.trans (hb9.mono HB8.out.size))
  have ix := ix_any w9 P9 N9 K9 (k := 2) (by decide)
  rw [hn, show ((2 : Nat) : Int) = 2 from rfl] at ix
  clear hco hb9 H3 HB8 HQ8 d0 d1 d2 d3 d4
  unfold pgV
  have fl := field_any w9 P9 N9 K9 5
  rw [hn] at fl ⊢
  go_wp2
  go_ret
  exact ⟨rfl, HB9.out⟩

end Go.Proofs.Ytolfmgbkbmphkaa
