/- Apply. -/
import Derived.Test.YtmijdjlpfjfjoaaRdC
namespace Go.Proofs.Ytmijdjlpfjfjoaa.Rx
open Go.RowKit

theorem wpList_load_rowG {P : Program} {ops : Array Oper} {rest : List Oper} {o : Oper} {a : Act} {w : World} {Q : Exit → Act → World → Prop} (hw : Region.wanted o (yielded ops a.tmps) = true) (ty : TypeId) (x : Operand) (ho : o.op = .load ty x)
    (g : Nat) (hx : a.eval x = .pointer (some ⟨g, 0, none⟩)) (t : TypeId) (cs : Array Value) (fr : Nat × Nat) (d : TypeDesc) (hg : w.heap[g]? = some (.cells cs t fr))
    (hu : P.underlying ty = some d) (hd : (match d with | .struct _ | .array _ _ => true | _ => false) = true) (hi : (P.info? ty).map (·.size) = some cs.size)
    (h : wpList P ops Q rest (a.put o.dst (.agg cs)) w) : wpList P ops Q (o :: rest) a w :=
  wpList_step fun _ hK => by
    rw [if_pos hw]
    exact wp_load_row ty x ho g hx t cs fr d hg hu hd hi (hK _ _ h)

theorem stubE_len (p c : Int) : (stubE p c).length ≤ 26 := by unfold stubE; split <;> simp [stubL]
theorem tl_len {e : En} (h : e.new.length ≤ 100000) : ∀ t ∈ tl e, t.2.2.length ≤ 100000 := by
  intro t ht
  unfold tl at ht
  split at ht
  · obtain rfl := List.mem_singleton.1 ht; exact h
  · split at ht
    · rcases List.mem_cons.1 ht with rfl | ht
      · have := stubE_len e.tp e.tc; show (stubE e.tp e.tc).length ≤ _; omega
      · obtain rfl := List.mem_singleton.1 ht; exact h
    · split at ht
      · obtain ⟨m, _, rfl⟩ := List.mem_map.1 ht; exact Nat.zero_le _
      · cases ht
theorem giv_len {n : Int} {l : List Gv} : ∀ {c : Nat → List Int}, (∀ t ∈ l, t.2.2.length ≤ 100000) → (∀ i, i < 4 → (c i).length ≤ 100000) → ∀ i, i < 4 → (giv n c l i).length ≤ 100000 := by
  induction l with
  | nil => intro c _ h; exact h
  | cons t l ih =>
    intro c hl h
    refine ih (c := giv1 n c t) (fun u hu => hl u (List.mem_cons_of_mem _ hu)) (fun i hi => ?_)
    unfold giv1
    split
    · show (if i = t.2.1.toNat then t.2.2 else c i).length ≤ _
      split
      · exact hl t (List.mem_cons_self ..)
      · exact h i hi
    · exact h i hi
theorem PgAt.setN {W : World} {g : Nat} {lsn : Int} {c : Nat → List Int} (h : PgAt W g lsn c) (m : Int) : PgAt (W.setCell ⟨g, 4, none⟩ (.int .i64 m)) g m c := by
  obtain ⟨P, N, K, h1, h2⟩ := h
  exact ⟨P, N, K, pg_setN h1 m, fun j hj => ⟨(h2 j hj).1, SlK.tn (h2 j hj).2 (Tn.set _ _ _) (slK_off h1 (h2 j hj).2)⟩⟩
/-- A page laid elsewhere leaves what its cells read. -/
theorem cs_fin {W : World} {g : Nat} {P N K P' N' K'} {n n' : Int} {P2 : Nat → Option Addr} {N2 K2 : Nat → Nat} {c : Nat → List Int} (hr : W.heap[g]? = some (pgO P' N' K' n')) (hc : Cs W P2 N2 K2 c) : Cs (finP W g P N K n) P2 N2 K2 c := by
  have hset : ∀ (W : World) (i : Nat) (v : Value) (P' : Nat → Option Addr) (N' K' : Nat → Nat) (n' : Int), W.heap[g]? = some (pgO P' N' K' n') → Cs W P2 N2 K2 c → Cs (W.setCell ⟨g, i, none⟩ v) P2 N2 K2 c := fun W i v P' N' K' n' h' hcs j hj => ⟨(hcs j hj).1, SlK.tn (hcs j hj).2 (Tn.set _ _ _) (slK_off h' (hcs j hj).2)⟩
  unfold finP
  have q1 := pg_set hr (k := 0) (by decide) (P 0) (N 0) (K 0)
  have q2 := pg_set q1 (k := 1) (by decide) (P 1) (N 1) (K 1)
  have q3 := pg_set q2 (k := 2) (by decide) (P 2) (N 2) (K 2)
  have q4 := pg_set q3 (k := 3) (by decide) (P 3) (N 3) (K 3)
  exact hset _ _ _ _ _ _ _ q4 (hset _ _ _ _ _ _ _ q3 (hset _ _ _ _ _ _ _ q2 (hset _ _ _ _ _ _ _ q1 (hset _ _ _ _ _ _ _ hr hc))))

/-- What Apply answers. -/
def ApIs (w : World) (c : Nat → List Int) (lsn n : Int) (e : En) (now : Int) (r : Ending) (w' : World) : Prop := ∃ P N K, r = .returned (.tuple #[pgV P N K (apN lsn n e now), .bool (apc lsn n e now)]) ∧ Cs w' P N K (apC c lsn n e now) ∧ Below w.heap.size w w'
theorem ap_end {W : World} {tmps : Array Value} {g : Nat} {P : Nat → Option Addr} {N K : Nat → Nat} {n : Int} {b : Bool} (h8 : tmps.getD 8 undef = .pointer (some ⟨g, 0, none⟩)) (h9 : tmps.getD 9 undef = .bool b) (k : W.heap[g]? = some (pgO P N K n)) : (results Try.f9 tmps).run Try.prog W = .ok (.tuple #[pgV P N K n, .bool b]) W := by
  rw [Array.getD_eq_getD_getElem?] at h8 h9
  have hc := fun i => (cell_of (cs := pgC P N K n) k i).1
  have a0 := hc 0
  have a1 := hc 1
  have a2 := hc 2
  have a3 := hc 3
  have a4 := hc 4
  simp [results, Try.results9, go_sem, h8, h9, a0, a1, a2, a3, a4, pgC, pgV]

set_option maxRecDepth 100000 in
set_option maxHeartbeats 2000000 in
theorem apply_any (w : World) (P : Nat → Option Addr) (N K : Nat → Nat) (lsn : Int) (c : Nat → List Int) (n : Int) (e : En) (x : Ex) (now : Int) (h : Cs w P N K c) (hl : ∀ i, i < 4 → (c i).length ≤ 100000) (hE : EnIn w e x) :
    Calls Try.prog 9 #[pgV P N K lsn, .int .i64 n, .agg (enC e x), .int .i64 now] w (ApIs w c lsn n e now) := by
  unfold pgV
  have s1 : (w.alloc (pgO P N K lsn)).heap.size = w.heap.size + 1 := by simp
  have s2 : ((w.alloc (pgO P N K lsn)).alloc (.cells (enC e x) 31)).heap.size = w.heap.size + 2 := by simp
  have hb0 : Below w.heap.size w (((w.alloc (pgO P N K lsn)).alloc (.cells (enC e x) 31)).alloc (pgO P0 N0 N0 0)) := (((Below.refl _ _).alloc (Nat.le_refl _) _).alloc (by simp) _).alloc (by simp; omega) _
  have hk0 : (((w.alloc (pgO P N K lsn)).alloc (.cells (enC e x) 31)).alloc (pgO P0 N0 N0 0)).heap[w.heap.size]? = some (pgO P N K lsn) := (Below.heap_alloc _ _ _ (by omega)).trans ((Below.heap_alloc _ _ _ (by omega)).trans (heap_alloc_new w _))
  have hk1 : (((w.alloc (pgO P N K lsn)).alloc (.cells (enC e x) 31)).alloc (pgO P0 N0 N0 0)).heap[w.heap.size + 1]? = some (.cells (enC e x) 31 (0, 0)) := by
    have h1 := heap_alloc_new (w.alloc (pgO P N K lsn)) (.cells (enC e x) 31)
    rw [s1] at h1
    exact (Below.heap_alloc _ _ _ (by omega)).trans h1
  have hk2 : (((w.alloc (pgO P N K lsn)).alloc (.cells (enC e x) 31)).alloc (pgO P0 N0 N0 0)).heap[w.heap.size + 2]? = some (pgO P0 N0 N0 0) := by
    have h1 := heap_alloc_new ((w.alloc (pgO P N K lsn)).alloc (.cells (enC e x) 31)) (pgO P0 N0 N0 0)
    rwa [s2] at h1
  have hs0 : (((w.alloc (pgO P N K lsn)).alloc (.cells (enC e x) 31)).alloc (pgO P0 N0 N0 0)).heap.size = w.heap.size + 3 := by simp
  have HPg : Hid (PgAt (((w.alloc (pgO P N K lsn)).alloc (.cells (enC e x) 31)).alloc (pgO P0 N0 N0 0)) w.heap.size lsn c) := ⟨P, N, K, hk0, h.below hb0 (Nat.le_refl _)⟩
  have HL := Lib.hid hl
  have HE := Lib.hid hE
  have HB0 := Lib.hid hb0
  have HX := Lib.hid hk1
  have HR := Lib.hid hk2
  have HS := Lib.hid hs0
  have HI := Lib.hid (infoE2 e x)
  have c4 := (pg5 hk0).2.2.2.2
  clear h hl hE hb0 hk0 hk1 hk2 hs0 s1 s2
  by_cases hlt : lsn < now
  · have HT := Lib.hid ((callsIn_wide (n := 8)).1 (touches_in _ e x n (HE.out.below HB0.out (Nat.le_refl _))))
    go_enter Try.func9, Try.ntmps9
    go_upto_region 1 with (fail)
    show Code.wp _ _ _ _ (((w.alloc (pgO P N K lsn)).alloc (.cells (enC e x) 31)).alloc (pgO P0 N0 N0 0))
    generalize ((w.alloc (pgO P N K lsn)).alloc (.cells (enC e x) 31)).alloc (pgO P0 N0 N0 0) = w1 at *
    cases hq : tch (tl e) n with
    | true =>
      have hap : Hid (apc lsn n e now = true) := by show apc lsn n e now = true; unfold apc; rw [hq]; simp [hlt]
      rw [hq] at HT
      clear hq
      go_wp2_with (first
        | ((with_reducible refine wpList_load_rowG ?_ 31 (.tmp 6) rfl (w.heap.size + 1) rfl 31 _ (0, 0) _ HX.out Try.underlying31 rfl HI.out ?_); · rfl)
        | (go_at_call 18; refine HT.out.mono ?_; rintro r w2 ⟨rfl, hb2⟩; clear HT; have HX2 := Lib.hid ((hb2.block _ (by have := HS.out; omega)).trans HX.out); have HR2 := Lib.hid ((hb2.block _ (by have := HS.out; omega)).trans HR.out); have HB2 := Lib.hid (HB0.out.trans (hb2.mono HB0.out.size)); have HG := Lib.hid ((callsIn_wide (n := 8)).1 (give_in w2 w w.heap.size e x n lsn c HE.out HB2.out (Nat.le_refl _) (HPg.out.below hb2))); have HS2 := Lib.hid (And.intro HS.out hb2.size); clear hb2 c4)
        | ((with_reducible refine wpList_load_row rfl 31 (.tmp 6) rfl (w.heap.size + 1) rfl 31 _ (0, 0) _ HX2.out Try.underlying31 rfl HI.out ?_))
        | (go_at_call 19; refine HG.out.mono ?_; rintro r w3 ⟨rfl, hp3, ht3⟩; clear HG; obtain ⟨P3, N3, K3, h3, hc3⟩ := hp3; obtain ⟨d0, d1, d2, d3, d4⟩ := pg5 h3; have g4 := (pg_cell h3).2.2 4; have hc4 : Cs (w3.setCell ⟨w.heap.size, 4, none⟩ (.int .i64 now)) P3 N3 K3 (giv n c (tl e)) := fun j hj => ⟨(hc3 j hj).1, SlK.tn (hc3 j hj).2 (Tn.set _ _ _) (slK_off h3 (hc3 j hj).2)⟩; have HC := Lib.hid (pclone_any _ P3 N3 K3 now _ hc4 (giv_len (tl_len HE.out.nlen) HL.out)); unfold pgV at HC; have HR3 := Lib.hid ((Below.heap_setCell w3 ⟨w.heap.size, 4, none⟩ (.int .i64 now) (w.heap.size + 2) (by simp)).trans ((ht3.o _ (by omega) (by have := HS2.out; omega)).trans HR2.out)); have HB3 := Lib.hid ((HB2.out.trans ht3.b).setCell (p := ⟨w.heap.size, 4, none⟩) (Nat.le_refl _) (.int .i64 now)); have HS3 : Hid (w.heap.size + 2 < (w3.setCell ⟨w.heap.size, 4, none⟩ (.int .i64 now)).heap.size) := (Array.getElem?_eq_some_iff.1 HR3.out).1; clear h3 hc3 ht3 hc4)
        | (go_at_call 20; refine HC.out.mono ?_; rintro r w5 ⟨P7, N7, K7, rfl, hc7, hb7⟩; clear HC d0 d1 d2 d3 d4 g4; have h7 := (hb7.block _ HS3.out).trans HR3.out; unfold pgV; have f0 := (pg_cell h7).2.2 0; have f1 := (pg_cell h7).2.2 1; have f2 := (pg_cell h7).2.2 2; have f3 := (pg_cell h7).2.2 3; have f4 := (pg_cell h7).2.2 4; obtain ⟨e0, e1, e2, e3, e4⟩ := pg5 h7; have H7 := Lib.hid (And.intro h7 (And.intro hc7 (HB3.out.trans (hb7.mono HB3.out.size)))); clear h7 hc7 hb7))
      obtain ⟨h7, hc7, hb7⟩ := H7.out
      change bodyPost _ _ _ _ _ (finP w5 (w.heap.size + 2) P7 N7 K7 now)
      refine bodyPost_ret (ap_end rfl rfl (finP_heap h7)) rfl ?_
      exact ⟨P7, N7, K7, by rw [apN, hap.out, if_pos rfl], by rw [apC, hap.out, if_pos rfl]; exact cs_fin h7 hc7, finP_below hb7 (by omega)⟩
    | false =>
      have hap : Hid (apc lsn n e now = false) := by show apc lsn n e now = false; unfold apc; rw [hq]; simp
      rw [hq] at HT
      clear hq
      go_wp2_with (first
        | ((with_reducible refine wpList_load_rowG ?_ 31 (.tmp 6) rfl (w.heap.size + 1) rfl 31 _ (0, 0) _ HX.out Try.underlying31 rfl HI.out ?_); · rfl)
        | (go_at_call 18; refine HT.out.mono ?_; rintro r w2 ⟨rfl, hb2⟩; clear HT c4; have HR3 := Lib.hid ((hb2.block _ (by have := HS.out; omega)).trans HR.out); have HB3 := Lib.hid (HB0.out.trans (hb2.mono HB0.out.size)); obtain ⟨P3, N3, K3, h3, hc3⟩ := HPg.out.below hb2; obtain ⟨d0, d1, d2, d3, d4⟩ := pg5 h3; have HC := Lib.hid (pclone_any _ P3 N3 K3 lsn _ hc3 HL.out); unfold pgV at HC; have HS3 : Hid (w.heap.size + 2 < w2.heap.size) := (Array.getElem?_eq_some_iff.1 HR3.out).1; clear hb2 h3 hc3)
        | (go_at_call 20; refine HC.out.mono ?_; rintro r w5 ⟨P7, N7, K7, rfl, hc7, hb7⟩; clear HC d0 d1 d2 d3 d4; have h7 := (hb7.block _ HS3.out).trans HR3.out; unfold pgV; have f0 := (pg_cell h7).2.2 0; have f1 := (pg_cell h7).2.2 1; have f2 := (pg_cell h7).2.2 2; have f3 := (pg_cell h7).2.2 3; have f4 := (pg_cell h7).2.2 4; obtain ⟨e0, e1, e2, e3, e4⟩ := pg5 h7; have H7 := Lib.hid (And.intro h7 (And.intro hc7 (HB3.out.trans (hb7.mono HB3.out.size)))); clear h7 hc7 hb7))
      obtain ⟨h7, hc7, hb7⟩ := H7.out
      change bodyPost _ _ _ _ _ (finP w5 (w.heap.size + 2) P7 N7 K7 lsn)
      refine bodyPost_ret (ap_end rfl rfl (finP_heap h7)) rfl ?_
      exact ⟨P7, N7, K7, by rw [apN, hap.out, if_neg (by simp)], by rw [apC, hap.out, if_neg (by simp)]; exact cs_fin h7 hc7, finP_below hb7 (by omega)⟩
  · have hap : Hid (apc lsn n e now = false) := by show apc lsn n e now = false; unfold apc; simp [hlt]
    go_enter Try.func9, Try.ntmps9
    go_upto_region 1 with (fail)
    show Code.wp _ _ _ _ (((w.alloc (pgO P N K lsn)).alloc (.cells (enC e x) 31)).alloc (pgO P0 N0 N0 0))
    generalize ((w.alloc (pgO P N K lsn)).alloc (.cells (enC e x) 31)).alloc (pgO P0 N0 N0 0) = w1 at *
    · obtain ⟨P3, N3, K3, h3, hc3⟩ := HPg.out
      obtain ⟨d0, d1, d2, d3, d4⟩ := pg5 h3
      have HC := Lib.hid (pclone_any _ P3 N3 K3 lsn _ hc3 HL.out)
      unfold pgV at HC
      have HS3 : Hid (w.heap.size + 2 < w1.heap.size) := (Array.getElem?_eq_some_iff.1 HR.out).1
      have HR3 := HR
      have HB3 := HB0
      clear h3 hc3 c4
      go_wp2_with (first
        | fail
        | (go_at_call 20; refine HC.out.mono ?_; rintro r w5 ⟨P7, N7, K7, rfl, hc7, hb7⟩; clear HC d0 d1 d2 d3 d4; have h7 := (hb7.block _ HS3.out).trans HR3.out; unfold pgV; have f0 := (pg_cell h7).2.2 0; have f1 := (pg_cell h7).2.2 1; have f2 := (pg_cell h7).2.2 2; have f3 := (pg_cell h7).2.2 3; have f4 := (pg_cell h7).2.2 4; obtain ⟨e0, e1, e2, e3, e4⟩ := pg5 h7; have H7 := Lib.hid (And.intro h7 (And.intro hc7 (HB3.out.trans (hb7.mono HB3.out.size)))); clear h7 hc7 hb7))
      obtain ⟨h7, hc7, hb7⟩ := H7.out
      change bodyPost _ _ _ _ _ (finP w5 (w.heap.size + 2) P7 N7 K7 lsn)
      refine bodyPost_ret (ap_end rfl rfl (finP_heap h7)) rfl ?_
      exact ⟨P7, N7, K7, by rw [apN, hap.out, if_neg (by simp)], by rw [apC, hap.out, if_neg (by simp)]; exact cs_fin h7 hc7, finP_below hb7 (by omega)⟩

end Go.Proofs.Ytmijdjlpfjfjoaa.Rx
