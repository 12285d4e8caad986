/- tree: a tree of places: New, Put, Cut, Get, Len. -/
import Derived.Test.YtejbbojephiifaaTeT
namespace Go.Proofs.Ytejbbojephiifaa
open Go.RowKit

/-- A tree in memory: where it lies, what it has, its blocks. -/
structure TA (w : World) (p : Nat) (xs : List KV) (L : List Nat) : Prop where
  ex : ∃ bd M, w.heap[p]? = some (.cells #[.pointer (some ⟨bd, 0, none⟩)] 60 (0, 0)) ∧ BA w bd xs M ∧ L = p :: M ∧ L.Nodup
theorem TA.lt {w : World} {p : Nat} {xs : List KV} {L : List Nat} (h : TA w p xs L) : ∀ a ∈ L, a < w.heap.size := by
  obtain ⟨bd, M, h1, h2, rfl, _⟩ := h.ex
  intro a ha
  rcases List.mem_cons.1 ha with rfl | ha
  · exact (Array.getElem?_eq_some_iff.1 h1).1
  · exact h2.lt a ha
theorem TA.same {w w' : World} {p : Nat} {xs : List KV} {L : List Nat} (h : TA w p xs L) (hs : ∀ a ∈ L, w'.heap[a]? = w.heap[a]?) : TA w' p xs L := by
  obtain ⟨bd, M, h1, h2, rfl, h3⟩ := h.ex
  exact ⟨bd, M, (hs p (List.mem_cons_self ..)).trans h1, h2.same (fun a ha => hs a (List.mem_cons_of_mem _ ha)), rfl, h3⟩
theorem TA.below {w w' : World} {p : Nat} {xs : List KV} {L : List Nat} (h : TA w p xs L) (hb : Below w.heap.size w w') : TA w' p xs L := h.same (fun a ha => hb.block a (h.lt a ha))
theorem TA.fr {w w' : World} {p : Nat} {xs : List KV} {L : List Nat} (h : TA w p xs L) {S : Nat → Prop} (hf : Fr w.heap.size S w w') (hS : ∀ a ∈ L, ¬ S a) : TA w' p xs L := h.same (fun a ha => hf.block a (h.lt a ha) (hS a ha))
theorem TA.rise {w : World} {p : Nat} {xs : List KV} {L : List Nat} (h : TA w p xs L) : Rise KV.k xs := by
  obtain ⟨bd, M, h1, h2, rfl, h3⟩ := h.ex
  exact h2.rise
theorem TA.mem {w : World} {p : Nat} {xs : List KV} {L : List Nat} (h : TA w p xs L) : p ∈ L := by
  obtain ⟨bd, M, h1, h2, rfl, h3⟩ := h.ex
  exact List.mem_cons_self ..

theorem all_any (w : World) {p bd : Nat} (h : w.heap[p]? = some (.cells #[.pointer (some ⟨bd, 0, none⟩)] 60 (0, 0))) :
    Calls Try.prog 25 #[.pointer (some ⟨p, 0, none⟩)] w fun e w' => e = .returned (.pointer (some ⟨bd, 0, none⟩)) ∧ Below w.heap.size w w' := by
  have c0 : w.cell? ⟨p, 0, none⟩ = some (.pointer (some ⟨bd, 0, none⟩)) := (cell_of h 0).1.trans rfl
  clear h
  go_enter Try.func25, Try.ntmps25
  go_wp2
  go_ret
  exact ⟨rfl, Below.refl _ _⟩

theorem make_any (w : World) : Calls Try.prog 24 #[] w fun e w' => ∃ p L, e = .returned (.pointer (some ⟨p, 0, none⟩)) ∧ TA w' p [] L ∧ (∀ a ∈ L, w.heap.size ≤ a) ∧ Below w.heap.size w w' := by
  go_enter Try.func24, Try.ntmps24
  go_wp2
  go_ret
  have e1 : (w.alloc (.cells #[.slice none 0 0, .slice none 0 0, .int .i64 0] 68)).heap.size = w.heap.size + 1 := by show (w.heap.push _).size = _; rw [Array.size_push]
  have h1 := heap_alloc_new (w.alloc (.cells #[.slice none 0 0, .slice none 0 0, .int .i64 0] 68)) (.cells #[.pointer (some ⟨w.heap.size, 0, none⟩)] 60)
  have h2 := heap_alloc_new w (.cells #[.slice none 0 0, .slice none 0 0, .int .i64 0] 68)
  rw [e1] at h1
  have h3 : ((w.alloc (.cells #[.slice none 0 0, .slice none 0 0, .int .i64 0] 68)).alloc (.cells #[.pointer (some ⟨w.heap.size, 0, none⟩)] 60)).heap[w.heap.size]? = some (.cells #[.slice none 0 0, .slice none 0 0, .int .i64 0] 68 (0, 0)) := (Below.heap_alloc _ _ _ (by rw [e1]; omega)).trans h2
  refine ⟨w.heap.size + 1, [w.heap.size + 1, w.heap.size], rfl, ⟨w.heap.size, [w.heap.size], h1, ⟨⟨0, (⟨w.heap.size, .slice none 0 0, []⟩ : Lf), ⟨h3, own_none _ _ _, by intro e; cases e⟩, rfl, by show (w.heap.size :: []).Nodup; simp, trivial, .inl rfl, by show 0 ≤ 4; omega, rfl, rfl⟩, List.Pairwise.nil⟩, rfl, by simp⟩, ?_, ((Below.refl _ _).alloc (Nat.le_refl _) _).alloc (by rw [e1]; omega) _⟩
  intro a ha
  simp at ha
  omega
theorem new_any (w : World) : Calls Try.prog 10 #[] w fun e w' => ∃ p L, e = .returned (.pointer (some ⟨p, 0, none⟩)) ∧ TA w' p [] L ∧ (∀ a ∈ L, w.heap.size ≤ a) ∧ Below w.heap.size w w' := by
  have HM := Lib.hid (make_any w)
  go_enter Try.func10, Try.ntmps10
  go_wp2_with (go_at_call 24; refine HM.out.mono ?_; rintro e w1 ⟨p, L, rfl, h1, h2, h3⟩; have H1 := Lib.hid (And.intro h1 (And.intro h2 h3)); clear h1 h2 h3)
  go_ret
  exact ⟨p, L, rfl, H1.out.1, H1.out.2.1, H1.out.2.2⟩

theorem len_any (w : World) {p : Nat} {xs : List KV} {L : List Nat} (h : TA w p xs L) :
    Calls Try.prog 18 #[.pointer (some ⟨p, 0, none⟩)] w fun e w' => e = .returned (.int .i64 xs.length) ∧ Below w.heap.size w w' := by
  obtain ⟨bd, M, h1, h2, rfl, h3⟩ := h.ex
  have HA := Lib.hid (all_any w h1)
  have hc : ∀ w1, Below w.heap.size w w1 → w1.cell? ⟨bd, 2, none⟩ = some (.int .i64 (xs.length : Int)) := fun w1 hw => by
    obtain ⟨hh, g, ha, e1, _⟩ := h2.ex
    have ht := ha.top
    rw [e1] at ht
    exact (World.cell?_of_block (hw.block bd ht.lt)).trans ((cell_of ht 2).1.trans rfl)
  have HC := Lib.hid hc
  clear h h1 h2 h3 hc
  go_enter Try.func18, Try.ntmps18
  go_wp2_with (go_at_call 25; refine HA.out.mono ?_; rintro e w1 ⟨rfl, hb1⟩; have hc1 := HC.out w1 hb1; have HB1 := Lib.hid hb1; clear hb1)
  go_ret
  exact ⟨rfl, HB1.out⟩

set_option maxHeartbeats 1000000 in
theorem tput_any (w : World) {p : Nat} {xs : List KV} {L : List Nat} (h : TA w p xs L) (hsm : xs.length ≤ 100000) (x : KV) :
    Calls Try.prog 14 #[.pointer (some ⟨p, 0, none⟩), .string x.k, .agg #[.int .i64 x.p, .int .i64 x.c]] w fun e w' => e = .returned (.bool (!has x.k xs)) ∧ ∃ L', TA w' p (ins x xs) L' ∧ Foot w.heap.size L L' ∧ Fr w.heap.size (· ∈ L) w w' := by
  obtain ⟨bd, M, h1, h2, rfl, h3⟩ := h.ex
  have hb0 := (Below.refl w.heap.size w).alloc (Nat.le_refl _) (.cells #[.int .i64 x.p, .int .i64 x.c] 35)
  have hbx := heap_alloc_new w (.cells #[.int .i64 x.p, .int .i64 x.c] 35)
  have hpl : p < w.heap.size := h.lt p h.mem
  have c0 : (w.alloc (.cells #[.int .i64 x.p, .int .i64 x.c] 35)).cell? ⟨p, 0, none⟩ = some (.pointer (some ⟨bd, 0, none⟩)) := (World.cell?_of_block (hb0.block p hpl)).trans ((cell_of h1 0).1.trans rfl)
  have h20 : BA (w.alloc (.cells #[.int .i64 x.p, .int .i64 x.c] 35)).drew bd xs M := h2.same (fun a ha => hb0.block a (h2.lt a ha))
  have HP := Lib.hid (bput_any _ h20 hsm x)
  have HB0 := Lib.hid hb0
  have HX := Lib.hid hbx
  have H1 := Lib.hid h1
  have H2 := Lib.hid h2
  have H3 := Lib.hid h3
  clear h h1 h2 h3 h20 hbx hb0
  obtain ⟨xk, xp, xc⟩ := x
  dsimp only at *
  go_enter Try.func14, Try.ntmps14
  go_upto_region 1 with (fail)
  have x0 : (w.alloc (.cells #[.int .i64 xp, .int .i64 xc] 35)).cell? ⟨w.heap.size, 0, none⟩ = some (.int .i64 xp) := (cell_of HX.out 0).1.trans rfl
  have x1 : (w.alloc (.cells #[.int .i64 xp, .int .i64 xc] 35)).cell? ⟨w.heap.size, 1, none⟩ = some (.int .i64 xc) := (cell_of HX.out 1).1.trans rfl
  generalize hw0 : w.alloc (.cells #[.int .i64 xp, .int .i64 xc] 35) = w0 at *
  clear hw0
  go_wp2
  go_region_with (go_at_call 28; refine HP.out.mono ?_; rintro e w1 ⟨rfl, L', q1, q2, q3⟩; have Q1 := Lib.hid q1; have Q2 := Lib.hid q2; have Q3 := Lib.hid q3; clear q1 q2 q3)
  all_goals go_wp2
  all_goals go_ret
  all_goals
    have hpM : p ∉ M := (List.nodup_cons.1 H3.out).1
    have hs0 : w.heap.size ≤ w0.heap.size := HB0.out.size
    have hft : Foot w.heap.size M L' := (Foot.refl H2.out.lt).trans Q2.out hs0
    have hpL : p ∉ L' := fun e => (hft.mem e).elim hpM (fun e => by omega)
    have hbp : w1.heap[p]? = w.heap[p]? := (Q3.out.block p (Nat.lt_of_lt_of_le hpl hs0) hpM).trans (HB0.out.block p hpl)
    refine ⟨rfl, p :: L', ⟨bd, L', hbp.trans H1.out, Q1.out, rfl, List.nodup_cons.2 ⟨hpL, hft.nodup (List.nodup_cons.1 H3.out).2⟩⟩, ?_, ?_⟩
    · refine ⟨fun a ha => ?_, fun a ha => ?_⟩
      · have := hft.lo a ha
        rw [List.count_cons, List.count_cons]; omega
      · have h5 : (p == a) = false := by simp; omega
        rw [List.count_cons, h5]
        have := hft.hi a ha
        simpa using this
    · exact ((Fr.of_below (S := fun a => a ∈ p :: M) HB0.out).drew).trans Q3.out hs0 (fun x _ e => List.mem_cons_of_mem _ e)

set_option maxHeartbeats 1000000 in
theorem tcut_any (w : World) {p : Nat} {xs : List KV} {L : List Nat} (h : TA w p xs L) (hsm : xs.length ≤ 100000) (k : ByteArray) :
    Calls Try.prog 12 #[.pointer (some ⟨p, 0, none⟩), .string k] w fun e w' => e = .returned (.bool (has k xs)) ∧ ∃ L', TA w' p (del k xs) L' ∧ Foot w.heap.size L L' ∧ Fr w.heap.size (· ∈ L) w w' := by
  obtain ⟨bd, M, h1, h2, rfl, h3⟩ := h.ex
  have hpl : p < w.heap.size := h.lt p h.mem
  have HA := Lib.hid (all_any w h1)
  have HP := Lib.hid (fun w1 (hw : Below w.heap.size w w1) => bcut_any w1 (h2.same (fun a ha => hw.block a (h2.lt a ha))) hsm k)
  have H1 := Lib.hid h1
  have H2 := Lib.hid h2
  have H3 := Lib.hid h3
  clear h h1 h2 h3
  go_enter Try.func12, Try.ntmps12
  go_wp2_with (first
    | (go_at_call 26; refine (HP.out w1 HB1.out).mono ?_; rintro e w2 ⟨rfl, L', q1, q2, q3⟩; have Q1 := Lib.hid q1; have Q2 := Lib.hid q2; have Q3 := Lib.hid q3; clear q1 q2 q3)
    | (go_at_call 25; refine HA.out.mono ?_; rintro e w1 ⟨rfl, hb1⟩; have HB1 := Lib.hid hb1; clear hb1))
  go_ret
  have hpM : p ∉ M := (List.nodup_cons.1 H3.out).1
  have hs0 : w.heap.size ≤ w1.heap.size := HB1.out.size
  have hft : Foot w.heap.size M L' := (Foot.refl H2.out.lt).trans Q2.out hs0
  have hpL : p ∉ L' := fun e => (hft.mem e).elim hpM (fun e => by omega)
  have hbp : w2.heap[p]? = w.heap[p]? := (Q3.out.block p (Nat.lt_of_lt_of_le hpl hs0) hpM).trans (HB1.out.block p hpl)
  refine ⟨rfl, p :: L', ⟨bd, L', hbp.trans H1.out, Q1.out, rfl, List.nodup_cons.2 ⟨hpL, hft.nodup (List.nodup_cons.1 H3.out).2⟩⟩, ?_, ?_⟩
  · refine ⟨fun a ha => ?_, fun a ha => ?_⟩
    · have := hft.lo a ha
      rw [List.count_cons, List.count_cons]; omega
    · have h5 : (p == a) = false := by simp; omega
      rw [List.count_cons, h5]
      have := hft.hi a ha
      simpa using this
  · exact (Fr.of_below (S := fun a => a ∈ p :: M) HB1.out).trans Q3.out hs0 (fun x _ e => List.mem_cons_of_mem _ e)

set_option maxHeartbeats 1000000 in
theorem tget_any (w : World) {p : Nat} {xs : List KV} {L : List Nat} (h : TA w p xs L) (k : ByteArray) :
    Calls Try.prog 16 #[.pointer (some ⟨p, 0, none⟩), .string k] w fun e w' => e = .returned (fndV (fnd k xs)) ∧ Below w.heap.size w w' := by
  obtain ⟨bd, M, h1, h2, rfl, h3⟩ := h.ex
  have hb0 := (Below.refl w.heap.size w).alloc (Nat.le_refl _) (.cells #[.int .i64 0, .int .i64 0] 35)
  have hpl : p < w.heap.size := h.lt p h.mem
  have HX := Lib.hid (heap_alloc_new w (.cells #[.int .i64 0, .int .i64 0] 35))
  have HA := Lib.hid (all_any (w.alloc (.cells #[.int .i64 0, .int .i64 0] 35)) ((hb0.block p hpl).trans h1))
  have hget : ∀ w1, Below w.heap.size w w1 → Calls Try.prog 29 #[.pointer (some ⟨bd, 0, none⟩), .string k] w1 fun e w' => e = .returned (fndV (fnd k xs)) ∧ Below w1.heap.size w1 w' := fun w1 hw => by
    obtain ⟨hh, g, ha, e1, _, ho, hc, h4, hkv, _⟩ := (h2.same (fun a ha => hw.block a (h2.lt a ha)) : BA w1 bd xs M).ex
    have := get_any w1 k ha ho hc h4 (by rw [hkv]; exact h2.rise) hkv
    rw [e1] at this
    exact this
  have HG := Lib.hid hget
  have HB0 := Lib.hid hb0
  obtain ⟨a, c, is, hfv⟩ : ∃ a c is, fndV (fnd k xs) = .tuple #[.agg #[.int .i64 a, .int .i64 c], .bool is] := by
    cases fnd k xs with
    | none => exact ⟨_, _, _, rfl⟩
    | some y => exact ⟨_, _, _, rfl⟩
  rw [hfv] at HG ⊢
  clear h h1 h2 h3 hget hb0 hfv
  go_enter Try.func16, Try.ntmps16
  go_upto_region 1 with (fail)
  generalize hw0 : w.alloc (.cells #[.int .i64 0, .int .i64 0] 35) = w0 at *
  clear hw0
  have HSZ := Lib.hid (szRID a c)
  have HBX : Hid (∀ w1 w2, Below w0.heap.size w0 w1 → Below w1.heap.size w1 w2 → w2.heap[w.heap.size]? = some (.cells #[.int .i64 0, .int .i64 0] 35 (0, 0))) := fun w1 w2 q1 q2 => by
    have hl := (Array.getElem?_eq_some_iff.1 HX.out).1
    exact (q2.block _ (Nat.lt_of_lt_of_le hl q1.size)).trans ((q1.block _ hl).trans HX.out)
  go_wp2_with (first
    | (go_at_call 29; refine (HG.out w1 (HB0.out.trans (HB1.out.mono HB0.out.size))).mono ?_; rintro e w2 ⟨rfl, hb2⟩; have HB2 := Lib.hid hb2; clear hb2; have HXX := Lib.hid (HBX.out w1 w2 HB1.out HB2.out))
    | (go_at_call 25; refine HA.out.mono ?_; rintro e w1 ⟨rfl, hb1⟩; have HB1 := Lib.hid hb1; clear hb1)
    | (with_reducible refine wpList_store_at rfl 35 (.tmp 4) (.tmp 12) rfl w.heap.size 0 #[.int .i64 a, .int .i64 c] rfl rfl 35 #[.int .i64 0, .int .i64 0] HXX.out HSZ.out (by simp) (by simp [Value.oneCell']) ?_))
  have q0 : (w2.setRow w.heap.size (putRow #[.int .i64 0, .int .i64 0] 0 [.int .i64 a, .int .i64 c])).cell? ⟨w.heap.size, 0, none⟩ = some (.int .i64 a) := (cell_of (setRow_heap w2 w.heap.size _ _ _ _ HXX.out) 0).1.trans rfl
  have q1 : (w2.setRow w.heap.size (putRow #[.int .i64 0, .int .i64 0] 0 [.int .i64 a, .int .i64 c])).cell? ⟨w.heap.size, 1, none⟩ = some (.int .i64 c) := (cell_of (setRow_heap w2 w.heap.size _ _ _ _ HXX.out) 1).1.trans rfl
  have HWB : Hid (Below w.heap.size w (w2.setRow w.heap.size (putRow #[.int .i64 0, .int .i64 0] 0 [.int .i64 a, .int .i64 c]))) := ((Fr.of_below (S := fun _ => False) (HB0.out.trans ((HB1.out.trans (HB2.out.mono HB1.out.size)).mono HB0.out.size))).setRow (b := w.heap.size) (.inr (Nat.le_refl _)) _).toBelow (Nat.le_refl _) (fun k e => e.elim)
  generalize w2.setRow w.heap.size (putRow #[.int .i64 0, .int .i64 0] 0 [.int .i64 a, .int .i64 c]) = w3 at *
  refine bodyPost_ret (v := .tuple #[.agg #[.int .i64 a, .int .i64 c], .bool is]) ?_ rfl ⟨rfl, HWB.out⟩
  simp [results, Try.results16, go_sem, q0, q1]
end Go.Proofs.Ytejbbojephiifaa
