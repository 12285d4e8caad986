/- tree: the body: put, cut. -/
import Derived.Test.YtejbbojephiifaaTeW
namespace Go.Proofs.Ytejbbojephiifaa
open Go.RowKit

/-- The same tree, its first part moved to another block. -/
def rb : (h : Nat) → Nat → G h → G h
  | 0, b, g => (⟨b, Lf.v g, Lf.l g⟩ : Lf)
  | h + 1, b, g => (⟨b, Nd.v g, Nd.l g⟩ : Nd (G h))
def gv : (h : Nat) → G h → Value
  | 0, g => Lf.v g
  | _ + 1, g => Nd.v g
/-- Its two lists. -/
def tp : (h : Nat) → G h → Value × Value
  | 0, g => (Lf.v g, .slice none 0 0)
  | _ + 1, g => (.slice none 0 0, Nd.v g)
def fr_ : (h : Nat) → G h → List Nat
  | 0, g => own1 (Lf.v g)
  | h + 1, g => own1 (Nd.v g) ++ kf h (Nd.l g)
theorem fp_cons (h : Nat) (g : G h) : fp h g = gb h g :: fr_ h g := by cases h <;> rfl
theorem rb_gb (h b : Nat) (g : G h) : gb h (rb h b g) = b := by cases h <;> rfl
theorem rb_fr (h b : Nat) (g : G h) : fr_ h (rb h b g) = fr_ h g := by cases h <;> rfl
theorem rb_kvs (h b : Nat) (g : G h) : kvs h (rb h b g) = kvs h g := by cases h <;> rfl
theorem rb_cnt (h b : Nat) (g : G h) : cnt h (rb h b g) = cnt h g := by cases h <;> rfl
theorem rb_tp (h b : Nat) (g : G h) : tp h (rb h b g) = tp h g := by cases h <;> rfl
theorem rb_ok (h b : Nat) (g : G h) : Ok h (rb h b g) ↔ Ok h g := by cases h <;> exact Iff.rfl
theorem At.top {h : Nat} {R : Rest} {w : World} {g : G h} (ha : At h R w g) : PartAt w (gb h g) R (tp h g).1 (tp h g).2 := by
  cases h with
  | zero => exact PAP.at_ ha
  | succ h => exact ha.1.at_
theorem At.tpform {h : Nat} {R : Rest} {w : World} {g : G h} (ha : At h R w g) : ∃ A n c A' n' c', tp h g = (.slice A n c, .slice A' n' c') := by
  cases h with
  | zero =>
    obtain ⟨A, c, e⟩ := own_shape (PAP.own ha)
    exact ⟨A, _, c, none, 0, 0, by show (Lf.v g, _) = _; rw [e]⟩
  | succ h =>
    obtain ⟨A, c, e⟩ := own_shape ha.1.own
    exact ⟨none, 0, 0, A, _, c, by show (_, Nd.v g) = _; rw [e]⟩
/-- Moved. -/
theorem At.move {h : Nat} {R R' : Rest} {w w' : World} {g : G h} {b : Nat} (ha : At h R w g) (hp : PartAt w' b R' (tp h g).1 (tp h g).2) (hs : ∀ a ∈ fr_ h g, w'.heap[a]? = w.heap[a]?) (hb : b ∉ fr_ h g) : At h R' w' (rb h b g) := by
  cases h with
  | zero => exact ⟨hp, own_same (PAP.own ha) (fun k hk => hs k (own1_mem.2 hk)), fun e => hb (own1_mem.2 e)⟩
  | succ h => exact ⟨⟨hp, own_same ha.1.own (fun k hk => hs k (List.mem_append_left _ (own1_mem.2 hk))), fun e => hb (List.mem_append_left _ (own1_mem.2 e))⟩,
      fun x hx => (ha.2 x hx).same (fun a hm => hs a (List.mem_append_right _ (List.mem_flatMap.2 ⟨x, hx, hm⟩)))⟩
/-- Another word behind the two lists. -/
theorem At.rest {h : Nat} {R R' : Rest} {w w' : World} {g : G h} (ha : At h R w g) (hp : PartAt w' (gb h g) R' (tp h g).1 (tp h g).2) (hs : ∀ a ∈ fr_ h g, w'.heap[a]? = w.heap[a]?) (hn : (fp h g).Nodup) : At h R' w' g := by
  have e : rb h (gb h g) g = g := by cases h <;> rfl
  have := ha.move hp hs (fun hm => by rw [fp_cons] at hn; exact (List.nodup_cons.1 hn).1 hm)
  rwa [e] at this

/-- The body of a tree. -/
def RB (n : Nat) : Rest := (68, [.int .i64 (n : Int)])
structure BA (w : World) (bd : Nat) (xs : List KV) (L : List Nat) : Prop where
  ex : ∃ h, ∃ g : G h, At h (RB xs.length) w g ∧ gb h g = bd ∧ (fp h g).Nodup ∧ Ok h g ∧ (h = 0 ∨ 2 ≤ cnt h g) ∧ cnt h g ≤ 4 ∧ kvs h g = xs ∧ L = fp h g
  rise : Rise KV.k xs
theorem BA.lt {w : World} {bd : Nat} {xs : List KV} {L : List Nat} (h : BA w bd xs L) : ∀ a ∈ L, a < w.heap.size := by
  obtain ⟨h1, g, ha, _, _, _, _, _, _, rfl⟩ := h.ex
  exact ha.lt
theorem BA.mem {w : World} {bd : Nat} {xs : List KV} {L : List Nat} (h : BA w bd xs L) : bd ∈ L := by
  obtain ⟨h1, g, ha, rfl, _, _, _, _, _, rfl⟩ := h.ex
  exact gb_mem h1 g
theorem BA.same {w w' : World} {bd : Nat} {xs : List KV} {L : List Nat} (h : BA w bd xs L) (hs : ∀ a ∈ L, w'.heap[a]? = w.heap[a]?) : BA w' bd xs L := by
  obtain ⟨h1, g, ha, e1, e2, e3, e4, e5, e6, rfl⟩ := h.ex
  exact ⟨⟨h1, g, ha.same hs, e1, e2, e3, e4, e5, e6, rfl⟩, h.rise⟩

/-- A size laid anew. -/
theorem size_put {w : World} {b m : Nat} {n : Nat} {p q : Value} (h : PartAt w b (RB m) p q) : PartAt (w.setCell ⟨b, 2, none⟩ (.int .i64 (n : Int))) b (RB n) p q := by
  show (w.setCell ⟨b, 2, none⟩ _).heap[b]? = _
  rw [setCell_eq_setRow w b 2 _ _ (0, 0) _ h, setRow_heap w b _ _ _ _ h]
  congr 2

theorem setRow_alloc (w : World) (old cs : Array Value) (t : TypeId) : (w.alloc (.cells old t)).setRow w.heap.size cs = w.alloc (.cells cs t) := by
  have h := setRow_heap (w.alloc (.cells old t)) w.heap.size old cs t (0, 0) (heap_alloc_new w _)
  have e2 : ((w.alloc (.cells old t)).setRow w.heap.size cs).heap = (w.alloc (.cells cs t)).heap := by
    apply Array.ext_getElem?
    intro i
    by_cases hi : i = w.heap.size
    · subst hi
      rw [h, heap_alloc_new]
    · rw [setRow_far _ _ _ hi]
      show (w.heap.push _)[i]? = (w.heap.push _)[i]?
      rw [Array.getElem?_push, Array.getElem?_push, if_neg hi, if_neg hi]
  have e3 : ∀ a b : World, a.heap = b.heap → a.tape = b.tape → a.drawn = b.drawn → a.os = b.os → a.output = b.output → a = b := by
    intro a b h1 h2 h3 h4 h5
    cases a; cases b
    simp only at h1 h2 h3 h4 h5
    subst h1 h2 h3 h4 h5
    rfl
  exact e3 _ _ e2 rfl rfl rfl rfl

/-- A root of two children, made of halves. -/
theorem new_root {h m N : Nat} {w5 w8 : World} {bd : Nat} {v8 : Value} {L : List Nat} {gl gr : G h} {S : Nat → Prop} (al : At h R0 w5 gl) (ar : At h R0 w5 gr) (hnd : (fp h gl ++ fp h gr).Nodup) (hbd : bd ∉ fp h gl ++ fp h gr)
    (hp : PAQ w8 bd (RB m) v8 [⟨leastK (kvs h gl), gb h gl⟩, ⟨leastK (kvs h gr), gb h gr⟩]) (hv : ∀ k, v8.ownBlock = some k → w5.heap.size ≤ k) (hf : Fr w5.heap.size S w5 w8) (hS : ∀ k, S k → k = bd)
    (ol : Ok h gl) (or_ : Ok h gr) (cl : 2 ≤ cnt h gl ∧ cnt h gl ≤ 4) (cr : 2 ≤ cnt h gr ∧ cnt h gr ≤ 4) (hfoot : Foot N L (bd :: (fp h gl ++ fp h gr))) (hN : N ≤ w5.heap.size) (hr : Rise KV.k (kvs h gl ++ kvs h gr)) (hm : m = (kvs h gl ++ kvs h gr).length) :
    ∃ L', BA w8 bd (kvs h gl ++ kvs h gr) L' ∧ Foot N L L' := by
  have hx : ∀ a ∈ fp h gl ++ fp h gr, ¬ S a := fun a ha e => hbd (by rw [← hS a e]; exact ha)
  have hbl : bd < w8.heap.size := hp.lt
  have e : fp (h + 1) (⟨bd, v8, [(leastK (kvs h gl), gl), (leastK (kvs h gr), gr)]⟩ : Nd (G h)) = bd :: (own1 v8 ++ (fp h gl ++ fp h gr)) := by
    show bd :: (own1 v8 ++ kf h _) = _
    rw [kf_two]
  have hlt5 : ∀ a ∈ fp h gl ++ fp h gr, a < w5.heap.size := fun a ha => (List.mem_append.1 ha).elim (al.lt a) (ar.lt a)
  have f2 : Foot N L (bd :: (own1 v8 ++ (fp h gl ++ fp h gr))) := by
    refine ⟨fun a ha => ?_, fun a ha => ?_⟩
    · have h0 : (own1 v8).count a = 0 := own1_zero (fun e => by have := hv a e; omega)
      have := hfoot.lo a ha
      simp only [List.count_cons, List.count_append] at this ⊢
      omega
    · have h1 := hfoot.hi a ha
      have h2 := own1_count v8 a
      by_cases e2 : v8.ownBlock = some a
      · have h3 : (fp h gl ++ fp h gr).count a = 0 := count_zero (N := w5.heap.size) hlt5 (hv a e2)
        have h4 : bd ≠ a := fun e3 => hp.ne (by rw [e2, e3])
        simp only [List.count_cons, List.count_append] at h3 ⊢
        have h5 : (bd == a) = false := by simpa using h4
        rw [h5]
        simp
        omega
      · have h0 := own1_zero e2
        simp only [List.count_cons, List.count_append] at h1 ⊢
        omega
  have hndL : (bd :: (own1 v8 ++ (fp h gl ++ fp h gr))).Nodup := nd_count.2 fun a => by
    have h1 := nd_count.1 hnd a
    have h2 := own1_count v8 a
    have h3 : (own1 v8).count a + (fp h gl ++ fp h gr).count a ≤ 1 := by
      by_cases e2 : v8.ownBlock = some a
      · have h3 : (fp h gl ++ fp h gr).count a = 0 := count_zero (N := w5.heap.size) hlt5 (hv a e2)
        omega
      · rw [own1_zero e2]; omega
    rw [List.count_cons, List.count_append]
    by_cases e4 : bd = a
    · subst e4
      have h5 : (fp h gl ++ fp h gr).count bd = 0 := List.count_eq_zero.2 hbd
      rw [own1_zero hp.ne, h5]
      simp
    · have h5 : (bd == a) = false := by simpa using e4
      rw [h5]
      simp only [Bool.false_eq_true, if_false]
      omega
  refine ⟨_, ⟨⟨h + 1, (⟨bd, v8, [(leastK (kvs h gl), gl), (leastK (kvs h gr), gr)]⟩ : Nd (G h)), ⟨by rw [← hm]; exact hp, fun x hx2 => ?_⟩, rfl, by rw [e]; exact hndL, fun x hx2 => ?_, .inr (Nat.le_refl 2), by show 2 ≤ 4; omega, ?_, e.symm⟩, hr⟩, f2⟩
  · rcases List.mem_cons.1 hx2 with rfl | hx2
    · exact al.fr hf (Nat.le_refl _) (fun a ha => hx a (List.mem_append_left _ ha))
    · rw [List.mem_singleton.1 hx2]
      exact ar.fr hf (Nat.le_refl _) (fun a ha => hx a (List.mem_append_right _ ha))
  · rcases List.mem_cons.1 hx2 with rfl | hx2
    · exact ⟨cl.1, cl.2, ol, rfl⟩
    · rw [List.mem_singleton.1 hx2]
      exact ⟨cr.1, cr.2, or_, rfl⟩
  · show kk h _ = _
    simp [kk]

theorem foot_root {N h bd Lb : Nat} {g1 gl gr : G h} {L : List Nat} {M : Nat} (hft : Foot N L (fp h g1)) (b1 : gb h g1 = bd) (hlt : ∀ a ∈ fp h g1, a < Lb) (hN : N ≤ Lb) (hM : M = Lb + 1) (hbd : bd < N) (hnd : (fp h g1).Nodup) (hh : Foot M (Lb :: fr_ h g1) (fp h gl ++ fp h gr)) :
    Foot N L (bd :: (fp h gl ++ fp h gr)) := by
  have e : fp h g1 = bd :: fr_ h g1 := by rw [fp_cons, b1]
  rw [e] at hft hlt hnd
  refine ⟨fun a ha => ?_, fun a ha => ?_⟩
  · have h1 := hft.lo a ha
    have h2 := hh.lo a (by omega)
    have h3 : (Lb == a) = false := by simp; omega
    rw [List.count_cons, h3] at h2
    simp only [List.count_cons] at h1 ⊢
    simp only [Bool.false_eq_true, if_false, Nat.add_zero] at h2
    omega
  · have h3 : (bd == a) = false := by simp; omega
    rw [List.count_cons, h3]
    simp only [Bool.false_eq_true, if_false, Nat.add_zero]
    rcases Nat.lt_or_ge a M with h4 | h4
    · have h2 := hh.lo a h4
      rw [List.count_cons] at h2
      have h5 := nd_count.1 hnd a
      rw [List.count_cons] at h5
      by_cases h6 : Lb = a
      · have h7 : (fr_ h g1).count a = 0 := count_zero (N := Lb) (fun x hx => hlt x (List.mem_cons_of_mem _ hx)) (by omega)
        rw [h7] at h2
        split at h2 <;> omega
      · have h7 : (Lb == a) = false := by simpa using h6
        rw [h7] at h2
        simp only [Bool.false_eq_true, if_false, Nat.add_zero] at h2
        omega
    · exact hh.hi a h4

set_option maxRecDepth 100000 in
set_option maxHeartbeats 4000000 in
/-- body.put. -/
theorem bput_any (w : World) {bd : Nat} {xs : List KV} {L : List Nat} (hB : BA w bd xs L) (hsm : xs.length ≤ 100000) (x : KV) :
    Calls Try.prog 28 #[.pointer (some ⟨bd, 0, none⟩), .string x.k, .agg #[.int .i64 x.p, .int .i64 x.c]] w fun e w' => e = .returned (.bool (!has x.k xs)) ∧ ∃ L', BA w' bd (ins x xs) L' ∧ Foot w.heap.size L L' ∧ Fr w.heap.size (· ∈ L) w w' := by
  obtain ⟨h, g, ha, rfl, hnd, ho, hc, hc4, hkv, rfl⟩ := hB.ex
  have hb0 := (Below.refl w.heap.size w).alloc (Nat.le_refl _) (.cells #[.int .i64 x.p, .int .i64 x.c] 35)
  have hbx := heap_alloc_new w (.cells #[.int .i64 x.p, .int .i64 x.c] 35)
  have ha0 := ha.below hb0
  have HPC : Hid (PutC h (RB xs.length) (w.alloc (.cells #[.int .i64 x.p, .int .i64 x.c] 35)).drew g x) := put_G x h _ _ g (ha0.same (fun _ _ => rfl)) hnd ho (by omega) (by omega) (by rw [hkv]; exact hB.rise)
  have HND := Lib.hid hnd
  have HX := Lib.hid hbx
  have HB0 := Lib.hid hb0
  have hlen := ins_len x xs
  have HLEN := Lib.hid hlen
  have HRI := Lib.hid (ins_rise (x := x) hB.rise).1
  have HO : Hid (kvs h g = xs ∧ cnt h g ≤ 4 ∧ xs.length ≤ 100000) := ⟨hkv, hc4, hsm⟩
  have HC2 := Lib.hid hc
  have HA := Lib.hid ha
  have hgl := ha.top.lt
  obtain ⟨m, hm⟩ : ∃ m, m = (ins x xs).length := ⟨_, rfl⟩
  have HM := Lib.hid hm
  clear hbx ha0 hnd ho hc hc4 hkv hsm hB hlen ha hm hb0
  unfold PutC at HPC
  obtain ⟨xk, xp, xc⟩ := x
  dsimp only at *
  go_enter Try.func28, Try.ntmps28
  go_upto_region 1 with (fail)
  have x0 : (w.alloc (.cells #[.int .i64 xp, .int .i64 xc] 35)).cell? ⟨w.heap.size, 0, none⟩ = some (.int .i64 xp) := (cell_of HX.out 0).1.trans rfl
  have x1 : (w.alloc (.cells #[.int .i64 xp, .int .i64 xc] 35)).cell? ⟨w.heap.size, 1, none⟩ = some (.int .i64 xc) := (cell_of HX.out 1).1.trans rfl
  generalize hw0 : w.alloc (.cells #[.int .i64 xp, .int .i64 xc] 35) = w0 at *
  clear hw0
  go_region_with (go_at_call 34; refine HPC.out.mono ?_; rintro e w1 ⟨rfl, hp⟩; have HPR := Lib.hid hp; clear hp)
  simp only [List.getElem_toArray, List.getElem_cons_succ, List.getElem_cons_zero, Act.put, List.setIfInBounds_toArray, List.set_cons_zero, List.set_cons_succ]
  obtain ⟨g1, a1, b1, kv1, o1, cl, cu, f1, r1⟩ := HPR.out
  have hkv := HO.out.1
  rw [hkv] at kv1
  obtain ⟨fr, hfr⟩ : ∃ fr, fr = !has xk (kvs h g) := ⟨_, rfl⟩
  have hmf : Hid (m = xs.length + (if fr then 1 else 0)) := by
    show m = _
    rw [HM.out, HLEN.out, hfr, hkv]
    cases has xk xs <;> rfl
  have HFR : Hid (Ending.returned (Value.bool fr) = Ending.returned (Value.bool !has xk xs)) := by show _ = _; rw [hfr, hkv]
  rw [← hfr]
  have t1 := a1.top
  rw [b1] at t1
  have hnd1 : (fp h g1).Nodup := f1.nodup (by obtain ⟨_, _, _⟩ := HO.out; exact HND.out)
  have s0 : w1.cell? ⟨gb h g, 2, none⟩ = some (.int .i64 (xs.length : Int)) := (cell_of t1 2).1.trans rfl
  have s1 : w1.frozen? ⟨gb h g, 2, none⟩ = false := (cell_of t1 2).2
  have HA1 : Hid (At h (RB xs.length) w1 g1) := a1
  have hA2 : At h (RB (xs.length + 1)) (w1.setCell ⟨gb h g, 2, none⟩ (.int .i64 ((xs.length + 1 : Nat) : Int))) g1 := a1.rest (by rw [b1]; exact size_put t1) (fun a hm => Below.heap_setCell _ _ _ _ (fun e => by
    rw [fp_cons, b1] at hnd1
    have e2 : a = gb h g := e
    rw [e2] at hm
    exact (List.nodup_cons.1 hnd1).1 hm)) hnd1
  have HA2 := Lib.hid hA2
  have HF1 := Lib.hid (And.intro b1 (And.intro kv1 (And.intro o1 (And.intro cl (And.intro cu (And.intro f1 (And.intro r1 hnd1)))))))
  have hsz9 : (xs.length : Int) ≤ 100000 := by have := HO.out.2.2; omega
  clear a1 b1 kv1 o1 cl cu f1 r1 hkv hfr t1 hnd1 hA2 HPR
  have a0 : Hid (m = xs.length + 1 → At h (RB m) (w1.setCell ⟨gb h g, 2, none⟩ (.int .i64 ((xs.length + 1 : Nat) : Int))) g1 ∧ Fr w1.heap.size (fun k => k = gb h g) w1 (w1.setCell ⟨gb h g, 2, none⟩ (.int .i64 ((xs.length + 1 : Nat) : Int)))) := fun e => ⟨by rw [e]; exact HA2.out, (Fr.refl w1.heap.size (fun k => k = gb h g) w1).setCell (p := ⟨gb h g, 2, none⟩) (.inl rfl) _⟩
  have a9 : Hid (m = xs.length → At h (RB m) w1 g1 ∧ Fr w1.heap.size (fun k => k = gb h g) w1 w1) := fun e => ⟨by rw [e]; exact HA1.out, Fr.refl _ _ _⟩
  have HS9 : Hid (w1.heap.size = w1.heap.size) := rfl
  clear HA1 HA2
  cases fr
  case' true =>
    have a2 := Lib.hid (a0.out hmf.out)
    clear a0 a9 hmf
    go_upto_region 4 with (fail)
    rw [show ((xs.length + 1 : Nat) : Int) = (xs.length : Int) + 1 from by omega] at a2
    generalize w1.setCell ⟨gb h g, 2, none⟩ (.int .i64 ((xs.length : Int) + 1)) = w2 at *
  case' false =>
    have a2 := Lib.hid (a9.out hmf.out)
    clear a0 a9 hmf
    go_upto_region 4 with (fail)
    obtain ⟨w2, hw2⟩ : ∃ w2, w2 = w1 := ⟨_, rfl⟩
    have a2 : Hid (At h (RB m) w2 g1 ∧ Fr w1.heap.size (fun k => k = gb h g) w1 w2) := by rw [hw2]; exact a2
    rw [← hw2]
    clear hw2
  all_goals
    have hsz0 : w.heap.size ≤ w0.heap.size := HB0.out.size
    obtain ⟨b1, kv1, o1, cl, cu, f1, r1, hnd1⟩ := HF1.out
    have hcn : cnt h g1 ≤ 5 := by have := HO.out.2.1; omega
    have HFT : Hid (Foot w.heap.size (fp h g) (fp h g1)) := (Foot.refl HA.out.lt).trans f1 hsz0
    have HFW : Hid (Fr w.heap.size (· ∈ fp h g) w w2) := ((Fr.of_below HB0.out).drew.trans r1 hsz0 (fun _ _ e => e)).trans a2.out.2 (Nat.le_trans hsz0 r1.size) (fun x _ e => by rw [e]; exact gb_mem h g)
    have hct := count_G w2 a2.out.1 (by omega)
    rw [b1] at hct
    have HCT := Lib.hid hct
    clear hct b1 kv1 o1 cl cu f1 r1 hnd1
    by_cases h5 : cnt h g1 ≤ 4
    · have h5I : ¬ (4 : Int) < (cnt h g1 : Int) := by omega
      have H5 := Lib.hid h5
      clear h5
      go_wp2_with (go_at_call 30; refine HCT.out.mono ?_; rintro e w3 ⟨rfl, hb3⟩)
      go_ret
      obtain ⟨b1, kv1, o1, cl, cu, f1, r1, hnd1⟩ := HF1.out
      refine ⟨HFR.out, fp h g1, ⟨⟨h, g1, ?_, b1, hnd1, o1, HC2.out.imp_right (fun e => Nat.le_trans e cl), H5.out, kv1, rfl⟩, HRI.out⟩, HFT.out, HFW.out.below hb3 HFW.out.size⟩
      rw [← HM.out]
      exact a2.out.1.below hb3
    · have h5e : cnt h g1 = 5 := by omega
      have h5I : (4 : Int) < (cnt h g1 : Int) := by omega
      have H5 := Lib.hid h5e
      clear h5 h5e
      go_upto_region 5 with (go_at_call 30; refine HCT.out.mono ?_; rintro e w3 ⟨rfl, hb3⟩; have HB3 := Lib.hid hb3; clear hb3)
      have a3 := a2.out.1.below HB3.out
      obtain ⟨b1, kv1, o1, cl, cu, f1, r1, hnd1⟩ := HF1.out
      have t3 := a3.top
      rw [b1] at t3
      obtain ⟨A, n, c, A', n', c', etp⟩ := a3.tpform
      have hlt3 := a3.lt
      have hbl3 : gb h g < w3.heap.size := t3.lt
      have hfr_lt : ∀ a ∈ fr_ h g1, a < w3.heap.size := fun a hm => hlt3 a (by rw [fp_cons]; exact List.mem_cons_of_mem _ hm)
      have a4 : At h R0 (w3.alloc (.cells #[.slice A n c, .slice A' n' c'] 66)) (rb h w3.heap.size g1) := a3.move (by rw [etp]; exact heap_alloc_new w3 _) (fun a hm => Below.heap_alloc _ _ _ (hfr_lt a hm)) (fun hm => Nat.lt_irrefl _ (hfr_lt _ hm))
      have hnd4 : (fp h (rb h w3.heap.size g1)).Nodup := by
        rw [fp_cons, rb_gb, rb_fr]
        rw [fp_cons] at hnd1
        exact List.nodup_cons.2 ⟨fun hm => Nat.lt_irrefl _ (hfr_lt _ hm), (List.nodup_cons.1 hnd1).2⟩
      have hsp := split_G _ a4 hnd4 (by rw [rb_cnt, H5.out]; omega) (by rw [rb_cnt, H5.out]; omega)
      rw [rb_gb] at hsp
      have HSP := Lib.hid hsp
      rw [etp] at t3
      have HT3 : Hid (w3.heap[gb h g]? = some (.cells (.slice A n c :: .slice A' n' c' :: (RB m).2).toArray (RB m).1 (0, 0))) := t3
      have HLD : Hid (∀ j u, (#[.slice A n c, .slice A' n' c'] : Array Value)[j]? = some u → w3.cell? ⟨gb h g, 0 + j, none⟩ = some u) := fun j u hu => by
        rw [Nat.zero_add, (cell_of t3 j).1]
        match j, hu with
        | 0, hu => exact hu
        | 1, hu => exact hu
      have HSZ := Lib.hid (fun p q => szPart p q)
      have HAL := Lib.hid (heap_alloc_new w3 (.cells #[.slice none 0 0, .slice none 0 0] 66))
      have HSA : Hid ((w3.alloc (.cells #[.slice none 0 0, .slice none 0 0] 66)).setRow w3.heap.size (putRow #[.slice none 0 0, .slice none 0 0] 0 (#[.slice A n c, .slice A' n' c'] : Array Value).toList) = w3.alloc (.cells #[.slice A n c, .slice A' n' c'] 66)) := setRow_alloc w3 _ _ _
      have HG3 := Lib.hid (And.intro a3 (And.intro hnd1 (And.intro b1 (And.intro hfr_lt (And.intro o1 kv1)))))
      clear a3 b1 kv1 o1 cl cu f1 r1 hnd1 t3 etp hlt3 hfr_lt a4 hnd4 hsp
      go_upto_region 6 with (first
        | (with_reducible refine wpList_load_at rfl 66 (.tmp 31) rfl (gb h g) 0 rfl #[.slice A n c, .slice A' n' c'] _ HLD.out undPart rfl (HSZ.out _ _) ?_)
        | (with_reducible refine wpList_store_at rfl 66 (.tmp 8) (.tmp 32) rfl w3.heap.size 0 #[.slice A n c, .slice A' n' c'] rfl rfl 66 #[.slice none 0 0, .slice none 0 0] HAL.out (HSZ.out _ _) (by simp) (by simp [Value.oneCell']) ?_))
      simp only [Act.put]
      have hsa := HSA.out
      simp only [] at hsa
      rw [show (w3.alloc (.cells #[.slice none 0 0, .slice none 0 0] 66)).setRow w3.heap.size (putRow #[.slice none 0 0, .slice none 0 0] 0 [.slice A n c, .slice A' n' c']) = w3.alloc (.cells #[.slice A n c, .slice A' n' c'] 66) from hsa]
      have HW4 : Hid ((w3.alloc (.cells #[.slice A n c, .slice A' n' c'] 66)).heap.size = w3.heap.size + 1) := by show (w3.heap.push _).size = _; rw [Array.size_push]
      have HB4 : Hid (∀ k, k < w3.heap.size → (w3.alloc (.cells #[.slice A n c, .slice A' n' c'] 66)).heap[k]? = w3.heap[k]?) := fun k hk => Below.heap_alloc _ _ _ hk
      have HF4 : Hid (Fr w.heap.size (· ∈ fp h g) w (w3.alloc (.cells #[.slice A n c, .slice A' n' c'] 66))) := (HFW.out.below HB3.out HFW.out.size).alloc (Nat.le_trans HFW.out.size HB3.out.size) _
      generalize w3.alloc (.cells #[.slice A n c, .slice A' n' c'] 66) = w4 at *
      clear hsa HSA HAL HLD HCT
      go_upto_region 7 with (go_at_call 35; refine HSP.out.mono ?_; rintro e w5 ⟨gl, gr, rfl, al, ar, hh, hf5⟩; have AL := Lib.hid al; have AR := Lib.hid ar; have HH := Lib.hid hh; have HF5 := Lib.hid hf5; clear al ar hh hf5)
      obtain ⟨a3, hnd1, b1, hfr_lt, o1, kv1⟩ := HG3.out
      have hLb : w3.heap.size < w4.heap.size := by have := HW4.out; omega
      have hbd3 : gb h g < w3.heap.size := by have := a3.top.lt; rw [b1] at this; exact this
      have hfp4 : fp h (rb h w3.heap.size g1) = w3.heap.size :: fr_ h g1 := by rw [fp_cons, rb_gb, rb_fr]
      have hbfr : gb h g ∉ fr_ h g1 := by
        rw [fp_cons, b1] at hnd1
        exact (List.nodup_cons.1 hnd1).1
      have hb5 : w5.heap[gb h g]? = w3.heap[gb h g]? := (HF5.out.block _ (by omega) (fun e => by
        rw [hfp4] at e
        rcases List.mem_cons.1 e with e | e
        · omega
        · exact hbfr e)).trans (HB4.out _ hbd3)
      have HT5 : Hid (w5.heap[gb h g]? = some (.cells (.slice A n c :: .slice A' n' c' :: (RB m).2).toArray (RB m).1 (0, 0))) := hb5.trans HT3.out
      have hsz45 := HF5.out.size
      have hbd5 : gb h g < w5.heap.size := by omega
      have hnb : ∀ a ∈ fp h gl ++ fp h gr, a ≠ gb h g := fun a ha e => by
        rcases HH.out.foot.mem ha with e2 | e2
        · rw [hfp4, e] at e2
          rcases List.mem_cons.1 e2 with e2 | e2
          · omega
          · exact hbfr e2
        · omega
      have HP6 : Hid (PAQ (w5.setRow (gb h g) (putRow (.slice A n c :: .slice A' n' c' :: (RB m).2).toArray 0 [.slice none 0 0, .slice none 0 0])) (gb h g) (RB m) (.slice none 0 0) []) := ⟨PartAt.over HT5.out, own_none _ _ _, by intro e; cases e⟩
      have HF6 : Hid (Fr w5.heap.size (fun k => k = gb h g) w5 (w5.setRow (gb h g) (putRow (.slice A n c :: .slice A' n' c' :: (RB m).2).toArray 0 [.slice none 0 0, .slice none 0 0]))) := (Fr.refl w5.heap.size (fun k => k = gb h g) w5).setRow (b := gb h g) (.inl rfl) _
      have HS6 : Hid (0 + (#[.slice none 0 0, .slice none 0 0] : Array Value).size ≤ (.slice A n c :: .slice A' n' c' :: (RB m).2 : List Value).toArray.size) := by show _ ≤ _; simp [RB]
      have og := HH.out.ok ((rb_ok h _ g1).2 o1)
      have hc1 : cnt h gl = 2 := by rw [HH.out.c1, rb_cnt, H5.out]
      have hc2 : cnt h gr = 3 := by rw [HH.out.c2, rb_cnt, H5.out]
      have hglb : gb h gl = w3.heap.size := by rw [HH.out.b, rb_gb]
      have HNB := Lib.hid hnb
      have HOG := Lib.hid (And.intro og (And.intro hc1 (And.intro hc2 hglb)))
      have HNDS : Hid ((fp h gl ++ fp h gr).Nodup) := HH.out.foot.nodup (by rw [hfp4]; exact List.nodup_cons.2 ⟨fun hm => Nat.lt_irrefl _ (hfr_lt _ hm), by rw [fp_cons] at hnd1; exact (List.nodup_cons.1 hnd1).2⟩)
      have HFO : Hid (Foot w.heap.size (fp h g) (gb h g :: (fp h gl ++ fp h gr))) := by
        have hfoot := HH.out.foot
        rw [hfp4] at hfoot
        exact foot_root HFT.out b1 (fun a ha => a3.lt a ha) (Nat.le_trans HFW.out.size HB3.out.size) HW4.out hgl hnd1 hfoot
      have HKV : Hid (kvs h gl ++ kvs h gr = ins ⟨xk, xp, xc⟩ xs) := by show _ = _; rw [HH.out.kv, rb_kvs, kv1]
      have HSZ5 : Hid (w.heap.size ≤ w5.heap.size) := Nat.le_trans HF4.out.size hsz45
      have HFW5 : Hid (Fr w.heap.size (· ∈ fp h g) w w5) := HF4.out.trans HF5.out HF4.out.size (fun x hx e => by
        rw [hfp4] at e
        rcases List.mem_cons.1 e with e | e
        · have := HFW.out.size; have := HB3.out.size; omega
        · rcases HFT.out.mem (by rw [fp_cons]; exact List.mem_cons_of_mem _ e) with e2 | e2
          · exact e2
          · omega)
      clear a3 hnd1 b1 hfr_lt o1 kv1 hLb hbd3 hfp4 hbfr hb5 hsz45 hnb og hc1 hc2 hglb
      go_upto_region 8 with (with_reducible refine wpList_store_at rfl 66 (.tmp 37) (.tmp 35) rfl (gb h g) 0 #[.slice none 0 0, .slice none 0 0] rfl rfl (RB m).1 (.slice A n c :: .slice A' n' c' :: (RB m).2 : List Value).toArray HT5.out (HSZ.out _ _) HS6.out (by simp [Value.oneCell']) ?_)
      try simp only [Act.put]
      generalize w5.setRow (gb h g) (putRow (.slice A n c :: .slice A' n' c' :: (RB m).2).toArray 0 [.slice none 0 0, .slice none 0 0]) = w6 at *
      have a6l := AL.out.fr HF6.out (Nat.le_refl _) (fun a ha => HNB.out a (List.mem_append_left _ ha))
      have a6r := AR.out.fr HF6.out (Nat.le_refl _) (fun a ha => HNB.out a (List.mem_append_right _ ha))
      obtain ⟨og, hc1, hc2, hglb⟩ := HOG.out
      have hi1 := insert_any w6 HP6.out (by simp) 0 (gb h gl) (by simp) (leastK (kvs h gl)) (fun W hW => least_G W (a6l.below hW) og.1 (by omega))
      rw [hglb] at hi1
      have HI1 := Lib.hid hi1
      have HI2 := Lib.hid (fun w7 v7 (h7 : PAQ w7 (gb h g) (RB m) v7 [⟨leastK (kvs h gl), w3.heap.size⟩]) (f7 : Fr w6.heap.size (MineQ (gb h g) (.slice none 0 0)) w6 w7) => insert_any w7 h7 (by simp) 1 (gb h gr) (by simp) (leastK (kvs h gr)) (fun W hW => least_G W ((a6r.fr f7 (Nat.le_refl _) (fun a ha e => by
        rcases e with e | e
        · exact HNB.out a (List.mem_append_right _ ha) e
        · cases e)).below hW) og.2 (by omega)))
      clear a6l a6r og hc1 hc2 hglb hi1
      go_wp2_with (first
        | (go_at_call 36; refine (HI2.out w7 v7 H7.out F7.out).mono ?_; rintro e w8 ⟨v8, rfl, p8, m8, f8⟩; have H8 := Lib.hid p8; have M8 := Lib.hid m8; have F8 := Lib.hid f8; clear p8 m8 f8)
        | (go_at_call 36; refine HI1.out.mono ?_; rintro e w7 ⟨v7, rfl, p7, m7, f7⟩; have H7 := Lib.hid p7; have M7 := Lib.hid m7; have F7 := Lib.hid f7; clear p7 m7 f7))
      go_ret
      refine ⟨HFR.out, ?_⟩
      obtain ⟨og, hc1, hc2, hglb⟩ := HOG.out
      have f57 : Fr w5.heap.size (fun k => k = gb h g) w5 w7 := HF6.out.trans F7.out HF6.out.size (fun x _ e => e.elim id (fun e => by cases e))
      have f58 : Fr w5.heap.size (fun k => k = gb h g) w5 w8 := f57.trans F8.out f57.size (fun x hx e => e.elim id (fun e => by
        rcases M7.out x e with e2 | e2
        · cases e2
        · have := HF6.out.size; omega))
      have hv8 : ∀ k, v8.ownBlock = some k → w5.heap.size ≤ k := fun k hk => by
        rcases M8.out k hk with e | e
        · rcases M7.out k e with e2 | e2
          · cases e2
          · exact Nat.le_trans HF6.out.size e2
        · exact Nat.le_trans f57.size e
      obtain ⟨L', hL, hF⟩ := new_root (m := m) (N := w.heap.size) (L := fp h g) AL.out AR.out HNDS.out (fun hm => HNB.out _ hm rfl) (by have := H8.out; rw [hglb]; exact this) hv8 f58 (fun _ e => e) og.1 og.2 (by omega) (by omega) HFO.out HSZ5.out (by rw [HKV.out]; exact HRI.out) (by rw [HKV.out]; exact HM.out)
      rw [HKV.out] at hL
      refine ⟨L', hL, hF, HFW5.out.trans f58 HSZ5.out (fun x _ e => by rw [e]; exact gb_mem h g)⟩
end Go.Proofs.Ytejbbojephiifaa
