/- tree: put in a part. -/
import Derived.Test.YtejbbojephiifaaTeM
namespace Go.Proofs.Ytejbbojephiifaa
open Go.RowKit

/-- The keys under which children stand rise. -/
theorem leastK_mem {l : List KV} (h : l ≠ []) : ∃ x ∈ l, x.k = leastK l := by
  cases l with
  | nil => exact absurd rfl h
  | cons x r => exact ⟨x, List.mem_cons_self .., rfl⟩
theorem kid_ne {h : Nat} {x : ByteArray × G h} (hx : Kid h (Ok h) x) : kvs h x.2 ≠ [] := cnt_pos_kvs hx.2.2.1 (by have := hx.1; omega)
theorem leastK_le {l : List KV} (h : Rise KV.k l) : ∀ y ∈ l, bL y.k (leastK l) = false := by
  cases l with
  | nil => intro y hy; cases hy
  | cons x r =>
    intro y hy
    rcases List.mem_cons.1 hy with rfl | hy
    · exact bL_irr _
    · exact bL_asym ((List.pairwise_cons.1 h).1 y hy)
theorem kns_rise {h : Nat} : ∀ {l : List (ByteArray × G h)}, (∀ x ∈ l, Kid h (Ok h) x) → Rise KV.k (kk h l) → Rise KN.k (kns h l)
  | [], _, _ => List.Pairwise.nil
  | x :: r, hk, hr => by
    rw [kk_cons] at hr
    obtain ⟨h1, h2, h3⟩ := Rise.app.1 hr
    have hx := hk x (List.mem_cons_self ..)
    refine List.pairwise_cons.2 ⟨fun y hy => ?_, kns_rise (fun z hz => hk z (List.mem_cons_of_mem _ hz)) h2⟩
    obtain ⟨z, hz, rfl⟩ := List.mem_map.1 hy
    have hzk := hk z (List.mem_cons_of_mem _ hz)
    obtain ⟨a, ha, ea⟩ := leastK_mem (kid_ne hx)
    obtain ⟨c, hc, ec⟩ := leastK_mem (kid_ne hzk)
    show bL x.1 z.1 = true
    rw [hx.2.2.2, hzk.2.2.2, ← ea, ← ec]
    exact h3 a ha c (List.mem_flatMap.2 ⟨z, hz, hc⟩)
theorem kk_sub {h : Nat} {l : List (ByteArray × G h)} {x : ByteArray × G h} (hx : x ∈ l) : List.Sublist (kvs h x.2) (kk h l) := by
  obtain ⟨s, t, rfl⟩ := List.append_of_mem hx
  rw [kk_app, kk_cons]
  exact (List.sublist_append_left _ _).trans (List.sublist_append_right _ _)
/-- Where a key belongs among children. -/
theorem under_kids {h : Nat} {l : List (ByteArray × G h)} {k : ByteArray} {A B : List KN} {x : KN} (hk : ∀ x ∈ l, Kid h (Ok h) x) (hr : Rise KV.k (kk h l)) (hu : Under (kns h l) k A x B) :
    ∃ LA k0 c LB, l = LA ++ (k0, c) :: LB ∧ A.length = LA.length ∧ (∀ y ∈ kk h LA, bL y.k k = true) ∧ (∀ y ∈ kk h LB, bL k y.k = true) ∧ Rise KV.k (kvs h c) := by
  obtain ⟨LA, L2, e1, e2, e3⟩ := List.map_eq_append_iff.1 hu.eq
  obtain ⟨y, LB, e4, e5, e6⟩ := List.map_eq_cons_iff.1 e3
  subst e1 e4
  refine ⟨LA, y.1, y.2, LB, rfl, by rw [← e2, List.length_map], fun z hz => ?_, fun z hz => ?_, ?_⟩
  · have hne : LA ≠ [] := by rintro rfl; cases hz
    rw [kk_app, kk_cons] at hr
    obtain ⟨_, h2, h3⟩ := Rise.app.1 hr
    have hy := hk y (List.mem_append_right _ (List.mem_cons_self ..))
    obtain ⟨a, ha, ea⟩ := leastK_mem (kid_ne hy)
    have h4 := h3 z hz a (List.mem_append_left _ ha)
    rcases hu.lo with h5 | h5
    · rw [h5] at e2
      exact absurd (List.map_eq_nil_iff.1 e2) hne
    · refine bL_of_le h4 ?_
      rw [ea, ← hy.2.2.2, ← (congrArg KN.k e5)] at *
      exact h5
  · obtain ⟨u, hu2, hz2⟩ := List.mem_flatMap.1 hz
    have huk := hk u (List.mem_append_right _ (List.mem_cons_of_mem _ hu2))
    have h1 : bL k u.1 = true := by
      have := hu.hi ⟨u.1, gb h u.2⟩ (by rw [← e6]; exact List.mem_map.2 ⟨u, hu2, rfl⟩)
      exact this
    have hru : Rise KV.k (kvs h u.2) := by
      exact hr.sublist (kk_sub (List.mem_append_right _ (List.mem_cons_of_mem _ hu2)))
    have h2 := leastK_le hru z hz2
    rw [← huk.2.2.2] at h2
    exact bL_of_le h1 h2
  · exact hr.sublist (kk_sub (List.mem_append_right _ (List.mem_cons_self ..)))

/-- An item laid anew. -/
theorem own_item {w : World} {q n c : Nat} {A B : List KV} {y : KV} (ho : w.ownsRow 0 78 3 (.slice (some ⟨q, 0, none⟩) n c) n ((A ++ y :: B).flatMap KV.en)) (hn : n = (A ++ y :: B).length) (p d : Int) :
    (w.cell? ⟨q, A.length * 3 + 1, none⟩ = some (.int .i64 y.p) ∧ w.frozen? ⟨q, A.length * 3 + 1, none⟩ = false) ∧
    ((w.setCell ⟨q, A.length * 3 + 1, none⟩ (.int .i64 p)).cell? ⟨q, A.length * 3 + 1 + 1, none⟩ = some (.int .i64 y.c) ∧ (w.setCell ⟨q, A.length * 3 + 1, none⟩ (.int .i64 p)).frozen? ⟨q, A.length * 3 + 1 + 1, none⟩ = false) ∧
    ((w.setCell ⟨q, A.length * 3 + 1, none⟩ (.int .i64 p)).setCell ⟨q, A.length * 3 + 1 + 1, none⟩ (.int .i64 d)).ownsRow 0 78 3 (.slice (some ⟨q, 0, none⟩) n c) n ((A ++ ⟨y.k, p, d⟩ :: B).flatMap KV.en) := by
  have hl : (A ++ y :: B).length = A.length + 1 + B.length := by simp; omega
  have h1 := own_set ho (j := A.length * 3 + 1) (by omega) (.int .i64 p)
  rw [flat_set KV.en_len A y ⟨y.k, p, y.c⟩ B (by omega) rfl] at h1
  have h8 := own_set h1 (j := A.length * 3 + 1 + 1) (by omega) (.int .i64 d)
  rw [show A.length * 3 + 1 + 1 = A.length * 3 + 2 from rfl, flat_set KV.en_len A ⟨y.k, p, y.c⟩ ⟨y.k, p, d⟩ B (by omega) rfl] at h8
  have e0 : (A ++ y :: B)[A.length]'(by omega) = y := by simp
  have e1 : (A ++ ⟨y.k, p, y.c⟩ :: B : List KV)[A.length]'(by simp) = ⟨y.k, p, y.c⟩ := by simp
  rw [hn] at ho
  have c1 := own_cell KV.en_len ho (i := A.length) (j := 1) (by omega) (by omega)
  rw [e0] at c1
  have hn2 : n = (A ++ ⟨y.k, p, y.c⟩ :: B : List KV).length := by rw [hn]; simp
  have h9 := h1
  rw [hn2] at h9
  have c2 := own_cell KV.en_len h9 (i := A.length) (j := 2) (by simp) (by omega)
  rw [e1] at c2
  exact ⟨c1, c2, h8⟩
set_option maxRecDepth 100000 in
set_option maxHeartbeats 2000000 in
/-- A leaf: the key is there. -/
theorem put_leaf_yes (w : World) {R : Rest} {b q n cp : Nat} {A r : List KV} {x y : KV} (hp : PAP w b R (.slice (some ⟨q, 0, none⟩) n cp) (A ++ y :: r)) (hn : n = (A ++ y :: r).length) (hy : y.k = x.k)
    (hf : ∀ W, Below w.heap.size w W → Calls Try.prog 39 #[.slice (some ⟨q, 0, none⟩) n cp, .string x.k] W fun e w' => e = .returned (.tuple #[.int .i64 A.length, .bool true]) ∧ Below W.heap.size W w') :
    Calls Try.prog 34 #[.pointer (some ⟨b, 0, none⟩), .string x.k, .agg #[.int .i64 x.p, .int .i64 x.c]] w fun e w' => e = .returned (.bool false) ∧ PAP w' b R (.slice (some ⟨q, 0, none⟩) n cp) (A ++ x :: r) ∧ Fr w.heap.size (MineP b (.slice (some ⟨q, 0, none⟩) n cp)) w w' := by
  have hb0 := (Below.refl w.heap.size w).alloc (Nat.le_refl _) (.cells #[.int .i64 x.p, .int .i64 x.c] 35)
  have hbx := heap_alloc_new w (.cells #[.int .i64 x.p, .int .i64 x.c] 35)
  have hlen : A.length < n := by rw [hn]; simp
  have hqb : b ≠ q := fun e => hp.ne (by rw [e]; rfl)
  have hql : q < w.heap.size := own_lt hp.own rfl
  have c0 := hp.at_.c0
  have hnn : (A ++ y :: r).length = n := hn.symm
  have hfin : ∀ W, Below w.heap.size w W → (W.cell? ⟨q, A.length * 3 + 1, none⟩ = some (.int .i64 y.p) ∧ W.frozen? ⟨q, A.length * 3 + 1, none⟩ = false) ∧
      ((W.setCell ⟨q, A.length * 3 + 1, none⟩ (.int .i64 x.p)).cell? ⟨q, A.length * 3 + 1 + 1, none⟩ = some (.int .i64 y.c) ∧ (W.setCell ⟨q, A.length * 3 + 1, none⟩ (.int .i64 x.p)).frozen? ⟨q, A.length * 3 + 1 + 1, none⟩ = false) ∧
      PAP ((W.setCell ⟨q, A.length * 3 + 1, none⟩ (.int .i64 x.p)).setCell ⟨q, A.length * 3 + 1 + 1, none⟩ (.int .i64 x.c)) b R (.slice (some ⟨q, 0, none⟩) n cp) (A ++ x :: r) ∧ Fr w.heap.size (MineP b (.slice (some ⟨q, 0, none⟩) n cp)) w ((W.setCell ⟨q, A.length * 3 + 1, none⟩ (.int .i64 x.p)).setCell ⟨q, A.length * 3 + 1 + 1, none⟩ (.int .i64 x.c)) := fun W hW => by
    have h1 := (hp.below hW).own
    rw [hnn] at h1
    obtain ⟨e1, e2, e3⟩ := own_item h1 hn x.p x.c
    have ex : (⟨y.k, x.p, x.c⟩ : KV) = x := by rw [hy]
    rw [ex] at e3
    have hl : (A ++ x :: r).length = n := by rw [hn]; simp
    refine ⟨e1, e2, ⟨((hp.at_.same (hW.block b hp.lt) : PartAt W b R _ _).same (Below.heap_setCell _ _ _ _ hqb)).same (Below.heap_setCell _ _ _ _ hqb), by rw [hl]; exact e3, hp.ne⟩, ((Fr.of_below hW).setCell (p := ⟨q, A.length * 3 + 1, none⟩) (.inl (.inr rfl)) _).setCell (p := ⟨q, A.length * 3 + 1 + 1, none⟩) (.inl (.inr rfl)) _⟩
  have HF := Lib.hid hfin
  have HB0 := Lib.hid hb0
  have HFI := Lib.hid (hf _ hb0)
  have HLE := Lib.hid (leafP_any (w.alloc (.cells #[.int .i64 x.p, .int .i64 x.c] 35)) (hp.below hb0))
  have hc0 : (w.alloc (.cells #[.int .i64 x.p, .int .i64 x.c] 35)).cell? ⟨b, 0, none⟩ = some (.slice (some ⟨q, 0, none⟩) n cp) := (World.cell?_of_block (hb0.block b hp.lt)).trans c0
  have HX := Lib.hid hbx
  have HC0 := Lib.hid hc0
  have HBL := Lib.hid hp.lt
  have hli : (A.length : Int) < (n : Int) := by omega
  have HWX : Hid (w.heap.size < (w.alloc (.cells #[.int .i64 x.p, .int .i64 x.c] 35)).heap.size) := by show w.heap.size < (w.heap.push _).size; rw [Array.size_push]; omega
  generalize A.length = i at *
  generalize hp1 : x.p = xp at *
  generalize hc1 : x.c = xc at *
  generalize hk1 : x.k = xk at *
  clear hfin hf hp hn hy hnn hbx hc0 c0 hp1 hc1 hk1 hb0
  go_enter Try.func34, Try.ntmps34
  go_upto_region 1 with (fail)
  have hc0 := HC0.out
  generalize w.alloc (.cells #[.int .i64 xp, .int .i64 xc] 35) = w0 at *
  go_upto_region 8 with (first
    | (go_at_call 39; refine HFI.out.mono ?_; rintro e w1 ⟨rfl, hb1⟩; have HB1 := Lib.hid hb1; clear hb1)
    | (go_at_call 37; refine HLE.out.mono ?_; rintro e w' ⟨rfl, hw⟩; obtain rfl := hw.symm; clear hw))
  have hb1 := HB0.out.trans (HB1.out.mono (Nat.le_of_lt HWX.out))
  have d0 : w1.cell? ⟨b, 0, none⟩ = some (.slice (some ⟨q, 0, none⟩) n cp) := (World.cell?_of_block (HB1.out.block b (Nat.lt_trans HBL.out HWX.out))).trans hc0
  have hbx1 : w1.heap[w.heap.size]? = some (.cells #[.int .i64 xp, .int .i64 xc] 35 (0, 0)) := (HB1.out.block _ HWX.out).trans HX.out
  have x0 : w1.cell? ⟨w.heap.size, 0, none⟩ = some (.int .i64 xp) := (cell_of hbx1 0).1.trans rfl
  have x1 : w1.cell? ⟨w.heap.size, 1, none⟩ = some (.int .i64 xc) := (cell_of hbx1 1).1.trans rfl
  obtain ⟨⟨o1, o2⟩, ⟨o3, o4⟩, o5, o6⟩ := HF.out w1 hb1
  have HO5 := Lib.hid o5
  have HO6 := Lib.hid o6.drew
  clear o5 o6 hbx1 hb1 hc0
  go_region
  all_goals go_wp2
  all_goals go_ret
  all_goals exact ⟨rfl, HO5.out.same rfl (fun _ _ => rfl), HO6.out⟩
end Go.Proofs.Ytejbbojephiifaa
