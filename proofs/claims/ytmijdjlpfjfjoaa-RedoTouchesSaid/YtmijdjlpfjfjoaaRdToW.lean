/- RedoTouches' walk. -/
import Derived.Test.YtmijdjlpfjfjoaaRdSm
import Derived.Test.YtmijdjlpfjfjoaaRdAllW
namespace Go.Proofs.Ytmijdjlpfjfjoaa.Rx
open Go.RowKit

theorem tch_pgs (l : List Gv) {p : Int} (h0 : 0 ≤ p) (h1 : p < 32) : (pgs l).any (fun n => decide ((n : Int) = p)) = tch l p := by
  obtain ⟨m, rfl⟩ : ∃ m : Nat, p = (m : Int) := ⟨p.toNat, by omega⟩
  cases h : tch l (m : Int) with
  | true =>
    refine List.any_eq_true.2 ⟨m, List.mem_filter.2 ⟨List.mem_range.2 (by omega), h⟩, by simp⟩
  | false =>
    refine List.any_eq_false.2 fun x hx => ?_
    obtain ⟨_, h2⟩ := List.mem_filter.1 hx
    intro e
    have : (x : Int) = (m : Int) := of_decide_eq_true e
    rw [this, h] at h2
    cases h2
/-- Cells that an entry doesn't name keep what they have. -/
theorem giv_keep (n : Int) (l : List Gv) : ∀ (c : Nat → List Int) (i : Nat), (∀ t ∈ l, ¬ (t.1 = n ∧ t.2.1 = (i : Int))) → giv n c l i = c i := by
  induction l with
  | nil => intro c i _; rfl
  | cons t l ih =>
    intro c i h
    show giv n (giv1 n c t) l i = c i
    rw [ih _ _ (fun u hu => h u (List.mem_cons_of_mem _ hu))]
    unfold giv1
    split
    · rename_i h1
      have h2 : 0 ≤ t.2.1 ∧ t.2.1 < 4 := of_decide_eq_true h1.2
      show (if i = t.2.1.toNat then t.2.2 else c i) = c i
      rw [if_neg]
      intro e
      exact h t (List.mem_cons_self ..) ⟨h1.1, by omega⟩
    · rfl
def ownB (e : En) (p c : Int) : Bool := decide (e.ap = p ∧ e.ac = c) || (decide (e.k = 7) && decide (e.tp = p ∧ e.tc = c))
theorem giv_own (n p : Int) (c : Nat → List Int) (i : Nat) (h : ownB (someE n) p (i : Int) = false) : giv p c (tl (someE n)) i = c i := by
  refine giv_keep _ _ _ _ fun t ht => ?_
  simp only [ownB, Bool.or_eq_false_iff, Bool.and_eq_false_iff, decide_eq_false_iff_not] at h
  obtain ⟨h1, h2⟩ := h
  unfold tl at ht
  split at ht
  · obtain rfl := List.mem_singleton.1 ht; exact h1
  · split at ht
    · rename_i h7
      rcases List.mem_cons.1 ht with rfl | ht
      · exact h1
      · obtain rfl := List.mem_singleton.1 ht
        rcases h2 with h2 | h2
        · exact absurd h7 h2
        · exact h2
    · split at ht
      · obtain ⟨m, hm, rfl⟩ := List.mem_map.1 ht
        obtain rfl := List.mem_singleton.1 hm
        exact h1
      · cases ht

theorem setRow_far (w : World) (g : Nat) (cs : Array Value) {k : Nat} (h : k ≠ g) : (w.setRow g cs).heap[k]? = w.heap[k]? := setRow_other _ _ _ _ h
theorem setRow_alloc (w : World) (old cs : Array Value) (t : TypeId) : (w.alloc (.cells old t)).setRow w.heap.size cs = w.alloc (.cells cs t) := by
  have h := setRow_heap (w.alloc (.cells old t)) w.heap.size old cs t (0, 0) (heap_alloc_new w _)
  have e2 : ((w.alloc (.cells old t)).setRow w.heap.size cs).heap = (w.alloc (.cells cs t)).heap := by
    apply Array.ext_getElem?
    intro i
    by_cases hi : i = w.heap.size
    · subst hi
      rw [h, heap_alloc_new]
    · rw [setRow_far _ _ _ hi]
      show (w.heap.push _)[i]? = (w.heap.push _)[i]?
      rw [Array.getElem?_push, Array.getElem?_push, if_neg hi, if_neg hi]
  have e3 : ∀ a b : World, a.heap = b.heap → a.tape = b.tape → a.drawn = b.drawn → a.os = b.os → a.output = b.output → a = b := by
    intro a b h1 h2 h3 h4 h5
    cases a; cases b
    simp only at h1 h2 h3 h4 h5
    subst h1 h2 h3 h4 h5
    rfl
  exact e3 _ _ e2 rfl rfl rfl rfl
def zE : Array Value := #[.int .i64 0, .int .i64 0, .int .i64 0, .int .i64 0, .int .i64 0, .int .i64 0, .int .i64 0, .int .i64 0, .int .i64 0, .int .i64 0, .slice none 0 0, .slice none 0 0, .slice none 0 0, .slice none 0 0, .slice none 0 0, .slice none 0 0]
theorem es_one {es : List EX} {k : Int} (h : es.map Prod.fst = [k].map someE) : ∃ x, es = [(someE k, x)] := by
  have hlen : es.length = 1 := by simpa using congrArg List.length h
  obtain ⟨o, rfl⟩ := List.length_eq_one_iff.1 hlen
  have : o.1 = someE k := by simpa using h
  exact ⟨o.2, by rw [← this]⟩
/-- An entry's cells in a row of them. -/
theorem en_at {w : World} {A : Option Addr} {n c : Nat} {es : List EX} (h : Els w (.slice A n c) 16 (es.map enV)) {i : Nat} (hi : i < es.length) : ∃ b off, A = some ⟨b, off, none⟩ ∧ b < w.heap.size ∧ ∀ j v, (enC es[i].1 es[i].2)[j]? = some v → w.cell? ⟨b, off + i * 16 + j, none⟩ = some v := by
  obtain ⟨b, off, h1, h2, h3⟩ := h.one (i := i) (by simpa using hi)
  refine ⟨b, off, h1, h2, fun j v hv => ?_⟩
  have hj : j < 16 := (Array.getElem?_eq_some_iff.1 hv).1
  rw [h3 j hj, ← hv, List.getElem_map]
  show (enC es[i].1 es[i].2).toList[j]? = _
  rw [Array.getElem?_toList]

set_option maxRecDepth 100000 in
set_option maxHeartbeats 4000000 in
theorem redoTouches_any (w : World) (k : Int) (v : Value) (l : List Int) (n : Int) (hk : 0 ≤ k ∧ k ≤ 65535) (hl : SlK .u8 w v l) (hn : 0 ≤ n ∧ n ≤ 255) :
    Calls Try.prog 5 #[.int .u16 k, v, .int .u8 n] w fun r w' => r = .returned (.bool true) ∧ Below w.heap.size w w' := by
  obtain ⟨A, cap, rfl, -⟩ := id hl
  have HL := Lib.hid hl
  have HN := Lib.hid (And.intro hk hn)
  clear hl
  go_enter Try.func5, Try.ntmps5
  go_upto_region 3 with (go_at_call 7; refine (begun16 _).mono ?_; rintro r w2 ⟨rfl, hb2⟩)
  have HB2 := Lib.hid hb2
  clear hb2
  by_cases hl4 : 4 < l.length
  · go_wp2
    go_ret
    exact ⟨rfl, HB2.out⟩
  have hb3 : Below w2.heap.size w2 (w2.alloc (.cells #[.int .u16 k] 23)) := (Below.refl _ _).alloc (Nat.le_refl _) _
  have hk3 := heap_alloc_new w2 (.cells #[.int .u16 k] 23)
  have hs3 : SlK .u16 (w2.alloc (.cells #[.int .u16 k] 23)) (.slice (some ⟨w2.heap.size, 0, none⟩) 1 1) [k] := by
    refine ⟨_, 1, rfl, Nat.le_refl _, fun x hx => ?_, (fun e => by cases e), fun a e => ?_⟩
    · obtain rfl := List.mem_singleton.1 hx
      simp only [Lit.wf, Bool.and_eq_true, decide_eq_true_eq]
      have hmin : IntKind.u16.min = 0 := rfl
      have hmax : IntKind.u16.max = 65535 := rfl
      omega
    · cases e
      refine ⟨rfl, by simp, fun j hj => ?_⟩
      have hj0 : j = 0 := by have : j < 1 := hj; omega
      subst hj0
      exact (cell_of hk3 0).1
  have HSo := Lib.hid (some_any _ _ [k] hs3 (by simp))
  have HB3 := Lib.hid (HB2.out.trans (hb3.mono HB2.out.size))
  clear hb3 hk3 hs3
  go_upto_region 6 with (first
    | ((with_reducible refine wpList_load_at ?_ 31 (.tmp 25) rfl eb eo rfl (enC (someE k) x4) _ HEc.out Try.underlying31 rfl HI4.out ?_); · rfl)
    | (with_reducible refine wpList_store_row rfl 31 (.tmp 7) (.tmp 26) rfl w4.heap.size _ rfl rfl 31 _ HBo.out HI4.out HZN.out HZA.out ?_)
    | (go_at_call 14; refine HSo.out.mono ?_; rintro r w4 ⟨v4, es, rfl, he4, hE4, hI4, hb4⟩; clear HSo; obtain ⟨x4, rfl⟩ := es_one he4; obtain ⟨A4, c4, rfl, -⟩ := id hE4; obtain ⟨eb, eo, rfl, hel, hec⟩ := en_at hE4 (i := 0) (by simp); rw [List.length_map, List.length_singleton]; have HEc : Hid (∀ j v, (enC (someE k) x4)[j]? = some v → w4.cell? ⟨eb, eo + j, none⟩ = some v) := (fun j v h => by have := hec j v h; rwa [Nat.zero_mul, Nat.add_zero] at this); have HI4 := Lib.hid (infoE2 (someE k) x4); have HBo := Lib.hid (heap_alloc_new w4 (.cells #[.int .i64 0, .int .i64 0, .int .i64 0, .int .i64 0, .int .i64 0, .int .i64 0, .int .i64 0, .int .i64 0, .int .i64 0, .int .i64 0, .slice none 0 0, .slice none 0 0, .slice none 0 0, .slice none 0 0, .slice none 0 0, .slice none 0 0] 31)); have HZN := Lib.hid (show (#[.int .i64 0, .int .i64 0, .int .i64 0, .int .i64 0, .int .i64 0, .int .i64 0, .int .i64 0, .int .i64 0, .int .i64 0, .int .i64 0, .slice none 0 0, .slice none 0 0, .slice none 0 0, .slice none 0 0, .slice none 0 0, .slice none 0 0] : Array Value).size = (enC (someE k) x4).size from rfl); have HZA : Hid ((enC (someE k) x4).all (·.oneCell') = true) := (hI4 _ (List.mem_singleton.2 rfl)).2; have HSA := Lib.hid (setRow_alloc w4 #[.int .i64 0, .int .i64 0, .int .i64 0, .int .i64 0, .int .i64 0, .int .i64 0, .int .i64 0, .int .i64 0, .int .i64 0, .int .i64 0, .slice none 0 0, .slice none 0 0, .slice none 0 0, .slice none 0 0, .slice none 0 0, .slice none 0 0] (enC (someE k) x4) 31); have H4 := Lib.hid (And.intro (hI4 _ (List.mem_singleton.2 rfl)).1 hb4); clear he4 hE4 hI4 hb4 hec))
  rw [HSA.out]
  have hal := (Below.refl w4.heap.size w4).alloc (Nat.le_refl _) (.cells (enC (someE k) x4) 31)
  have HX := Lib.hid (show (w4.alloc (.cells (enC (someE k) x4) 31)).heap[w4.heap.size]? = some (.cells (enC (someE k) x4) 31 (0, 0)) from heap_alloc_new w4 _)
  have HE := Lib.hid (H4.out.1.below hal (Nat.le_refl _))
  have HB := Lib.hid (HB3.out.trans ((H4.out.2.trans (hal.mono H4.out.2.size)).mono HB3.out.size))
  have HSz : Hid ((w4.alloc (.cells (enC (someE k) x4) 31)).heap.size = w4.heap.size + 1) := by show _ = _; simp
  generalize w4.alloc (.cells (enC (someE k) x4) 31) = w5 at *
  clear HEc HBo HZN HZA HSA H4 hal HB3
  generalize w4.heap.size = g at *
  have hn4 : n.tmod 4 = n % 4 := Int.tmod_eq_emod_of_nonneg hn.1
  have hw1 : IntKind.i64.wrap (n % 4) = n % 4 := IntWalk.i64_in _ (by omega)
  have hw2 : IntKind.u8.wrap (n % 4) = n % 4 := IntWalk.u8_in _ (by omega)
  have HM := Lib.hid (made_any w5 (.slice A l.length cap) l 5 (HL.out.below HB.out (Nat.le_refl _)) (by omega))
  go_upto_region 8 with (go_at_call 8; refine HM.out.mono ?_; rintro r w6 ⟨P3, N3, K3, rfl, hc3, hb3⟩; clear HM; unfold pgV)
  show Code.wp _ _ _ _ (w6.alloc (pgO P3 N3 K3 5))
  have hal := (Below.refl w6.heap.size w6).alloc (Nat.le_refl _) (pgO P3 N3 K3 5)
  have hb7 := hb3.trans (hal.mono hb3.size)
  have HC7 := Lib.hid (hc3.below hal (Nat.le_refl _))
  have HP7 := Lib.hid (show (w6.alloc (pgO P3 N3 K3 5)).heap[w6.heap.size]? = some (pgO P3 N3 K3 5) from heap_alloc_new w6 _)
  have HX7 := Lib.hid ((hb7.block _ (by have := HSz.out; omega)).trans HX.out)
  have HE7 := Lib.hid (HE.out.below hb7 (Nat.le_refl _))
  have HB7 := Lib.hid (HB.out.trans (hb7.mono HB.out.size))
  have HW7 : Hid (w6.heap.size < (w6.alloc (pgO P3 N3 K3 5)).heap.size ∧ g < w6.heap.size) := ⟨by simp, by have := hb3.size; have := HSz.out; omega⟩
  generalize w6.alloc (pgO P3 N3 K3 5) = w7 at *
  obtain ⟨c0, c1, c2, c3, c4⟩ := pg5 HP7.out
  obtain ⟨p, hp⟩ : ∃ p, p = n % 4 := ⟨_, rfl⟩
  have hp0 : 0 ≤ p ∧ p < 4 := by omega
  rw [← hp] at *
  have HLe : Hid (∀ i, i < 4 → (madeC l i).length ≤ 100000) := fun i _ => by have := (madeC_rd l i).2.2.2; omega
  have HA := Lib.hid (apply_any w7 P3 N3 K3 5 _ p (someE k) x4 6 HC7.out HLe.out HE7.out)
  unfold pgV at HA
  clear hal hb7 hc3 hb3 HX HE HB HSz hn4 hw1 hw2 hp
  go_upto_region 9 with (first
    | (with_reducible refine wpList_load_row rfl 31 (.tmp 7) rfl g rfl 31 _ (0, 0) _ HX7.out Try.underlying31 rfl HI4.out ?_)
    | (go_at_call 9; refine HA.out.mono ?_; rintro r w8 ⟨P5, N5, K5, rfl, hc5, hb5⟩; clear HA; unfold pgV))
  show Code.wp _ _ _ _ (w8.alloc (pgO P5 N5 K5 (apN 5 p (someE k) 6)))
  have hal := (Below.refl w8.heap.size w8).alloc (Nat.le_refl _) (pgO P5 N5 K5 (apN 5 p (someE k) 6))
  have hb9 := hb5.trans (hal.mono hb5.size)
  have HC9 := Lib.hid (hc5.below hal (Nat.le_refl _))
  have HC9o := Lib.hid (HC7.out.below hb9 (Nat.le_refl _))
  have HP9 := Lib.hid ((hb9.block _ HW7.out.1).trans HP7.out)
  have HQ9 := Lib.hid (show (w8.alloc (pgO P5 N5 K5 (apN 5 p (someE k) 6))).heap[w8.heap.size]? = some (pgO P5 N5 K5 (apN 5 p (someE k) 6)) from heap_alloc_new w8 _)
  have HX9 := Lib.hid ((hb9.block _ (by have := HW7.out; omega)).trans HX7.out)
  have HE9 := Lib.hid (HE7.out.below hb9 (Nat.le_refl _))
  have HB9 := Lib.hid (HB7.out.trans (hb9.mono HB7.out.size))
  generalize w8.alloc (pgO P5 N5 K5 (apN 5 p (someE k) 6)) = w9 at *
  have hap : apc 5 p (someE k) 6 = tch (tl (someE k)) p := by unfold apc; simp
  obtain ⟨B, hB⟩ : ∃ B, B = tch (tl (someE k)) p := ⟨_, rfl⟩
  have HApN : Hid (apN 5 p (someE k) 6 = if B = true then 6 else 5) := by show apN 5 p (someE k) 6 = _; unfold apN; rw [hap, ← hB]
  have HApC : Hid (apC (madeC l) 5 p (someE k) 6 = if B = true then giv p (madeC l) (tl (someE k)) else madeC l) := by show apC (madeC l) 5 p (someE k) 6 = _; unfold apC; rw [hap, ← hB]
  rw [hap, ← hB]
  have HBt := Lib.hid hB
  have HPa : Hid (Calls Try.prog 12 #[.agg (enC (someE k) x4)] w9 fun r w' => ∃ v, r = .returned v ∧ Els w' v 1 ((pgs (tl (someE k))).map fun (n : Nat) => [Value.int .i64 (n : Int)]) ∧ Below w9.heap.size w9 w') := ((callsIn_wide (n := 8)).1 (pages_in w9 (someE k) x4 HE9.out)).mono fun r w' ⟨v, h1, h2, h3⟩ => ⟨v, h1, own_ints h2, h3⟩
  clear hap hB c0 c1 c2 c3 c4 hal hb9 hc5 hb5 HX7 HE7 HB7 HW7 HP7 HC7 HE9
  go_upto_region 11 with (first
    | (with_reducible refine wpList_load_row rfl 31 (.tmp 7) rfl g rfl 31 _ (0, 0) _ HX9.out Try.underlying31 rfl HI4.out ?_)
    | (go_at_call 12; refine HPa.out.mono ?_; rintro r w10 ⟨v10, rfl, hE10, hb10⟩; clear HPa))
  have HX10 := Lib.hid ((hb10.block _ (Array.getElem?_eq_some_iff.1 HX9.out).1).trans HX9.out)
  have HP10 := Lib.hid ((hb10.block _ (Array.getElem?_eq_some_iff.1 HP9.out).1).trans HP9.out)
  have HQ10 := Lib.hid ((hb10.block _ (Array.getElem?_eq_some_iff.1 HQ9.out).1).trans HQ9.out)
  have HC10 := Lib.hid (HC9.out.below hb10 (Nat.le_refl _))
  have HC10o := Lib.hid (HC9o.out.below hb10 (Nat.le_refl _))
  have HB10 := Lib.hid (HB9.out.trans (hb10.mono HB9.out.size))
  obtain ⟨A6, q6, rfl, -⟩ := id hE10
  obtain ⟨m, hm⟩ : ∃ m, m = (pgs (tl (someE k))).length := ⟨_, rfl⟩
  rw [List.length_map, ← hm] at hE10 ⊢
  have hm32 : m ≤ 32 := by rw [hm]; exact pgs_len _
  have HE10 := Lib.hid hE10
  have HM := Lib.hid hm
  have H0 : Hid (Below w10.heap.size w10 w10) := Below.refl _ _
  clear hE10 hm hb10 HX9 HP9 HQ9 HC9 HC9o HB9
  generalize hL : pgs (tl (someE k)) = L at *
  have HAny : Hid (L.any (fun n => decide ((n : Int) = p)) = B) := by show L.any _ = B; rw [← hL, HBt.out]; exact tch_pgs _ hp0.1 (by omega)
  have HLl : Hid (m = L.length) := HM.out
  clear hL HM
  go_wp2
  go_loopw [12, 14] (fun b i wr => Hid (∃ j : Nat, j ≤ m ∧ i = .int .i64 (j : Int) ∧ b = .bool ((L.take j).any (fun n => decide ((n : Int) = p))) ∧ Below w10.heap.size w10 wr)) (fun _ i _ => m - (RowKit.intOf i).toNat)
  case atStart => exact ⟨0, Nat.zero_le _, rfl, rfl, H0.out⟩
  case round =>
    obtain ⟨j, hj, rfl, rfl, hb⟩ := hrel.out
    clear hrel H0
    by_cases hlt : j < m
    · obtain ⟨b1, o1, rfl, _, hc1⟩ := (HE10.out.below hb (Nat.le_refl _)).one (i := j) (by rw [List.length_map, ← HLl.out]; exact hlt)
      have hjL : j < L.length := by rw [← HLl.out]; exact hlt
      have k1 : wr.cell? ⟨b1, o1 + j, none⟩ = some (.int .i64 ((L[j] : Nat) : Int)) := by simpa using hc1 0 (by omega)
      obtain ⟨q, hq⟩ : ∃ q : Int, q = ((L[j] : Nat) : Int) := ⟨_, rfl⟩
      rw [← hq] at k1
      obtain ⟨C, hC⟩ : ∃ C, C = (L.take j).any (fun n => decide ((n : Int) = p)) := ⟨_, rfl⟩
      have HN1 : Hid ((L.take (j + 1)).any (fun n => decide ((n : Int) = p)) = (C || decide (q = p))) := by
        show (L.take (j + 1)).any _ = _
        rw [List.take_succ_eq_append_getElem hjL, List.any_append, ← hC, hq]; simp
      rw [← hC]
      have HBj := Lib.hid hb
      have HLT := Lib.hid hlt
      clear hc1 hq hC hb hjL
      cases C with
      | true =>
        have HF : Hid ((L.take (j + 1)).any (fun n => decide ((n : Int) = p)) = true) := HN1.out
        go_wp2
        go_roundw
        case rel => exact ⟨j + 1, HLT.out, by go_num, by rw [HF.out], HBj.out⟩
        case measure => have := HLT.out; simp [RowKit.intOf]; omega
      | false =>
        by_cases hqp : q = p
        · have HF : Hid ((L.take (j + 1)).any (fun n => decide ((n : Int) = p)) = true) := HN1.out.trans (by simp [hqp])
          subst hqp
          go_wp2
          go_roundw
          case rel => exact ⟨j + 1, HLT.out, by go_num, by rw [HF.out], HBj.out⟩
          case measure => have := HLT.out; simp [RowKit.intOf]; omega
        · have HF : Hid ((L.take (j + 1)).any (fun n => decide ((n : Int) = p)) = false) := HN1.out.trans (by simp [hqp])
          have hqp2 : (q == p) = false := by simp [hqp]
          clear hqp
          go_wp2
          go_roundw
          case rel => exact ⟨j + 1, HLT.out, by go_num, by rw [HF.out], HBj.out⟩
          case measure => have := HLT.out; simp [RowKit.intOf]; omega
    · obtain rfl : j = m := by omega
      rw [HLl.out, List.take_length, HAny.out]
      have HBe := Lib.hid (HB10.out.trans (hb.mono HB10.out.size))
      have HX11 := Lib.hid ((hb.block _ (Array.getElem?_eq_some_iff.1 HX10.out).1).trans HX10.out)
      have HP11 := Lib.hid ((hb.block _ (Array.getElem?_eq_some_iff.1 HP10.out).1).trans HP10.out)
      have HQ11 := Lib.hid ((hb.block _ (Array.getElem?_eq_some_iff.1 HQ10.out).1).trans HQ10.out)
      have HC11 := Lib.hid (HC10.out.below hb (Nat.le_refl _))
      have HC11o := Lib.hid (HC10o.out.below hb (Nat.le_refl _))
      have d4 := (pg5 HQ11.out).2.2.2.2
      rw [HApN.out] at d4
      clear hlt hj hb HX10 HP10 HQ10 HC10 HC10o HB10 HE10 hm32
      have HR0 : Hid (Below wr.heap.size wr wr) := Below.refl _ _
      have HGk : Hid (∀ i : Nat, i < 4 → (B && ownB (someE k) p (i : Int)) = false → apC (madeC l) 5 p (someE k) 6 i = madeC l i) := fun i hi h => by
        rw [HApC.out]
        cases B with
        | false => rw [if_neg (by simp)]
        | true =>
          rw [if_pos rfl]
          exact giv_own k p _ i (by simpa using h)
      clear HApC HApN HBt
      cases B
      all_goals
        go_upto_region 17 with (fail)
        clear d4
        go_wp2
        go_loopw [15] (fun i w2 => Hid (∃ c : Nat, c ≤ 4 ∧ i = .int .i64 (c : Int) ∧ Below wr.heap.size wr w2)) (fun i _ => 4 - (RowKit.intOf i).toNat)
        case atStart => exact ⟨0, Nat.zero_le _, rfl, HR0.out⟩
        case round =>
          obtain ⟨c, hc, rfl, hb⟩ := hrel.out
          clear hrel HR0
          by_cases hlt : c < 4
          · have HXr := Lib.hid ((hb.block _ (Array.getElem?_eq_some_iff.1 HX11.out).1).trans HX11.out)
            have HPr := Lib.hid ((hb.block _ (Array.getElem?_eq_some_iff.1 HP11.out).1).trans HP11.out)
            have HQr := Lib.hid ((hb.block _ (Array.getElem?_eq_some_iff.1 HQ11.out).1).trans HQ11.out)
            have HCq := Lib.hid (HC11.out.below hb (Nat.le_refl _) c hlt)
            have HCp := Lib.hid (HC11o.out.below hb (Nat.le_refl _) c hlt)
            have HBr := Lib.hid hb
            have HLT := Lib.hid hlt
            have HGc := Lib.hid (HGk.out c hlt)
            have e0 : wr.cell? ⟨g, 0, none⟩ = some (.int .i64 (someE k).k) := (cell_of HXr.out 0).1
            have e6 : wr.cell? ⟨g, 6, none⟩ = some (.int .i64 (someE k).ap) := (cell_of HXr.out 6).1
            have e7 : wr.cell? ⟨g, 7, none⟩ = some (.int .i64 (someE k).ac) := (cell_of HXr.out 7).1
            have e8 : wr.cell? ⟨g, 8, none⟩ = some (.int .i64 (someE k).tp) := (cell_of HXr.out 8).1
            have e9 : wr.cell? ⟨g, 9, none⟩ = some (.int .i64 (someE k).tc) := (cell_of HXr.out 9).1
            obtain ⟨O, hO⟩ : ∃ O, O = ownB (someE k) p (c : Int) := ⟨_, rfl⟩
            rw [← hO] at HGc
            have HO := Lib.hid hO
            clear hb hO
            go_upto_region 20 with (fail)
            go_cut [16] (fun u wx => u = .bool O ∧ wx = wr)
            case first =>
              have HO2 : Hid (O = (decide ((someE k).ap = p ∧ (someE k).ac = (c : Int)) || (decide ((someE k).k = 7) && decide ((someE k).tp = p ∧ (someE k).tc = (c : Int))))) := HO.out
              generalize (someE k).ap = ap at *
              generalize (someE k).ac = ac at *
              generalize (someE k).tp = tp at *
              generalize (someE k).tc = tc at *
              generalize (someE k).k = kk at *
              by_cases h1 : ap = p
              · by_cases h2 : ac = (c : Int)
                · have HF : Hid (O = true) := HO2.out.trans (by simp [h1, h2])
                  go_wp2
                  go_meet
                  exact ⟨by rw [HF.out], rfl⟩
                · by_cases h3 : kk = 7
                  · by_cases h4 : tp = p
                    · by_cases h5 : tc = (c : Int)
                      · have HF : Hid (O = true) := HO2.out.trans (by simp [h1, h2, h3, h4, h5])
                        go_wp2
                        go_meet
                        exact ⟨by rw [HF.out], rfl⟩
                      · have HF : Hid (O = false) := HO2.out.trans (by simp [h1, h2, h3, h4, h5])
                        go_wp2
                        go_meet
                        exact ⟨by rw [HF.out], rfl⟩
                    · have HF : Hid (O = false) := HO2.out.trans (by simp [h1, h2, h3, h4])
                      go_wp2
                      go_meet
                      exact ⟨by rw [HF.out], rfl⟩
                  · have HF : Hid (O = false) := HO2.out.trans (by simp [h1, h2, h3])
                    go_wp2
                    go_meet
                    exact ⟨by rw [HF.out], rfl⟩
              · by_cases h3 : kk = 7
                · by_cases h4 : tp = p
                  · by_cases h5 : tc = (c : Int)
                    · have HF : Hid (O = true) := HO2.out.trans (by simp [h1, h3, h4, h5])
                      go_wp2
                      go_meet
                      exact ⟨by rw [HF.out], rfl⟩
                    · have HF : Hid (O = false) := HO2.out.trans (by simp [h1, h3, h4, h5])
                      go_wp2
                      go_meet
                      exact ⟨by rw [HF.out], rfl⟩
                  · have HF : Hid (O = false) := HO2.out.trans (by simp [h1, h3, h4])
                    go_wp2
                    go_meet
                    exact ⟨by rw [HF.out], rfl⟩
                · have HF : Hid (O = false) := HO2.out.trans (by simp [h1, h3])
                  go_wp2
                  go_meet
                  exact ⟨by rw [HF.out], rfl⟩
            case rest =>
              obtain ⟨rfl, rfl⟩ := hcut
              clear e0 e6 e7 e8 e9
              have d := (pg_cell HQr.out).1 c hlt
              have f := (pg_cell HPr.out).1 c hlt
              have hcq : ∀ m, (convert 22 9 (.slice (P5 c) (N5 c) (K5 c))).run Try.prog (wc.drewN m) = .ok (.string (bstr (apC (madeC l) 5 p (someE k) 6 c))) (wc.drewN m) := conv_drewN HCq.out.2
              have hcp : ∀ m, (convert 22 9 (.slice (P3 c) (N3 c) (K3 c))).run Try.prog (wc.drewN m) = .ok (.string (bstr (madeC l c))) (wc.drewN m) := conv_drewN HCp.out.2
              have HBn : Hid (∀ m, Below wr.heap.size wr (wc.drewN m)) := fun m => HBr.out.trans ((below_drewN wc.heap.size wc m).mono HBr.out.size)
              cases O with
              | true =>
                first
                | (have HG1 := HGc.out rfl
                   rw [HG1] at hcq
                   clear HG1
                   go_upto_region 21 with (fail)
                   go_quiet (fail)
                   go_wp2
                   go_roundw
                   case rel => exact ⟨c + 1, HLT.out, by go_num, HBn.out _⟩
                   case measure => have := HLT.out; simp [RowKit.intOf]; omega)
                | (go_upto_region 21 with (fail)
                   go_quiet (fail)
                   go_wp2
                   go_roundw
                   case rel => exact ⟨c + 1, HLT.out, by go_num, HBn.out _⟩
                   case measure => have := HLT.out; simp [RowKit.intOf]; omega)
              | false =>
                have HG1 := HGc.out (by rfl)
                rw [HG1] at hcq
                clear HG1
                go_upto_region 21 with (fail)
                go_quiet (fail)
                go_wp2
                go_roundw
                case rel => exact ⟨c + 1, HLT.out, by go_num, HBn.out _⟩
                case measure => have := HLT.out; simp [RowKit.intOf]; omega
          · obtain rfl : c = 4 := by omega
            have HBr := Lib.hid (HBe.out.trans (hb.mono HBe.out.size))
            clear hb
            go_wp2
            go_ret
            exact ⟨rfl, HBr.out⟩
end Go.Proofs.Ytmijdjlpfjfjoaa.Rx
