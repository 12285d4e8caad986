/- deed: the reference's stack goes on: down, Push, Back, All; numbers. -/
import Derived.Test.YtacidmnhbhbmhaaDdR
namespace Go.Proofs.Ytacidmnhbhbmhaa
open Go.RowKit

theorem Rd.at_ {w : World} {v : Value} {l : List Int} (h : Rd w v l) : ∃ A c, v = .slice A l.length c ∧ ∀ j (hj : j < l.length), ∃ g o, A = some ⟨g, o, none⟩ ∧ g < w.heap.size ∧ w.cell? ⟨g, o + j, none⟩ = some (.int .i64 l[j]) := by
  rcases h with ⟨rfl, rfl⟩ | ⟨g, o, c, rfl, h2, h3⟩
  · exact ⟨none, 0, rfl, fun j hj => absurd hj (Nat.not_lt_zero _)⟩
  · exact ⟨_, c, rfl, fun j hj => ⟨g, o, rfl, h2, h3 j hj⟩⟩
def ivP (v : Value) : Nat := match v with | .int _ i => (i + 1).toNat | _ => 0

set_option maxRecDepth 100000 in
set_option maxHeartbeats 1000000 in
theorem down_any (w : World) (v : Value) (l : List Int) (h : Rd w v l) (hl : l.length < 100000) :
    Calls Try.prog 22 #[v] w fun e w' => ∃ v', e = .returned v' ∧ w'.ownsRow w.heap.size 3 1 v' l.length (intV l.reverse) ∧ Below w.heap.size w w' := by
  obtain ⟨A, c, rfl, hat⟩ := h.at_
  obtain ⟨n, hn⟩ : ∃ n, l.length = n := ⟨_, rfl⟩
  have HAT := Lib.hid hat
  have HN := Lib.hid hn
  rw [hn] at hl ⊢
  have hnI : (n : Int) < 100000 := by omega
  clear h hat hn
  go_enter Try.func22, Try.ntmps22
  go_upto_region 3 with fail
  go_loopw [3, 4] (fun lv iv wr => Hid (∃ k : Nat, k ≤ n ∧ iv = .int .i64 ((k : Int) - 1) ∧ wr.ownsRow w.heap.size 3 1 lv (n - k) (intV (l.drop k).reverse) ∧ Below w.heap.size w wr)) (fun _ iv _ => ivP iv)
  case atStart => exact ⟨n, Nat.le_refl _, rfl, by rw [Nat.sub_self, List.drop_of_length_le (Nat.le_of_eq HN.out)]; exact World.ownsRow_nil _ _ _ _, Below.refl _ _⟩
  case round =>
    obtain ⟨k, hk, rfl, hL, hb⟩ := hrel.out
    clear hrel
    cases k with
    | zero =>
      rw [Nat.sub_zero, List.drop_zero] at hL
      have HL := Lib.hid hL
      have HB := Lib.hid hb
      obtain ⟨A3, c3, rfl⟩ := own_sl hL
      rw [show ((0 : Nat) : Int) - 1 = -1 from rfl]
      clear hL hb
      go_wp2
      go_ret
      exact ⟨_, rfl, HL.out, HB.out⟩
    | succ m =>
      rw [show ((m + 1 : Nat) : Int) - 1 = (m : Int) by omega]
      have hm : m < l.length := by rw [HN.out]; omega
      obtain ⟨g, o, rfl, hg, hx⟩ := HAT.out m hm
      have hcx := (hb.cell (p := ⟨g, o + m, none⟩) hg).trans hx
      have hdrop : (l.drop m).reverse = (l.drop (m + 1)).reverse ++ [l[m]] := by rw [List.drop_eq_getElem_cons hm, List.reverse_cons]
      generalize l[m] = x at *
      have hal : Below w.heap.size w (wr.alloc (.cells #[.int .i64 x] 3)) := hb.alloc hb.size _
      obtain ⟨A3, c3, rfl⟩ := own_sl hL
      obtain ⟨v5, w5, hr5, ho5, hg5, hat5⟩ := run_app (wr.alloc (.cells #[.int .i64 x] 3)) w.heap.size (n - (m + 1)) (.slice A3 (n - (m + 1)) c3) _ (hL.alloc _) (.slice (some ⟨wr.heap.size, 0, none⟩) 1 1) [x] (.inr ⟨_, 0, 1, rfl, by simp, fun j hj => by
        obtain rfl : j = 0 := by simpa using hj
        exact (cell_of (heap_alloc_new wr (.cells #[.int .i64 x] 3)) 0).1⟩) (by simp; omega) hal.size
      have hb5 : Below w.heap.size w w5 := hal.grown hg5 hal.size (fun q hq => ((hL.lt q hq).1))
      have ho6 : w5.ownsRow w.heap.size 3 1 v5 (n - m) (intV (l.drop m).reverse) := by
        rw [hdrop, show intV ((l.drop (m + 1)).reverse ++ [x]) = intV (l.drop (m + 1)).reverse ++ intV [x] by simp [intV], show n - m = n - (m + 1) + [x].length by simp; omega]
        exact ho5
      have HR5 := Lib.hid hr5
      have HO6 := Lib.hid ho6
      have HB5 := Lib.hid hb5
      have HK := Lib.hid hk
      have hm0 : 0 ≤ (m : Int) := by omega
      have hm1 : (m : Int) < (n : Int) := by omega
      clear hat5 hg5 ho5 hr5 ho6 hb5 hal hdrop hx hg hb hL hm hk
      go_wp2_with (with_reducible refine wpList_append_r _ rfl (.tmp 12) (.tmp 17) 27 27 rfl (.slice A3 (n - (m + 1)) c3) (.slice (some ⟨wr.heap.size, 0, none⟩) 1 1) rfl rfl (HR5.out _) ?_)
      exact ⟨⟨m, by have := HK.out; omega, rfl, HO6.out, HB5.out⟩, by simp only [ivP]; omega⟩

set_option maxRecDepth 100000 in
set_option maxHeartbeats 1000000 in
theorem rall_any (w : World) {B p : Nat} {v : Value} {L : List Int} {S : Nat → Int} (h : RdAt w B p v L S) (hL : L.length < 100000) :
    Calls Try.prog 16 #[.pointer (some ⟨p, 0, none⟩)] w fun e w' => ∃ v', e = .returned v' ∧ w'.ownsRow w.heap.size 3 1 v' L.length (intV L.reverse) ∧ Below w.heap.size w w' := by
  have CD := down_any w v L (own_rd0 h.hl) hL
  have c0 := h.c0.1
  obtain ⟨A, c, rfl⟩ := own_sl h.hl
  clear h hL
  go_enter Try.func16, Try.ntmps16
  go_wp2_with (first | (go_at_call 22; refine CD.mono ?_; rintro e w2 ⟨v2, rfl, ho, hb⟩))
  go_ret
  exact ⟨v2, rfl, ho, hb⟩

theorem below_dr {B : Nat} {w w' : World} (h : Below B w w') (n : Nat) : Below B w (w'.drewN n) := ⟨h.os, h.tape, h.output, h.size, h.block⟩
set_option maxRecDepth 100000 in
set_option maxHeartbeats 1000000 in
theorem numbers_any (w : World) (v1 v2 : Value) (l1 l2 : List Int) (h1 : Rd w v1 l1) (h2 : Rd w v2 l2) (hl : l1.length < 100000) :
    Calls Try.prog 12 #[v1, v2] w fun e w' => e = .returned (.bool (decide (l1 = l2))) ∧ Below w.heap.size w w' := by
  obtain ⟨A1, c1, rfl, hat1⟩ := h1.at_
  obtain ⟨A2, c2, rfl, hat2⟩ := h2.at_
  clear h1 h2
  by_cases hne : l1.length = l2.length
  · obtain ⟨n, hn⟩ : ∃ n, l1.length = n := ⟨_, rfl⟩
    have hn2 : l2.length = n := hne.symm.trans hn
    have HA1 := Lib.hid hat1
    have HA2 := Lib.hid hat2
    have HN1 := Lib.hid hn
    have HN2 := Lib.hid hn2
    rw [hn, hn2]
    rw [hn] at hl
    have hnI : (n : Int) < 100000 := by omega
    clear hat1 hat2 hne hn hn2
    go_enter Try.func12, Try.ntmps12
    go_upto_region 4 with fail
    go_loopw [5] (fun iv wr => Hid (∃ i : Nat, i ≤ n ∧ iv = .int .i64 (i : Int) ∧ l1.take i = l2.take i ∧ Below w.heap.size w wr)) (fun iv _ => n - ivN iv)
    case atStart => exact ⟨0, Nat.zero_le _, rfl, rfl, Below.refl _ _⟩
    case round =>
      obtain ⟨i, hi, rfl, heq, hb⟩ := hrel.out
      clear hrel
      have hi0 : 0 ≤ (i : Int) := by omega
      by_cases hlt : i < n
      · have hi1 : i < l1.length := by rw [HN1.out]; exact hlt
        have hi2 : i < l2.length := by rw [HN2.out]; exact hlt
        obtain ⟨g1, o1, rfl, hg1, hx1⟩ := HA1.out i hi1
        obtain ⟨g2, o2, rfl, hg2, hx2⟩ := HA2.out i hi2
        have hc1 := (hb.cell (p := ⟨g1, o1 + i, none⟩) hg1).trans hx1
        have hc2 := (hb.cell (p := ⟨g2, o2 + i, none⟩) hg2).trans hx2
        have hlI : (i : Int) < (n : Int) := by omega
        have e1 : l1.take (i + 1) = l1.take i ++ [l1[i]] := (List.take_append_getElem hi1).symm
        have e2 : l2.take (i + 1) = l2.take i ++ [l2[i]] := (List.take_append_getElem hi2).symm
        have hsame : l1[i] = l2[i] → l1.take (i + 1) = l2.take (i + 1) := fun e => by rw [e1, e2, heq, e]
        have hdiff : l1[i] ≠ l2[i] → ¬ l1 = l2 := fun e he => e (by subst he; rfl)
        generalize l1[i] = x at *
        generalize l2[i] = y at *
        have HSM := Lib.hid hsame
        have HDF := Lib.hid hdiff
        have HB := Lib.hid hb
        have HL := Lib.hid hlt
        by_cases hxy : x = y
        · subst hxy
          clear hsame hdiff hb heq e1 e2 hx1 hx2 hg1 hg2 hi1 hi2 hi hlt
          go_wp2
          go_quiet (fail)
          go_wp2
          exact ⟨⟨i + 1, HL.out, rfl, HSM.out trivial, below_dr HB.out _⟩, by have := HL.out; simp only [ivN]; omega⟩
        · have hb1 : (x == y) = false := by simpa using hxy
          have hb2 : (x != y) = true := by simpa using hxy
          clear hsame hdiff hb heq e1 e2 hx1 hx2 hg1 hg2 hi1 hi2 hi hlt hxy
          go_wp2
          go_quiet (fail)
          go_wp2
          go_ret
          exact ⟨by rw [decide_eq_false (HDF.out (by simpa using hb1))]; rfl, below_dr HB.out _⟩
      · obtain rfl : i = n := by omega
        rw [List.take_of_length_le (Nat.le_of_eq HN1.out), List.take_of_length_le (Nat.le_of_eq HN2.out)] at heq
        subst heq
        have HB := Lib.hid hb
        clear hb hi hlt
        go_wp2
        go_ret
        exact ⟨by simp, HB.out⟩
  · have e1 : decide (l1 = l2) = false := by simp; rintro rfl; exact hne rfl
    rw [e1]
    clear e1 hat1 hat2
    generalize l1.length = n1 at *
    generalize l2.length = n2 at *
    have hb1 : ((n1 : Int) == (n2 : Int)) = false := by simpa using (by omega : ¬ (n1 : Int) = n2)
    have hb2 : ((n1 : Int) != (n2 : Int)) = true := by simpa using (by omega : ¬ (n1 : Int) = n2)
    clear hne
    go_enter Try.func12, Try.ntmps12
    go_wp2
    go_ret
    exact ⟨rfl, Below.refl _ _⟩

set_option maxRecDepth 100000 in
set_option maxHeartbeats 1000000 in
theorem rpush_any (w : World) {B p : Nat} {v : Value} {L : List Int} {S : Nat → Int} (h : RdAt w B p v L S) (hB : B ≤ w.heap.size) (hL : L.length < 50000) (x : Int) :
    Calls Try.prog 14 #[.pointer (some ⟨p, 0, none⟩), .int .i64 x] w fun e w' => ∃ v', e = .returned (.tuple #[]) ∧ RdAt w' B p v' (L ++ [x]) S ∧ (∀ k, v'.ownBlock = some k → w.heap.size ≤ k) ∧ Fr w.heap.size (fun k => k = p) w w' := by
  have hrd := own_rd0 h.hl
  have c0 := h.c0.1
  have HH := Lib.hid h
  have HP := Lib.hid h.plt
  have hw0 : (w.alloc (.cells #[] 3)).heap.size = w.heap.size + 1 := by simp
  have hb0 : Below w.heap.size w (w.alloc (.cells #[] 3)) := (Below.refl _ _).alloc (Nat.le_refl _) _
  have O0 : (w.alloc (.cells #[] 3)).ownsRow w.heap.size 3 1 (.slice (some ⟨w.heap.size, 0, none⟩) 0 0) 0 [] := World.ownsRow_made w #[] 0 (Nat.le_refl _) (by unfold maxLen; omega) rfl
  obtain ⟨v1, w1, hr1, ho1, hg1, hat1⟩ := run_app (w.alloc (.cells #[] 3)) w.heap.size 0 _ [] O0 v L (hrd.on hb0) (by omega) hb0.size
  have hb1 : Below w.heap.size w w1 := hb0.grown hg1 hb0.size (fun q hq => (O0.lt q hq).1)
  rw [Nat.zero_add, List.nil_append] at ho1
  have ha1 : Below w.heap.size w (w1.alloc (.cells #[.int .i64 x] 3)) := hb1.alloc hb1.size _
  obtain ⟨v2, w2, hr2, ho2, hg2, hat2⟩ := run_app (w1.alloc (.cells #[.int .i64 x] 3)) w.heap.size L.length v1 _ (ho1.alloc _) (.slice (some ⟨w1.heap.size, 0, none⟩) 1 1) [x] (.inr ⟨_, 0, 1, rfl, by simp, fun j hj => by
        obtain rfl : j = 0 := by simpa using hj
        exact (cell_of (heap_alloc_new w1 (.cells #[.int .i64 x] 3)) 0).1⟩) (by simp; omega) ha1.size
  have hb2 : Below w.heap.size w w2 := ha1.grown hg2 ha1.size (fun q hq => (ho1.lt q hq).1)
  have hl2 : L.length + [x].length = (L ++ [x]).length := by simp
  rw [hl2, show intV L ++ intV [x] = intV (L ++ [x]) by simp [intV]] at ho2
  have HR1 := Lib.hid hr1
  have HR2 := Lib.hid hr2
  have HO2 := Lib.hid ho2
  have HB2 := Lib.hid hb2
  have HBB := Lib.hid hB
  obtain ⟨A1, c1, rfl⟩ := own_sl ho1
  obtain ⟨A2, c2, rfl⟩ := own_sl ho2
  have hc2 : w2.cell? ⟨p, 0, none⟩ = some v := (hb2.cell (p := ⟨p, 0, none⟩) h.plt).trans c0
  have hf2 : w2.frozen? ⟨p, 0, none⟩ = false := by
    obtain ⟨cur, h1, _⟩ := h.hp
    exact (cell_of ((hb2.block p h.plt).trans h1) 0).2
  have hc01 := Lib.cell?_alloc_some (.cells #[] 3) c0
  obtain ⟨A, c, hv⟩ := own_sl h.hl
  rw [hv] at hc2 c0 HR1 hc01
  clear h hrd hB hL hw0 hb0 O0 hr1 ho1 hg1 hat1 hb1 ha1 hr2 ho2 hg2 hat2 hb2 hl2 hv
  go_enter Try.func14, Try.ntmps14
  go_wp2_with (first | (with_reducible refine wpList_append_r _ rfl (.tmp 5) (.tmp 9) 27 27 rfl (.slice (some ⟨w.heap.size, 0, none⟩) 0 0) (.slice A L.length c) rfl rfl (HR1.out _) ?_) | (with_reducible refine wpList_append_r _ rfl (.tmp 10) (.tmp 12) 27 27 rfl (.slice A1 L.length c1) (.slice (some ⟨w1.heap.size, 0, none⟩) 1 1) rfl rfl (HR2.out _) ?_))
  go_end0
  rw [show L.length + 1 = (L ++ [x]).length by simp]
  exact ⟨_, rfl, HH.out.put (fr_of HB2.out) (fun e => e) (own_base HO2.out HBB.out), fun k hk => (HO2.out.lt k hk).1, Fr.setCell (S := fun k => k = p) (p := ⟨p, 0, none⟩) ((fr_of HB2.out).mono fun _ e => e.elim) (.inl rfl) _⟩

/-- A savepoint is none. -/
theorem rback_out (w : World) (p : Addr) (x : Int) (hx : x < 0 ∨ 4 ≤ x) : Calls Try.prog 11 #[.pointer (some p), .int .i64 x] w fun e w' => e = .returned (.tuple #[.slice none 0 0, .bool false]) ∧ w' = w := by
  by_cases h0 : x < 0
  · clear hx
    go_enter Try.func11, Try.ntmps11
    go_wp2
    go_ret2
    exact ⟨rfl, rfl⟩
  · have h4 : 4 ≤ x := by omega
    clear hx
    go_enter Try.func11, Try.ntmps11
    go_wp2
    go_ret2
    exact ⟨rfl, rfl⟩
set_option maxRecDepth 100000 in
set_option maxHeartbeats 1000000 in
theorem rback_no (w : World) {B p : Nat} {v : Value} {L : List Int} {S : Nat → Int} (h : RdAt w B p v L S) {n : Int} (hS : svB S n = false) :
    Calls Try.prog 11 #[.pointer (some ⟨p, 0, none⟩), .int .i64 n] w fun e w' => e = .returned (.tuple #[.slice none 0 0, .bool false]) ∧ w' = w := by
  by_cases hx : n < 0 ∨ 4 ≤ n
  · exact rback_out w _ n hx
  · obtain ⟨i, rfl⟩ : ∃ i : Nat, n = i := ⟨n.toNat, by omega⟩
    obtain ⟨s, c1, c2, _⟩ := h.ci (i := i) (by omega)
    have hS' : S i = -1 := by
      simp only [svB, Bool.and_eq_false_iff, decide_eq_false_iff_not, Int.toNat_natCast] at hS
      omega
    rw [hS'] at c2
    rw [show decide ((-1 : Int) ≠ -1) = false by decide] at c2
    have hn0 : 0 ≤ (i : Int) := by omega
    have hn4 : (i : Int) < 4 := by omega
    clear h hx hS hS'
    go_enter Try.func11, Try.ntmps11
    go_wp2
    go_ret2
    exact ⟨rfl, rfl⟩

theorem own_take {w : World} {B n c t : Nat} {A : Option Addr} {L : List Int} (h : w.ownsRow B 3 1 (.slice A n c) n (intV L)) (ht : t ≤ n) : w.ownsRow B 3 1 (.slice A t c) t (intV (L.take t)) := by
  have hx := h.1
  rw [intV_len] at hx
  refine ⟨by rw [intV_len, List.length_take]; omega, ?_⟩
  rcases h.2 with ⟨hv, hn⟩ | ⟨g, cap, cur, hv, h1, hg, hnc, h2, h3, hxs⟩
  · injection hv with e1 e2 e3
    subst e1 e2 e3
    obtain rfl : t = 0 := by omega
    exact .inl ⟨rfl, rfl⟩
  · injection hv with e1 e2 e3
    subst e1 e3
    refine .inr ⟨g, c, cur, rfl, h1, hg, by omega, h2, h3, ?_⟩
    have : (cur.toList.take (n * 1)).take (t * 1) = (intV L).take (t * 1) := by rw [hxs]
    rw [List.take_take, Nat.min_eq_left (by omega)] at this
    rw [this]
    simp [intV]

set_option maxRecDepth 100000 in
set_option maxHeartbeats 2000000 in
theorem rback_yes (w : World) {B p : Nat} {v : Value} {L : List Int} {S : Nat → Int} (h : RdAt w B p v L S) (hB : B ≤ w.heap.size) (hL : L.length < 50000) {n t : Nat} (hn : n < 4) (hS : S n = (t : Int)) (ht : t ≤ L.length) :
    Calls Try.prog 11 #[.pointer (some ⟨p, 0, none⟩), .int .i64 (n : Int)] w fun e w' => ∃ v' lv, e = .returned (.tuple #[lv, .bool true]) ∧ w'.ownsRow w.heap.size 3 1 lv (L.length - t) (intV (L.drop t).reverse) ∧
      RdAt w' B p v' (L.take t) (cutS S t) ∧ (∀ k, v'.ownBlock = some k → w.heap.size ≤ k) ∧ Fr w.heap.size (fun k => k = p) w w' := by
  obtain ⟨s, c1, c2, hs, _⟩ := h.ci hn
  obtain rfl : s = (t : Int) := (hs (by omega)).trans hS
  rw [hS, show decide (((t : Nat) : Int) ≠ -1) = true from decide_eq_true (by omega)] at c2
  obtain ⟨m, hm⟩ : ∃ m, L.length = m := ⟨_, rfl⟩
  obtain ⟨A, c, rfl⟩ := own_sl h.hl
  have hl0 := h.hl
  have HM := Lib.hid hm
  have HT := Lib.hid ht
  rw [hm] at h hl0 ht hL ⊢
  have CD := down_any w _ (L.drop t) (own_rd hl0 ht) (by rw [List.length_drop]; omega)
  have c0 := h.c0.1
  have HH := Lib.hid h
  have hcap := (own_cap hl0).1
  have hform := own_forms hl0
  have HBB := Lib.hid hB
  have HO0 := Lib.hid hl0
  have hn0 : 0 ≤ (n : Int) := by omega
  have hn4 : (n : Int) < 4 := by omega
  have t0 : 0 ≤ (t : Int) := by omega
  have t1 : (t : Int) ≤ (m : Int) := by omega
  have t2 : (m : Int) ≤ (c : Int) := by omega
  have HP := Lib.hid h.plt
  clear h hs hS hl0 hB hm
  go_enter Try.func11, Try.ntmps11
  go_upto_region 4 with fail
  go_cut [7] (fun lv wx => Hid (wx.ownsRow w.heap.size 3 1 lv (m - t) (intV (L.drop t).reverse) ∧ Below w.heap.size w wx))
  case first =>
    have hdl : (L.drop t).length = m - t := by rw [List.length_drop, HM.out]
    rw [hdl] at CD
    rcases hform with ⟨e1, e2⟩ | ⟨q, cap, e1⟩
    · injection e1 with e3 e4 e5
      subst e3 e5 e2
      obtain rfl : t = 0 := by omega
      simp only [sliced, if_pos, Nat.sub_self] at CD
      clear hcap t0 t1 t2 ht hL
      go_wp2_with (first | (go_at_call 22; refine CD.mono ?_; rintro e w1 ⟨lv, rfl, ho, hb⟩))
      go_meet
      exact ⟨ho, hb⟩
    · injection e1 with e3 e4 e5
      subst e3 e5
      by_cases hct : c = t
      · obtain rfl : t = m := by omega
        subst hct
        simp only [sliced, if_pos, Nat.sub_self] at CD
        clear hcap t1 t2 ht
        go_wp2_with (first | (go_at_call 22; refine CD.mono ?_; rintro e w1 ⟨lv, rfl, ho, hb⟩))
        go_meet
        exact ⟨by rw [Nat.sub_self]; exact ho, hb⟩
      · simp only [sliced, if_neg hct, Option.map_some, add_more, Nat.zero_add, Nat.mul_one] at CD
        have hct2 : ¬ ((c : Int) = (t : Int)) := by omega
        have t3 : (t : Int) ≤ (c : Int) := by omega
        go_wp2_with (first | (go_at_call 22; refine CD.mono ?_; rintro e w1 ⟨lv, rfl, ho, hb⟩))
        go_meet
        exact ⟨ho, hb⟩
  case rest =>
    obtain ⟨ho, hb⟩ := hcut.out
    obtain ⟨A5, c5, rfl⟩ := own_sl ho
    have h1 := HH.out.on hb
    have cp := h1.c0.1
    have cf := h1.c0.2
    have hl1 := own_up HO0.out hb
    have hrd := own_rd0 (own_take hl1 ht)
    have H1 := Lib.hid h1
    have HO := Lib.hid ho
    have HB := Lib.hid hb
    have hbW := hb.size
    have HPW := Lib.hid h1.plt
    have hlt : (L.take t).length = t := by rw [List.length_take, HM.out]; omega
    have hb0 : Below w.heap.size w (wc.alloc (.cells #[] 3)) := hb.alloc hbW _
    have O0 : (wc.alloc (.cells #[] 3)).ownsRow w.heap.size 3 1 (.slice (some ⟨wc.heap.size, 0, none⟩) 0 0) 0 [] := World.ownsRow_made wc #[] 0 hbW (by unfold maxLen; omega) rfl
    obtain ⟨v1, w1, hr1, ho1, hg1, hat1⟩ := run_app (wc.alloc (.cells #[] 3)) w.heap.size 0 _ [] O0 (.slice A t c) (L.take t) (hrd.on ((Below.refl _ _).alloc (Nat.le_refl _) _)) (by rw [hlt]; omega) hb0.size
    rw [hlt, Nat.zero_add, List.nil_append] at ho1
    have hb1 : Below w.heap.size w w1 := hb0.grown hg1 hb0.size (fun q hq => (O0.lt q hq).1)
    have hfr1 : Fr wc.heap.size (fun _ => False) wc w1 := ((Fr.refl wc.heap.size (fun _ => False) wc).alloc (Nat.le_refl _) _).grown hg1 (fun k hk => .inr (by have e : wc.heap.size = k := (by simpa [Value.ownBlock] using hk); omega)) (by simp)
    have hc1 := Lib.cell?_alloc_some (.cells #[] 3) cp
    have hx1 : w1.cell? ⟨p, 0, none⟩ = some (.slice A m c) := (World.cell?_of_block (hfr1.block p h1.plt (fun e => e))).trans cp
    have hx2 : w1.frozen? ⟨p, 0, none⟩ = false := by
      obtain ⟨cur, h5, _⟩ := h1.hp
      exact (cell_of ((hfr1.block p h1.plt (fun e => e)).trans h5) 0).2
    obtain ⟨A1, c1', rfl⟩ := own_sl ho1
    have HR1 := Lib.hid hr1
    have HO1 := Lib.hid ho1
    have HB1 := Lib.hid hb1
    have HF1 := Lib.hid hfr1
    have HLT := Lib.hid hlt
    clear hcut ho hb h1 hl1 hrd hb0 O0 hr1 ho1 hg1 hat1 hb1 hfr1 hlt c0 c1 c2 CD
    go_upto_region 5 with fail
    go_cut [] (fun wx => Hid (∃ v', RdAt wx B p v' (L.take t) S ∧ (∀ k, v'.ownBlock = some k → w.heap.size ≤ k) ∧ Fr w.heap.size (fun k => k = p) w wx ∧ wx.ownsRow w.heap.size 3 1 (.slice A5 (m - t) c5) (m - t) (intV (L.drop t).reverse)))
    case first =>
      go_wp2_with (with_reducible refine wpList_append_r _ rfl (.tmp 38) (.tmp 44) 27 27 rfl (.slice (some ⟨wc.heap.size, 0, none⟩) 0 0) (.slice A t c) rfl rfl (HR1.out _) ?_)
      go_meet
      have ho3 : w1.ownsRow B 3 1 (.slice A1 t c1') (L.take t).length (intV (L.take t)) := by rw [HLT.out]; exact own_base HO1.out HBB.out
      exact ⟨_, H1.out.put HF1.out (fun e => e) ho3, fun k hk => (HO1.out.lt k hk).1, Fr.setCell (S := fun k => k = p) (p := ⟨p, 0, none⟩) ((fr_of HB1.out).mono fun _ e => e.elim) (.inl rfl) _,
        ownsRow_setCell_other (own_fr HO.out HF1.out fun _ _ e => e) (fun e => by have := (HO.out.lt p e).1; have := HP.out; omega) _⟩
    case rest =>
      obtain ⟨v', h2, hvv, hf2, ho2⟩ := hcut.out
      have HV := Lib.hid hvv
      have H2 := Lib.hid h2
      have HF2 := Lib.hid hf2
      have HO2 := Lib.hid ho2
      clear hcut h2 hvv hf2 ho2 HR1 HO1 HB1 HF1 H1 HO HB HO0 hx1 hx2 hc1 cp cf HPW hcap hform ht hL t1 t2 hn0 hn4 hbW
      go_upto_region 7 with fail
      go_loopw [8] (fun iv wr => Hid (∃ i : Nat, i ≤ 4 ∧ iv = .int .i64 (i : Int) ∧ RdAt wr B p v' (L.take t) (midS S t i) ∧ Fr w.heap.size (fun k => k = p) w wr ∧ wr.ownsRow w.heap.size 3 1 (.slice A5 (m - t) c5) (m - t) (intV (L.drop t).reverse))) (fun iv _ => 4 - ivN iv)
      case atStart => exact ⟨0, Nat.zero_le _, rfl, H2.out.congr fun i _ => by simp [midS], HF2.out, HO2.out⟩
      case round =>
        obtain ⟨i, hi, rfl, h3, hf3, ho3⟩ := hrel.out
        clear hrel
        by_cases hlt : i < 4
        · have hii : (i : Int) < 4 := by omega
          have hi0 : 0 ≤ (i : Int) := by omega
          obtain ⟨s, s1, s2, s3, s4, s5⟩ := h3.ci hlt
          rw [show midS S t i i = S i by simp [midS]] at s2 s3
          have H3 := Lib.hid h3
          have HF3 := Lib.hid hf3
          have HO3 := Lib.hid ho3
          have HS3 := Lib.hid (h3.is hlt)
          have HS := Lib.hid s3
          clear h3 hf3 ho3 s3
          by_cases hm1 : S i = -1
          · rw [hm1, show decide ((-1 : Int) ≠ -1) = false by decide] at s2
            have HX := Lib.hid hm1
            clear hm1
            go_wp2
            exact ⟨⟨i + 1, hlt, rfl, H3.out.congr (fun k _ => mid_not (by rw [HX.out]; omega) k), HF3.out, HO3.out⟩, by simp only [ivN]; omega⟩
          · rw [show decide (S i ≠ -1) = true from decide_eq_true hm1] at s2
            have hse := HS.out hm1
            have HX := Lib.hid hse.symm
            clear hm1 hse HS
            by_cases hgt : (t : Int) < s
            · go_wp2
              exact ⟨⟨i + 1, hlt, rfl, HS3.out.congr (fun k _ => mid_cut (by rw [HX.out]; exact hgt) k), Fr.setCell (S := fun k => k = p) (p := ⟨p, 5 + i, none⟩) HF3.out (.inl rfl) _, ownsRow_setCell_other HO3.out (fun e => by have := (HO3.out.lt p e).1; have := HP.out; omega) _⟩, by simp only [ivN]; omega⟩
            · go_wp2
              exact ⟨⟨i + 1, hlt, rfl, H3.out.congr (fun k _ => mid_not (by rw [HX.out]; exact hgt) k), HF3.out, HO3.out⟩, by simp only [ivN]; omega⟩
        · obtain rfl : i = 4 := by omega
          have H3 := Lib.hid h3
          have HF3 := Lib.hid hf3
          have HO3 := Lib.hid ho3
          clear h3 hf3 ho3 hi hlt
          go_wp2
          go_ret2
          exact ⟨v', _, rfl, HO3.out, H3.out.congr (fun i hi => by simp [midS, hi]), HV.out, HF3.out⟩
end Go.Proofs.Ytacidmnhbhbmhaa
