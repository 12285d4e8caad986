/- deed: Push, Save, cut, Back; what they do to a stack in memory. -/
import Derived.Test.YtacidmnhbhbmhaaDdS
namespace Go.Proofs.Ytacidmnhbhbmhaa
open Go.RowKit

section
variable {w w3 : World} {B p b g : Nat} {v v' : Value} {L L' : List Int} {S : Nat → Int}
/-- Its numbers' slice is another one now. -/
theorem DdAt.put (h : DdAt w B p b g v L S) {X : Nat → Prop} (hf : Fr w.heap.size X w w3) (hX : ∀ k, X k → v.ownBlock = some k) (ho : w3.ownsRow B 3 1 v' L'.length (intV L')) (hn : v'.ownBlock = v.ownBlock ∨ ∀ k, v'.ownBlock = some k → w.heap.size ≤ k) :
    DdAt (w3.setCell ⟨b, 0, none⟩ v') B p b g v' L' S ∧ Fr w.heap.size (Dd b g v) w (w3.setCell ⟨b, 0, none⟩ v') := by
  have hpx : ¬ X p := fun e => h.vp (hX p e)
  have hbx : ¬ X b := fun e => h.vb (hX b e)
  have hgx : ¬ X g := fun e => h.ne (hX g e)
  obtain ⟨cur, h1, h2, h3⟩ := h.hs
  have e1 := (hf.block p (lt_of h.hp) hpx).trans h.hp
  have e2 := (hf.block b (lt_of h.hb) hbx).trans h.hb
  have e3 := (hf.block g (lt_of h1) hgx).trans h1
  have hvb : v'.ownBlock ≠ some b := fun e => absurd (own_ty ho e e2) (by decide)
  have hoth : ∀ k, k ≠ b → (w3.setCell ⟨b, 0, none⟩ v').heap[k]? = w3.heap[k]? := fun k hk => heap_setCell_other _ ⟨b, 0, none⟩ k _ hk
  refine ⟨⟨(hoth p h.pb).trans e1, ?_, ⟨cur, (hoth g h.gb).trans e3, h2, h3⟩, ownsRow_setCell_other ho hvb v', ?_, h.lo⟩, ?_⟩
  · rw [heap_setCell_same _ b 0 _ _ _ e2]
    rfl
  · rcases hn with hn | hn
    · rw [hn]; exact h.ne
    · intro e
      have := hn g e
      have := lt_of h1
      omega
  · exact (hf.mono (S' := Dd b g v) fun k hk => .inr (.inr (hX k hk))).setCell (p := ⟨b, 0, none⟩) (.inl (.inl rfl)) v'
def upS (S : Nat → Int) (n : Nat) (x : Int) : Nat → Int := fun i => if i = n then x else S i
/-- A savepoint is set. -/
theorem DdAt.set (h : DdAt w B p b g v L S) {n : Nat} (hn : n < 4) (x : Int) : DdAt (w.setCell ⟨g, n, none⟩ (.int .i64 x)) B p b g v L (upS S n x) ∧ Fr w.heap.size (Dd b g v) w (w.setCell ⟨g, n, none⟩ (.int .i64 x)) := by
  obtain ⟨cur, h1, h2, h3⟩ := h.hs
  have hoth : ∀ k, k ≠ g → (w.setCell ⟨g, n, none⟩ (.int .i64 x)).heap[k]? = w.heap[k]? := fun k hk => heap_setCell_other _ ⟨g, n, none⟩ k _ hk
  refine ⟨⟨(hoth p h.pg).trans h.hp, (hoth b h.gb.symm).trans h.hb, ⟨_, heap_setCell_same _ g n _ _ _ h1, by rw [Array.size_setIfInBounds]; exact h2, fun i hi => ?_⟩, ownsRow_setCell_other h.hl h.ne _, h.ne, h.lo⟩, ?_⟩
  · unfold upS
    by_cases e : i = n
    · subst e; rw [if_pos rfl, Array.getElem?_setIfInBounds_self_of_lt (by omega)]
    · rw [if_neg e, Array.getElem?_setIfInBounds_ne (by omega)]; exact h3 i hi
  · exact (Fr.refl _ _ _).setCell (p := ⟨g, n, none⟩) (.inl (.inr (.inl rfl))) _
theorem DdAt.drew (h : DdAt w B p b g v L S) : DdAt w.drew B p b g v L S := ⟨h.hp, h.hb, h.hs, h.hl, h.ne, h.lo⟩
theorem DdAt.congr (h : DdAt w B p b g v L S) {S' : Nat → Int} (hS : ∀ i, i < 4 → S i = S' i) : DdAt w B p b g v L S' := by
  obtain ⟨cur, h1, h2, h3⟩ := h.hs
  exact ⟨h.hp, h.hb, ⟨cur, h1, h2, fun i hi => by rw [← hS i hi]; exact h3 i hi⟩, h.hl, h.ne, h.lo⟩
end

set_option maxRecDepth 100000 in
set_option maxHeartbeats 1000000 in
theorem push_any (w : World) {B p b g : Nat} {v : Value} {L : List Int} {S : Nat → Int} (h : DdAt w B p b g v L S) (hB : B ≤ w.heap.size) (hL : L.length < 100000) (x : Int) :
    Calls Try.prog 13 #[.pointer (some ⟨p, 0, none⟩), .int .i64 x] w fun e w' => ∃ v', e = .returned (.tuple #[]) ∧ DdAt w' B p b g v' (L ++ [x]) S ∧ (v'.ownBlock = v.ownBlock ∨ ∀ k, v'.ownBlock = some k → w.heap.size ≤ k) ∧ Fr w.heap.size (Dd b g v) w w' := by
  obtain ⟨ii, hii, hy0, hy1, hy2⟩ := info_of infoI64
  have CF := filled_any w h
  have b0 := h.b0.1
  have bf := h.b0.2
  have HH := Lib.hid h
  have hown : (w.alloc (.cells #[.int .i64 x] 3)).ownsRow B 3 1 v L.length (intV L) := h.hl.alloc _
  have HOWN := Lib.hid hown
  have hnews : ∀ j u, [Value.int .i64 x][j]? = some u → (w.alloc (.cells #[.int .i64 x] 3)).cell? ((⟨w.heap.size, 0, none⟩ : Addr).add j) = some u := fun j u hu => by
    obtain ⟨hj, rfl⟩ := List.getElem?_eq_some_iff.1 hu
    have hj : j < 1 := hj
    obtain rfl : j = 0 := by omega
    rw [add_more]
    exact (cell_of (heap_alloc_new w (.cells #[.int .i64 x] 3)) 0).1
  have HNW := Lib.hid hnews
  have h63 : L.length + 1 ≤ maxLen := by unfold maxLen; omega
  have H63 := Lib.hid h63
  have HBY : Hid ((L.length + 1) * 8 ≤ 140737488355328) := by refine Lib.hid ?_; omega
  have HBB : Hid (B ≤ (w.alloc (.cells #[.int .i64 x] 3)).heap.size) := by refine Lib.hid ?_; simp; omega
  have hpl : b < w.heap.size := lt_of h.hb
  have HPL := Lib.hid hpl
  have hvb := h.vb
  have HVB := Lib.hid hvb
  obtain ⟨A, c, rfl⟩ := own_sl h.hl
  clear h hown hnews h63 hL hB hpl hvb
  go_enter Try.func13, Try.ntmps13
  go_upto_region 2 with (first | (go_at_call 19; refine CF.mono ?_; rintro e w1 ⟨rfl, hw⟩; obtain rfl := hw.symm; clear hw))
  clear CF
  go_wp2_with (at_builtin; refine wpList_append_own_at _ rfl _ _ 27 rfl B 3 ii (.int .i64 0) 1 8 Try.underlying27 hii hy0 hy1 hy2 rfl (by decide) (.slice A L.length c) L.length (intV L) rfl HOWN.out ⟨w.heap.size, 0, none⟩ 1 1 [.int .i64 x] rfl rfl HNW.out (by intro u hu; simp at hu; subst hu; rfl) H63.out HBY.out HBB.out ?_; intro v' w3 ho hgr hnil hat; obtain ⟨A2, c2, rfl⟩ := own_sl ho; have hblk : w3.heap[b]? = w.heap[b]? := (hgr.block b (Nat.lt_of_lt_of_le HPL.out (by simp)) (fun e => HVB.out e.symm)).trans (Below.heap_alloc _ _ _ HPL.out); have hc3 : w3.cell? ⟨b, 0, none⟩ = some (.slice A L.length c) := (World.cell?_of_block hblk).trans b0; have hf3 : w3.frozen? ⟨b, 0, none⟩ = false := (cell_of (hblk.trans HH.out.hb) 0).2; have HG := Lib.hid hgr; have HO := Lib.hid ho; have HAT := Lib.hid hat; clear hgr ho hat hnil hblk)
  go_end0
  have hfr : Fr w.heap.size (fun k => (Value.slice A L.length c).ownBlock = some k) w w3 := ((Fr.refl w.heap.size _ w).alloc (Nat.le_refl _) _).grown HG.out (fun k hk => .inl hk) (by simp)
  have ho' : w3.ownsRow B 3 1 (.slice A2 (L.length + 1) c2) (L ++ [x]).length (intV (L ++ [x])) := by
    rw [List.length_append, show intV (L ++ [x]) = intV L ++ [.int .i64 x] by simp [intV]]
    exact HO.out
  have hn : (Value.slice A2 (L.length + 1) c2).ownBlock = (Value.slice A L.length c).ownBlock ∨ ∀ k, (Value.slice A2 (L.length + 1) c2).ownBlock = some k → w.heap.size ≤ k := by
    rcases HAT.out with e | e
    · exact .inl e
    · refine .inr fun k hk => ?_
      have := Option.some.inj (hk.symm.trans e)
      simp at this
      omega
  obtain ⟨h1, h2⟩ := HH.out.put hfr (fun k hk => hk) ho' hn
  exact ⟨_, rfl, h1, hn, h2⟩

set_option maxRecDepth 100000 in
theorem push_nil (w : World) (x : Int) : Calls Try.prog 13 #[.pointer none, .int .i64 x] w fun e w' => e = .returned (.tuple #[]) ∧ w' = w := by
  go_enter Try.func13, Try.ntmps13
  go_wp2
  refine bodyPost_ret (results_none rfl _ _ _) rfl ?_
  exact ⟨rfl, rfl⟩
set_option maxRecDepth 100000 in
theorem save_nil (w : World) (x : Int) : Calls Try.prog 8 #[.pointer none, .int .i64 x] w fun e w' => e = .returned (.bool false) ∧ w' = w := by
  go_enter Try.func8, Try.ntmps8
  go_wp2
  go_ret
  exact ⟨rfl, rfl⟩
set_option maxRecDepth 100000 in
theorem save_no (w : World) (p : Addr) (x : Int) (hx : x < 0 ∨ 4 ≤ x) : Calls Try.prog 8 #[.pointer (some p), .int .i64 x] w fun e w' => e = .returned (.bool false) ∧ w' = w := by
  by_cases h0 : x < 0
  · clear hx
    go_enter Try.func8, Try.ntmps8
    go_wp2
    go_ret
    exact ⟨rfl, rfl⟩
  · have h4 : 4 ≤ x := by omega
    clear hx
    go_enter Try.func8, Try.ntmps8
    go_wp2
    go_ret
    exact ⟨rfl, rfl⟩
set_option maxRecDepth 100000 in
set_option maxHeartbeats 1000000 in
theorem save_any (w : World) {B p b g : Nat} {v : Value} {L : List Int} {S : Nat → Int} (h : DdAt w B p b g v L S) {n : Nat} (hn : n < 4) :
    Calls Try.prog 8 #[.pointer (some ⟨p, 0, none⟩), .int .i64 (n : Int)] w fun e w' => e = .returned (.bool true) ∧ DdAt w' B p b g v L (upS S n (L.length : Int)) ∧ Fr w.heap.size (Dd b g v) w w' := by
  have CF := filled_any w h
  have b0 := h.b0.1
  have b1 := h.b1
  have si := (h.si hn).1
  have sf := (h.si hn).2
  have HH := Lib.hid (h.drew.set hn (L.length : Int))
  have hn0 : 0 ≤ (n : Int) := by omega
  have hn4 : (n : Int) < 4 := by omega
  obtain ⟨A, c, rfl⟩ := own_sl h.hl
  clear h
  go_enter Try.func8, Try.ntmps8
  go_wp2_with (first | (go_at_call 19; refine CF.mono ?_; rintro e w1 ⟨rfl, hw⟩; obtain rfl := hw.symm; clear hw))
  go_region
  go_wp2
  go_ret
  exact ⟨rfl, HH.out.1, (Fr.refl _ _ _).drew.trans HH.out.2 (Nat.le_refl _) (fun _ _ hx => hx)⟩

theorem own_forms {w : World} {base size n : Nat} {e : TypeId} {v : Value} {xs : List Value} (h : w.ownsRow base e size v n xs) : (v = .slice none 0 0 ∧ n = 0) ∨ ∃ g cap, v = .slice (some ⟨g, 0, none⟩) n cap := by
  rcases h.2 with h0 | ⟨g, cap, _, hv, _⟩
  · exact Or.inl h0
  · exact Or.inr ⟨g, cap, hv⟩
theorem own_len (A : Option Addr) (n c m d : Nat) : (Value.slice A n c).ownBlock = (Value.slice A m d).ownBlock := by cases A <;> rfl
/-- Savepoints set above a height are none any more. -/
def cutS (S : Nat → Int) (h : Nat) : Nat → Int := fun i => if (h : Int) < S i then -1 else S i
/-- The first i of them so far. -/
def midS (S : Nat → Int) (h i : Nat) : Nat → Int := fun k => if k < i then cutS S h k else S k
theorem mid_cut {S : Nat → Int} {h i : Nat} (hx : (h : Int) < S i) (k : Nat) : upS (midS S h i) i (-1) k = midS S h (i + 1) k := by
  unfold upS midS
  by_cases e : k = i
  · subst e
    rw [if_pos rfl, if_pos (by omega)]
    unfold cutS
    rw [if_pos hx]
  · rw [if_neg e]
    by_cases e2 : k < i
    · rw [if_pos e2, if_pos (by omega)]
    · rw [if_neg e2, if_neg (by omega)]
theorem mid_not {S : Nat → Int} {h i : Nat} (hx : ¬ (h : Int) < S i) (k : Nat) : midS S h i k = midS S h (i + 1) k := by
  unfold midS
  by_cases e : k = i
  · subst e
    rw [if_neg (by omega), if_pos (by omega)]
    unfold cutS
    rw [if_neg hx]
  · by_cases e2 : k < i
    · rw [if_pos e2, if_pos (by omega)]
    · rw [if_neg e2, if_neg (by omega)]

set_option maxRecDepth 100000 in
set_option maxHeartbeats 1000000 in
/-- slices.Delete of all from a height on. -/
theorem del_any (w : World) {B n : Nat} {A : Option Addr} {c : Nat} {L : List Int} (hl : w.ownsRow B 3 1 (.slice A n c) n (intV L)) {h : Nat} (hh : h ≤ n) (hn : n < 100000) :
    Calls Try.prog 26 #[.slice A n c, .int .i64 (h : Int), .int .i64 (n : Int)] w fun e w' => e = .returned (.slice A h c) ∧ w'.ownsRow B 3 1 (.slice A h c) h (intV (L.take h)) ∧ Fr w.heap.size (fun k => (Value.slice A n c).ownBlock = some k) w w' := by
  have hll : L.length = n := by have := hl.1; rw [intV_len] at this; omega
  by_cases h0 : (Value.slice A n c) = .slice none 0 0
  · injection h0 with e1 e2 e3
    subst e1 e2 e3
    obtain rfl : h = 0 := by omega
    refine (Try.slices_Delete_int_empty none 0 w).mono fun e w' ⟨he, hw⟩ => ?_
    rw [hw]
    exact ⟨he, World.ownsRow_nil _ _ _ _, Fr.refl _ _ _⟩
  · obtain ⟨g, cap, e, hbase, hlt, hncap, hcm, hzl, hH⟩ := Lib.holds_of_ownsRow hl h0
    injection e with e1 _ e3
    subst e1 e3
    have hc' := hcm
    unfold maxLen at hc'
    have CD := Try.slices_Delete_int g 0 c h n L w hH (by omega) (by omega) hh (by omega)
    rw [hzl] at CD
    refine CD.mono fun e w' ⟨he, q, hw⟩ => ?_
    subst hw
    have h2 := Lib.ownsRow_putRow (q := q) (k := h) (ys := L.take h ++ L.drop n ++ List.replicate (n - h) 0) hl (by simp; omega) hh
    refine ⟨by rw [he]; congr 2; omega, ?_, ?_⟩
    · rw [show List.take h (L.take h ++ L.drop n ++ List.replicate (n - h) 0) = L.take h by
        rw [List.append_assoc, List.take_append_of_le_length (by rw [List.length_take]; omega), List.take_take, Nat.min_self]] at h2
      exact h2
    · refine ⟨rfl, rfl, rfl, by simp [Sort.putRow, Sort.mapBlock, Sort.ahead], fun k hk hne => ?_⟩
      have : g ≠ k := fun e => hne (by rw [e]; rfl)
      simp [Sort.putRow, Sort.mapBlock, Sort.ahead, Array.getElem?_modify, this]

set_option maxRecDepth 100000 in
set_option maxHeartbeats 2000000 in
theorem cut_any (w : World) {B p b g : Nat} {v : Value} {L : List Int} {S : Nat → Int} (h : DdAt w B p b g v L S) (hL : L.length < 100000) {t : Nat} (ht : t ≤ L.length) :
    Calls Try.prog 21 #[.pointer (some ⟨b, 0, none⟩), .int .i64 (t : Int)] w fun e w' => ∃ v' lv, e = .returned lv ∧ w'.ownsRow w.heap.size 3 1 lv (L.length - t) (intV (L.drop t).reverse) ∧
      DdAt w' B p b g v' (L.take t) (cutS S t) ∧ v'.ownBlock = v.ownBlock ∧ Fr w.heap.size (Dd b g v) w w' := by
  obtain ⟨A, c, rfl⟩ := own_sl h.hl
  obtain ⟨n, hn⟩ : ∃ n, L.length = n := ⟨_, rfl⟩
  have hs := own_src h.hl ht (Nat.le_refl _)
  rw [List.take_of_length_le (by rw [intV_len]; omega), show (intV L).drop t = intV (L.drop t) by simp [intV]] at hs
  have CN := nf_any w _ _ (L.drop t) (by rw [List.length_drop]) hs (by omega)
  have HT := Lib.hid ht
  have HN := Lib.hid hn
  have hl0 := h.hl
  rw [hn] at h CN ht hL hl0 ⊢
  have b0 := h.b0.1
  have HH := Lib.hid h
  have hcap := (own_cap hl0).1
  have hform := own_forms hl0
  have HDL : Hid (∀ k, Dd b g (.slice A n c) k → k < w.heap.size) := fun k hk => (h.dlt hk).1
  have t0 : 0 ≤ (t : Int) := by omega
  have t1 : (t : Int) ≤ (n : Int) := by omega
  have t2 : (n : Int) ≤ (c : Int) := by omega
  clear h hs hn hl0
  go_enter Try.func21, Try.ntmps21
  go_upto_region 1 with fail
  go_cut [5] (fun lv wx => Hid (wx.ownsRow w.heap.size 3 1 lv (n - t) (intV (L.drop t).reverse) ∧ Below w.heap.size w wx))
  case first =>
    rcases hform with ⟨e1, e2⟩ | ⟨q, cap, e1⟩
    · injection e1 with e3 e4 e5
      subst e3 e5 e2
      obtain rfl : t = 0 := by omega
      simp only [sliced, if_pos, Nat.sub_self] at CN
      clear hcap t0 t1 t2 ht hL
      go_wp2_with (first | (go_at_call 24; refine CN.mono ?_; rintro e w1 ⟨lv, rfl, ho, hb⟩))
      go_meet
      exact ⟨ho, hb⟩
    · injection e1 with e3 e4 e5
      subst e3 e5
      by_cases hct : c = t
      · obtain rfl : t = n := by omega
        subst hct
        simp only [sliced, if_pos, Nat.sub_self] at CN
        clear hcap t1 t2 ht
        go_wp2_with (first | (go_at_call 24; refine CN.mono ?_; rintro e w1 ⟨lv, rfl, ho, hb⟩))
        go_meet
        exact ⟨by rw [Nat.sub_self]; exact ho, hb⟩
      · simp only [sliced, if_neg hct, Option.map_some, add_more, Nat.zero_add, Nat.mul_one] at CN
        have hct2 : ¬ ((c : Int) = (t : Int)) := by omega
        have t3 : (t : Int) ≤ (c : Int) := by omega
        go_wp2_with (first | (go_at_call 24; refine CN.mono ?_; rintro e w1 ⟨lv, rfl, ho, hb⟩))
        go_meet
        exact ⟨ho, hb⟩
  case rest =>
    obtain ⟨ho, hb⟩ := hcut.out
    obtain ⟨A5, c5, rfl⟩ := own_sl ho
    have h1 := HH.out.on hb
    have b1 := h1.b0.1
    have hl1 := h1.hl
    rw [HN.out] at hl1
    have CD := del_any wc.drew hl1 ht hL
    have hvb := h1.vb
    have HVB := Lib.hid hvb
    have HO := Lib.hid ho
    have HB := Lib.hid hb
    have H1 := Lib.hid h1
    have HBL := Lib.hid (lt_of h1.hb)
    clear hcut ho hb h1 hl1 hvb b0 CN hform HH hcap
    go_upto_region 3 with fail
    go_cut [] (fun wx => Hid (∃ v', DdAt wx B p b g v' (L.take t) S ∧ v'.ownBlock = (Value.slice A n c).ownBlock ∧ Fr w.heap.size (Dd b g (.slice A n c)) w wx ∧ wx.ownsRow w.heap.size 3 1 (.slice A5 (n - t) c5) (n - t) (intV (L.drop t).reverse)))
    case first =>
      go_region_with (go_at_call 26; refine CD.mono ?_; rintro e w3 ⟨rfl, ho3, hf3⟩; have hblk : w3.heap[b]? = wc.heap[b]? := hf3.block b HBL.out HVB.out; have hc3 : w3.cell? ⟨b, 0, none⟩ = some (.slice A n c) := (World.cell?_of_block hblk).trans b1; have hfz3 : w3.frozen? ⟨b, 0, none⟩ = false := (cell_of (hblk.trans H1.out.hb) 0).2; have HO3 := Lib.hid ho3; have HF3 := Lib.hid hf3; clear ho3 hf3 hblk)
      all_goals
        go_wp2
        go_meet
        have hf3 := HF3.out
        have hf4 : Fr wc.heap.size (fun k => (Value.slice A n c).ownBlock = some k) wc w3 := ⟨hf3.os, hf3.tape, hf3.output, hf3.size, hf3.block⟩
        have hlt : (L.take t).length = t := by rw [List.length_take]; have := HT.out; omega
        obtain ⟨h5, h6⟩ := H1.out.put (v' := .slice A t c) (L' := L.take t) hf4 (fun k hk => hk) (by rw [hlt]; exact HO3.out) (.inl (own_len A t c n c))
        exact ⟨_, h5, own_len A t c n c, ((fr_of HB.out).mono fun _ e => e.elim).trans h6 HB.out.size (fun _ _ e => e), own_fr HO.out h6 fun k hk e => by have := (HO.out.lt k hk).1; have := HDL.out k e; omega⟩
    case rest =>
      obtain ⟨v', h2, hvv, hf2, ho2⟩ := hcut.out
      clear hcut b1 CD
      have HO2 := Lib.hid ho2
      have HF2 := Lib.hid hf2
      have HVV := Lib.hid hvv
      have H2 := Lib.hid h2
      have HBB := Lib.hid (h2.b1)
      have hb1 := h2.b1
      clear h2 hvv hf2 ho2 H1 HVB HBL HB HO
      go_upto_region 4 with fail
      go_loopw [34] (fun iv wr => Hid (∃ i : Nat, i ≤ 4 ∧ iv = .int .i64 (i : Int) ∧ DdAt wr B p b g v' (L.take t) (midS S t i) ∧ Fr w.heap.size (Dd b g (.slice A n c)) w wr ∧ wr.ownsRow w.heap.size 3 1 (.slice A5 (n - t) c5) (n - t) (intV (L.drop t).reverse))) (fun iv _ => 4 - ivN iv)
      case atStart => exact ⟨0, Nat.zero_le _, rfl, H2.out.congr fun i _ => by simp [midS], HF2.out, HO2.out⟩
      case round =>
        obtain ⟨i, hi, rfl, h3, hf3, ho3⟩ := hrel.out
        clear hrel
        by_cases hlt : i < 4
        · have hii : (i : Int) < 4 := by omega
          have hi0 : 0 ≤ (i : Int) := by omega
          have si := (h3.si hlt).1
          have sf := (h3.si hlt).2
          rw [show midS S t i i = S i by simp [midS]] at si
          have hb1 := h3.b1
          have hset := h3.set hlt (-1)
          have H3 := Lib.hid h3
          have HF3 := Lib.hid hf3
          have HO3 := Lib.hid ho3
          have HS3 := Lib.hid hset
          clear h3 hf3 ho3 hset
          obtain ⟨x, hx⟩ : ∃ x, S i = x := ⟨_, rfl⟩
          have HX := Lib.hid hx
          rw [hx] at si
          clear hx
          by_cases hgt : (t : Int) < x
          · go_wp2
            refine ⟨⟨i + 1, hlt, rfl, HS3.out.1.congr (fun k _ => ?_), HF3.out.setCell (p := ⟨g, i, none⟩) (.inl (.inr (.inl rfl))) _, ownsRow_setCell_other HO3.out (fun e => by have := (HO3.out.lt g e).1; have := HDL.out g (.inr (.inl rfl)); omega) _⟩, by simp only [ivN]; omega⟩
            exact mid_cut (by rw [HX.out]; exact hgt) k
          · go_wp2
            refine ⟨⟨i + 1, hlt, rfl, H3.out.congr (fun k _ => ?_), HF3.out, HO3.out⟩, by simp only [ivN]; omega⟩
            exact mid_not (by rw [HX.out]; exact hgt) k
        · obtain rfl : i = 4 := by omega
          have H3 := Lib.hid h3
          have HF3 := Lib.hid hf3
          have HO3 := Lib.hid ho3
          clear h3 hf3 ho3 hi hlt
          go_wp2
          go_ret
          exact ⟨v', _, rfl, HO3.out, H3.out.congr (fun i hi => by simp [midS, hi]), HVV.out, HF3.out⟩

set_option maxRecDepth 100000 in
set_option maxHeartbeats 1000000 in
theorem back_yes (w : World) {B p b g : Nat} {v : Value} {L : List Int} {S : Nat → Int} (h : DdAt w B p b g v L S) (hL : L.length < 100000) {n t : Nat} (hn : n < 4) (hS : S n = (t : Int)) (ht : t ≤ L.length) :
    Calls Try.prog 10 #[.pointer (some ⟨p, 0, none⟩), .int .i64 (n : Int)] w fun e w' => ∃ v' lv, e = .returned (.tuple #[lv, .bool true]) ∧ w'.ownsRow w.heap.size 3 1 lv (L.length - t) (intV (L.drop t).reverse) ∧
      DdAt w' B p b g v' (L.take t) (cutS S t) ∧ v'.ownBlock = v.ownBlock ∧ Fr w.heap.size (Dd b g v) w w' := by
  have CS := saved_any w h (n : Int)
  rw [show svB S (n : Int) = true by simp [svB, hS]; omega] at CS
  have CC := cut_any w h hL ht
  have c0 := h.c0
  have b1 := h.b1
  have si := (h.si hn).1
  rw [hS] at si
  have hn0 : 0 ≤ (n : Int) := by omega
  have hn4 : (n : Int) < 4 := by omega
  clear h hS ht hL hn
  go_enter Try.func10, Try.ntmps10
  go_wp2_with (first | (go_at_call 20; refine CS.mono ?_; rintro e w1 ⟨rfl, hw⟩; obtain rfl := hw.symm; clear hw) | (go_at_call 21; refine CC.mono ?_; rintro e w2 ⟨v', lv, rfl, ho, h1, h2, h3⟩))
  go_ret2
  exact ⟨v', lv, rfl, ho, h1, h2, h3⟩
set_option maxRecDepth 100000 in
set_option maxHeartbeats 1000000 in
theorem back_no (w : World) {B p b g : Nat} {v : Value} {L : List Int} {S : Nat → Int} (h : DdAt w B p b g v L S) {n : Int} (hS : svB S n = false) :
    Calls Try.prog 10 #[.pointer (some ⟨p, 0, none⟩), .int .i64 n] w fun e w' => e = .returned (.tuple #[.slice none 0 0, .bool false]) ∧ w' = w := by
  have CS := saved_any w h n
  rw [hS] at CS
  clear h hS
  go_enter Try.func10, Try.ntmps10
  go_wp2_with (first | (go_at_call 20; refine CS.mono ?_; rintro e w1 ⟨rfl, hw⟩; obtain rfl := hw.symm; clear hw))
  go_ret2
  exact ⟨rfl, rfl⟩
set_option maxRecDepth 100000 in
set_option maxHeartbeats 1000000 in
theorem back_nil (w : World) (n : Int) : Calls Try.prog 10 #[.pointer none, .int .i64 n] w fun e w' => e = .returned (.tuple #[.slice none 0 0, .bool false]) ∧ w' = w := by
  have CB := bare_nil w
  have CS : Calls Try.prog 20 #[.pointer none, .int .i64 n] w fun e w' => e = .returned (.bool false) ∧ w' = w := by
    go_enter Try.func20, Try.ntmps20
    go_wp2_with (first | (go_at_call 23; refine CB.mono ?_; rintro e w1 ⟨rfl, hw⟩; obtain rfl := hw.symm; clear hw))
    go_ret
    exact ⟨rfl, rfl⟩
  clear CB
  go_enter Try.func10, Try.ntmps10
  go_wp2_with (first | (go_at_call 20; refine CS.mono ?_; rintro e w1 ⟨rfl, hw⟩; obtain rfl := hw.symm; clear hw))
  go_ret2
  exact ⟨rfl, rfl⟩
end Go.Proofs.Ytacidmnhbhbmhaa
