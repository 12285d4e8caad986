/- The reference: rise (a number put into a rising row, once). -/
import Derived.Test.YtcfibmbeojdifaaWtM
import Derived.Deep.DeepCutAuto
namespace Go.Proofs.Ytcfibmbeojdifaa
open Go.RowKit Go.Maps Go.WideMaps

def posR : List Int → Int → Nat
  | [], _ => 0
  | y :: l, x => if y < x then posR l x + 1 else 0
theorem posR_le (x : Int) : ∀ l : List Int, posR l x ≤ l.length
  | [] => Nat.le_refl _
  | y :: l => by
    unfold posR
    have := posR_le x l
    split <;> simp <;> omega
theorem posR_lt (x : Int) : ∀ (l : List Int) (j : Nat) (hj : j < l.length), j < posR l x → l[j] < x
  | y :: l, j, hj, h => by
    unfold posR at h
    by_cases e : y < x
    · rw [if_pos e] at h
      cases j with
      | zero => exact e
      | succ j => exact posR_lt x l j (by simpa using hj) (by omega)
    · rw [if_neg e] at h; omega
theorem posR_at (x : Int) : ∀ (l : List Int) (h : posR l x < l.length), ¬ l[posR l x] < x
  | y :: l, h => by
    by_cases e : y < x
    · have e1 : posR (y :: l) x = posR l x + 1 := by simp [posR, e]
      have h2 : posR l x < l.length := by rw [e1] at h; simpa using h
      have := posR_at x l h2
      have e2 : (y :: l)[posR (y :: l) x] = l[posR l x] := by simp [e1]
      rw [e2]; exact this
    · have e1 : posR (y :: l) x = 0 := by simp [posR, e]
      have e2 : (y :: l)[posR (y :: l) x] = y := by simp [e1]
      rw [e2]; exact e
theorem rise_ins (x : Int) : ∀ l : List Int, (∀ h : posR l x < l.length, l[posR l x] ≠ x) → riseL l x = l.take (posR l x) ++ x :: l.drop (posR l x)
  | [], _ => rfl
  | y :: l, h => by
    by_cases e : y < x
    · have e1 : posR (y :: l) x = posR l x + 1 := by simp [posR, e]
      unfold riseL
      rw [if_pos e, e1, List.take_succ_cons, List.drop_succ_cons, List.cons_append, rise_ins x l]
      intro h2
      have := h (by rw [e1]; simpa using h2)
      simpa [e1] using this
    · have e1 : posR (y :: l) x = 0 := by simp [posR, e]
      have := h (by rw [e1]; simp)
      unfold riseL
      rw [if_neg e, if_neg (by simpa [e1] using this), e1]
      rfl
theorem rise_has {x : Int} {l : List Int} (hu : l.Pairwise (· < ·)) (h : posR l x < l.length) (e : l[posR l x] = x) : riseL l x = l := riseL_same hu (e ▸ List.getElem_mem h)

set_option maxRecDepth 100000 in
set_option maxHeartbeats 4000000 in
theorem rise_any (w : World) {B : Nat} {v : Value} {l : List Int} (h : SlR w B v l) (hB : B ≤ w.heap.size) (hu : l.Pairwise (· < ·)) (hn : l.length < 100000) (x : Int) :
    Calls Try.prog 22 #[v, .int .i64 x] w fun e w' => ∃ v', e = .returned v' ∧ SlR w' B v' (riseL l x) ∧ Below w.heap.size w w' := by
  obtain ⟨ii, hii, hz0, hz1, hz2⟩ := info_parts infoI64
  obtain ⟨pt, cp, rfl⟩ := h.form
  have hcap := (own_cap h).1
  obtain ⟨n, hnn⟩ : ∃ n, l.length = n := ⟨_, rfl⟩
  have hrd : ∀ j (hj : j < l.length), ∃ g, pt = some ⟨g, 0, none⟩ ∧ g < w.heap.size ∧ w.cell? ⟨g, j, none⟩ = some (.int .i64 l[j]) := fun j hj => by
    rcases h.shape with ⟨e, _⟩ | ⟨g, cap, cur, e, _, hg, hbk, hc⟩
    · rw [e] at hj; simp at hj
    · cases e
      exact ⟨g, rfl, hg, (cell_of hbk j).1.trans (hc j hj)⟩
  have HRD := Lib.hid hrd
  have HO := Lib.hid h
  have HU := Lib.hid hu
  obtain ⟨i, hi⟩ : ∃ i, posR l x = i := ⟨_, rfl⟩
  have hil : i ≤ n := by rw [← hi, ← hnn]; exact posR_le x l
  have HI := Lib.hid hi
  have HN := Lib.hid hnn
  rw [hnn] at hn hcap ⊢
  have hnI : (n : Int) < 100000 := by omega
  have R0 : Hid (∃ j : Nat, j ≤ i ∧ Value.int .i64 0 = .int .i64 (j : Int) ∧ w = w) := ⟨0, Nat.zero_le _, rfl, rfl⟩
  clear h hrd hu hi hnn
  go_enter Try.func22, Try.ntmps22
  go_upto_region 2 with fail
  go_loopw [5] (fun jv wr => Hid (∃ j : Nat, j ≤ i ∧ jv = .int .i64 (j : Int) ∧ wr = w)) (fun jv _ => n - ivN jv)
  case atStart => exact ⟨0, Nat.zero_le _, rfl, (by first | exact True.intro | rfl)⟩
  case round =>
    obtain ⟨j, hj, rfl, rfl⟩ := hrel.out
    clear hrel R0
    have hj0 : (0 : Int) ≤ (j : Int) := by omega
    have hj1 : (j : Int) < 100001 := by omega
    by_cases hlt : j < i
    · have hjn : j < l.length := by rw [HN.out]; omega
      obtain ⟨g, rfl, hg, hc⟩ := HRD.out j hjn
      have hlx := posR_lt x l j hjn (by rw [HI.out]; exact hlt)
      have hjI : (j : Int) < (n : Int) := by omega
      generalize l[j] = y at *
      have HLT := Lib.hid hlt
      clear hlt hj
      go_wp2
      exact ⟨⟨j + 1, HLT.out, rfl, (by first | exact True.intro | rfl)⟩, by have := HLT.out; simp only [ivN]; omega⟩
    · obtain rfl : j = i := by omega
      by_cases hend : j < n
      · have hjn : j < l.length := by rw [HN.out]; omega
        obtain ⟨g, rfl, hg, hc⟩ := HRD.out j hjn
        have hge : ¬ l[j] < x := by
          have h1 := posR_at x l (by rw [HI.out]; exact hjn)
          simpa only [HI.out] using h1
        have hjI : (j : Int) < (n : Int) := by omega
        have heq : l[j] = x → riseL l x = l := fun e => rise_has HU.out (by rw [HI.out]; exact hjn) (by simpa only [HI.out] using e)
        have hne : l[j] ≠ x → riseL l x = l.take j ++ x :: l.drop j := fun e => by
          have := rise_ins x l (fun h => by simpa only [HI.out] using e)
          rwa [HI.out] at this
        generalize l[j] = y at *
        have HEQ := Lib.hid heq
        have HNE := Lib.hid hne
        clear heq hne
        by_cases ey : y = x
        · have HY := Lib.hid ey
          clear hj hlt
          go_wp2
          go_ret
          exact ⟨_, rfl, by rw [HEQ.out HY.out]; have := HO.out; rw [HN.out] at this; exact this, Below.refl _ _⟩
        · have HINS : Hid (riseL l x = l.take j ++ x :: l.drop j) := HNE.out ey
          have hb1 : decide (y < x) = false := by simp; omega
          clear HEQ HNE hj hlt hge hend hjn
          go_upto_region 4 with fail
          have hb2 : (y == x) = false := by simpa using ey
          clear hb1 ey
          go_upto_region 6 with fail
          clear hb2 hc
          have HO2 : Hid (wr.ownsRow B 3 1 (.slice (some ⟨g, 0, none⟩) n cp) n (l.map (Value.int .i64))) := by have := HO.out; unfold SlR at this; rw [HN.out] at this; exact this
          have HB := Lib.hid hB
          have HS1 := Lib.hid (own_src HO2.out (l := 0) (r := j) (by omega) (by omega))
          have HS2 := Lib.hid (own_src HO2.out (l := j) (r := n) (by omega) (by omega))
          have HL1 := Lib.hid (cutV_len HO2.out.1 (l := 0) (r := j) (by omega))
          have HL2 := Lib.hid (cutV_len HO2.out.1 (l := j) (r := n) (by omega))
          obtain ⟨m, hm⟩ : ∃ m, n - j = m := ⟨_, rfl⟩
          rw [hm] at HS2 HL2
          rw [Nat.sub_zero] at HS1 HL1
          rw [cut_ints, List.drop_zero] at HS1 HL1
          rw [cut_ints] at HS2 HL2
          obtain ⟨zk1, hzk1⟩ : ∃ z, sliced (some ⟨g, 0, none⟩) 0 j cp 1 = z := ⟨_, rfl⟩
          obtain ⟨zk2, hzk2⟩ : ∃ z, sliced (some ⟨g, 0, none⟩) j n cp 1 = z := ⟨_, rfl⟩
          rw [hzk1] at HS1
          rw [hzk2] at HS2
          have HZ1 := Lib.hid hzk1
          have HZ2 := Lib.hid hzk2
          have hjm : j + m = n := by omega
          clear hzk1 hzk2 hm
          go_cut [4] (fun v4 wx => ∃ g c, v4 = .slice (some ⟨g, 0, none⟩) (j + 1 + m) c ∧ wx.ownsRow wr.heap.size 3 1 (.slice (some ⟨g, 0, none⟩) (j + 1 + m) c) (j + 1 + m) (((l.take j).map (Value.int .i64) ++ [.int .i64 x]) ++ ((l.take n).drop j).map (Value.int .i64)) ∧ Below wr.heap.size wr wx)
          case first =>
            refine wp_region_F (fun (_ : Unit) _ => True) (fun _ j => StT 13 () j) (by kernel_rfl) ?_
            have HK0 := Lib.hid (Below.refl wr.heap.size wr).drew
            generalize wr.drew = WK0 at *
            refine wpAnyF_take0 (i := 1) (oi := ⟨_, _, _, _, _, _⟩) (v := ?_) rfl (by kernel_rfl) (by kernel_rfl) (by kernel_rfl) (fun _ _ _ h => h) (Or.inl ⟨by rfl, ?_⟩) ?_
            rotate_left
            · intro W _
              go_simp
              try with_reducible rfl
            rotate_left
            try simp only [Act.put, List.setIfInBounds_toArray, List.set_cons_zero, List.set_cons_succ]
            refine wpAnyF_take0 (i := 2) (oi := ⟨_, _, _, _, _, _⟩) (v := ?_) rfl (by kernel_rfl) (by kernel_rfl) (by kernel_rfl) (fun _ _ _ h => h) (Or.inl ⟨by rfl, ?_⟩) ?_
            rotate_left
            · intro W _
              go_simp
              try with_reducible rfl
            rotate_left
            try simp only [Act.put, List.setIfInBounds_toArray, List.set_cons_zero, List.set_cons_succ]
            refine wpAnyF_take0 (i := 3) (oi := ⟨_, _, _, _, _, _⟩) (v := zk1) rfl (by kernel_rfl) (by kernel_rfl) (by kernel_rfl) (fun _ _ _ h => h) (Or.inl ⟨by rfl, fun W _ => ?_⟩) ?_
            · go_simp
              rw [← HZ1.out]
              first
                | rw [if_pos (show j ≤ cp by omega), sliced_zero]
                | (rw [sliced_zero]; done)
                | (rw [sliced_zero])
                | (unfold sliced; rw [Nat.mul_one, Option.map_some, add_at, Nat.zero_add]; done)
                | (simp [sliced, Addr.add]; done)
                | (unfold sliced; rfl)
                | (unfold sliced; rw [Nat.mul_one])
                | (rw [if_pos ⟨by omega, by omega⟩]; simp [sliced, Addr.add])
            try simp only [Act.put, List.setIfInBounds_toArray, List.set_cons_zero, List.set_cons_succ]
            refine wpAnyF_take0 (i := 5) (oi := ⟨_, _, _, _, _, _⟩) (v := ?_) rfl (by kernel_rfl) (by kernel_rfl) (by kernel_rfl) (fun _ _ _ h => h) (Or.inl ⟨by rfl, ?_⟩) ?_
            rotate_left
            · intro W _
              go_simp
              try with_reducible rfl
            rotate_left
            try simp only [Act.put, List.setIfInBounds_toArray, List.set_cons_zero, List.set_cons_succ]
            refine wpAnyF_take0 (i := 8) (oi := ⟨_, _, _, _, _, _⟩) (v := ?_) rfl (by kernel_rfl) (by kernel_rfl) (by kernel_rfl) (fun _ _ _ h => h) (Or.inl ⟨by rfl, ?_⟩) ?_
            rotate_left
            · intro W _
              go_simp
              try with_reducible rfl
            rotate_left
            try simp only [Act.put, List.setIfInBounds_toArray, List.set_cons_zero, List.set_cons_succ]
            refine wpAnyF_take0 (i := 9) (oi := ⟨_, _, _, _, _, _⟩) (v := ?_) rfl (by kernel_rfl) (by kernel_rfl) (by kernel_rfl) (fun _ _ _ h => h) (Or.inl ⟨by rfl, ?_⟩) ?_
            rotate_left
            · intro W _
              go_simp
              try with_reducible rfl
            rotate_left
            try simp only [Act.put, List.setIfInBounds_toArray, List.set_cons_zero, List.set_cons_succ]
            refine wpAnyF_take0 (i := 10) (oi := ⟨_, _, _, _, _, _⟩) (v := zk2) rfl (by kernel_rfl) (by kernel_rfl) (by kernel_rfl) (fun _ _ _ h => h) (Or.inl ⟨by rfl, fun W _ => ?_⟩) ?_
            · go_simp
              rw [← HZ2.out]
              first
                | rw [if_pos (show j ≤ cp by omega), sliced_zero]
                | (rw [sliced_zero]; done)
                | (rw [sliced_zero])
                | (unfold sliced; rw [Nat.mul_one, Option.map_some, add_at, Nat.zero_add]; done)
                | (simp [sliced, Addr.add]; done)
                | (unfold sliced; rfl)
                | (unfold sliced; rw [Nat.mul_one])
                | (rw [if_pos ⟨by omega, by omega⟩]; simp [sliced, Addr.add])
            try simp only [Act.put, List.setIfInBounds_toArray, List.set_cons_zero, List.set_cons_succ]
            refine wpAnyF_ready (rs := [0, 6]) (by kernel_rfl) (by simp) ?_
            refine AllReadyF.cons (o := ⟨_, _, _, _, _, _⟩) rfl (fun K hK => ?_) (AllReadyF.cons (o := ⟨_, _, _, _, _, _⟩) rfl (fun K hK => ?_) (AllReadyF.nil))
            · rw [if_pos (by rfl)]
              go_simp
              have HK1 := Lib.hid (HK0.out.alloc HK0.out.size (.cells #[] 3))
              have OO := Lib.hid (World.ownsRow_made (e := 3) (size := 1) WK0 #[] 0 HK0.out.size (by decide) rfl)
              generalize WK0.alloc (.cells #[] 3) = WK1 at *
              generalize WK0.heap.size = gm at *
              refine hK.out _ _ (fun _ _ _ => trivial) ?_
              clear hK K
              try simp only [Act.put, List.setIfInBounds_toArray, List.set_cons_zero, List.set_cons_succ]
              refine wpAnyF_ready (rs := [4, 6]) (by kernel_rfl) (by simp) ?_
              refine AllReadyF.cons (o := ⟨_, _, _, _, _, _⟩) rfl (fun K hK => ?_) (AllReadyF.cons (o := ⟨_, _, _, _, _, _⟩) rfl (fun K hK => ?_) (AllReadyF.nil))
              · refine step_append_src rfl (.tmp 33) (.tmp 36) 30 rfl wr.heap.size 3 ii (.int .i64 0) 1 8 Try.underlying30 hii hz0 hz1 hz2 rfl (by decide) gm 0 0 _ rfl OO.out _ j _ rfl (HS1.out.up HK1.out) (HL1.out) (one_ints _) (by unfold maxLen; omega) (by omega) HK1.out.size ?_
                intro g2 c2 WK2 ho hg hor
                have HK2 := Lib.hid (below_grown HK1.out OO.out hg HK1.out.size)
                rw [Nat.zero_add]
                rw [Nat.zero_add, List.nil_append] at ho
                replace OO := Lib.hid ho
                clear ho hg hor
                refine hK.out _ _ (fun _ _ _ => trivial) ?_
                clear hK K
                try simp only [Act.put, List.setIfInBounds_toArray, List.set_cons_zero, List.set_cons_succ]
                refine wpAnyF_ready (rs := [6]) (by kernel_rfl) (by simp) ?_
                refine AllReadyF.cons (o := ⟨_, _, _, _, _, _⟩) rfl (fun K hK => ?_) (AllReadyF.nil)
                · rw [if_pos (by rfl)]
                  go_simp
                  have HK3 := Lib.hid (HK2.out.alloc HK2.out.size (.cells #[.int .i64 x] 3))
                  have HE := Lib.hid (heap_alloc_new WK2 (.cells #[.int .i64 x] 3))
                  have HNE : Hid (WK2.heap.size ≠ g2) := by have := own_blk_lt OO.out; exact Nat.ne_of_gt this
                  replace OO := Lib.hid (own_up OO.out ((Below.refl _ WK2).alloc (Nat.le_refl _) (.cells #[.int .i64 x] 3)))
                  generalize WK2.alloc (.cells #[.int .i64 x] 3) = WK3 at *
                  generalize WK2.heap.size = ge at *
                  refine hK.out _ _ (fun _ _ _ => trivial) ?_
                  clear hK K
                  try simp only [Act.put, List.setIfInBounds_toArray, List.set_cons_zero, List.set_cons_succ]
                  refine wpAnyF_ready (rs := [7]) (by kernel_rfl) (by simp) ?_
                  refine AllReadyF.cons (o := ⟨_, _, _, _, _, _⟩) rfl (fun K hK => ?_) (AllReadyF.nil)
                  refine step_append_src rfl (.tmp 37) (.tmp 39) 30 rfl wr.heap.size 3 ii (.int .i64 0) 1 8 Try.underlying30 hii hz0 hz1 hz2 rfl (by decide) g2 c2 j _ rfl OO.out _ 1 [.int .i64 x] rfl (src_new HE.out rfl rfl) (rfl) (by intro u hu; simp at hu; subst hu; rfl) (by unfold maxLen; omega) (by omega) HK3.out.size ?_
                  intro g4 c4 WK4 ho hg hor
                  have HK4 := Lib.hid (below_grown HK3.out OO.out hg HK3.out.size)
                  replace OO := Lib.hid ho
                  clear ho hg hor
                  refine hK.out _ _ (fun _ _ _ => trivial) ?_
                  clear hK K
                  try simp only [Act.put, List.setIfInBounds_toArray, List.set_cons_zero, List.set_cons_succ]
                  refine wpAnyF_ready (rs := [11]) (by kernel_rfl) (by simp) ?_
                  refine AllReadyF.cons (o := ⟨_, _, _, _, _, _⟩) rfl (fun K hK => ?_) (AllReadyF.nil)
                  refine step_append_src rfl (.tmp 40) (.tmp 43) 30 rfl wr.heap.size 3 ii (.int .i64 0) 1 8 Try.underlying30 hii hz0 hz1 hz2 rfl (by decide) g4 c4 (j + 1) _ rfl OO.out _ m _ rfl (HS2.out.up HK4.out) (HL2.out) (one_ints _) (by unfold maxLen; omega) (by omega) HK4.out.size ?_
                  intro g5 c5 WK5 ho hg hor
                  have HK5 := Lib.hid (below_grown HK4.out OO.out hg HK4.out.size)
                  replace OO := Lib.hid ho
                  clear ho hg hor
                  refine hK.out _ _ (fun _ _ _ => trivial) ?_
                  clear hK K
                  try simp only [Act.put, List.setIfInBounds_toArray, List.set_cons_zero, List.set_cons_succ]
                  refine wpAnyF_take0 (i := 12) (oi := ⟨_, _, _, _, _, _⟩) (v := ?_) rfl (by kernel_rfl) (by kernel_rfl) (by kernel_rfl) (fun _ _ _ h => h) (Or.inl ⟨by rfl, ?_⟩) ?_
                  rotate_left
                  · intro W _
                    go_simp
                    try with_reducible rfl
                  rotate_left
                  try simp only [Act.put, List.setIfInBounds_toArray, List.set_cons_zero, List.set_cons_succ]
                  refine wpAnyF_done (by kernel_rfl) ?_ _
                  go_wp2
                  go_meet
                  exact ⟨_, _, rfl, OO.out, HK5.out⟩
              · rw [if_pos (by rfl)]
                go_simp
                have HK2 := Lib.hid (HK1.out.alloc HK1.out.size (.cells #[.int .i64 x] 3))
                have HE := Lib.hid (heap_alloc_new WK1 (.cells #[.int .i64 x] 3))
                have HNE : Hid (WK1.heap.size ≠ gm) := by have := own_blk_lt OO.out; exact Nat.ne_of_gt this
                replace OO := Lib.hid (own_up OO.out ((Below.refl _ WK1).alloc (Nat.le_refl _) (.cells #[.int .i64 x] 3)))
                generalize WK1.alloc (.cells #[.int .i64 x] 3) = WK2 at *
                generalize WK1.heap.size = ge at *
                refine hK.out _ _ (fun _ _ _ => trivial) ?_
                clear hK K
                try simp only [Act.put, List.setIfInBounds_toArray, List.set_cons_zero, List.set_cons_succ]
                refine wpAnyF_ready (rs := [4]) (by kernel_rfl) (by simp) ?_
                refine AllReadyF.cons (o := ⟨_, _, _, _, _, _⟩) rfl (fun K hK => ?_) (AllReadyF.nil)
                · refine step_append_src rfl (.tmp 33) (.tmp 36) 30 rfl wr.heap.size 3 ii (.int .i64 0) 1 8 Try.underlying30 hii hz0 hz1 hz2 rfl (by decide) gm 0 0 _ rfl OO.out _ j _ rfl (HS1.out.up HK2.out) (HL1.out) (one_ints _) (by unfold maxLen; omega) (by omega) HK2.out.size ?_
                  intro g3 c3 WK3 ho hg hor
                  have HK3 := Lib.hid (below_grown HK2.out OO.out hg HK2.out.size)
                  replace HE := Lib.hid (grown_keep hg HE.out HNE.out)
                  clear HNE
                  rw [Nat.zero_add]
                  rw [Nat.zero_add, List.nil_append] at ho
                  replace OO := Lib.hid ho
                  clear ho hg hor
                  refine hK.out _ _ (fun _ _ _ => trivial) ?_
                  clear hK K
                  try simp only [Act.put, List.setIfInBounds_toArray, List.set_cons_zero, List.set_cons_succ]
                  refine wpAnyF_ready (rs := [7]) (by kernel_rfl) (by simp) ?_
                  refine AllReadyF.cons (o := ⟨_, _, _, _, _, _⟩) rfl (fun K hK => ?_) (AllReadyF.nil)
                  refine step_append_src rfl (.tmp 37) (.tmp 39) 30 rfl wr.heap.size 3 ii (.int .i64 0) 1 8 Try.underlying30 hii hz0 hz1 hz2 rfl (by decide) g3 c3 j _ rfl OO.out _ 1 [.int .i64 x] rfl (src_new HE.out rfl rfl) (rfl) (by intro u hu; simp at hu; subst hu; rfl) (by unfold maxLen; omega) (by omega) HK3.out.size ?_
                  intro g4 c4 WK4 ho hg hor
                  have HK4 := Lib.hid (below_grown HK3.out OO.out hg HK3.out.size)
                  replace OO := Lib.hid ho
                  clear ho hg hor
                  refine hK.out _ _ (fun _ _ _ => trivial) ?_
                  clear hK K
                  try simp only [Act.put, List.setIfInBounds_toArray, List.set_cons_zero, List.set_cons_succ]
                  refine wpAnyF_ready (rs := [11]) (by kernel_rfl) (by simp) ?_
                  refine AllReadyF.cons (o := ⟨_, _, _, _, _, _⟩) rfl (fun K hK => ?_) (AllReadyF.nil)
                  refine step_append_src rfl (.tmp 40) (.tmp 43) 30 rfl wr.heap.size 3 ii (.int .i64 0) 1 8 Try.underlying30 hii hz0 hz1 hz2 rfl (by decide) g4 c4 (j + 1) _ rfl OO.out _ m _ rfl (HS2.out.up HK4.out) (HL2.out) (one_ints _) (by unfold maxLen; omega) (by omega) HK4.out.size ?_
                  intro g5 c5 WK5 ho hg hor
                  have HK5 := Lib.hid (below_grown HK4.out OO.out hg HK4.out.size)
                  replace OO := Lib.hid ho
                  clear ho hg hor
                  refine hK.out _ _ (fun _ _ _ => trivial) ?_
                  clear hK K
                  try simp only [Act.put, List.setIfInBounds_toArray, List.set_cons_zero, List.set_cons_succ]
                  refine wpAnyF_take0 (i := 12) (oi := ⟨_, _, _, _, _, _⟩) (v := ?_) rfl (by kernel_rfl) (by kernel_rfl) (by kernel_rfl) (fun _ _ _ h => h) (Or.inl ⟨by rfl, ?_⟩) ?_
                  rotate_left
                  · intro W _
                    go_simp
                    try with_reducible rfl
                  rotate_left
                  try simp only [Act.put, List.setIfInBounds_toArray, List.set_cons_zero, List.set_cons_succ]
                  refine wpAnyF_done (by kernel_rfl) ?_ _
                  go_wp2
                  go_meet
                  exact ⟨_, _, rfl, OO.out, HK5.out⟩
            · rw [if_pos (by rfl)]
              go_simp
              have HK1 := Lib.hid (HK0.out.alloc HK0.out.size (.cells #[.int .i64 x] 3))
              have HE := Lib.hid (heap_alloc_new WK0 (.cells #[.int .i64 x] 3))
              generalize WK0.alloc (.cells #[.int .i64 x] 3) = WK1 at *
              generalize WK0.heap.size = ge at *
              refine hK.out _ _ (fun _ _ _ => trivial) ?_
              clear hK K
              try simp only [Act.put, List.setIfInBounds_toArray, List.set_cons_zero, List.set_cons_succ]
              refine wpAnyF_ready (rs := [0]) (by kernel_rfl) (by simp) ?_
              refine AllReadyF.cons (o := ⟨_, _, _, _, _, _⟩) rfl (fun K hK => ?_) (AllReadyF.nil)
              · rw [if_pos (by rfl)]
                go_simp
                have HK2 := Lib.hid (HK1.out.alloc HK1.out.size (.cells #[] 3))
                have OO := Lib.hid (World.ownsRow_made (e := 3) (size := 1) WK1 #[] 0 HK1.out.size (by decide) rfl)
                have HNE : Hid (ge ≠ WK1.heap.size) := by have := lt_of_heap HE.out; exact Nat.ne_of_lt this
                replace HE := Lib.hid ((((Below.refl _ WK1).alloc (Nat.le_refl _) (.cells #[] 3)).block ge (lt_of_heap HE.out)).trans HE.out)
                generalize WK1.alloc (.cells #[] 3) = WK2 at *
                generalize WK1.heap.size = gm at *
                refine hK.out _ _ (fun _ _ _ => trivial) ?_
                clear hK K
                try simp only [Act.put, List.setIfInBounds_toArray, List.set_cons_zero, List.set_cons_succ]
                refine wpAnyF_ready (rs := [4]) (by kernel_rfl) (by simp) ?_
                refine AllReadyF.cons (o := ⟨_, _, _, _, _, _⟩) rfl (fun K hK => ?_) (AllReadyF.nil)
                · refine step_append_src rfl (.tmp 33) (.tmp 36) 30 rfl wr.heap.size 3 ii (.int .i64 0) 1 8 Try.underlying30 hii hz0 hz1 hz2 rfl (by decide) gm 0 0 _ rfl OO.out _ j _ rfl (HS1.out.up HK2.out) (HL1.out) (one_ints _) (by unfold maxLen; omega) (by omega) HK2.out.size ?_
                  intro g3 c3 WK3 ho hg hor
                  have HK3 := Lib.hid (below_grown HK2.out OO.out hg HK2.out.size)
                  replace HE := Lib.hid (grown_keep hg HE.out HNE.out)
                  clear HNE
                  rw [Nat.zero_add]
                  rw [Nat.zero_add, List.nil_append] at ho
                  replace OO := Lib.hid ho
                  clear ho hg hor
                  refine hK.out _ _ (fun _ _ _ => trivial) ?_
                  clear hK K
                  try simp only [Act.put, List.setIfInBounds_toArray, List.set_cons_zero, List.set_cons_succ]
                  refine wpAnyF_ready (rs := [7]) (by kernel_rfl) (by simp) ?_
                  refine AllReadyF.cons (o := ⟨_, _, _, _, _, _⟩) rfl (fun K hK => ?_) (AllReadyF.nil)
                  refine step_append_src rfl (.tmp 37) (.tmp 39) 30 rfl wr.heap.size 3 ii (.int .i64 0) 1 8 Try.underlying30 hii hz0 hz1 hz2 rfl (by decide) g3 c3 j _ rfl OO.out _ 1 [.int .i64 x] rfl (src_new HE.out rfl rfl) (rfl) (by intro u hu; simp at hu; subst hu; rfl) (by unfold maxLen; omega) (by omega) HK3.out.size ?_
                  intro g4 c4 WK4 ho hg hor
                  have HK4 := Lib.hid (below_grown HK3.out OO.out hg HK3.out.size)
                  replace OO := Lib.hid ho
                  clear ho hg hor
                  refine hK.out _ _ (fun _ _ _ => trivial) ?_
                  clear hK K
                  try simp only [Act.put, List.setIfInBounds_toArray, List.set_cons_zero, List.set_cons_succ]
                  refine wpAnyF_ready (rs := [11]) (by kernel_rfl) (by simp) ?_
                  refine AllReadyF.cons (o := ⟨_, _, _, _, _, _⟩) rfl (fun K hK => ?_) (AllReadyF.nil)
                  refine step_append_src rfl (.tmp 40) (.tmp 43) 30 rfl wr.heap.size 3 ii (.int .i64 0) 1 8 Try.underlying30 hii hz0 hz1 hz2 rfl (by decide) g4 c4 (j + 1) _ rfl OO.out _ m _ rfl (HS2.out.up HK4.out) (HL2.out) (one_ints _) (by unfold maxLen; omega) (by omega) HK4.out.size ?_
                  intro g5 c5 WK5 ho hg hor
                  have HK5 := Lib.hid (below_grown HK4.out OO.out hg HK4.out.size)
                  replace OO := Lib.hid ho
                  clear ho hg hor
                  refine hK.out _ _ (fun _ _ _ => trivial) ?_
                  clear hK K
                  try simp only [Act.put, List.setIfInBounds_toArray, List.set_cons_zero, List.set_cons_succ]
                  refine wpAnyF_take0 (i := 12) (oi := ⟨_, _, _, _, _, _⟩) (v := ?_) rfl (by kernel_rfl) (by kernel_rfl) (by kernel_rfl) (fun _ _ _ h => h) (Or.inl ⟨by rfl, ?_⟩) ?_
                  rotate_left
                  · intro W _
                    go_simp
                    try with_reducible rfl
                  rotate_left
                  try simp only [Act.put, List.setIfInBounds_toArray, List.set_cons_zero, List.set_cons_succ]
                  refine wpAnyF_done (by kernel_rfl) ?_ _
                  go_wp2
                  go_meet
                  exact ⟨_, _, rfl, OO.out, HK5.out⟩
          case rest =>
            obtain ⟨g9, c9, rfl, ho9, hb9⟩ := hcut
            go_wp2_with fail
            go_ret
            refine ⟨_, rfl, ?_, hb9⟩
            rw [HINS.out]
            have e9 : (l.take j ++ x :: l.drop j).length = j + 1 + m := by rw [List.length_append, List.length_cons, List.length_take, List.length_drop, HN.out]; omega
            unfold SlR
            rw [e9]
            refine own_base (own_cut ho9 ?_) HB.out
            rw [List.take_of_length_le (Nat.le_of_eq HN.out)]
            simp [intV]
      · have HJN := Lib.hid (show j = n by omega)
        have hend' : ¬ (j : Int) < (n : Int) := by omega
        have HINS : Hid (riseL l x = l.take j ++ x :: l.drop j) := by
          have := rise_ins x l (fun h => by rw [HI.out, HN.out] at h; omega)
          rwa [HI.out] at this
        clear hj hlt hend
        go_upto_region 6 with fail
        clear hend'
        have HO2 : Hid (wr.ownsRow B 3 1 (.slice pt n cp) n (l.map (Value.int .i64))) := by have := HO.out; unfold SlR at this; rw [HN.out] at this; exact this
        have HB := Lib.hid hB
        have HS1 := Lib.hid (own_src HO2.out (l := 0) (r := j) (by omega) (by omega))
        have HS2 := Lib.hid (own_src HO2.out (l := j) (r := n) (by omega) (by omega))
        have HL1 := Lib.hid (cutV_len HO2.out.1 (l := 0) (r := j) (by omega))
        have HL2 := Lib.hid (cutV_len HO2.out.1 (l := j) (r := n) (by omega))
        obtain ⟨m, hm⟩ : ∃ m, n - j = m := ⟨_, rfl⟩
        rw [hm] at HS2 HL2
        rw [Nat.sub_zero] at HS1 HL1
        rw [cut_ints, List.drop_zero] at HS1 HL1
        rw [cut_ints] at HS2 HL2
        obtain ⟨zk1, hzk1⟩ : ∃ z, sliced pt 0 j cp 1 = z := ⟨_, rfl⟩
        obtain ⟨zk2, hzk2⟩ : ∃ z, sliced pt j n cp 1 = z := ⟨_, rfl⟩
        rw [hzk1] at HS1
        rw [hzk2] at HS2
        have HZ1 := Lib.hid hzk1
        have HZ2 := Lib.hid hzk2
        have hjm : j + m = n := by omega
        clear hzk1 hzk2 hm
        go_cut [4] (fun v4 wx => ∃ g c, v4 = .slice (some ⟨g, 0, none⟩) (j + 1 + m) c ∧ wx.ownsRow wr.heap.size 3 1 (.slice (some ⟨g, 0, none⟩) (j + 1 + m) c) (j + 1 + m) (((l.take j).map (Value.int .i64) ++ [.int .i64 x]) ++ ((l.take n).drop j).map (Value.int .i64)) ∧ Below wr.heap.size wr wx)
        case first =>
          refine wp_region_F (fun (_ : Unit) _ => True) (fun _ j => StT 13 () j) (by kernel_rfl) ?_
          have HK0 := Lib.hid (Below.refl wr.heap.size wr).drew
          generalize wr.drew = WK0 at *
          refine wpAnyF_take0 (i := 1) (oi := ⟨_, _, _, _, _, _⟩) (v := ?_) rfl (by kernel_rfl) (by kernel_rfl) (by kernel_rfl) (fun _ _ _ h => h) (Or.inl ⟨by rfl, ?_⟩) ?_
          rotate_left
          · intro W _
            go_simp
            try with_reducible rfl
          rotate_left
          try simp only [Act.put, List.setIfInBounds_toArray, List.set_cons_zero, List.set_cons_succ]
          refine wpAnyF_take0 (i := 2) (oi := ⟨_, _, _, _, _, _⟩) (v := ?_) rfl (by kernel_rfl) (by kernel_rfl) (by kernel_rfl) (fun _ _ _ h => h) (Or.inl ⟨by rfl, ?_⟩) ?_
          rotate_left
          · intro W _
            go_simp
            try with_reducible rfl
          rotate_left
          try simp only [Act.put, List.setIfInBounds_toArray, List.set_cons_zero, List.set_cons_succ]
          refine wpAnyF_take0 (i := 3) (oi := ⟨_, _, _, _, _, _⟩) (v := zk1) rfl (by kernel_rfl) (by kernel_rfl) (by kernel_rfl) (fun _ _ _ h => h) (Or.inl ⟨by rfl, fun W _ => ?_⟩) ?_
          · go_simp
            rw [← HZ1.out]
            first
              | rw [if_pos (show j ≤ cp by omega), sliced_zero]
              | (rw [sliced_zero]; done)
              | (rw [sliced_zero])
              | (unfold sliced; rw [Nat.mul_one, Option.map_some, add_at, Nat.zero_add]; done)
              | (simp [sliced, Addr.add]; done)
              | (unfold sliced; rfl)
              | (unfold sliced; rw [Nat.mul_one])
              | (rw [if_pos ⟨by omega, by omega⟩]; simp [sliced, Addr.add])
          try simp only [Act.put, List.setIfInBounds_toArray, List.set_cons_zero, List.set_cons_succ]
          refine wpAnyF_take0 (i := 5) (oi := ⟨_, _, _, _, _, _⟩) (v := ?_) rfl (by kernel_rfl) (by kernel_rfl) (by kernel_rfl) (fun _ _ _ h => h) (Or.inl ⟨by rfl, ?_⟩) ?_
          rotate_left
          · intro W _
            go_simp
            try with_reducible rfl
          rotate_left
          try simp only [Act.put, List.setIfInBounds_toArray, List.set_cons_zero, List.set_cons_succ]
          refine wpAnyF_take0 (i := 8) (oi := ⟨_, _, _, _, _, _⟩) (v := ?_) rfl (by kernel_rfl) (by kernel_rfl) (by kernel_rfl) (fun _ _ _ h => h) (Or.inl ⟨by rfl, ?_⟩) ?_
          rotate_left
          · intro W _
            go_simp
            try with_reducible rfl
          rotate_left
          try simp only [Act.put, List.setIfInBounds_toArray, List.set_cons_zero, List.set_cons_succ]
          refine wpAnyF_take0 (i := 9) (oi := ⟨_, _, _, _, _, _⟩) (v := ?_) rfl (by kernel_rfl) (by kernel_rfl) (by kernel_rfl) (fun _ _ _ h => h) (Or.inl ⟨by rfl, ?_⟩) ?_
          rotate_left
          · intro W _
            go_simp
            try with_reducible rfl
          rotate_left
          try simp only [Act.put, List.setIfInBounds_toArray, List.set_cons_zero, List.set_cons_succ]
          refine wpAnyF_take0 (i := 10) (oi := ⟨_, _, _, _, _, _⟩) (v := zk2) rfl (by kernel_rfl) (by kernel_rfl) (by kernel_rfl) (fun _ _ _ h => h) (Or.inl ⟨by rfl, fun W _ => ?_⟩) ?_
          · go_simp
            rw [← HZ2.out]
            first
              | rw [if_pos (show j ≤ cp by omega), sliced_zero]
              | (rw [sliced_zero]; done)
              | (rw [sliced_zero])
              | (unfold sliced; rw [Nat.mul_one, Option.map_some, add_at, Nat.zero_add]; done)
              | (simp [sliced, Addr.add]; done)
              | (unfold sliced; rfl)
              | (unfold sliced; rw [Nat.mul_one])
              | (rw [if_pos ⟨by omega, by omega⟩]; simp [sliced, Addr.add])
          try simp only [Act.put, List.setIfInBounds_toArray, List.set_cons_zero, List.set_cons_succ]
          refine wpAnyF_ready (rs := [0, 6]) (by kernel_rfl) (by simp) ?_
          refine AllReadyF.cons (o := ⟨_, _, _, _, _, _⟩) rfl (fun K hK => ?_) (AllReadyF.cons (o := ⟨_, _, _, _, _, _⟩) rfl (fun K hK => ?_) (AllReadyF.nil))
          · rw [if_pos (by rfl)]
            go_simp
            have HK1 := Lib.hid (HK0.out.alloc HK0.out.size (.cells #[] 3))
            have OO := Lib.hid (World.ownsRow_made (e := 3) (size := 1) WK0 #[] 0 HK0.out.size (by decide) rfl)
            generalize WK0.alloc (.cells #[] 3) = WK1 at *
            generalize WK0.heap.size = gm at *
            refine hK.out _ _ (fun _ _ _ => trivial) ?_
            clear hK K
            try simp only [Act.put, List.setIfInBounds_toArray, List.set_cons_zero, List.set_cons_succ]
            refine wpAnyF_ready (rs := [4, 6]) (by kernel_rfl) (by simp) ?_
            refine AllReadyF.cons (o := ⟨_, _, _, _, _, _⟩) rfl (fun K hK => ?_) (AllReadyF.cons (o := ⟨_, _, _, _, _, _⟩) rfl (fun K hK => ?_) (AllReadyF.nil))
            · refine step_append_src rfl (.tmp 33) (.tmp 36) 30 rfl wr.heap.size 3 ii (.int .i64 0) 1 8 Try.underlying30 hii hz0 hz1 hz2 rfl (by decide) gm 0 0 _ rfl OO.out _ j _ rfl (HS1.out.up HK1.out) (HL1.out) (one_ints _) (by unfold maxLen; omega) (by omega) HK1.out.size ?_
              intro g2 c2 WK2 ho hg hor
              have HK2 := Lib.hid (below_grown HK1.out OO.out hg HK1.out.size)
              rw [Nat.zero_add]
              rw [Nat.zero_add, List.nil_append] at ho
              replace OO := Lib.hid ho
              clear ho hg hor
              refine hK.out _ _ (fun _ _ _ => trivial) ?_
              clear hK K
              try simp only [Act.put, List.setIfInBounds_toArray, List.set_cons_zero, List.set_cons_succ]
              refine wpAnyF_ready (rs := [6]) (by kernel_rfl) (by simp) ?_
              refine AllReadyF.cons (o := ⟨_, _, _, _, _, _⟩) rfl (fun K hK => ?_) (AllReadyF.nil)
              · rw [if_pos (by rfl)]
                go_simp
                have HK3 := Lib.hid (HK2.out.alloc HK2.out.size (.cells #[.int .i64 x] 3))
                have HE := Lib.hid (heap_alloc_new WK2 (.cells #[.int .i64 x] 3))
                have HNE : Hid (WK2.heap.size ≠ g2) := by have := own_blk_lt OO.out; exact Nat.ne_of_gt this
                replace OO := Lib.hid (own_up OO.out ((Below.refl _ WK2).alloc (Nat.le_refl _) (.cells #[.int .i64 x] 3)))
                generalize WK2.alloc (.cells #[.int .i64 x] 3) = WK3 at *
                generalize WK2.heap.size = ge at *
                refine hK.out _ _ (fun _ _ _ => trivial) ?_
                clear hK K
                try simp only [Act.put, List.setIfInBounds_toArray, List.set_cons_zero, List.set_cons_succ]
                refine wpAnyF_ready (rs := [7]) (by kernel_rfl) (by simp) ?_
                refine AllReadyF.cons (o := ⟨_, _, _, _, _, _⟩) rfl (fun K hK => ?_) (AllReadyF.nil)
                refine step_append_src rfl (.tmp 37) (.tmp 39) 30 rfl wr.heap.size 3 ii (.int .i64 0) 1 8 Try.underlying30 hii hz0 hz1 hz2 rfl (by decide) g2 c2 j _ rfl OO.out _ 1 [.int .i64 x] rfl (src_new HE.out rfl rfl) (rfl) (by intro u hu; simp at hu; subst hu; rfl) (by unfold maxLen; omega) (by omega) HK3.out.size ?_
                intro g4 c4 WK4 ho hg hor
                have HK4 := Lib.hid (below_grown HK3.out OO.out hg HK3.out.size)
                replace OO := Lib.hid ho
                clear ho hg hor
                refine hK.out _ _ (fun _ _ _ => trivial) ?_
                clear hK K
                try simp only [Act.put, List.setIfInBounds_toArray, List.set_cons_zero, List.set_cons_succ]
                refine wpAnyF_ready (rs := [11]) (by kernel_rfl) (by simp) ?_
                refine AllReadyF.cons (o := ⟨_, _, _, _, _, _⟩) rfl (fun K hK => ?_) (AllReadyF.nil)
                refine step_append_src rfl (.tmp 40) (.tmp 43) 30 rfl wr.heap.size 3 ii (.int .i64 0) 1 8 Try.underlying30 hii hz0 hz1 hz2 rfl (by decide) g4 c4 (j + 1) _ rfl OO.out _ m _ rfl (HS2.out.up HK4.out) (HL2.out) (one_ints _) (by unfold maxLen; omega) (by omega) HK4.out.size ?_
                intro g5 c5 WK5 ho hg hor
                have HK5 := Lib.hid (below_grown HK4.out OO.out hg HK4.out.size)
                replace OO := Lib.hid ho
                clear ho hg hor
                refine hK.out _ _ (fun _ _ _ => trivial) ?_
                clear hK K
                try simp only [Act.put, List.setIfInBounds_toArray, List.set_cons_zero, List.set_cons_succ]
                refine wpAnyF_take0 (i := 12) (oi := ⟨_, _, _, _, _, _⟩) (v := ?_) rfl (by kernel_rfl) (by kernel_rfl) (by kernel_rfl) (fun _ _ _ h => h) (Or.inl ⟨by rfl, ?_⟩) ?_
                rotate_left
                · intro W _
                  go_simp
                  try with_reducible rfl
                rotate_left
                try simp only [Act.put, List.setIfInBounds_toArray, List.set_cons_zero, List.set_cons_succ]
                refine wpAnyF_done (by kernel_rfl) ?_ _
                go_wp2
                go_meet
                exact ⟨_, _, rfl, OO.out, HK5.out⟩
            · rw [if_pos (by rfl)]
              go_simp
              have HK2 := Lib.hid (HK1.out.alloc HK1.out.size (.cells #[.int .i64 x] 3))
              have HE := Lib.hid (heap_alloc_new WK1 (.cells #[.int .i64 x] 3))
              have HNE : Hid (WK1.heap.size ≠ gm) := by have := own_blk_lt OO.out; exact Nat.ne_of_gt this
              replace OO := Lib.hid (own_up OO.out ((Below.refl _ WK1).alloc (Nat.le_refl _) (.cells #[.int .i64 x] 3)))
              generalize WK1.alloc (.cells #[.int .i64 x] 3) = WK2 at *
              generalize WK1.heap.size = ge at *
              refine hK.out _ _ (fun _ _ _ => trivial) ?_
              clear hK K
              try simp only [Act.put, List.setIfInBounds_toArray, List.set_cons_zero, List.set_cons_succ]
              refine wpAnyF_ready (rs := [4]) (by kernel_rfl) (by simp) ?_
              refine AllReadyF.cons (o := ⟨_, _, _, _, _, _⟩) rfl (fun K hK => ?_) (AllReadyF.nil)
              · refine step_append_src rfl (.tmp 33) (.tmp 36) 30 rfl wr.heap.size 3 ii (.int .i64 0) 1 8 Try.underlying30 hii hz0 hz1 hz2 rfl (by decide) gm 0 0 _ rfl OO.out _ j _ rfl (HS1.out.up HK2.out) (HL1.out) (one_ints _) (by unfold maxLen; omega) (by omega) HK2.out.size ?_
                intro g3 c3 WK3 ho hg hor
                have HK3 := Lib.hid (below_grown HK2.out OO.out hg HK2.out.size)
                replace HE := Lib.hid (grown_keep hg HE.out HNE.out)
                clear HNE
                rw [Nat.zero_add]
                rw [Nat.zero_add, List.nil_append] at ho
                replace OO := Lib.hid ho
                clear ho hg hor
                refine hK.out _ _ (fun _ _ _ => trivial) ?_
                clear hK K
                try simp only [Act.put, List.setIfInBounds_toArray, List.set_cons_zero, List.set_cons_succ]
                refine wpAnyF_ready (rs := [7]) (by kernel_rfl) (by simp) ?_
                refine AllReadyF.cons (o := ⟨_, _, _, _, _, _⟩) rfl (fun K hK => ?_) (AllReadyF.nil)
                refine step_append_src rfl (.tmp 37) (.tmp 39) 30 rfl wr.heap.size 3 ii (.int .i64 0) 1 8 Try.underlying30 hii hz0 hz1 hz2 rfl (by decide) g3 c3 j _ rfl OO.out _ 1 [.int .i64 x] rfl (src_new HE.out rfl rfl) (rfl) (by intro u hu; simp at hu; subst hu; rfl) (by unfold maxLen; omega) (by omega) HK3.out.size ?_
                intro g4 c4 WK4 ho hg hor
                have HK4 := Lib.hid (below_grown HK3.out OO.out hg HK3.out.size)
                replace OO := Lib.hid ho
                clear ho hg hor
                refine hK.out _ _ (fun _ _ _ => trivial) ?_
                clear hK K
                try simp only [Act.put, List.setIfInBounds_toArray, List.set_cons_zero, List.set_cons_succ]
                refine wpAnyF_ready (rs := [11]) (by kernel_rfl) (by simp) ?_
                refine AllReadyF.cons (o := ⟨_, _, _, _, _, _⟩) rfl (fun K hK => ?_) (AllReadyF.nil)
                refine step_append_src rfl (.tmp 40) (.tmp 43) 30 rfl wr.heap.size 3 ii (.int .i64 0) 1 8 Try.underlying30 hii hz0 hz1 hz2 rfl (by decide) g4 c4 (j + 1) _ rfl OO.out _ m _ rfl (HS2.out.up HK4.out) (HL2.out) (one_ints _) (by unfold maxLen; omega) (by omega) HK4.out.size ?_
                intro g5 c5 WK5 ho hg hor
                have HK5 := Lib.hid (below_grown HK4.out OO.out hg HK4.out.size)
                replace OO := Lib.hid ho
                clear ho hg hor
                refine hK.out _ _ (fun _ _ _ => trivial) ?_
                clear hK K
                try simp only [Act.put, List.setIfInBounds_toArray, List.set_cons_zero, List.set_cons_succ]
                refine wpAnyF_take0 (i := 12) (oi := ⟨_, _, _, _, _, _⟩) (v := ?_) rfl (by kernel_rfl) (by kernel_rfl) (by kernel_rfl) (fun _ _ _ h => h) (Or.inl ⟨by rfl, ?_⟩) ?_
                rotate_left
                · intro W _
                  go_simp
                  try with_reducible rfl
                rotate_left
                try simp only [Act.put, List.setIfInBounds_toArray, List.set_cons_zero, List.set_cons_succ]
                refine wpAnyF_done (by kernel_rfl) ?_ _
                go_wp2
                go_meet
                exact ⟨_, _, rfl, OO.out, HK5.out⟩
          · rw [if_pos (by rfl)]
            go_simp
            have HK1 := Lib.hid (HK0.out.alloc HK0.out.size (.cells #[.int .i64 x] 3))
            have HE := Lib.hid (heap_alloc_new WK0 (.cells #[.int .i64 x] 3))
            generalize WK0.alloc (.cells #[.int .i64 x] 3) = WK1 at *
            generalize WK0.heap.size = ge at *
            refine hK.out _ _ (fun _ _ _ => trivial) ?_
            clear hK K
            try simp only [Act.put, List.setIfInBounds_toArray, List.set_cons_zero, List.set_cons_succ]
            refine wpAnyF_ready (rs := [0]) (by kernel_rfl) (by simp) ?_
            refine AllReadyF.cons (o := ⟨_, _, _, _, _, _⟩) rfl (fun K hK => ?_) (AllReadyF.nil)
            · rw [if_pos (by rfl)]
              go_simp
              have HK2 := Lib.hid (HK1.out.alloc HK1.out.size (.cells #[] 3))
              have OO := Lib.hid (World.ownsRow_made (e := 3) (size := 1) WK1 #[] 0 HK1.out.size (by decide) rfl)
              have HNE : Hid (ge ≠ WK1.heap.size) := by have := lt_of_heap HE.out; exact Nat.ne_of_lt this
              replace HE := Lib.hid ((((Below.refl _ WK1).alloc (Nat.le_refl _) (.cells #[] 3)).block ge (lt_of_heap HE.out)).trans HE.out)
              generalize WK1.alloc (.cells #[] 3) = WK2 at *
              generalize WK1.heap.size = gm at *
              refine hK.out _ _ (fun _ _ _ => trivial) ?_
              clear hK K
              try simp only [Act.put, List.setIfInBounds_toArray, List.set_cons_zero, List.set_cons_succ]
              refine wpAnyF_ready (rs := [4]) (by kernel_rfl) (by simp) ?_
              refine AllReadyF.cons (o := ⟨_, _, _, _, _, _⟩) rfl (fun K hK => ?_) (AllReadyF.nil)
              · refine step_append_src rfl (.tmp 33) (.tmp 36) 30 rfl wr.heap.size 3 ii (.int .i64 0) 1 8 Try.underlying30 hii hz0 hz1 hz2 rfl (by decide) gm 0 0 _ rfl OO.out _ j _ rfl (HS1.out.up HK2.out) (HL1.out) (one_ints _) (by unfold maxLen; omega) (by omega) HK2.out.size ?_
                intro g3 c3 WK3 ho hg hor
                have HK3 := Lib.hid (below_grown HK2.out OO.out hg HK2.out.size)
                replace HE := Lib.hid (grown_keep hg HE.out HNE.out)
                clear HNE
                rw [Nat.zero_add]
                rw [Nat.zero_add, List.nil_append] at ho
                replace OO := Lib.hid ho
                clear ho hg hor
                refine hK.out _ _ (fun _ _ _ => trivial) ?_
                clear hK K
                try simp only [Act.put, List.setIfInBounds_toArray, List.set_cons_zero, List.set_cons_succ]
                refine wpAnyF_ready (rs := [7]) (by kernel_rfl) (by simp) ?_
                refine AllReadyF.cons (o := ⟨_, _, _, _, _, _⟩) rfl (fun K hK => ?_) (AllReadyF.nil)
                refine step_append_src rfl (.tmp 37) (.tmp 39) 30 rfl wr.heap.size 3 ii (.int .i64 0) 1 8 Try.underlying30 hii hz0 hz1 hz2 rfl (by decide) g3 c3 j _ rfl OO.out _ 1 [.int .i64 x] rfl (src_new HE.out rfl rfl) (rfl) (by intro u hu; simp at hu; subst hu; rfl) (by unfold maxLen; omega) (by omega) HK3.out.size ?_
                intro g4 c4 WK4 ho hg hor
                have HK4 := Lib.hid (below_grown HK3.out OO.out hg HK3.out.size)
                replace OO := Lib.hid ho
                clear ho hg hor
                refine hK.out _ _ (fun _ _ _ => trivial) ?_
                clear hK K
                try simp only [Act.put, List.setIfInBounds_toArray, List.set_cons_zero, List.set_cons_succ]
                refine wpAnyF_ready (rs := [11]) (by kernel_rfl) (by simp) ?_
                refine AllReadyF.cons (o := ⟨_, _, _, _, _, _⟩) rfl (fun K hK => ?_) (AllReadyF.nil)
                refine step_append_src rfl (.tmp 40) (.tmp 43) 30 rfl wr.heap.size 3 ii (.int .i64 0) 1 8 Try.underlying30 hii hz0 hz1 hz2 rfl (by decide) g4 c4 (j + 1) _ rfl OO.out _ m _ rfl (HS2.out.up HK4.out) (HL2.out) (one_ints _) (by unfold maxLen; omega) (by omega) HK4.out.size ?_
                intro g5 c5 WK5 ho hg hor
                have HK5 := Lib.hid (below_grown HK4.out OO.out hg HK4.out.size)
                replace OO := Lib.hid ho
                clear ho hg hor
                refine hK.out _ _ (fun _ _ _ => trivial) ?_
                clear hK K
                try simp only [Act.put, List.setIfInBounds_toArray, List.set_cons_zero, List.set_cons_succ]
                refine wpAnyF_take0 (i := 12) (oi := ⟨_, _, _, _, _, _⟩) (v := ?_) rfl (by kernel_rfl) (by kernel_rfl) (by kernel_rfl) (fun _ _ _ h => h) (Or.inl ⟨by rfl, ?_⟩) ?_
                rotate_left
                · intro W _
                  go_simp
                  try with_reducible rfl
                rotate_left
                try simp only [Act.put, List.setIfInBounds_toArray, List.set_cons_zero, List.set_cons_succ]
                refine wpAnyF_done (by kernel_rfl) ?_ _
                go_wp2
                go_meet
                exact ⟨_, _, rfl, OO.out, HK5.out⟩
        case rest =>
          obtain ⟨g9, c9, rfl, ho9, hb9⟩ := hcut
          go_wp2_with fail
          go_ret
          refine ⟨_, rfl, ?_, hb9⟩
          rw [HINS.out]
          have e9 : (l.take j ++ x :: l.drop j).length = j + 1 + m := by rw [List.length_append, List.length_cons, List.length_take, List.length_drop, HN.out]; omega
          unfold SlR
          rw [e9]
          refine own_base (own_cut ho9 ?_) HB.out
          rw [List.take_of_length_le (Nat.le_of_eq HN.out)]
          simp [intV]
end Go.Proofs.Ytcfibmbeojdifaa
