/- The reference's tree: From. -/
import Derived.Test.YtejbbojephiifaaTfS
namespace Go.Proofs.Ytejbbojephiifaa
open Go.RowKit

theorem sliced_run (w : World) (t : TypeId) (pv : Option Addr) (n c l h s : Nat) (ht : Try.prog.underlying t = some (.slice (Try.prog.elem t))) (hs : ∀ w, (sizeOf (Try.prog.elem t)).run Try.prog w = .ok s w) (h1 : l ≤ h) (h2 : h ≤ c) :
    (Instr.sliceAt t (.slice pv n c) (some (.int .i64 (l : Int))) (some (.int .i64 (h : Int))) none).run Try.prog w = .ok (sliced pv l h c s) w := by
  rw [run_sliceAt_slice w t _ _ _ _ ht, run_slice_lh w t pv n c ht .i64 .i64 (l : Int) (h : Int) (by omega) (by omega) (by omega), hs]
  simp [Result.andThen]

theorem one_keys (l : List KV) : ∀ u ∈ l.map keyV, u.oneCell' = true := fun u hu => by
  obtain ⟨y, _, rfl⟩ := List.mem_map.1 hu
  rfl
theorem one_rids (l : List KV) : ∀ u ∈ l.flatMap ridV, u.oneCell' = true := fun u hu => by
  obtain ⟨y, _, h⟩ := List.mem_flatMap.1 hu
  simp only [ridV, List.mem_cons, List.not_mem_nil, or_false] at h
  rcases h with rfl | rfl <;> rfl

set_option maxRecDepth 100000 in
set_option maxHeartbeats 4000000 in
theorem rfrom_any (w : World) {B r : Nat} {xs : List KV} (h : RTr w B r xs) (hx : xs.length ≤ 100000) (k : ByteArray) (most : Int) :
    Calls Try.prog 22 #[.pointer (some ⟨r, 0, none⟩), .string k, .int .i64 most] w fun e w' => ∃ sk sv, e = .returned (.tuple #[sk, sv]) ∧ Below w.heap.size w w' ∧
      w'.ownsRow w.heap.size 9 1 sk (cutM most (frm k xs)).length ((cutM most (frm k xs)).map keyV) ∧ w'.ownsRow w.heap.size 35 2 sv (cutM most (frm k xs)).length ((cutM most (frm k xs)).flatMap ridV) := by
  obtain ⟨i1, hi1, hz1, hy1, hx1⟩ := info_parts infoStr
  obtain ⟨i2, hi2, hz2, hy2, hx2⟩ := info_parts infoRid
  have hfd := rfind_any w h hx k
  have hpl := pos_le k xs
  have HFM := Lib.hid (frm_pos k xs)
  obtain ⟨n, hn⟩ : ∃ n, xs.length = n := ⟨_, rfl⟩
  obtain ⟨i, hi⟩ : ∃ i, pos k xs = i := ⟨_, rfl⟩
  obtain ⟨hz, hhz⟩ : ∃ b, has k xs = b := ⟨_, rfl⟩
  rw [hi, hhz] at hfd
  rw [hn] at hpl hx
  rw [hi] at hpl HFM
  have HFD := Lib.hid hfd
  have HR := Lib.hid h
  have HN := Lib.hid hn
  clear h hfd hn hi hhz
  -- how many are told
  obtain ⟨m, hm, hcut⟩ : ∃ m : Nat, (m : Int) = (if 0 ≤ most then min ((n : Int) - (i : Int)) most else (n : Int) - (i : Int)) ∧ cutM most (frm k xs) = (xs.take (i + m)).drop i := by
    by_cases h0 : 0 ≤ most
    · refine ⟨min (n - i) most.toNat, by rw [if_pos h0]; omega, ?_⟩
      unfold cutM
      rw [if_neg (by omega), HFM.out, List.drop_take, Nat.add_sub_cancel_left]
      rcases Nat.le_total (n - i) most.toNat with h1 | h1
      · rw [Nat.min_eq_left h1, List.take_of_length_le (by rw [List.length_drop, HN.out]; exact h1), List.take_of_length_le (by rw [List.length_drop, HN.out]; exact Nat.le_refl _)]
      · rw [Nat.min_eq_right h1]
    · refine ⟨n - i, by rw [if_neg h0]; omega, ?_⟩
      unfold cutM
      rw [if_pos (by omega), HFM.out, List.drop_take, Nat.add_sub_cancel_left, List.take_of_length_le (by rw [List.length_drop, HN.out]; exact Nat.le_refl _)]
  have him : i + m ≤ n := by split at hm <;> omega
  have HCUT := Lib.hid hcut
  have HM := Lib.hid hm
  clear HFM hcut hm
  go_enter Try.func22, Try.ntmps22
  go_upto_region 2 with (first
    | (go_at_call 27; refine HFD.out.mono ?_; rintro e w1 ⟨rfl, hb1⟩; have HB1 := Lib.hid hb1; clear hb1))
  obtain ⟨sk, sv, hr, hk, hv⟩ := HR.out.ex
  rw [HN.out] at hk hv
  obtain ⟨pk, ck, rfl⟩ := own_sl hk
  obtain ⟨pv, cv, rfl⟩ := own_sl hv
  have c0 := (cell_of hr 0).1
  have c1 := (cell_of hr 1).1
  have hck : n ≤ ck := (own_cap hk).1
  have hcv : n ≤ cv := (own_cap hv).1
  have HSK := Lib.hid (own_src hk (l := i) (r := i + m) (by omega) him)
  have HSV := Lib.hid (own_src hv (l := i) (r := i + m) (by omega) him)
  have HLK := Lib.hid (cutV_len hk.1 (l := i) him)
  have HLV := Lib.hid (cutV_len hv.1 (l := i) him)
  rw [show i + m - i = m by omega, cut_keys, ← HCUT.out] at HSK
  rw [show i + m - i = m by omega, cut_rids, ← HCUT.out] at HSV
  rw [show i + m - i = m by omega, cut_keys, ← HCUT.out] at HLK
  rw [show i + m - i = m by omega, cut_rids, ← HCUT.out] at HLV
  have hlt1 := (Array.getElem?_eq_some_iff.1 hr).1
  have HS : Hid (∀ W : World, Below w.heap.size w W → W.cell? ⟨r, 0, none⟩ = some (.slice pk n ck) ∧ W.cell? ⟨r, 1, none⟩ = some (.slice pv n cv)) := fun W hb => ⟨(World.cell?_of_block (hb.block r hlt1)).trans c0, (World.cell?_of_block (hb.block r hlt1)).trans c1⟩
  have HLEN : Hid ((cutM most (frm k xs)).length = m) := by
    have h1 := HCUT.out
    have h2 := HN.out
    show (cutM most (frm k xs)).length = m
    rw [h1, List.length_drop, List.length_take, h2, Nat.min_eq_left him, Nat.add_sub_cancel_left]
  have c01 := (HS.out w1 HB1.out).1
  obtain ⟨zk, hzk⟩ : ∃ z, sliced pk i (i + m) ck 1 = z := ⟨_, rfl⟩
  obtain ⟨zv, hzv⟩ : ∃ z, sliced pv i (i + m) cv 2 = z := ⟨_, rfl⟩
  have HZK := Lib.hid hzk
  have HZV := Lib.hid hzv
  rw [hzk] at HSK
  rw [hzv] at HSV
  clear hk hv hr HR HFD c0 c1 hlt1 hzk hzv
  have hm := HM.out
  by_cases h0 : 0 ≤ most
  rotate_left
  · rw [if_neg h0] at hm
    have hmm : (n : Int) - (i : Int) = (m : Int) := hm.symm
    clear hm
    go_upto_region 5 with (fail)
    have hwr : IntKind.i64.wrap ((i : Int) + (m : Int)) = ((i + m : Nat) : Int) := (IntWalk.i64_in _ (by omega)).trans (by omega)
    have H0 := Lib.hid HB1.out.drew
    refine wp_region_held_drew (S := (fun W : World => W.cell? ⟨r, 0, none⟩ = some (.slice pk n ck) ∧ W.cell? ⟨r, 1, none⟩ = some (.slice pv n cv))) (by kernel_rfl) (HS.out _ H0.out) (fun hHeld => ?_)
    clear c01
    generalize w1.drew = W0 at *
    refine wpAnyH_take (i := 1) (oi := ⟨_, _, _, _, _, _⟩) (v := ?_) rfl (by kernel_rfl) (by kernel_rfl) (by kernel_rfl) (fun _ _ _ h => h) (Or.inl ⟨by rfl, ?_⟩) (by assumption) ?_
    rotate_left
    · intro W hSW
      try dsimp only at hSW
      go_simp
      try with_reducible rfl
    rotate_left
    try simp only [Act.put, List.setIfInBounds_toArray, List.set_cons_zero, List.set_cons_succ]
    refine wpAnyH_take (i := 2) (oi := ⟨_, _, _, _, _, _⟩) (v := ?_) rfl (by kernel_rfl) (by kernel_rfl) (by kernel_rfl) (fun _ _ _ h => h) (Or.inl ⟨by rfl, ?_⟩) (by assumption) ?_
    rotate_left
    · intro W hSW
      try dsimp only at hSW
      go_simp
      try with_reducible rfl
    rotate_left
    try simp only [Act.put, List.setIfInBounds_toArray, List.set_cons_zero, List.set_cons_succ]
    refine wpAnyH_take (i := 3) (oi := ⟨_, _, _, _, _, _⟩) (v := ?_) rfl (by kernel_rfl) (by kernel_rfl) (by kernel_rfl) (fun _ _ _ h => h) (Or.inl ⟨by rfl, ?_⟩) (by assumption) ?_
    rotate_left
    · intro W hSW
      try dsimp only at hSW
      go_simp
      try with_reducible rfl
    rotate_left
    try simp only [Act.put, List.setIfInBounds_toArray, List.set_cons_zero, List.set_cons_succ]
    refine wpAnyH_take (i := 4) (oi := ⟨_, _, _, _, _, _⟩) (v := ?_) rfl (by kernel_rfl) (by kernel_rfl) (by kernel_rfl) (fun _ _ _ h => h) (Or.inl ⟨by rfl, ?_⟩) (by assumption) ?_
    rotate_left
    · intro W hSW
      try dsimp only at hSW
      go_simp
      try with_reducible rfl
    rotate_left
    try simp only [Act.put, List.setIfInBounds_toArray, List.set_cons_zero, List.set_cons_succ]
    refine wpAnyH_take (i := 5) (oi := ⟨_, _, _, _, _, _⟩) (v := ?_) rfl (by kernel_rfl) (by kernel_rfl) (by kernel_rfl) (fun _ _ _ h => h) (Or.inl ⟨by rfl, ?_⟩) (by assumption) ?_
    rotate_left
    · intro W hSW
      try dsimp only at hSW
      go_simp
      try with_reducible rfl
    rotate_left
    try simp only [Act.put, List.setIfInBounds_toArray, List.set_cons_zero, List.set_cons_succ]
    refine wpAnyH_take (i := 6) (oi := ⟨_, _, _, _, _, _⟩) (v := ?_) rfl (by kernel_rfl) (by kernel_rfl) (by kernel_rfl) (fun _ _ _ h => h) (Or.inl ⟨by rfl, ?_⟩) (by assumption) ?_
    rotate_left
    · intro W hSW
      try dsimp only at hSW
      go_simp
      try with_reducible rfl
    rotate_left
    try simp only [Act.put, List.setIfInBounds_toArray, List.set_cons_zero, List.set_cons_succ]
    refine wpAnyH_take (i := 7) (oi := ⟨_, _, _, _, _, _⟩) (v := ?_) rfl (by kernel_rfl) (by kernel_rfl) (by kernel_rfl) (fun _ _ _ h => h) (Or.inl ⟨by rfl, ?_⟩) (by assumption) ?_
    rotate_left
    · intro W hSW
      try dsimp only at hSW
      go_simp
      try with_reducible rfl
    rotate_left
    try simp only [Act.put, List.setIfInBounds_toArray, List.set_cons_zero, List.set_cons_succ]
    refine wpAnyH_take (i := 8) (oi := ⟨_, _, _, _, _, _⟩) (v := .int .i64 ((i + m : Nat) : Int)) rfl (by kernel_rfl) (by kernel_rfl) (by kernel_rfl) (fun _ _ _ h => h) (Or.inl ⟨by rfl, fun W hSW => ?_⟩) (by assumption) ?_
    · go_simp
      try rw [hwr]
    try simp only [Act.put, List.setIfInBounds_toArray, List.set_cons_zero, List.set_cons_succ]
    refine wpAnyH_take (i := 9) (oi := ⟨_, _, _, _, _, _⟩) (v := zk) rfl (by kernel_rfl) (by kernel_rfl) (by kernel_rfl) (fun _ _ _ h => h) (Or.inl ⟨by rfl, fun W hSW => ?_⟩) (by assumption) ?_
    · go_simp
      rw [← HZK.out, if_pos ⟨by omega, by omega⟩, if_pos (by omega)]
      have ht : ((i : Int) + (m : Int)).toNat = i + m := by omega
      simp [sliced, ht]
    try simp only [Act.put, List.setIfInBounds_toArray, List.set_cons_zero, List.set_cons_succ]
    refine wpAnyH_take (i := 12) (oi := ⟨_, _, _, _, _, _⟩) (v := ?_) rfl (by kernel_rfl) (by kernel_rfl) (by kernel_rfl) (fun _ _ _ h => h) (Or.inl ⟨by rfl, ?_⟩) (by assumption) ?_
    rotate_left
    · intro W hSW
      try dsimp only at hSW
      go_simp
      try with_reducible rfl
    rotate_left
    try simp only [Act.put, List.setIfInBounds_toArray, List.set_cons_zero, List.set_cons_succ]
    refine wpAnyH_take (i := 13) (oi := ⟨_, _, _, _, _, _⟩) (v := ?_) rfl (by kernel_rfl) (by kernel_rfl) (by kernel_rfl) (fun _ _ _ h => h) (Or.inl ⟨by rfl, ?_⟩) (by assumption) ?_
    rotate_left
    · intro W hSW
      try dsimp only at hSW
      go_simp
      try with_reducible rfl
    rotate_left
    try simp only [Act.put, List.setIfInBounds_toArray, List.set_cons_zero, List.set_cons_succ]
    refine wpAnyH_take (i := 14) (oi := ⟨_, _, _, _, _, _⟩) (v := ?_) rfl (by kernel_rfl) (by kernel_rfl) (by kernel_rfl) (fun _ _ _ h => h) (Or.inl ⟨by rfl, ?_⟩) (by assumption) ?_
    rotate_left
    · intro W hSW
      try dsimp only at hSW
      go_simp
      try with_reducible rfl
    rotate_left
    try simp only [Act.put, List.setIfInBounds_toArray, List.set_cons_zero, List.set_cons_succ]
    refine wpAnyH_take (i := 15) (oi := ⟨_, _, _, _, _, _⟩) (v := ?_) rfl (by kernel_rfl) (by kernel_rfl) (by kernel_rfl) (fun _ _ _ h => h) (Or.inl ⟨by rfl, ?_⟩) (by assumption) ?_
    rotate_left
    · intro W hSW
      try dsimp only at hSW
      go_simp
      try with_reducible rfl
    rotate_left
    try simp only [Act.put, List.setIfInBounds_toArray, List.set_cons_zero, List.set_cons_succ]
    refine wpAnyH_take (i := 16) (oi := ⟨_, _, _, _, _, _⟩) (v := ?_) rfl (by kernel_rfl) (by kernel_rfl) (by kernel_rfl) (fun _ _ _ h => h) (Or.inl ⟨by rfl, ?_⟩) (by assumption) ?_
    rotate_left
    · intro W hSW
      try dsimp only at hSW
      go_simp
      try with_reducible rfl
    rotate_left
    try simp only [Act.put, List.setIfInBounds_toArray, List.set_cons_zero, List.set_cons_succ]
    refine wpAnyH_take (i := 17) (oi := ⟨_, _, _, _, _, _⟩) (v := ?_) rfl (by kernel_rfl) (by kernel_rfl) (by kernel_rfl) (fun _ _ _ h => h) (Or.inl ⟨by rfl, ?_⟩) (by assumption) ?_
    rotate_left
    · intro W hSW
      try dsimp only at hSW
      go_simp
      try with_reducible rfl
    rotate_left
    try simp only [Act.put, List.setIfInBounds_toArray, List.set_cons_zero, List.set_cons_succ]
    refine wpAnyH_take (i := 18) (oi := ⟨_, _, _, _, _, _⟩) (v := ?_) rfl (by kernel_rfl) (by kernel_rfl) (by kernel_rfl) (fun _ _ _ h => h) (Or.inl ⟨by rfl, ?_⟩) (by assumption) ?_
    rotate_left
    · intro W hSW
      try dsimp only at hSW
      go_simp
      try with_reducible rfl
    rotate_left
    try simp only [Act.put, List.setIfInBounds_toArray, List.set_cons_zero, List.set_cons_succ]
    refine wpAnyH_take (i := 19) (oi := ⟨_, _, _, _, _, _⟩) (v := .int .i64 ((i + m : Nat) : Int)) rfl (by kernel_rfl) (by kernel_rfl) (by kernel_rfl) (fun _ _ _ h => h) (Or.inl ⟨by rfl, fun W hSW => ?_⟩) (by assumption) ?_
    · go_simp
      try rw [hwr]
    try simp only [Act.put, List.setIfInBounds_toArray, List.set_cons_zero, List.set_cons_succ]
    refine wpAnyH_take (i := 20) (oi := ⟨_, _, _, _, _, _⟩) (v := zv) rfl (by kernel_rfl) (by kernel_rfl) (by kernel_rfl) (fun _ _ _ h => h) (Or.inl ⟨by rfl, fun W hSW => ?_⟩) (by assumption) ?_
    · go_simp
      rw [← HZV.out, if_pos ⟨by omega, by omega⟩, if_pos (by omega)]
      have ht : ((i : Int) + (m : Int)).toNat = i + m := by omega
      simp [sliced, ht]
    try simp only [Act.put, List.setIfInBounds_toArray, List.set_cons_zero, List.set_cons_succ]
    refine wpAnyH_ready (rs := [0, 11]) (by kernel_rfl) (by simp) ?_
    refine AllReadyH.cons (o := ⟨_, _, _, _, _, _⟩) rfl (fun K hK => ?_) (AllReadyH.cons (o := ⟨_, _, _, _, _, _⟩) rfl (fun K hK => ?_) (AllReadyH.nil))
    · rw [if_pos (by rfl)]
      go_simp
      have H1 := Lib.hid (H0.out.alloc H0.out.size (.cells #[] 9))
      have OA := Lib.hid (World.ownsRow_made (e := 9) (size := 1) W0 #[] 0 H0.out.size (by decide) rfl)
      clear hHeld H0
      generalize W0.alloc (.cells #[] 9) = W1 at *
      generalize W0.heap.size = ga at *
      refine hK.out _ _ (HS.out _ H1.out) (fun hHeld => ?_)
      clear hK K
      try simp only [Act.put, List.setIfInBounds_toArray, List.set_cons_zero, List.set_cons_succ]
      refine wpAnyH_ready (rs := [10, 11]) (by kernel_rfl) (by simp) ?_
      refine AllReadyH.cons (o := ⟨_, _, _, _, _, _⟩) rfl (fun K hK => ?_) (AllReadyH.cons (o := ⟨_, _, _, _, _, _⟩) rfl (fun K hK => ?_) (AllReadyH.nil))
      · refine step_append_src rfl (.tmp 29) (.tmp 38) 27 rfl w.heap.size 9 i1 (.string ⟨#[]⟩) 1 16 undStrs hi1 hz1 hy1 hx1 rfl (by decide) ga 0 0 [] rfl OA.out _ m _ rfl (HSK.out.up H1.out) HLK.out (one_keys _) (by unfold maxLen; omega) (by omega) H1.out.size ?_
        intro g2 c2 W2 ho hg _
        have H2 := Lib.hid (below_grown H1.out OA.out hg H1.out.size)
        rw [Nat.zero_add]
        rw [Nat.zero_add, List.nil_append] at ho
        replace OA := Lib.hid ho
        clear hHeld H1 ho hg
        refine hK.out _ _ (HS.out _ H2.out) (fun hHeld => ?_)
        clear hK K
        try simp only [Act.put, List.setIfInBounds_toArray, List.set_cons_zero, List.set_cons_succ]
        refine wpAnyH_ready (rs := [11]) (by kernel_rfl) (by simp) ?_
        refine AllReadyH.cons (o := ⟨_, _, _, _, _, _⟩) rfl (fun K hK => ?_) (AllReadyH.nil)
        · rw [if_pos (by rfl)]
          go_simp
          have H3 := Lib.hid (H2.out.alloc H2.out.size (.cells #[] 35))
          have OB := Lib.hid (World.ownsRow_made (e := 35) (size := 2) W2 #[] 0 H2.out.size (by decide) rfl)
          replace OA := Lib.hid (own_up OA.out ((Below.refl _ W2).alloc (Nat.le_refl _) (.cells #[] 35)))
          clear hHeld H2
          generalize W2.alloc (.cells #[] 35) = W3 at *
          generalize W2.heap.size = gb at *
          refine hK.out _ _ (HS.out _ H3.out) (fun hHeld => ?_)
          clear hK K
          try simp only [Act.put, List.setIfInBounds_toArray, List.set_cons_zero, List.set_cons_succ]
          refine wpAnyH_ready (rs := [21]) (by kernel_rfl) (by simp) ?_
          refine AllReadyH.cons (o := ⟨_, _, _, _, _, _⟩) rfl (fun K hK => ?_) (AllReadyH.nil)
          · refine step_append_src rfl (.tmp 40) (.tmp 49) 28 rfl w.heap.size 35 i2 (.agg #[.int .i64 0, .int .i64 0]) 2 16 undRids hi2 hz2 hy2 hx2 rfl (by decide) gb 0 0 [] rfl OB.out _ m _ rfl (HSV.out.up H3.out) HLV.out (one_rids _) (by unfold maxLen; omega) (by omega) H3.out.size ?_
            intro g4 c4 W4 ho hg _
            have H4 := Lib.hid (below_grown H3.out OB.out hg H3.out.size)
            replace OA := Lib.hid (own_apart OA.out OB.out (by decide) hg)
            rw [Nat.zero_add]
            rw [Nat.zero_add, List.nil_append] at ho
            replace OB := Lib.hid ho
            clear hHeld H3 ho hg
            refine hK.out _ _ (HS.out _ H4.out) (fun hHeld => ?_)
            clear hK K
            try simp only [Act.put, List.setIfInBounds_toArray, List.set_cons_zero, List.set_cons_succ]
            refine wpAnyH_take (i := 22) (oi := ⟨_, _, _, _, _, _⟩) (v := ?_) rfl (by kernel_rfl) (by kernel_rfl) (by kernel_rfl) (fun _ _ _ h => h) (Or.inl ⟨by rfl, ?_⟩) (by assumption) ?_
            rotate_left
            · intro W hSW
              try dsimp only at hSW
              go_simp
              try with_reducible rfl
            rotate_left
            try simp only [Act.put, List.setIfInBounds_toArray, List.set_cons_zero, List.set_cons_succ]
            refine wpAnyH_take (i := 23) (oi := ⟨_, _, _, _, _, _⟩) (v := ?_) rfl (by kernel_rfl) (by kernel_rfl) (by kernel_rfl) (fun _ _ _ h => h) (Or.inl ⟨by rfl, ?_⟩) (by assumption) ?_
            rotate_left
            · intro W hSW
              try dsimp only at hSW
              go_simp
              try with_reducible rfl
            rotate_left
            try simp only [Act.put, List.setIfInBounds_toArray, List.set_cons_zero, List.set_cons_succ]
            refine wpAnyH_done (by kernel_rfl) ?_ _
            go_wp2_with fail
            refine bodyPost_ret (v := .tuple #[.slice (some ⟨g2, 0, none⟩) m c2, .slice (some ⟨g4, 0, none⟩) m c4]) ?_ rfl ⟨_, _, rfl, H4.out, by rw [HLEN.out]; exact OA.out, by rw [HLEN.out]; exact OB.out⟩
            simp [results, Try.results22, go_sem]
      · rw [if_pos (by rfl)]
        go_simp
        have H2 := Lib.hid (H1.out.alloc H1.out.size (.cells #[] 35))
        have OB := Lib.hid (World.ownsRow_made (e := 35) (size := 2) W1 #[] 0 H1.out.size (by decide) rfl)
        replace OA := Lib.hid (own_up OA.out ((Below.refl _ W1).alloc (Nat.le_refl _) (.cells #[] 35)))
        clear hHeld H1
        generalize W1.alloc (.cells #[] 35) = W2 at *
        generalize W1.heap.size = gb at *
        refine hK.out _ _ (HS.out _ H2.out) (fun hHeld => ?_)
        clear hK K
        try simp only [Act.put, List.setIfInBounds_toArray, List.set_cons_zero, List.set_cons_succ]
        refine wpAnyH_ready (rs := [10]) (by kernel_rfl) (by simp) ?_
        refine AllReadyH.cons (o := ⟨_, _, _, _, _, _⟩) rfl (fun K hK => ?_) (AllReadyH.nil)
        · refine step_append_src rfl (.tmp 29) (.tmp 38) 27 rfl w.heap.size 9 i1 (.string ⟨#[]⟩) 1 16 undStrs hi1 hz1 hy1 hx1 rfl (by decide) ga 0 0 [] rfl OA.out _ m _ rfl (HSK.out.up H2.out) HLK.out (one_keys _) (by unfold maxLen; omega) (by omega) H2.out.size ?_
          intro g3 c3 W3 ho hg _
          have H3 := Lib.hid (below_grown H2.out OA.out hg H2.out.size)
          replace OB := Lib.hid (own_apart OB.out OA.out (by decide) hg)
          rw [Nat.zero_add]
          rw [Nat.zero_add, List.nil_append] at ho
          replace OA := Lib.hid ho
          clear hHeld H2 ho hg
          refine hK.out _ _ (HS.out _ H3.out) (fun hHeld => ?_)
          clear hK K
          try simp only [Act.put, List.setIfInBounds_toArray, List.set_cons_zero, List.set_cons_succ]
          refine wpAnyH_ready (rs := [21]) (by kernel_rfl) (by simp) ?_
          refine AllReadyH.cons (o := ⟨_, _, _, _, _, _⟩) rfl (fun K hK => ?_) (AllReadyH.nil)
          · refine step_append_src rfl (.tmp 40) (.tmp 49) 28 rfl w.heap.size 35 i2 (.agg #[.int .i64 0, .int .i64 0]) 2 16 undRids hi2 hz2 hy2 hx2 rfl (by decide) gb 0 0 [] rfl OB.out _ m _ rfl (HSV.out.up H3.out) HLV.out (one_rids _) (by unfold maxLen; omega) (by omega) H3.out.size ?_
            intro g4 c4 W4 ho hg _
            have H4 := Lib.hid (below_grown H3.out OB.out hg H3.out.size)
            replace OA := Lib.hid (own_apart OA.out OB.out (by decide) hg)
            rw [Nat.zero_add]
            rw [Nat.zero_add, List.nil_append] at ho
            replace OB := Lib.hid ho
            clear hHeld H3 ho hg
            refine hK.out _ _ (HS.out _ H4.out) (fun hHeld => ?_)
            clear hK K
            try simp only [Act.put, List.setIfInBounds_toArray, List.set_cons_zero, List.set_cons_succ]
            refine wpAnyH_take (i := 22) (oi := ⟨_, _, _, _, _, _⟩) (v := ?_) rfl (by kernel_rfl) (by kernel_rfl) (by kernel_rfl) (fun _ _ _ h => h) (Or.inl ⟨by rfl, ?_⟩) (by assumption) ?_
            rotate_left
            · intro W hSW
              try dsimp only at hSW
              go_simp
              try with_reducible rfl
            rotate_left
            try simp only [Act.put, List.setIfInBounds_toArray, List.set_cons_zero, List.set_cons_succ]
            refine wpAnyH_take (i := 23) (oi := ⟨_, _, _, _, _, _⟩) (v := ?_) rfl (by kernel_rfl) (by kernel_rfl) (by kernel_rfl) (fun _ _ _ h => h) (Or.inl ⟨by rfl, ?_⟩) (by assumption) ?_
            rotate_left
            · intro W hSW
              try dsimp only at hSW
              go_simp
              try with_reducible rfl
            rotate_left
            try simp only [Act.put, List.setIfInBounds_toArray, List.set_cons_zero, List.set_cons_succ]
            refine wpAnyH_done (by kernel_rfl) ?_ _
            go_wp2_with fail
            refine bodyPost_ret (v := .tuple #[.slice (some ⟨g3, 0, none⟩) m c3, .slice (some ⟨g4, 0, none⟩) m c4]) ?_ rfl ⟨_, _, rfl, H4.out, by rw [HLEN.out]; exact OA.out, by rw [HLEN.out]; exact OB.out⟩
            simp [results, Try.results22, go_sem]
    · rw [if_pos (by rfl)]
      go_simp
      have H1 := Lib.hid (H0.out.alloc H0.out.size (.cells #[] 35))
      have OB := Lib.hid (World.ownsRow_made (e := 35) (size := 2) W0 #[] 0 H0.out.size (by decide) rfl)
      clear hHeld H0
      generalize W0.alloc (.cells #[] 35) = W1 at *
      generalize W0.heap.size = gb at *
      refine hK.out _ _ (HS.out _ H1.out) (fun hHeld => ?_)
      clear hK K
      try simp only [Act.put, List.setIfInBounds_toArray, List.set_cons_zero, List.set_cons_succ]
      refine wpAnyH_ready (rs := [0]) (by kernel_rfl) (by simp) ?_
      refine AllReadyH.cons (o := ⟨_, _, _, _, _, _⟩) rfl (fun K hK => ?_) (AllReadyH.nil)
      · rw [if_pos (by rfl)]
        go_simp
        have H2 := Lib.hid (H1.out.alloc H1.out.size (.cells #[] 9))
        have OA := Lib.hid (World.ownsRow_made (e := 9) (size := 1) W1 #[] 0 H1.out.size (by decide) rfl)
        replace OB := Lib.hid (own_up OB.out ((Below.refl _ W1).alloc (Nat.le_refl _) (.cells #[] 9)))
        clear hHeld H1
        generalize W1.alloc (.cells #[] 9) = W2 at *
        generalize W1.heap.size = ga at *
        refine hK.out _ _ (HS.out _ H2.out) (fun hHeld => ?_)
        clear hK K
        try simp only [Act.put, List.setIfInBounds_toArray, List.set_cons_zero, List.set_cons_succ]
        refine wpAnyH_ready (rs := [10]) (by kernel_rfl) (by simp) ?_
        refine AllReadyH.cons (o := ⟨_, _, _, _, _, _⟩) rfl (fun K hK => ?_) (AllReadyH.nil)
        · refine step_append_src rfl (.tmp 29) (.tmp 38) 27 rfl w.heap.size 9 i1 (.string ⟨#[]⟩) 1 16 undStrs hi1 hz1 hy1 hx1 rfl (by decide) ga 0 0 [] rfl OA.out _ m _ rfl (HSK.out.up H2.out) HLK.out (one_keys _) (by unfold maxLen; omega) (by omega) H2.out.size ?_
          intro g3 c3 W3 ho hg _
          have H3 := Lib.hid (below_grown H2.out OA.out hg H2.out.size)
          replace OB := Lib.hid (own_apart OB.out OA.out (by decide) hg)
          rw [Nat.zero_add]
          rw [Nat.zero_add, List.nil_append] at ho
          replace OA := Lib.hid ho
          clear hHeld H2 ho hg
          refine hK.out _ _ (HS.out _ H3.out) (fun hHeld => ?_)
          clear hK K
          try simp only [Act.put, List.setIfInBounds_toArray, List.set_cons_zero, List.set_cons_succ]
          refine wpAnyH_ready (rs := [21]) (by kernel_rfl) (by simp) ?_
          refine AllReadyH.cons (o := ⟨_, _, _, _, _, _⟩) rfl (fun K hK => ?_) (AllReadyH.nil)
          · refine step_append_src rfl (.tmp 40) (.tmp 49) 28 rfl w.heap.size 35 i2 (.agg #[.int .i64 0, .int .i64 0]) 2 16 undRids hi2 hz2 hy2 hx2 rfl (by decide) gb 0 0 [] rfl OB.out _ m _ rfl (HSV.out.up H3.out) HLV.out (one_rids _) (by unfold maxLen; omega) (by omega) H3.out.size ?_
            intro g4 c4 W4 ho hg _
            have H4 := Lib.hid (below_grown H3.out OB.out hg H3.out.size)
            replace OA := Lib.hid (own_apart OA.out OB.out (by decide) hg)
            rw [Nat.zero_add]
            rw [Nat.zero_add, List.nil_append] at ho
            replace OB := Lib.hid ho
            clear hHeld H3 ho hg
            refine hK.out _ _ (HS.out _ H4.out) (fun hHeld => ?_)
            clear hK K
            try simp only [Act.put, List.setIfInBounds_toArray, List.set_cons_zero, List.set_cons_succ]
            refine wpAnyH_take (i := 22) (oi := ⟨_, _, _, _, _, _⟩) (v := ?_) rfl (by kernel_rfl) (by kernel_rfl) (by kernel_rfl) (fun _ _ _ h => h) (Or.inl ⟨by rfl, ?_⟩) (by assumption) ?_
            rotate_left
            · intro W hSW
              try dsimp only at hSW
              go_simp
              try with_reducible rfl
            rotate_left
            try simp only [Act.put, List.setIfInBounds_toArray, List.set_cons_zero, List.set_cons_succ]
            refine wpAnyH_take (i := 23) (oi := ⟨_, _, _, _, _, _⟩) (v := ?_) rfl (by kernel_rfl) (by kernel_rfl) (by kernel_rfl) (fun _ _ _ h => h) (Or.inl ⟨by rfl, ?_⟩) (by assumption) ?_
            rotate_left
            · intro W hSW
              try dsimp only at hSW
              go_simp
              try with_reducible rfl
            rotate_left
            try simp only [Act.put, List.setIfInBounds_toArray, List.set_cons_zero, List.set_cons_succ]
            refine wpAnyH_done (by kernel_rfl) ?_ _
            go_wp2_with fail
            refine bodyPost_ret (v := .tuple #[.slice (some ⟨g3, 0, none⟩) m c3, .slice (some ⟨g4, 0, none⟩) m c4]) ?_ rfl ⟨_, _, rfl, H4.out, by rw [HLEN.out]; exact OA.out, by rw [HLEN.out]; exact OB.out⟩
            simp [results, Try.results22, go_sem]
  · rw [if_pos h0] at hm
    go_upto_region 5 with (fail)
    rw [← hm]
    clear hm
    have hwr : IntKind.i64.wrap ((i : Int) + (m : Int)) = ((i + m : Nat) : Int) := (IntWalk.i64_in _ (by omega)).trans (by omega)
    have H0 := Lib.hid HB1.out.drew
    refine wp_region_held_drew (S := (fun W : World => W.cell? ⟨r, 0, none⟩ = some (.slice pk n ck) ∧ W.cell? ⟨r, 1, none⟩ = some (.slice pv n cv))) (by kernel_rfl) (HS.out _ H0.out) (fun hHeld => ?_)
    clear c01
    generalize w1.drew = W0 at *
    refine wpAnyH_take (i := 1) (oi := ⟨_, _, _, _, _, _⟩) (v := ?_) rfl (by kernel_rfl) (by kernel_rfl) (by kernel_rfl) (fun _ _ _ h => h) (Or.inl ⟨by rfl, ?_⟩) (by assumption) ?_
    rotate_left
    · intro W hSW
      try dsimp only at hSW
      go_simp
      try with_reducible rfl
    rotate_left
    try simp only [Act.put, List.setIfInBounds_toArray, List.set_cons_zero, List.set_cons_succ]
    refine wpAnyH_take (i := 2) (oi := ⟨_, _, _, _, _, _⟩) (v := ?_) rfl (by kernel_rfl) (by kernel_rfl) (by kernel_rfl) (fun _ _ _ h => h) (Or.inl ⟨by rfl, ?_⟩) (by assumption) ?_
    rotate_left
    · intro W hSW
      try dsimp only at hSW
      go_simp
      try with_reducible rfl
    rotate_left
    try simp only [Act.put, List.setIfInBounds_toArray, List.set_cons_zero, List.set_cons_succ]
    refine wpAnyH_take (i := 3) (oi := ⟨_, _, _, _, _, _⟩) (v := ?_) rfl (by kernel_rfl) (by kernel_rfl) (by kernel_rfl) (fun _ _ _ h => h) (Or.inl ⟨by rfl, ?_⟩) (by assumption) ?_
    rotate_left
    · intro W hSW
      try dsimp only at hSW
      go_simp
      try with_reducible rfl
    rotate_left
    try simp only [Act.put, List.setIfInBounds_toArray, List.set_cons_zero, List.set_cons_succ]
    refine wpAnyH_take (i := 4) (oi := ⟨_, _, _, _, _, _⟩) (v := ?_) rfl (by kernel_rfl) (by kernel_rfl) (by kernel_rfl) (fun _ _ _ h => h) (Or.inl ⟨by rfl, ?_⟩) (by assumption) ?_
    rotate_left
    · intro W hSW
      try dsimp only at hSW
      go_simp
      try with_reducible rfl
    rotate_left
    try simp only [Act.put, List.setIfInBounds_toArray, List.set_cons_zero, List.set_cons_succ]
    refine wpAnyH_take (i := 5) (oi := ⟨_, _, _, _, _, _⟩) (v := ?_) rfl (by kernel_rfl) (by kernel_rfl) (by kernel_rfl) (fun _ _ _ h => h) (Or.inl ⟨by rfl, ?_⟩) (by assumption) ?_
    rotate_left
    · intro W hSW
      try dsimp only at hSW
      go_simp
      try with_reducible rfl
    rotate_left
    try simp only [Act.put, List.setIfInBounds_toArray, List.set_cons_zero, List.set_cons_succ]
    refine wpAnyH_take (i := 6) (oi := ⟨_, _, _, _, _, _⟩) (v := ?_) rfl (by kernel_rfl) (by kernel_rfl) (by kernel_rfl) (fun _ _ _ h => h) (Or.inl ⟨by rfl, ?_⟩) (by assumption) ?_
    rotate_left
    · intro W hSW
      try dsimp only at hSW
      go_simp
      try with_reducible rfl
    rotate_left
    try simp only [Act.put, List.setIfInBounds_toArray, List.set_cons_zero, List.set_cons_succ]
    refine wpAnyH_take (i := 7) (oi := ⟨_, _, _, _, _, _⟩) (v := ?_) rfl (by kernel_rfl) (by kernel_rfl) (by kernel_rfl) (fun _ _ _ h => h) (Or.inl ⟨by rfl, ?_⟩) (by assumption) ?_
    rotate_left
    · intro W hSW
      try dsimp only at hSW
      go_simp
      try with_reducible rfl
    rotate_left
    try simp only [Act.put, List.setIfInBounds_toArray, List.set_cons_zero, List.set_cons_succ]
    refine wpAnyH_take (i := 8) (oi := ⟨_, _, _, _, _, _⟩) (v := .int .i64 ((i + m : Nat) : Int)) rfl (by kernel_rfl) (by kernel_rfl) (by kernel_rfl) (fun _ _ _ h => h) (Or.inl ⟨by rfl, fun W hSW => ?_⟩) (by assumption) ?_
    · go_simp
      try rw [hwr]
    try simp only [Act.put, List.setIfInBounds_toArray, List.set_cons_zero, List.set_cons_succ]
    refine wpAnyH_take (i := 9) (oi := ⟨_, _, _, _, _, _⟩) (v := zk) rfl (by kernel_rfl) (by kernel_rfl) (by kernel_rfl) (fun _ _ _ h => h) (Or.inl ⟨by rfl, fun W hSW => ?_⟩) (by assumption) ?_
    · go_simp
      rw [← HZK.out, if_pos ⟨by omega, by omega⟩, if_pos (by omega)]
      have ht : ((i : Int) + (m : Int)).toNat = i + m := by omega
      simp [sliced, ht]
    try simp only [Act.put, List.setIfInBounds_toArray, List.set_cons_zero, List.set_cons_succ]
    refine wpAnyH_take (i := 12) (oi := ⟨_, _, _, _, _, _⟩) (v := ?_) rfl (by kernel_rfl) (by kernel_rfl) (by kernel_rfl) (fun _ _ _ h => h) (Or.inl ⟨by rfl, ?_⟩) (by assumption) ?_
    rotate_left
    · intro W hSW
      try dsimp only at hSW
      go_simp
      try with_reducible rfl
    rotate_left
    try simp only [Act.put, List.setIfInBounds_toArray, List.set_cons_zero, List.set_cons_succ]
    refine wpAnyH_take (i := 13) (oi := ⟨_, _, _, _, _, _⟩) (v := ?_) rfl (by kernel_rfl) (by kernel_rfl) (by kernel_rfl) (fun _ _ _ h => h) (Or.inl ⟨by rfl, ?_⟩) (by assumption) ?_
    rotate_left
    · intro W hSW
      try dsimp only at hSW
      go_simp
      try with_reducible rfl
    rotate_left
    try simp only [Act.put, List.setIfInBounds_toArray, List.set_cons_zero, List.set_cons_succ]
    refine wpAnyH_take (i := 14) (oi := ⟨_, _, _, _, _, _⟩) (v := ?_) rfl (by kernel_rfl) (by kernel_rfl) (by kernel_rfl) (fun _ _ _ h => h) (Or.inl ⟨by rfl, ?_⟩) (by assumption) ?_
    rotate_left
    · intro W hSW
      try dsimp only at hSW
      go_simp
      try with_reducible rfl
    rotate_left
    try simp only [Act.put, List.setIfInBounds_toArray, List.set_cons_zero, List.set_cons_succ]
    refine wpAnyH_take (i := 15) (oi := ⟨_, _, _, _, _, _⟩) (v := ?_) rfl (by kernel_rfl) (by kernel_rfl) (by kernel_rfl) (fun _ _ _ h => h) (Or.inl ⟨by rfl, ?_⟩) (by assumption) ?_
    rotate_left
    · intro W hSW
      try dsimp only at hSW
      go_simp
      try with_reducible rfl
    rotate_left
    try simp only [Act.put, List.setIfInBounds_toArray, List.set_cons_zero, List.set_cons_succ]
    refine wpAnyH_take (i := 16) (oi := ⟨_, _, _, _, _, _⟩) (v := ?_) rfl (by kernel_rfl) (by kernel_rfl) (by kernel_rfl) (fun _ _ _ h => h) (Or.inl ⟨by rfl, ?_⟩) (by assumption) ?_
    rotate_left
    · intro W hSW
      try dsimp only at hSW
      go_simp
      try with_reducible rfl
    rotate_left
    try simp only [Act.put, List.setIfInBounds_toArray, List.set_cons_zero, List.set_cons_succ]
    refine wpAnyH_take (i := 17) (oi := ⟨_, _, _, _, _, _⟩) (v := ?_) rfl (by kernel_rfl) (by kernel_rfl) (by kernel_rfl) (fun _ _ _ h => h) (Or.inl ⟨by rfl, ?_⟩) (by assumption) ?_
    rotate_left
    · intro W hSW
      try dsimp only at hSW
      go_simp
      try with_reducible rfl
    rotate_left
    try simp only [Act.put, List.setIfInBounds_toArray, List.set_cons_zero, List.set_cons_succ]
    refine wpAnyH_take (i := 18) (oi := ⟨_, _, _, _, _, _⟩) (v := ?_) rfl (by kernel_rfl) (by kernel_rfl) (by kernel_rfl) (fun _ _ _ h => h) (Or.inl ⟨by rfl, ?_⟩) (by assumption) ?_
    rotate_left
    · intro W hSW
      try dsimp only at hSW
      go_simp
      try with_reducible rfl
    rotate_left
    try simp only [Act.put, List.setIfInBounds_toArray, List.set_cons_zero, List.set_cons_succ]
    refine wpAnyH_take (i := 19) (oi := ⟨_, _, _, _, _, _⟩) (v := .int .i64 ((i + m : Nat) : Int)) rfl (by kernel_rfl) (by kernel_rfl) (by kernel_rfl) (fun _ _ _ h => h) (Or.inl ⟨by rfl, fun W hSW => ?_⟩) (by assumption) ?_
    · go_simp
      try rw [hwr]
    try simp only [Act.put, List.setIfInBounds_toArray, List.set_cons_zero, List.set_cons_succ]
    refine wpAnyH_take (i := 20) (oi := ⟨_, _, _, _, _, _⟩) (v := zv) rfl (by kernel_rfl) (by kernel_rfl) (by kernel_rfl) (fun _ _ _ h => h) (Or.inl ⟨by rfl, fun W hSW => ?_⟩) (by assumption) ?_
    · go_simp
      rw [← HZV.out, if_pos ⟨by omega, by omega⟩, if_pos (by omega)]
      have ht : ((i : Int) + (m : Int)).toNat = i + m := by omega
      simp [sliced, ht]
    try simp only [Act.put, List.setIfInBounds_toArray, List.set_cons_zero, List.set_cons_succ]
    refine wpAnyH_ready (rs := [0, 11]) (by kernel_rfl) (by simp) ?_
    refine AllReadyH.cons (o := ⟨_, _, _, _, _, _⟩) rfl (fun K hK => ?_) (AllReadyH.cons (o := ⟨_, _, _, _, _, _⟩) rfl (fun K hK => ?_) (AllReadyH.nil))
    · rw [if_pos (by rfl)]
      go_simp
      have H1 := Lib.hid (H0.out.alloc H0.out.size (.cells #[] 9))
      have OA := Lib.hid (World.ownsRow_made (e := 9) (size := 1) W0 #[] 0 H0.out.size (by decide) rfl)
      clear hHeld H0
      generalize W0.alloc (.cells #[] 9) = W1 at *
      generalize W0.heap.size = ga at *
      refine hK.out _ _ (HS.out _ H1.out) (fun hHeld => ?_)
      clear hK K
      try simp only [Act.put, List.setIfInBounds_toArray, List.set_cons_zero, List.set_cons_succ]
      refine wpAnyH_ready (rs := [10, 11]) (by kernel_rfl) (by simp) ?_
      refine AllReadyH.cons (o := ⟨_, _, _, _, _, _⟩) rfl (fun K hK => ?_) (AllReadyH.cons (o := ⟨_, _, _, _, _, _⟩) rfl (fun K hK => ?_) (AllReadyH.nil))
      · refine step_append_src rfl (.tmp 29) (.tmp 38) 27 rfl w.heap.size 9 i1 (.string ⟨#[]⟩) 1 16 undStrs hi1 hz1 hy1 hx1 rfl (by decide) ga 0 0 [] rfl OA.out _ m _ rfl (HSK.out.up H1.out) HLK.out (one_keys _) (by unfold maxLen; omega) (by omega) H1.out.size ?_
        intro g2 c2 W2 ho hg _
        have H2 := Lib.hid (below_grown H1.out OA.out hg H1.out.size)
        rw [Nat.zero_add]
        rw [Nat.zero_add, List.nil_append] at ho
        replace OA := Lib.hid ho
        clear hHeld H1 ho hg
        refine hK.out _ _ (HS.out _ H2.out) (fun hHeld => ?_)
        clear hK K
        try simp only [Act.put, List.setIfInBounds_toArray, List.set_cons_zero, List.set_cons_succ]
        refine wpAnyH_ready (rs := [11]) (by kernel_rfl) (by simp) ?_
        refine AllReadyH.cons (o := ⟨_, _, _, _, _, _⟩) rfl (fun K hK => ?_) (AllReadyH.nil)
        · rw [if_pos (by rfl)]
          go_simp
          have H3 := Lib.hid (H2.out.alloc H2.out.size (.cells #[] 35))
          have OB := Lib.hid (World.ownsRow_made (e := 35) (size := 2) W2 #[] 0 H2.out.size (by decide) rfl)
          replace OA := Lib.hid (own_up OA.out ((Below.refl _ W2).alloc (Nat.le_refl _) (.cells #[] 35)))
          clear hHeld H2
          generalize W2.alloc (.cells #[] 35) = W3 at *
          generalize W2.heap.size = gb at *
          refine hK.out _ _ (HS.out _ H3.out) (fun hHeld => ?_)
          clear hK K
          try simp only [Act.put, List.setIfInBounds_toArray, List.set_cons_zero, List.set_cons_succ]
          refine wpAnyH_ready (rs := [21]) (by kernel_rfl) (by simp) ?_
          refine AllReadyH.cons (o := ⟨_, _, _, _, _, _⟩) rfl (fun K hK => ?_) (AllReadyH.nil)
          · refine step_append_src rfl (.tmp 40) (.tmp 49) 28 rfl w.heap.size 35 i2 (.agg #[.int .i64 0, .int .i64 0]) 2 16 undRids hi2 hz2 hy2 hx2 rfl (by decide) gb 0 0 [] rfl OB.out _ m _ rfl (HSV.out.up H3.out) HLV.out (one_rids _) (by unfold maxLen; omega) (by omega) H3.out.size ?_
            intro g4 c4 W4 ho hg _
            have H4 := Lib.hid (below_grown H3.out OB.out hg H3.out.size)
            replace OA := Lib.hid (own_apart OA.out OB.out (by decide) hg)
            rw [Nat.zero_add]
            rw [Nat.zero_add, List.nil_append] at ho
            replace OB := Lib.hid ho
            clear hHeld H3 ho hg
            refine hK.out _ _ (HS.out _ H4.out) (fun hHeld => ?_)
            clear hK K
            try simp only [Act.put, List.setIfInBounds_toArray, List.set_cons_zero, List.set_cons_succ]
            refine wpAnyH_take (i := 22) (oi := ⟨_, _, _, _, _, _⟩) (v := ?_) rfl (by kernel_rfl) (by kernel_rfl) (by kernel_rfl) (fun _ _ _ h => h) (Or.inl ⟨by rfl, ?_⟩) (by assumption) ?_
            rotate_left
            · intro W hSW
              try dsimp only at hSW
              go_simp
              try with_reducible rfl
            rotate_left
            try simp only [Act.put, List.setIfInBounds_toArray, List.set_cons_zero, List.set_cons_succ]
            refine wpAnyH_take (i := 23) (oi := ⟨_, _, _, _, _, _⟩) (v := ?_) rfl (by kernel_rfl) (by kernel_rfl) (by kernel_rfl) (fun _ _ _ h => h) (Or.inl ⟨by rfl, ?_⟩) (by assumption) ?_
            rotate_left
            · intro W hSW
              try dsimp only at hSW
              go_simp
              try with_reducible rfl
            rotate_left
            try simp only [Act.put, List.setIfInBounds_toArray, List.set_cons_zero, List.set_cons_succ]
            refine wpAnyH_done (by kernel_rfl) ?_ _
            go_wp2_with fail
            refine bodyPost_ret (v := .tuple #[.slice (some ⟨g2, 0, none⟩) m c2, .slice (some ⟨g4, 0, none⟩) m c4]) ?_ rfl ⟨_, _, rfl, H4.out, by rw [HLEN.out]; exact OA.out, by rw [HLEN.out]; exact OB.out⟩
            simp [results, Try.results22, go_sem]
      · rw [if_pos (by rfl)]
        go_simp
        have H2 := Lib.hid (H1.out.alloc H1.out.size (.cells #[] 35))
        have OB := Lib.hid (World.ownsRow_made (e := 35) (size := 2) W1 #[] 0 H1.out.size (by decide) rfl)
        replace OA := Lib.hid (own_up OA.out ((Below.refl _ W1).alloc (Nat.le_refl _) (.cells #[] 35)))
        clear hHeld H1
        generalize W1.alloc (.cells #[] 35) = W2 at *
        generalize W1.heap.size = gb at *
        refine hK.out _ _ (HS.out _ H2.out) (fun hHeld => ?_)
        clear hK K
        try simp only [Act.put, List.setIfInBounds_toArray, List.set_cons_zero, List.set_cons_succ]
        refine wpAnyH_ready (rs := [10]) (by kernel_rfl) (by simp) ?_
        refine AllReadyH.cons (o := ⟨_, _, _, _, _, _⟩) rfl (fun K hK => ?_) (AllReadyH.nil)
        · refine step_append_src rfl (.tmp 29) (.tmp 38) 27 rfl w.heap.size 9 i1 (.string ⟨#[]⟩) 1 16 undStrs hi1 hz1 hy1 hx1 rfl (by decide) ga 0 0 [] rfl OA.out _ m _ rfl (HSK.out.up H2.out) HLK.out (one_keys _) (by unfold maxLen; omega) (by omega) H2.out.size ?_
          intro g3 c3 W3 ho hg _
          have H3 := Lib.hid (below_grown H2.out OA.out hg H2.out.size)
          replace OB := Lib.hid (own_apart OB.out OA.out (by decide) hg)
          rw [Nat.zero_add]
          rw [Nat.zero_add, List.nil_append] at ho
          replace OA := Lib.hid ho
          clear hHeld H2 ho hg
          refine hK.out _ _ (HS.out _ H3.out) (fun hHeld => ?_)
          clear hK K
          try simp only [Act.put, List.setIfInBounds_toArray, List.set_cons_zero, List.set_cons_succ]
          refine wpAnyH_ready (rs := [21]) (by kernel_rfl) (by simp) ?_
          refine AllReadyH.cons (o := ⟨_, _, _, _, _, _⟩) rfl (fun K hK => ?_) (AllReadyH.nil)
          · refine step_append_src rfl (.tmp 40) (.tmp 49) 28 rfl w.heap.size 35 i2 (.agg #[.int .i64 0, .int .i64 0]) 2 16 undRids hi2 hz2 hy2 hx2 rfl (by decide) gb 0 0 [] rfl OB.out _ m _ rfl (HSV.out.up H3.out) HLV.out (one_rids _) (by unfold maxLen; omega) (by omega) H3.out.size ?_
            intro g4 c4 W4 ho hg _
            have H4 := Lib.hid (below_grown H3.out OB.out hg H3.out.size)
            replace OA := Lib.hid (own_apart OA.out OB.out (by decide) hg)
            rw [Nat.zero_add]
            rw [Nat.zero_add, List.nil_append] at ho
            replace OB := Lib.hid ho
            clear hHeld H3 ho hg
            refine hK.out _ _ (HS.out _ H4.out) (fun hHeld => ?_)
            clear hK K
            try simp only [Act.put, List.setIfInBounds_toArray, List.set_cons_zero, List.set_cons_succ]
            refine wpAnyH_take (i := 22) (oi := ⟨_, _, _, _, _, _⟩) (v := ?_) rfl (by kernel_rfl) (by kernel_rfl) (by kernel_rfl) (fun _ _ _ h => h) (Or.inl ⟨by rfl, ?_⟩) (by assumption) ?_
            rotate_left
            · intro W hSW
              try dsimp only at hSW
              go_simp
              try with_reducible rfl
            rotate_left
            try simp only [Act.put, List.setIfInBounds_toArray, List.set_cons_zero, List.set_cons_succ]
            refine wpAnyH_take (i := 23) (oi := ⟨_, _, _, _, _, _⟩) (v := ?_) rfl (by kernel_rfl) (by kernel_rfl) (by kernel_rfl) (fun _ _ _ h => h) (Or.inl ⟨by rfl, ?_⟩) (by assumption) ?_
            rotate_left
            · intro W hSW
              try dsimp only at hSW
              go_simp
              try with_reducible rfl
            rotate_left
            try simp only [Act.put, List.setIfInBounds_toArray, List.set_cons_zero, List.set_cons_succ]
            refine wpAnyH_done (by kernel_rfl) ?_ _
            go_wp2_with fail
            refine bodyPost_ret (v := .tuple #[.slice (some ⟨g3, 0, none⟩) m c3, .slice (some ⟨g4, 0, none⟩) m c4]) ?_ rfl ⟨_, _, rfl, H4.out, by rw [HLEN.out]; exact OA.out, by rw [HLEN.out]; exact OB.out⟩
            simp [results, Try.results22, go_sem]
    · rw [if_pos (by rfl)]
      go_simp
      have H1 := Lib.hid (H0.out.alloc H0.out.size (.cells #[] 35))
      have OB := Lib.hid (World.ownsRow_made (e := 35) (size := 2) W0 #[] 0 H0.out.size (by decide) rfl)
      clear hHeld H0
      generalize W0.alloc (.cells #[] 35) = W1 at *
      generalize W0.heap.size = gb at *
      refine hK.out _ _ (HS.out _ H1.out) (fun hHeld => ?_)
      clear hK K
      try simp only [Act.put, List.setIfInBounds_toArray, List.set_cons_zero, List.set_cons_succ]
      refine wpAnyH_ready (rs := [0]) (by kernel_rfl) (by simp) ?_
      refine AllReadyH.cons (o := ⟨_, _, _, _, _, _⟩) rfl (fun K hK => ?_) (AllReadyH.nil)
      · rw [if_pos (by rfl)]
        go_simp
        have H2 := Lib.hid (H1.out.alloc H1.out.size (.cells #[] 9))
        have OA := Lib.hid (World.ownsRow_made (e := 9) (size := 1) W1 #[] 0 H1.out.size (by decide) rfl)
        replace OB := Lib.hid (own_up OB.out ((Below.refl _ W1).alloc (Nat.le_refl _) (.cells #[] 9)))
        clear hHeld H1
        generalize W1.alloc (.cells #[] 9) = W2 at *
        generalize W1.heap.size = ga at *
        refine hK.out _ _ (HS.out _ H2.out) (fun hHeld => ?_)
        clear hK K
        try simp only [Act.put, List.setIfInBounds_toArray, List.set_cons_zero, List.set_cons_succ]
        refine wpAnyH_ready (rs := [10]) (by kernel_rfl) (by simp) ?_
        refine AllReadyH.cons (o := ⟨_, _, _, _, _, _⟩) rfl (fun K hK => ?_) (AllReadyH.nil)
        · refine step_append_src rfl (.tmp 29) (.tmp 38) 27 rfl w.heap.size 9 i1 (.string ⟨#[]⟩) 1 16 undStrs hi1 hz1 hy1 hx1 rfl (by decide) ga 0 0 [] rfl OA.out _ m _ rfl (HSK.out.up H2.out) HLK.out (one_keys _) (by unfold maxLen; omega) (by omega) H2.out.size ?_
          intro g3 c3 W3 ho hg _
          have H3 := Lib.hid (below_grown H2.out OA.out hg H2.out.size)
          replace OB := Lib.hid (own_apart OB.out OA.out (by decide) hg)
          rw [Nat.zero_add]
          rw [Nat.zero_add, List.nil_append] at ho
          replace OA := Lib.hid ho
          clear hHeld H2 ho hg
          refine hK.out _ _ (HS.out _ H3.out) (fun hHeld => ?_)
          clear hK K
          try simp only [Act.put, List.setIfInBounds_toArray, List.set_cons_zero, List.set_cons_succ]
          refine wpAnyH_ready (rs := [21]) (by kernel_rfl) (by simp) ?_
          refine AllReadyH.cons (o := ⟨_, _, _, _, _, _⟩) rfl (fun K hK => ?_) (AllReadyH.nil)
          · refine step_append_src rfl (.tmp 40) (.tmp 49) 28 rfl w.heap.size 35 i2 (.agg #[.int .i64 0, .int .i64 0]) 2 16 undRids hi2 hz2 hy2 hx2 rfl (by decide) gb 0 0 [] rfl OB.out _ m _ rfl (HSV.out.up H3.out) HLV.out (one_rids _) (by unfold maxLen; omega) (by omega) H3.out.size ?_
            intro g4 c4 W4 ho hg _
            have H4 := Lib.hid (below_grown H3.out OB.out hg H3.out.size)
            replace OA := Lib.hid (own_apart OA.out OB.out (by decide) hg)
            rw [Nat.zero_add]
            rw [Nat.zero_add, List.nil_append] at ho
            replace OB := Lib.hid ho
            clear hHeld H3 ho hg
            refine hK.out _ _ (HS.out _ H4.out) (fun hHeld => ?_)
            clear hK K
            try simp only [Act.put, List.setIfInBounds_toArray, List.set_cons_zero, List.set_cons_succ]
            refine wpAnyH_take (i := 22) (oi := ⟨_, _, _, _, _, _⟩) (v := ?_) rfl (by kernel_rfl) (by kernel_rfl) (by kernel_rfl) (fun _ _ _ h => h) (Or.inl ⟨by rfl, ?_⟩) (by assumption) ?_
            rotate_left
            · intro W hSW
              try dsimp only at hSW
              go_simp
              try with_reducible rfl
            rotate_left
            try simp only [Act.put, List.setIfInBounds_toArray, List.set_cons_zero, List.set_cons_succ]
            refine wpAnyH_take (i := 23) (oi := ⟨_, _, _, _, _, _⟩) (v := ?_) rfl (by kernel_rfl) (by kernel_rfl) (by kernel_rfl) (fun _ _ _ h => h) (Or.inl ⟨by rfl, ?_⟩) (by assumption) ?_
            rotate_left
            · intro W hSW
              try dsimp only at hSW
              go_simp
              try with_reducible rfl
            rotate_left
            try simp only [Act.put, List.setIfInBounds_toArray, List.set_cons_zero, List.set_cons_succ]
            refine wpAnyH_done (by kernel_rfl) ?_ _
            go_wp2_with fail
            refine bodyPost_ret (v := .tuple #[.slice (some ⟨g3, 0, none⟩) m c3, .slice (some ⟨g4, 0, none⟩) m c4]) ?_ rfl ⟨_, _, rfl, H4.out, by rw [HLEN.out]; exact OA.out, by rw [HLEN.out]; exact OB.out⟩
            simp [results, Try.results22, go_sem]
end Go.Proofs.Ytejbbojephiifaa
