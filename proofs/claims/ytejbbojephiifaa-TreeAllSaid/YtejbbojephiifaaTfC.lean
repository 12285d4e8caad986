/- The reference's tree: Cut. -/
import Derived.Test.YtejbbojephiifaaTfF
namespace Go.Proofs.Ytejbbojephiifaa
open Go.RowKit

def StT (n : Nat) (_ : Unit) (i : Nat) : Bool := i == n
theorem sliced_zero (p : Option Addr) (i c s : Nat) : sliced p 0 i c s = .slice p i c := by
  unfold sliced
  cases p <;> simp [Addr.add]
theorem own_base {w : World} {B B' k n : Nat} {e : TypeId} {v : Value} {xs : List Value} (h : w.ownsRow B' e k v n xs) (hB : B ≤ B') : w.ownsRow B e k v n xs := by
  refine ⟨h.1, ?_⟩
  rcases h.2 with h2 | ⟨g, cap, cur, h1, h2, h3⟩
  · exact .inl h2
  · exact .inr ⟨g, cap, cur, h1, Nat.le_trans hB h2, h3⟩
theorem own_st1 {W : World} {B k m q i : Nat} {e t : TypeId} {v u : Value} {xs : List Value} {cs : Array Value} (h : W.ownsRow B e k v m xs) (hq : W.heap[q]? = some (.cells cs t (0, 0))) (ht : t ≠ e) : (W.setCell ⟨q, i, none⟩ u).ownsRow B e k v m xs :=
  own_same h fun g hg => Below.heap_setCell _ _ _ _ (fun e => by
    obtain ⟨_, cs', h2⟩ := own_ty h hg
    exact ne_ty hq h2 ht e.symm)
/-- The reference's tree in memory, none of its blocks among A's. -/
structure RTA (A : Nat → Prop) (w : World) (B r : Nat) (xs : List KV) : Prop where
  hB : B ≤ r
  hA : ¬ A r
  ex : ∃ sk sv, w.heap[r]? = some (.cells #[sk, sv] 30 (0, 0)) ∧ w.ownsRow B 9 1 sk xs.length (xs.map keyV) ∧ w.ownsRow B 35 2 sv xs.length (xs.flatMap ridV) ∧ (∀ g, sk.ownBlock = some g → ¬ A g) ∧ ∀ g, sv.ownBlock = some g → ¬ A g
theorem RTA.rtr {A : Nat → Prop} {w : World} {B r : Nat} {xs : List KV} (h : RTA A w B r xs) : RTr w B r xs := by
  obtain ⟨sk, sv, h1, h2, h3, _⟩ := h.ex
  exact ⟨h.hB, sk, sv, h1, h2, h3⟩
theorem RTA.lt {A : Nat → Prop} {w : World} {B r : Nat} {xs : List KV} (h : RTA A w B r xs) : r < w.heap.size := h.rtr.lt
theorem RTA.below {A : Nat → Prop} {w w' : World} {B r : Nat} {xs : List KV} (h : RTA A w B r xs) (hb : Below w.heap.size w w') : RTA A w' B r xs := by
  obtain ⟨sk, sv, h1, h2, h3, h4⟩ := h.ex
  exact ⟨h.hB, h.hA, sk, sv, (hb.block r h.lt).trans h1, own_up h2 hb, own_up h3 hb, h4⟩
theorem own_avoid {A : Nat → Prop} {w : World} {B k n : Nat} {e : TypeId} {v : Value} {xs : List Value} (h : w.ownsRow B e k v n xs) (hA : ∀ a, A a → a < B) : ∀ g, v.ownBlock = some g → ¬ A g := fun g hg ha => by
  have h1 := (own_ty h hg).1
  have h2 := hA g ha
  omega
/-- What is left without the one at i. -/
theorem own_cut {w : World} {B k n : Nat} {e : TypeId} {v : Value} {xs ys : List Value} (h : w.ownsRow B e k v n xs) (e2 : xs = ys) : w.ownsRow B e k v n ys := e2 ▸ h

set_option maxRecDepth 100000 in
set_option maxHeartbeats 4000000 in
theorem rcut_any {A : Nat → Prop} (w : World) {B r : Nat} {xs : List KV} (h : RTA A w B r xs) (hA : ∀ a, A a → a < w.heap.size) (hB : B ≤ w.heap.size) (hx : xs.length ≤ 100000) (k : ByteArray) :
    Calls Try.prog 13 #[.pointer (some ⟨r, 0, none⟩), .string k] w fun e w' => e = .returned (.bool (has k xs)) ∧ RTA A w' B r (del k xs) ∧ Fr w.heap.size (· = r) w w' := by
  obtain ⟨i1, hi1, hz1, hy1, hx1⟩ := info_parts infoStr
  obtain ⟨i2, hi2, hz2, hy2, hx2⟩ := info_parts infoRid
  have hfd := rfind_any w h.rtr hx k
  have HDP := Lib.hid (del_pos k xs)
  have HHP := Lib.hid (has_pos k xs)
  have HR := Lib.hid h
  clear h
  cases hbz : has k xs with
  | false =>
    rw [hbz] at hfd
    have HFD := Lib.hid hfd
    have HE := Lib.hid (show del k xs = xs by rw [HDP.out, hbz]; rfl)
    clear hfd hbz
    go_enter Try.func13, Try.ntmps13
    go_wp2_with (first
      | (go_at_call 27; refine HFD.out.mono ?_; rintro e w1 ⟨rfl, hb1⟩; have HB1 := Lib.hid hb1; clear hb1))
    go_ret
    exact ⟨rfl, by rw [HE.out]; exact HR.out.below HB1.out, Fr.of_below HB1.out⟩
  | true =>
    rw [hbz] at hfd HHP HDP
    have hlt := (of_decide_eq_true HHP.out.symm : ∃ h : pos k xs < xs.length, (xs[pos k xs]'h).k = k).1
    have hdel : del k xs = xs.take (pos k xs) ++ xs.drop (pos k xs + 1) := HDP.out
    obtain ⟨i, hi⟩ : ∃ i, pos k xs = i := ⟨_, rfl⟩
    obtain ⟨n, hn⟩ : ∃ n, xs.length = n := ⟨_, rfl⟩
    rw [hi] at hfd hlt hdel
    rw [hn] at hlt hx
    have HFD := Lib.hid hfd
    have HDEL := Lib.hid hdel
    have HN := Lib.hid hn
    clear hfd hdel HHP HDP hbz hi hn
    go_enter Try.func13, Try.ntmps13
    go_upto_region 3 with (first
      | (go_at_call 27; refine HFD.out.mono ?_; rintro e w1 ⟨rfl, hb1⟩; have HB1 := Lib.hid hb1; have hr1 := HR.out.below hb1; clear hb1))
    obtain ⟨sk, sv, hr, hk, hv, _⟩ := hr1.ex
    rw [HN.out] at hk hv
    obtain ⟨pk, ck, rfl⟩ := own_sl hk
    obtain ⟨pv, cv, rfl⟩ := own_sl hv
    have hck : n ≤ ck := (own_cap hk).1
    have hcv : n ≤ cv := (own_cap hv).1
    have HRB := Lib.hid (And.intro hr1.hB hr1.lt)
    have HNA := Lib.hid hr1.hA
    have HSK1 := Lib.hid (own_src hk (l := 0) (r := i) (by omega) (by omega))
    have HSK2 := Lib.hid (own_src hk (l := i + 1) (r := n) (by omega) (by omega))
    have HLK1 := Lib.hid (cutV_len hk.1 (l := 0) (r := i) (by omega))
    have HLK2 := Lib.hid (cutV_len hk.1 (l := i + 1) (r := n) (by omega))
    have HLV1 := Lib.hid (cutV_len hv.1 (l := 0) (r := i) (by omega))
    have HLV2 := Lib.hid (cutV_len hv.1 (l := i + 1) (r := n) (by omega))
    obtain ⟨m, hm⟩ : ∃ m, n - (i + 1) = m := ⟨_, rfl⟩
    rw [hm] at HSK2 HLK2 HLV2
    rw [Nat.sub_zero] at HSK1 HLK1 HLV1
    rw [cut_keys] at HSK1 HSK2 HLK1 HLK2
    rw [cut_rids] at HLV1 HLV2
    obtain ⟨zk1, hzk1⟩ : ∃ z, sliced pk 0 i ck 1 = z := ⟨_, rfl⟩
    obtain ⟨zk2, hzk2⟩ : ∃ z, sliced pk (i + 1) n ck 1 = z := ⟨_, rfl⟩
    obtain ⟨zv1, hzv1⟩ : ∃ z, sliced pv 0 i cv 2 = z := ⟨_, rfl⟩
    obtain ⟨zv2, hzv2⟩ : ∃ z, sliced pv (i + 1) n cv 2 = z := ⟨_, rfl⟩
    rw [hzk1] at HSK1
    rw [hzk2] at HSK2
    have HZK1 := Lib.hid hzk1
    have HZK2 := Lib.hid hzk2
    have HZV1 := Lib.hid hzv1
    have HZV2 := Lib.hid hzv2
    have HHR := Lib.hid hr
    have HMM := Lib.hid hm
    have him : i + m + 1 = n := by omega
    have hwr : IntKind.i64.wrap ((i : Int) + 1) = ((i + 1 : Nat) : Int) := (IntWalk.i64_in _ (by omega)).trans (by omega)
    have HV := Lib.hid hv
    clear hk hv hr hr1 HR HFD hzk1 hzk2 hzv1 hzv2 hm
    have HCk : Hid (∀ W : World, Below w1.heap.size w1 W → W.cell? ⟨r, 0, none⟩ = some (.slice pk n ck)) := fun W hb => (World.cell?_of_block (hb.block r HRB.out.2)).trans (cell_of HHR.out 0).1
    have HCkF : Hid (∀ W : World, Below w1.heap.size w1 W → W.frozen? ⟨r, 0, none⟩ = false) := fun W hb => (World.frozen?_of_block (hb.block r HRB.out.2)).trans (cell_of HHR.out 0).2
    refine wp_region_F (fun (_ : Unit) (W : World) => W.cell? ⟨r, 0, none⟩ = some (.slice pk n ck)) (StT 19) (by kernel_rfl) ?_
    have Hk0 := Lib.hid (Below.refl w1.heap.size w1).drew
    have hle := Hk0.out.size
    generalize w1.drew = Wk0 at *
    refine wpAnyF_take0 (i := 0) (oi := ⟨_, _, _, _, _, _⟩) (v := ?_) rfl (by kernel_rfl) (by kernel_rfl) (by kernel_rfl) (fun _ _ _ h => h) (Or.inl ⟨by rfl, ?_⟩) ?_
    rotate_left
    · intro W _
      go_simp
      try with_reducible rfl
    rotate_left
    try simp only [Act.put, List.setIfInBounds_toArray, List.set_cons_zero, List.set_cons_succ]
    refine wpAnyF_take0 (i := 2) (oi := ⟨_, _, _, _, _, _⟩) (v := ?_) rfl (by kernel_rfl) (by kernel_rfl) (by kernel_rfl) (fun _ _ _ h => h) (Or.inl ⟨by rfl, ?_⟩) ?_
    rotate_left
    · intro W _
      go_simp
      try with_reducible rfl
    rotate_left
    try simp only [Act.put, List.setIfInBounds_toArray, List.set_cons_zero, List.set_cons_succ]
    refine wpAnyF_take0 (i := 3) (oi := ⟨_, _, _, _, _, _⟩) (v := ?_) rfl (by kernel_rfl) (by kernel_rfl) (by kernel_rfl) (fun _ _ _ h => h) (Or.inl ⟨by rfl, ?_⟩) ?_
    rotate_left
    · intro W _
      go_simp
      try with_reducible rfl
    rotate_left
    try simp only [Act.put, List.setIfInBounds_toArray, List.set_cons_zero, List.set_cons_succ]
    refine wpAnyF_take0 (i := 4) (oi := ⟨_, _, _, _, _, _⟩) (v := ?_) rfl (by kernel_rfl) (by kernel_rfl) (by kernel_rfl) (fun _ _ _ h => h) (Or.inl ⟨by rfl, ?_⟩) ?_
    rotate_left
    · intro W _
      go_simp
      try with_reducible rfl
    rotate_left
    try simp only [Act.put, List.setIfInBounds_toArray, List.set_cons_zero, List.set_cons_succ]
    refine wpAnyF_take () (i := 5) (oi := ⟨_, _, _, _, _, _⟩) (v := (.slice pk n ck)) rfl (by kernel_rfl) (by kernel_rfl) (by kernel_rfl) (by kernel_rfl) (fun _ _ _ h => h) (HCk.out _ Hk0.out) (Or.inl ⟨by rfl, fun W hSW => ?_⟩) ?_
    · have hS : W.cell? ⟨r, 0, none⟩ = some (.slice pk n ck) := hSW
      go_simp
    try simp only [Act.put, List.setIfInBounds_toArray, List.set_cons_zero, List.set_cons_succ]
    refine wpAnyF_take0 (i := 6) (oi := ⟨_, _, _, _, _, _⟩) (v := ?_) rfl (by kernel_rfl) (by kernel_rfl) (by kernel_rfl) (fun _ _ _ h => h) (Or.inl ⟨by rfl, ?_⟩) ?_
    rotate_left
    · intro W _
      go_simp
      try with_reducible rfl
    rotate_left
    try simp only [Act.put, List.setIfInBounds_toArray, List.set_cons_zero, List.set_cons_succ]
    refine wpAnyF_take0 (i := 7) (oi := ⟨_, _, _, _, _, _⟩) (v := zk1) rfl (by kernel_rfl) (by kernel_rfl) (by kernel_rfl) (fun _ _ _ h => h) (Or.inl ⟨by rfl, fun W _ => ?_⟩) ?_
    · go_simp
      rw [← HZK1.out]
      first
        | rw [if_pos (show i ≤ ck by omega), sliced_zero]
        | (rw [if_pos ⟨by omega, by omega⟩]; simp [sliced, Addr.add])
    try simp only [Act.put, List.setIfInBounds_toArray, List.set_cons_zero, List.set_cons_succ]
    refine wpAnyF_take0 (i := 9) (oi := ⟨_, _, _, _, _, _⟩) (v := ?_) rfl (by kernel_rfl) (by kernel_rfl) (by kernel_rfl) (fun _ _ _ h => h) (Or.inl ⟨by rfl, ?_⟩) ?_
    rotate_left
    · intro W _
      go_simp
      try with_reducible rfl
    rotate_left
    try simp only [Act.put, List.setIfInBounds_toArray, List.set_cons_zero, List.set_cons_succ]
    refine wpAnyF_take0 (i := 10) (oi := ⟨_, _, _, _, _, _⟩) (v := ?_) rfl (by kernel_rfl) (by kernel_rfl) (by kernel_rfl) (fun _ _ _ h => h) (Or.inl ⟨by rfl, ?_⟩) ?_
    rotate_left
    · intro W _
      go_simp
      try with_reducible rfl
    rotate_left
    try simp only [Act.put, List.setIfInBounds_toArray, List.set_cons_zero, List.set_cons_succ]
    refine wpAnyF_take0 (i := 11) (oi := ⟨_, _, _, _, _, _⟩) (v := ?_) rfl (by kernel_rfl) (by kernel_rfl) (by kernel_rfl) (fun _ _ _ h => h) (Or.inl ⟨by rfl, ?_⟩) ?_
    rotate_left
    · intro W _
      go_simp
      try with_reducible rfl
    rotate_left
    try simp only [Act.put, List.setIfInBounds_toArray, List.set_cons_zero, List.set_cons_succ]
    refine wpAnyF_take () (i := 12) (oi := ⟨_, _, _, _, _, _⟩) (v := (.slice pk n ck)) rfl (by kernel_rfl) (by kernel_rfl) (by kernel_rfl) (by kernel_rfl) (fun _ _ _ h => h) (HCk.out _ Hk0.out) (Or.inl ⟨by rfl, fun W hSW => ?_⟩) ?_
    · have hS : W.cell? ⟨r, 0, none⟩ = some (.slice pk n ck) := hSW
      go_simp
    try simp only [Act.put, List.setIfInBounds_toArray, List.set_cons_zero, List.set_cons_succ]
    refine wpAnyF_take0 (i := 13) (oi := ⟨_, _, _, _, _, _⟩) (v := ?_) rfl (by kernel_rfl) (by kernel_rfl) (by kernel_rfl) (fun _ _ _ h => h) (Or.inl ⟨by rfl, ?_⟩) ?_
    rotate_left
    · intro W _
      go_simp
      try with_reducible rfl
    rotate_left
    try simp only [Act.put, List.setIfInBounds_toArray, List.set_cons_zero, List.set_cons_succ]
    refine wpAnyF_take0 (i := 14) (oi := ⟨_, _, _, _, _, _⟩) (v := .int .i64 ((i + 1 : Nat) : Int)) rfl (by kernel_rfl) (by kernel_rfl) (by kernel_rfl) (fun _ _ _ h => h) (Or.inl ⟨by rfl, fun W _ => ?_⟩) ?_
    · go_simp
      try rw [hwr]
    try simp only [Act.put, List.setIfInBounds_toArray, List.set_cons_zero, List.set_cons_succ]
    refine wpAnyF_take0 (i := 15) (oi := ⟨_, _, _, _, _, _⟩) (v := zk2) rfl (by kernel_rfl) (by kernel_rfl) (by kernel_rfl) (fun _ _ _ h => h) (Or.inl ⟨by rfl, fun W _ => ?_⟩) ?_
    · go_simp
      rw [← HZK2.out]
      first
        | rw [if_pos (show i ≤ ck by omega), sliced_zero]
        | (rw [if_pos ⟨by omega, by omega⟩]; simp [sliced, Addr.add])
    try simp only [Act.put, List.setIfInBounds_toArray, List.set_cons_zero, List.set_cons_succ]
    refine wpAnyF_ready (rs := [1]) (by kernel_rfl) (by simp) ?_
    refine AllReadyF.cons (o := ⟨_, _, _, _, _, _⟩) rfl (fun K hK => ?_) AllReadyF.nil
    rw [if_pos (by rfl)]
    go_simp
    have Hk1 := Lib.hid (Hk0.out.alloc Hk0.out.size (.cells #[] 9))
    have Ok := Lib.hid (World.ownsRow_made (e := 9) (size := 1) Wk0 #[] 0 Hk0.out.size (by decide) rfl)
    generalize Wk0.alloc (.cells #[] 9) = Wk1 at *
    generalize Wk0.heap.size = gk1 at *
    refine hK.out _ _ (fun _ _ _ => HCk.out _ Hk1.out) ?_
    clear hK K
    try simp only [Act.put, List.setIfInBounds_toArray, List.set_cons_zero, List.set_cons_succ]
    refine wpAnyF_ready (rs := [8]) (by kernel_rfl) (by simp) ?_
    refine AllReadyF.cons (o := ⟨_, _, _, _, _, _⟩) rfl (fun K hK => ?_) AllReadyF.nil
    refine step_append_src rfl (.tmp 15) (.tmp 21) 27 rfl w1.heap.size 9 i1 (.string ⟨#[]⟩) 1 16 undStrs hi1 hz1 hy1 hx1 rfl (by decide) gk1 0 0 [] rfl Ok.out _ i _ rfl (HSK1.out.up Hk1.out) HLK1.out (one_keys _) (by unfold maxLen; omega) (by omega) Hk1.out.size ?_
    intro gk2 ck2 Wk2 ho hg _
    have Hk2 := Lib.hid (below_grown Hk1.out Ok.out hg Hk1.out.size)
    rw [Nat.zero_add]
    rw [Nat.zero_add, List.nil_append] at ho
    replace Ok := Lib.hid ho
    clear ho hg
    refine hK.out _ _ (fun _ _ _ => HCk.out _ Hk2.out) ?_
    clear hK K
    try simp only [Act.put, List.setIfInBounds_toArray, List.set_cons_zero, List.set_cons_succ]
    refine wpAnyF_ready (rs := [16]) (by kernel_rfl) (by simp) ?_
    refine AllReadyF.cons (o := ⟨_, _, _, _, _, _⟩) rfl (fun K hK => ?_) AllReadyF.nil
    refine step_append_src rfl (.tmp 22) (.tmp 29) 27 rfl w1.heap.size 9 i1 (.string ⟨#[]⟩) 1 16 undStrs hi1 hz1 hy1 hx1 rfl (by decide) gk2 ck2 i _ rfl Ok.out _ m _ rfl (HSK2.out.up Hk2.out) HLK2.out (one_keys _) (by unfold maxLen; omega) (by omega) Hk2.out.size ?_
    intro gk3 ck3 Wk3 ho hg _
    have Hk3 := Lib.hid (below_grown Hk2.out Ok.out hg Hk2.out.size)
    replace Ok := Lib.hid ho
    clear ho hg
    refine hK.out _ _ (fun _ _ _ => HCk.out _ Hk3.out) ?_
    clear hK K
    try simp only [Act.put, List.setIfInBounds_toArray, List.set_cons_zero, List.set_cons_succ]
    refine wpAnyF_take0 (i := 17) (oi := ⟨_, _, _, _, _, _⟩) (v := ?_) rfl (by kernel_rfl) (by kernel_rfl) (by kernel_rfl) (fun _ _ _ h => h) (Or.inl ⟨by rfl, ?_⟩) ?_
    rotate_left
    · intro W _
      go_simp
      try with_reducible rfl
    rotate_left
    try simp only [Act.put, List.setIfInBounds_toArray, List.set_cons_zero, List.set_cons_succ]
    refine wpAnyF_take0 (i := 18) (oi := ⟨_, _, _, _, _, _⟩) (v := ?_) rfl (by kernel_rfl) (by kernel_rfl) (by kernel_rfl) (fun _ _ _ h => h) (Or.inl ⟨by rfl, ?_⟩) ?_
    rotate_left
    · intro W _
      go_simp
      try with_reducible rfl
    rotate_left
    try simp only [Act.put, List.setIfInBounds_toArray, List.set_cons_zero, List.set_cons_succ]
    refine wpAnyF_ready (rs := [19]) (by kernel_rfl) (by simp) ?_
    refine AllReadyF.cons (o := ⟨_, _, _, _, _, _⟩) rfl (fun K hK => ?_) AllReadyF.nil
    have hcc := HCk.out _ Hk3.out
    have hff : Wk3.frozen? ⟨r, 0, none⟩ = false := HCkF.out _ Hk3.out
    rw [if_pos (by rfl)]
    go_simp
    refine hK.out _ _ (fun _ hT _ => by simp [StT] at hT) ?_
    clear hK K hcc hff
    try simp only [Act.put, List.setIfInBounds_toArray, List.set_cons_zero, List.set_cons_succ]
    refine wpAnyF_done (by kernel_rfl) ?_ _
    have hk0 : Wk3.heap[r]? = some (.cells #[(.slice pk n ck), (.slice pv n cv)] 30 (0, 0)) := (Hk3.out.block r HRB.out.2).trans HHR.out
    have hWK := heap_setCell_same Wk3 r 0 _ _ (.slice (some ⟨gk3, 0, none⟩) (i + m) ck3) hk0
    have hOK := own_st (u := .slice (some ⟨gk3, 0, none⟩) (i + m) ck3) Ok.out hk0 (by decide)
    have hVK := own_st (u := .slice (some ⟨gk3, 0, none⟩) (i + m) ck3) (own_up HV.out Hk3.out) hk0 (by decide)
    have hBK := (Fr.of_below (S := (· = r)) (Hk3.out.mono HB1.out.size)).setCell (p := ⟨r, 0, none⟩) (.inl rfl) (.slice (some ⟨gk3, 0, none⟩) (i + m) ck3)
    have hlw : w1.heap.size ≤ (Wk3.setCell ⟨r, 0, none⟩ (.slice (some ⟨gk3, 0, none⟩) (i + m) ck3)).heap.size := (below_set (q := r) (i := 0) (Hk3.out.mono (Nat.le_trans hB HB1.out.size)) HRB.out.1 (.slice (some ⟨gk3, 0, none⟩) (i + m) ck3)).size
    generalize Wk3.setCell ⟨r, 0, none⟩ (.slice (some ⟨gk3, 0, none⟩) (i + m) ck3) = WK at *
    have HWK : Hid (WK.heap[r]? = some (.cells #[(.slice (some ⟨gk3, 0, none⟩) (i + m) ck3), (.slice pv n cv)] 30 (0, 0))) := hWK
    have HOK := Lib.hid hOK
    have HVK := Lib.hid hVK
    have HBK := Lib.hid hBK
    have HSV1 := Lib.hid (own_src hVK (l := 0) (r := i) (by omega) (by omega))
    have HSV2 := Lib.hid (own_src hVK (l := i + 1) (r := n) (by omega) (by omega))
    rw [HMM.out, cut_rids, HZV2.out] at HSV2
    rw [Nat.sub_zero, cut_rids, HZV1.out] at HSV1
    have hrl : r < WK.heap.size := (Array.getElem?_eq_some_iff.1 hWK).1
    have HCv : Hid (∀ W : World, Below WK.heap.size WK W → W.cell? ⟨r, 1, none⟩ = some (.slice pv n cv)) := fun W hb => (World.cell?_of_block (hb.block r hrl)).trans (cell_of HWK.out 1).1
    have HCvF : Hid (∀ W : World, Below WK.heap.size WK W → W.frozen? ⟨r, 1, none⟩ = false) := fun W hb => (World.frozen?_of_block (hb.block r hrl)).trans (cell_of HWK.out 1).2
    clear hk0 hWK hOK hVK hBK Ok HCk HCkF HSK1 HSK2 Hk3 Hk2 Hk1 Hk0
    go_wp2_with fail
    refine wp_region_F (fun (_ : Unit) (W : World) => W.cell? ⟨r, 1, none⟩ = some (.slice pv n cv)) (StT 19) (by kernel_rfl) ?_
    have Hv0 := Lib.hid (Below.refl WK.heap.size WK).drew
    have hle := Hv0.out.size
    generalize WK.drew = Wv0 at *
    refine wpAnyF_take0 (i := 0) (oi := ⟨_, _, _, _, _, _⟩) (v := ?_) rfl (by kernel_rfl) (by kernel_rfl) (by kernel_rfl) (fun _ _ _ h => h) (Or.inl ⟨by rfl, ?_⟩) ?_
    rotate_left
    · intro W _
      go_simp
      try with_reducible rfl
    rotate_left
    try simp only [Act.put, List.setIfInBounds_toArray, List.set_cons_zero, List.set_cons_succ]
    refine wpAnyF_take0 (i := 2) (oi := ⟨_, _, _, _, _, _⟩) (v := ?_) rfl (by kernel_rfl) (by kernel_rfl) (by kernel_rfl) (fun _ _ _ h => h) (Or.inl ⟨by rfl, ?_⟩) ?_
    rotate_left
    · intro W _
      go_simp
      try with_reducible rfl
    rotate_left
    try simp only [Act.put, List.setIfInBounds_toArray, List.set_cons_zero, List.set_cons_succ]
    refine wpAnyF_take0 (i := 3) (oi := ⟨_, _, _, _, _, _⟩) (v := ?_) rfl (by kernel_rfl) (by kernel_rfl) (by kernel_rfl) (fun _ _ _ h => h) (Or.inl ⟨by rfl, ?_⟩) ?_
    rotate_left
    · intro W _
      go_simp
      try with_reducible rfl
    rotate_left
    try simp only [Act.put, List.setIfInBounds_toArray, List.set_cons_zero, List.set_cons_succ]
    refine wpAnyF_take0 (i := 4) (oi := ⟨_, _, _, _, _, _⟩) (v := ?_) rfl (by kernel_rfl) (by kernel_rfl) (by kernel_rfl) (fun _ _ _ h => h) (Or.inl ⟨by rfl, ?_⟩) ?_
    rotate_left
    · intro W _
      go_simp
      try with_reducible rfl
    rotate_left
    try simp only [Act.put, List.setIfInBounds_toArray, List.set_cons_zero, List.set_cons_succ]
    refine wpAnyF_take () (i := 5) (oi := ⟨_, _, _, _, _, _⟩) (v := (.slice pv n cv)) rfl (by kernel_rfl) (by kernel_rfl) (by kernel_rfl) (by kernel_rfl) (fun _ _ _ h => h) (HCv.out _ Hv0.out) (Or.inl ⟨by rfl, fun W hSW => ?_⟩) ?_
    · have hS : W.cell? ⟨r, 1, none⟩ = some (.slice pv n cv) := hSW
      go_simp
    try simp only [Act.put, List.setIfInBounds_toArray, List.set_cons_zero, List.set_cons_succ]
    refine wpAnyF_take0 (i := 6) (oi := ⟨_, _, _, _, _, _⟩) (v := ?_) rfl (by kernel_rfl) (by kernel_rfl) (by kernel_rfl) (fun _ _ _ h => h) (Or.inl ⟨by rfl, ?_⟩) ?_
    rotate_left
    · intro W _
      go_simp
      try with_reducible rfl
    rotate_left
    try simp only [Act.put, List.setIfInBounds_toArray, List.set_cons_zero, List.set_cons_succ]
    refine wpAnyF_take0 (i := 7) (oi := ⟨_, _, _, _, _, _⟩) (v := zv1) rfl (by kernel_rfl) (by kernel_rfl) (by kernel_rfl) (fun _ _ _ h => h) (Or.inl ⟨by rfl, fun W _ => ?_⟩) ?_
    · go_simp
      rw [← HZV1.out]
      first
        | rw [if_pos (show i ≤ cv by omega), sliced_zero]
        | (rw [if_pos ⟨by omega, by omega⟩]; simp [sliced, Addr.add])
    try simp only [Act.put, List.setIfInBounds_toArray, List.set_cons_zero, List.set_cons_succ]
    refine wpAnyF_take0 (i := 9) (oi := ⟨_, _, _, _, _, _⟩) (v := ?_) rfl (by kernel_rfl) (by kernel_rfl) (by kernel_rfl) (fun _ _ _ h => h) (Or.inl ⟨by rfl, ?_⟩) ?_
    rotate_left
    · intro W _
      go_simp
      try with_reducible rfl
    rotate_left
    try simp only [Act.put, List.setIfInBounds_toArray, List.set_cons_zero, List.set_cons_succ]
    refine wpAnyF_take0 (i := 10) (oi := ⟨_, _, _, _, _, _⟩) (v := ?_) rfl (by kernel_rfl) (by kernel_rfl) (by kernel_rfl) (fun _ _ _ h => h) (Or.inl ⟨by rfl, ?_⟩) ?_
    rotate_left
    · intro W _
      go_simp
      try with_reducible rfl
    rotate_left
    try simp only [Act.put, List.setIfInBounds_toArray, List.set_cons_zero, List.set_cons_succ]
    refine wpAnyF_take0 (i := 11) (oi := ⟨_, _, _, _, _, _⟩) (v := ?_) rfl (by kernel_rfl) (by kernel_rfl) (by kernel_rfl) (fun _ _ _ h => h) (Or.inl ⟨by rfl, ?_⟩) ?_
    rotate_left
    · intro W _
      go_simp
      try with_reducible rfl
    rotate_left
    try simp only [Act.put, List.setIfInBounds_toArray, List.set_cons_zero, List.set_cons_succ]
    refine wpAnyF_take () (i := 12) (oi := ⟨_, _, _, _, _, _⟩) (v := (.slice pv n cv)) rfl (by kernel_rfl) (by kernel_rfl) (by kernel_rfl) (by kernel_rfl) (fun _ _ _ h => h) (HCv.out _ Hv0.out) (Or.inl ⟨by rfl, fun W hSW => ?_⟩) ?_
    · have hS : W.cell? ⟨r, 1, none⟩ = some (.slice pv n cv) := hSW
      go_simp
    try simp only [Act.put, List.setIfInBounds_toArray, List.set_cons_zero, List.set_cons_succ]
    refine wpAnyF_take0 (i := 13) (oi := ⟨_, _, _, _, _, _⟩) (v := ?_) rfl (by kernel_rfl) (by kernel_rfl) (by kernel_rfl) (fun _ _ _ h => h) (Or.inl ⟨by rfl, ?_⟩) ?_
    rotate_left
    · intro W _
      go_simp
      try with_reducible rfl
    rotate_left
    try simp only [Act.put, List.setIfInBounds_toArray, List.set_cons_zero, List.set_cons_succ]
    refine wpAnyF_take0 (i := 14) (oi := ⟨_, _, _, _, _, _⟩) (v := .int .i64 ((i + 1 : Nat) : Int)) rfl (by kernel_rfl) (by kernel_rfl) (by kernel_rfl) (fun _ _ _ h => h) (Or.inl ⟨by rfl, fun W _ => ?_⟩) ?_
    · go_simp
      try rw [hwr]
    try simp only [Act.put, List.setIfInBounds_toArray, List.set_cons_zero, List.set_cons_succ]
    refine wpAnyF_take0 (i := 15) (oi := ⟨_, _, _, _, _, _⟩) (v := zv2) rfl (by kernel_rfl) (by kernel_rfl) (by kernel_rfl) (fun _ _ _ h => h) (Or.inl ⟨by rfl, fun W _ => ?_⟩) ?_
    · go_simp
      rw [← HZV2.out]
      first
        | rw [if_pos (show i ≤ cv by omega), sliced_zero]
        | (rw [if_pos ⟨by omega, by omega⟩]; simp [sliced, Addr.add])
    try simp only [Act.put, List.setIfInBounds_toArray, List.set_cons_zero, List.set_cons_succ]
    refine wpAnyF_ready (rs := [1]) (by kernel_rfl) (by simp) ?_
    refine AllReadyF.cons (o := ⟨_, _, _, _, _, _⟩) rfl (fun K hK => ?_) AllReadyF.nil
    rw [if_pos (by rfl)]
    go_simp
    have Hv1 := Lib.hid (Hv0.out.alloc Hv0.out.size (.cells #[] 35))
    have Ov := Lib.hid (World.ownsRow_made (e := 35) (size := 2) Wv0 #[] 0 Hv0.out.size (by decide) rfl)
    generalize Wv0.alloc (.cells #[] 35) = Wv1 at *
    generalize Wv0.heap.size = gv1 at *
    refine hK.out _ _ (fun _ _ _ => HCv.out _ Hv1.out) ?_
    clear hK K
    try simp only [Act.put, List.setIfInBounds_toArray, List.set_cons_zero, List.set_cons_succ]
    refine wpAnyF_ready (rs := [8]) (by kernel_rfl) (by simp) ?_
    refine AllReadyF.cons (o := ⟨_, _, _, _, _, _⟩) rfl (fun K hK => ?_) AllReadyF.nil
    refine step_append_src rfl (.tmp 34) (.tmp 40) 28 rfl WK.heap.size 35 i2 (.agg #[.int .i64 0, .int .i64 0]) 2 16 undRids hi2 hz2 hy2 hx2 rfl (by decide) gv1 0 0 [] rfl Ov.out _ i _ rfl (HSV1.out.up Hv1.out) HLV1.out (one_rids _) (by unfold maxLen; omega) (by omega) Hv1.out.size ?_
    intro gv2 cv2 Wv2 ho hg _
    have Hv2 := Lib.hid (below_grown Hv1.out Ov.out hg Hv1.out.size)
    rw [Nat.zero_add]
    rw [Nat.zero_add, List.nil_append] at ho
    replace Ov := Lib.hid ho
    clear ho hg
    refine hK.out _ _ (fun _ _ _ => HCv.out _ Hv2.out) ?_
    clear hK K
    try simp only [Act.put, List.setIfInBounds_toArray, List.set_cons_zero, List.set_cons_succ]
    refine wpAnyF_ready (rs := [16]) (by kernel_rfl) (by simp) ?_
    refine AllReadyF.cons (o := ⟨_, _, _, _, _, _⟩) rfl (fun K hK => ?_) AllReadyF.nil
    refine step_append_src rfl (.tmp 41) (.tmp 48) 28 rfl WK.heap.size 35 i2 (.agg #[.int .i64 0, .int .i64 0]) 2 16 undRids hi2 hz2 hy2 hx2 rfl (by decide) gv2 cv2 i _ rfl Ov.out _ m _ rfl (HSV2.out.up Hv2.out) HLV2.out (one_rids _) (by unfold maxLen; omega) (by omega) Hv2.out.size ?_
    intro gv3 cv3 Wv3 ho hg _
    have Hv3 := Lib.hid (below_grown Hv2.out Ov.out hg Hv2.out.size)
    replace Ov := Lib.hid ho
    clear ho hg
    refine hK.out _ _ (fun _ _ _ => HCv.out _ Hv3.out) ?_
    clear hK K
    try simp only [Act.put, List.setIfInBounds_toArray, List.set_cons_zero, List.set_cons_succ]
    refine wpAnyF_take0 (i := 17) (oi := ⟨_, _, _, _, _, _⟩) (v := ?_) rfl (by kernel_rfl) (by kernel_rfl) (by kernel_rfl) (fun _ _ _ h => h) (Or.inl ⟨by rfl, ?_⟩) ?_
    rotate_left
    · intro W _
      go_simp
      try with_reducible rfl
    rotate_left
    try simp only [Act.put, List.setIfInBounds_toArray, List.set_cons_zero, List.set_cons_succ]
    refine wpAnyF_take0 (i := 18) (oi := ⟨_, _, _, _, _, _⟩) (v := ?_) rfl (by kernel_rfl) (by kernel_rfl) (by kernel_rfl) (fun _ _ _ h => h) (Or.inl ⟨by rfl, ?_⟩) ?_
    rotate_left
    · intro W _
      go_simp
      try with_reducible rfl
    rotate_left
    try simp only [Act.put, List.setIfInBounds_toArray, List.set_cons_zero, List.set_cons_succ]
    refine wpAnyF_ready (rs := [19]) (by kernel_rfl) (by simp) ?_
    refine AllReadyF.cons (o := ⟨_, _, _, _, _, _⟩) rfl (fun K hK => ?_) AllReadyF.nil
    have hcc := HCv.out _ Hv3.out
    have hff : Wv3.frozen? ⟨r, 1, none⟩ = false := HCvF.out _ Hv3.out
    rw [if_pos (by rfl)]
    go_simp
    refine hK.out _ _ (fun _ hT _ => by simp [StT] at hT) ?_
    clear hK K hcc hff
    try simp only [Act.put, List.setIfInBounds_toArray, List.set_cons_zero, List.set_cons_succ]
    refine wpAnyF_done (by kernel_rfl) ?_ _
    have hv0 : Wv3.heap[r]? = some (.cells #[(.slice (some ⟨gk3, 0, none⟩) (i + m) ck3), (.slice pv n cv)] 30 (0, 0)) := (Hv3.out.block r hrl).trans HWK.out
    have hWV := heap_setCell_same Wv3 r 1 _ _ (.slice (some ⟨gv3, 0, none⟩) (i + m) cv3) hv0
    have hOV := own_st1 (i := 1) (u := .slice (some ⟨gv3, 0, none⟩) (i + m) cv3) Ov.out hv0 (by decide)
    have hKV := own_st1 (i := 1) (u := .slice (some ⟨gv3, 0, none⟩) (i + m) cv3) (own_up HOK.out Hv3.out) hv0 (by decide)
    have hBV := (HBK.out.below Hv3.out (Nat.le_trans HB1.out.size hlw)).setCell (p := ⟨r, 1, none⟩) (.inl rfl) (.slice (some ⟨gv3, 0, none⟩) (i + m) cv3)
    generalize Wv3.setCell ⟨r, 1, none⟩ (.slice (some ⟨gv3, 0, none⟩) (i + m) cv3) = WV at *
    go_wp2_with fail
    go_ret
    have hnx := HN.out
    have hdl : (del k xs).length = i + m := by rw [HDEL.out, List.length_append, List.length_take, List.length_drop, hnx]; omega
    refine ⟨rfl, ⟨HRB.out.1, HNA.out, _, _, hWV, ?_, ?_, own_avoid hKV (fun a h => Nat.lt_of_lt_of_le (hA a h) HB1.out.size), own_avoid hOV (fun a h => Nat.lt_of_lt_of_le (hA a h) (Nat.le_trans HB1.out.size hlw))⟩, ?_⟩
    · rw [hdl]
      refine own_base (own_cut hKV ?_) (Nat.le_trans hB HB1.out.size)
      rw [HDEL.out, List.map_append, List.drop_zero, List.take_of_length_le (by omega : xs.length ≤ n)]
    · rw [hdl]
      refine own_base (own_cut hOV ?_) (Nat.le_trans (Nat.le_trans hB HB1.out.size) hlw)
      rw [HDEL.out, List.flatMap_append, List.drop_zero, List.take_of_length_le (by omega : xs.length ≤ n)]
    · exact (Fr.of_below HB1.out).trans hBV (Nat.le_refl _) (fun _ _ h => h)
end Go.Proofs.Ytejbbojephiifaa
