/- The reference's tree: Put of a new key. -/
import Derived.Test.YtejbbojephiifaaTfC
namespace Go.Proofs.Ytejbbojephiifaa
open Go.RowKit

def PtS (nb : Nat) (p c : Int) (r CELL : Nat) (val : Value) (k : Bool) (W : World) : Prop := match k with
  | true => W.cell? ⟨r, CELL, none⟩ = some val
  | false => W.heap[nb]? = some (.cells #[.int .i64 p, .int .i64 c] 35 (0, 0))
theorem src_new {W : World} {g n c m : Nat} {cs : Array Value} {t : TypeId} {news : List Value} (h : W.heap[g]? = some (.cells cs t (0, 0))) (hm : m = n) (hn : news = cs.toList) : Src W (.slice (some ⟨g, 0, none⟩) n c) m news := by
  subst hm hn
  refine .inr ⟨_, _, rfl, fun j u hu => ?_⟩
  rw [add_more, (cell_of h _).1, Nat.zero_add]
  rwa [Array.getElem?_toList] at hu
theorem grown_keep {w w' : World} {g k : Nat} {o : Obj} (hg : w.grownBy w' (some g)) (h : w.heap[k]? = some o) (hn : k ≠ g) : w'.heap[k]? = some o :=
  (hg.block k (Array.getElem?_eq_some_iff.1 h).1 (fun e => hn (Option.some.inj e))).trans h
theorem lt_of_heap {w : World} {k : Nat} {o : Obj} (h : w.heap[k]? = some o) : k < w.heap.size := (Array.getElem?_eq_some_iff.1 h).1
theorem own_blk_lt {w : World} {B k n g c : Nat} {e : TypeId} {xs : List Value} (h : w.ownsRow B e k (.slice (some ⟨g, 0, none⟩) n c) n xs) : g < w.heap.size := own_lt h rfl

/-- Behind one of the two regions: the tree's cell has turned to a row of one's own. -/
structure PMid (B b1 nb r i m : Nat) (sk sv : Value) (lk lv : List Value) (nk nv : Nat) (p c : Int) (w wx : World) : Prop where
  hp : wx.heap[r]? = some (.cells #[sk, sv] 30 (0, 0))
  ok : wx.ownsRow b1 9 1 sk nk lk
  ov : wx.ownsRow B 35 2 sv nv lv
  bx : wx.heap[nb]? = some (.cells #[.int .i64 p, .int .i64 c] 35 (0, 0))
  bl : Fr w.heap.size (· = r) w wx
  le : b1 ≤ wx.heap.size

set_option maxRecDepth 100000 in
set_option maxHeartbeats 8000000 in
theorem rput_new {A : Nat → Prop} (w : World) {B r : Nat} {xs : List KV} (h : RTA A w B r xs) (hA : ∀ a, A a → a < w.heap.size) (hB : B ≤ w.heap.size) (hx : xs.length ≤ 100000) (x : KV) (hbz : has x.k xs = false) :
    Calls Try.prog 15 #[.pointer (some ⟨r, 0, none⟩), .string x.k, .agg #[.int .i64 x.p, .int .i64 x.c]] w fun e w' => e = .returned (.bool true) ∧ RTA A w' B r (ins x xs) ∧ Fr w.heap.size (· = r) w w' := by
  obtain ⟨i1, hi1, hz1, hy1, hx1⟩ := info_parts infoStr
  obtain ⟨i2, hi2, hz2, hy2, hx2⟩ := info_parts infoRid
  have hb0 := (Below.refl w.heap.size w).alloc (Nat.le_refl _) (.cells #[.int .i64 x.p, .int .i64 x.c] 35)
  have hrw := h.lt
  have hfd := rfind_any _ (h.below hb0).rtr hx x.k
  have hip := ins_pos x xs
  have hpl := pos_le x.k xs
  rw [hbz] at hfd hip
  simp only [Bool.false_eq_true, if_false] at hip
  obtain ⟨i, hi⟩ : ∃ i, pos x.k xs = i := ⟨_, rfl⟩
  obtain ⟨n, hn⟩ : ∃ n, xs.length = n := ⟨_, rfl⟩
  rw [hi] at hfd hip hpl
  rw [hn] at hpl hx
  have HR := Lib.hid (h.below hb0)
  have HNB := Lib.hid (heap_alloc_new w (.cells #[.int .i64 x.p, .int .i64 x.c] 35))
  have HB0 := Lib.hid hb0
  have HFD := Lib.hid hfd
  have HINS := Lib.hid hip
  have HN := Lib.hid hn
  have HRW := Lib.hid hrw
  clear hfd hip hi hn h hb0 hbz hrw
  go_enter Try.func15, Try.ntmps15
  go_upto_region 6 with (first
    | (go_at_call 27; refine HFD.out.mono ?_; rintro e w1 ⟨rfl, hb1⟩; have HB1 := Lib.hid (HB0.out.trans (hb1.mono HB0.out.size)); have hr1 := HR.out.below hb1; have hnb := (hb1.block _ (lt_of_heap HNB.out)).trans HNB.out; clear hb1))
  obtain ⟨sk, sv, hr, hk, hv, _⟩ := hr1.ex
  rw [HN.out] at hk hv
  obtain ⟨pk, ck, rfl⟩ := own_sl hk
  obtain ⟨pv, cv, rfl⟩ := own_sl hv
  have hck : n ≤ ck := (own_cap hk).1
  have hcv : n ≤ cv := (own_cap hv).1
  have HRB := Lib.hid (And.intro hr1.hB hr1.lt)
  have HNA := Lib.hid hr1.hA
  have HSK1 := Lib.hid (own_src hk (l := 0) (r := i) (by omega) (by omega))
  have HSK2 := Lib.hid (own_src hk (l := i) (r := n) (by omega) (by omega))
  have HLK1 := Lib.hid (cutV_len hk.1 (l := 0) (r := i) (by omega))
  have HLK2 := Lib.hid (cutV_len hk.1 (l := i) (r := n) (by omega))
  have HLV1 := Lib.hid (cutV_len hv.1 (l := 0) (r := i) (by omega))
  have HLV2 := Lib.hid (cutV_len hv.1 (l := i) (r := n) (by omega))
  obtain ⟨m, hm⟩ : ∃ m, n - i = m := ⟨_, rfl⟩
  rw [hm] at HSK2 HLK2 HLV2
  rw [Nat.sub_zero] at HSK1 HLK1 HLV1
  rw [cut_keys] at HSK1 HSK2 HLK1 HLK2
  rw [cut_rids] at HLV1 HLV2
  obtain ⟨zk1, hzk1⟩ : ∃ z, sliced pk 0 i ck 1 = z := ⟨_, rfl⟩
  obtain ⟨zk2, hzk2⟩ : ∃ z, sliced pk i n ck 1 = z := ⟨_, rfl⟩
  obtain ⟨zv1, hzv1⟩ : ∃ z, sliced pv 0 i cv 2 = z := ⟨_, rfl⟩
  obtain ⟨zv2, hzv2⟩ : ∃ z, sliced pv i n cv 2 = z := ⟨_, rfl⟩
  rw [hzk1] at HSK1
  rw [hzk2] at HSK2
  have HZK1 := Lib.hid hzk1
  have HZK2 := Lib.hid hzk2
  have HZV1 := Lib.hid hzv1
  have HZV2 := Lib.hid hzv2
  have HHR := Lib.hid hr
  have HMM := Lib.hid hm
  have him : i + m = n := by omega
  have HV := Lib.hid hv
  have HNB1 := Lib.hid hnb
  clear hk hv hr hr1 HR HFD hzk1 hzk2 hzv1 hzv2 hm hnb
  have HCk : Hid (∀ (k : Bool) (W : World), Below w1.heap.size w1 W → PtS w.heap.size x.p x.c r 0 (.slice pk n ck) k W) := fun k W hb => by
    cases k
    · exact (hb.block _ (lt_of_heap HNB1.out)).trans HNB1.out
    · exact (World.cell?_of_block (hb.block r HRB.out.2)).trans (cell_of HHR.out 0).1
  have HCkF : Hid (∀ W : World, Below w1.heap.size w1 W → W.frozen? ⟨r, 0, none⟩ = false) := fun W hb => (World.frozen?_of_block (hb.block r HRB.out.2)).trans (cell_of HHR.out 0).2
  go_cut [] (fun wx => ∃ g c, PMid B w1.heap.size w.heap.size r i m (.slice (some ⟨g, 0, none⟩) (i + 1 + m) c) (.slice pv n cv) (((xs.take i).map keyV ++ [.string x.k]) ++ (xs.drop i).map keyV) (xs.flatMap ridV) (i + 1 + m) n x.p x.c w wx)
  case first =>
    refine wp_region_F (PtS w.heap.size x.p x.c r 0 (.slice pk n ck)) (fun _ j => StT 21 () j) (by kernel_rfl) ?_
    have Hk0 := Lib.hid (Below.refl w1.heap.size w1).drew
    generalize w1.drew = Wk0 at *
    refine wpAnyF_take0 (i := 0) (oi := ⟨_, _, _, _, _, _⟩) (v := ?_) rfl (by kernel_rfl) (by kernel_rfl) (by kernel_rfl) (fun _ _ _ h => h) (Or.inl ⟨by rfl, ?_⟩) ?_
    rotate_left
    · intro W _
      go_simp
      try with_reducible rfl
    rotate_left
    try simp only [Act.put, List.setIfInBounds_toArray, List.set_cons_zero, List.set_cons_succ]
    refine wpAnyF_take0 (i := 2) (oi := ⟨_, _, _, _, _, _⟩) (v := ?_) rfl (by kernel_rfl) (by kernel_rfl) (by kernel_rfl) (fun _ _ _ h => h) (Or.inl ⟨by rfl, ?_⟩) ?_
    rotate_left
    · intro W _
      go_simp
      try with_reducible rfl
    rotate_left
    try simp only [Act.put, List.setIfInBounds_toArray, List.set_cons_zero, List.set_cons_succ]
    refine wpAnyF_take0 (i := 3) (oi := ⟨_, _, _, _, _, _⟩) (v := ?_) rfl (by kernel_rfl) (by kernel_rfl) (by kernel_rfl) (fun _ _ _ h => h) (Or.inl ⟨by rfl, ?_⟩) ?_
    rotate_left
    · intro W _
      go_simp
      try with_reducible rfl
    rotate_left
    try simp only [Act.put, List.setIfInBounds_toArray, List.set_cons_zero, List.set_cons_succ]
    refine wpAnyF_take0 (i := 4) (oi := ⟨_, _, _, _, _, _⟩) (v := ?_) rfl (by kernel_rfl) (by kernel_rfl) (by kernel_rfl) (fun _ _ _ h => h) (Or.inl ⟨by rfl, ?_⟩) ?_
    rotate_left
    · intro W _
      go_simp
      try with_reducible rfl
    rotate_left
    try simp only [Act.put, List.setIfInBounds_toArray, List.set_cons_zero, List.set_cons_succ]
    refine wpAnyF_take true (i := 5) (oi := ⟨_, _, _, _, _, _⟩) (v := (.slice pk n ck)) rfl (by kernel_rfl) (by kernel_rfl) (by kernel_rfl) (by kernel_rfl) (fun _ _ _ h => h) (HCk.out true _ Hk0.out) (Or.inl ⟨by rfl, fun W hSW => ?_⟩) ?_
    · have hS : W.cell? ⟨r, 0, none⟩ = some (.slice pk n ck) := hSW
      go_simp
    try simp only [Act.put, List.setIfInBounds_toArray, List.set_cons_zero, List.set_cons_succ]
    refine wpAnyF_take0 (i := 6) (oi := ⟨_, _, _, _, _, _⟩) (v := ?_) rfl (by kernel_rfl) (by kernel_rfl) (by kernel_rfl) (fun _ _ _ h => h) (Or.inl ⟨by rfl, ?_⟩) ?_
    rotate_left
    · intro W _
      go_simp
      try with_reducible rfl
    rotate_left
    try simp only [Act.put, List.setIfInBounds_toArray, List.set_cons_zero, List.set_cons_succ]
    refine wpAnyF_take0 (i := 7) (oi := ⟨_, _, _, _, _, _⟩) (v := zk1) rfl (by kernel_rfl) (by kernel_rfl) (by kernel_rfl) (fun _ _ _ h => h) (Or.inl ⟨by rfl, fun W _ => ?_⟩) ?_
    · go_simp
      rw [← HZK1.out]
      first
        | rw [if_pos (show i ≤ ck by omega), sliced_zero]
        | (rw [if_pos ⟨by omega, by omega⟩]; simp [sliced, Addr.add])
    try simp only [Act.put, List.setIfInBounds_toArray, List.set_cons_zero, List.set_cons_succ]
    refine wpAnyF_take0 (i := 9) (oi := ⟨_, _, _, _, _, _⟩) (v := ?_) rfl (by kernel_rfl) (by kernel_rfl) (by kernel_rfl) (fun _ _ _ h => h) (Or.inl ⟨by rfl, ?_⟩) ?_
    rotate_left
    · intro W _
      go_simp
      try with_reducible rfl
    rotate_left
    try simp only [Act.put, List.setIfInBounds_toArray, List.set_cons_zero, List.set_cons_succ]
    refine wpAnyF_take0 (i := 12) (oi := ⟨_, _, _, _, _, _⟩) (v := ?_) rfl (by kernel_rfl) (by kernel_rfl) (by kernel_rfl) (fun _ _ _ h => h) (Or.inl ⟨by rfl, ?_⟩) ?_
    rotate_left
    · intro W _
      go_simp
      try with_reducible rfl
    rotate_left
    try simp only [Act.put, List.setIfInBounds_toArray, List.set_cons_zero, List.set_cons_succ]
    refine wpAnyF_take0 (i := 13) (oi := ⟨_, _, _, _, _, _⟩) (v := ?_) rfl (by kernel_rfl) (by kernel_rfl) (by kernel_rfl) (fun _ _ _ h => h) (Or.inl ⟨by rfl, ?_⟩) ?_
    rotate_left
    · intro W _
      go_simp
      try with_reducible rfl
    rotate_left
    try simp only [Act.put, List.setIfInBounds_toArray, List.set_cons_zero, List.set_cons_succ]
    refine wpAnyF_take0 (i := 14) (oi := ⟨_, _, _, _, _, _⟩) (v := ?_) rfl (by kernel_rfl) (by kernel_rfl) (by kernel_rfl) (fun _ _ _ h => h) (Or.inl ⟨by rfl, ?_⟩) ?_
    rotate_left
    · intro W _
      go_simp
      try with_reducible rfl
    rotate_left
    try simp only [Act.put, List.setIfInBounds_toArray, List.set_cons_zero, List.set_cons_succ]
    refine wpAnyF_take true (i := 15) (oi := ⟨_, _, _, _, _, _⟩) (v := (.slice pk n ck)) rfl (by kernel_rfl) (by kernel_rfl) (by kernel_rfl) (by kernel_rfl) (fun _ _ _ h => h) (HCk.out true _ Hk0.out) (Or.inl ⟨by rfl, fun W hSW => ?_⟩) ?_
    · have hS : W.cell? ⟨r, 0, none⟩ = some (.slice pk n ck) := hSW
      go_simp
    try simp only [Act.put, List.setIfInBounds_toArray, List.set_cons_zero, List.set_cons_succ]
    refine wpAnyF_take0 (i := 16) (oi := ⟨_, _, _, _, _, _⟩) (v := ?_) rfl (by kernel_rfl) (by kernel_rfl) (by kernel_rfl) (fun _ _ _ h => h) (Or.inl ⟨by rfl, ?_⟩) ?_
    rotate_left
    · intro W _
      go_simp
      try with_reducible rfl
    rotate_left
    try simp only [Act.put, List.setIfInBounds_toArray, List.set_cons_zero, List.set_cons_succ]
    refine wpAnyF_take0 (i := 17) (oi := ⟨_, _, _, _, _, _⟩) (v := zk2) rfl (by kernel_rfl) (by kernel_rfl) (by kernel_rfl) (fun _ _ _ h => h) (Or.inl ⟨by rfl, fun W _ => ?_⟩) ?_
    · go_simp
      rw [← HZK2.out]
      first
        | rw [if_pos (show i ≤ ck by omega), sliced_zero]
        | (unfold sliced; rfl)
        | (unfold sliced; rw [Nat.mul_one])
        | (trace_state; sorry)
    try simp only [Act.put, List.setIfInBounds_toArray, List.set_cons_zero, List.set_cons_succ]
    refine wpAnyF_ready (rs := [1, 10]) (by kernel_rfl) (by simp) ?_
    refine AllReadyF.cons (o := ⟨_, _, _, _, _, _⟩) rfl (fun K hK => ?_) (AllReadyF.cons (o := ⟨_, _, _, _, _, _⟩) rfl (fun K hK => ?_) (AllReadyF.nil))
    · rw [if_pos (by rfl)]
      go_simp
      have Hk1 := Lib.hid (Hk0.out.alloc Hk0.out.size (.cells #[] 9))
      have Ok := Lib.hid (World.ownsRow_made (e := 9) (size := 1) Wk0 #[] 0 Hk0.out.size (by decide) rfl)
      generalize Wk0.alloc (.cells #[] 9) = Wk1 at *
      generalize Wk0.heap.size = gm at *
      refine hK.out _ _ (fun k _ _ => HCk.out k _ Hk1.out) ?_
      clear hK K
      try simp only [Act.put, List.setIfInBounds_toArray, List.set_cons_zero, List.set_cons_succ]
      refine wpAnyF_ready (rs := [8, 10]) (by kernel_rfl) (by simp) ?_
      refine AllReadyF.cons (o := ⟨_, _, _, _, _, _⟩) rfl (fun K hK => ?_) (AllReadyF.cons (o := ⟨_, _, _, _, _, _⟩) rfl (fun K hK => ?_) (AllReadyF.nil))
      · refine step_append_src rfl (.tmp 33) (.tmp 39) 27 rfl w1.heap.size 9 i1 (.string ⟨#[]⟩) 1 16 undStrs hi1 hz1 hy1 hx1 rfl (by decide) gm 0 0 [] rfl Ok.out _ i _ rfl (HSK1.out.up Hk1.out) (HLK1.out) (one_keys _) (by unfold maxLen; omega) (by omega) Hk1.out.size ?_
        intro g2 c2 Wk2 ho hg hor
        have Hk2 := Lib.hid (below_grown Hk1.out Ok.out hg Hk1.out.size)
        rw [Nat.zero_add]
        rw [Nat.zero_add, List.nil_append] at ho
        replace Ok := Lib.hid ho
        clear ho hg hor
        refine hK.out _ _ (fun k _ _ => HCk.out k _ Hk2.out) ?_
        clear hK K
        try simp only [Act.put, List.setIfInBounds_toArray, List.set_cons_zero, List.set_cons_succ]
        refine wpAnyF_ready (rs := [10]) (by kernel_rfl) (by simp) ?_
        refine AllReadyF.cons (o := ⟨_, _, _, _, _, _⟩) rfl (fun K hK => ?_) (AllReadyF.nil)
        · rw [if_pos (by rfl)]
          go_simp
          have Hk3 := Lib.hid (Hk2.out.alloc Hk2.out.size (.cells #[.string x.k] 9))
          have HE := Lib.hid (heap_alloc_new Wk2 (.cells #[.string x.k] 9))
          have HNE : Hid (Wk2.heap.size ≠ g2) := by have := own_blk_lt Ok.out; exact Nat.ne_of_gt this
          replace Ok := Lib.hid (own_up Ok.out ((Below.refl _ Wk2).alloc (Nat.le_refl _) (.cells #[.string x.k] 9)))
          generalize Wk2.alloc (.cells #[.string x.k] 9) = Wk3 at *
          generalize Wk2.heap.size = ge at *
          refine hK.out _ _ (fun k _ _ => HCk.out k _ Hk3.out) ?_
          clear hK K
          try simp only [Act.put, List.setIfInBounds_toArray, List.set_cons_zero, List.set_cons_succ]
          refine wpAnyF_ready (rs := [11]) (by kernel_rfl) (by simp) ?_
          refine AllReadyF.cons (o := ⟨_, _, _, _, _, _⟩) rfl (fun K hK => ?_) (AllReadyF.nil)
          refine step_append_src rfl (.tmp 40) (.tmp 42) 27 rfl w1.heap.size 9 i1 (.string ⟨#[]⟩) 1 16 undStrs hi1 hz1 hy1 hx1 rfl (by decide) g2 c2 i _ rfl Ok.out _ 1 [.string x.k] rfl (src_new HE.out rfl rfl) (rfl) (by intro u hu; simp at hu; subst hu; rfl) (by unfold maxLen; omega) (by omega) Hk3.out.size ?_
          intro g4 c4 Wk4 ho hg hor
          have Hk4 := Lib.hid (below_grown Hk3.out Ok.out hg Hk3.out.size)
          replace Ok := Lib.hid ho
          clear ho hg hor
          refine hK.out _ _ (fun k _ _ => HCk.out k _ Hk4.out) ?_
          clear hK K
          try simp only [Act.put, List.setIfInBounds_toArray, List.set_cons_zero, List.set_cons_succ]
          refine wpAnyF_ready (rs := [18]) (by kernel_rfl) (by simp) ?_
          refine AllReadyF.cons (o := ⟨_, _, _, _, _, _⟩) rfl (fun K hK => ?_) (AllReadyF.nil)
          refine step_append_src rfl (.tmp 43) (.tmp 49) 27 rfl w1.heap.size 9 i1 (.string ⟨#[]⟩) 1 16 undStrs hi1 hz1 hy1 hx1 rfl (by decide) g4 c4 (i + 1) _ rfl Ok.out _ m _ rfl (HSK2.out.up Hk4.out) (HLK2.out) (one_keys _) (by unfold maxLen; omega) (by omega) Hk4.out.size ?_
          intro g5 c5 Wk5 ho hg hor
          have Hk5 := Lib.hid (below_grown Hk4.out Ok.out hg Hk4.out.size)
          replace Ok := Lib.hid ho
          clear ho hg hor
          refine hK.out _ _ (fun k _ _ => HCk.out k _ Hk5.out) ?_
          clear hK K
          try simp only [Act.put, List.setIfInBounds_toArray, List.set_cons_zero, List.set_cons_succ]
          refine wpAnyF_take0 (i := 19) (oi := ⟨_, _, _, _, _, _⟩) (v := ?_) rfl (by kernel_rfl) (by kernel_rfl) (by kernel_rfl) (fun _ _ _ h => h) (Or.inl ⟨by rfl, ?_⟩) ?_
          rotate_left
          · intro W _
            go_simp
            try with_reducible rfl
          rotate_left
          try simp only [Act.put, List.setIfInBounds_toArray, List.set_cons_zero, List.set_cons_succ]
          refine wpAnyF_take0 (i := 20) (oi := ⟨_, _, _, _, _, _⟩) (v := ?_) rfl (by kernel_rfl) (by kernel_rfl) (by kernel_rfl) (fun _ _ _ h => h) (Or.inl ⟨by rfl, ?_⟩) ?_
          rotate_left
          · intro W _
            go_simp
            try with_reducible rfl
          rotate_left
          try simp only [Act.put, List.setIfInBounds_toArray, List.set_cons_zero, List.set_cons_succ]
          refine wpAnyF_ready (rs := [21]) (by kernel_rfl) (by simp) ?_
          refine AllReadyF.cons (o := ⟨_, _, _, _, _, _⟩) rfl (fun K hK => ?_) (AllReadyF.nil)
          have hcc : Wk5.cell? ⟨r, 0, none⟩ = some (.slice pk n ck) := HCk.out true _ Hk5.out
          have hff : Wk5.frozen? ⟨r, 0, none⟩ = false := HCkF.out _ Hk5.out
          rw [if_pos (by rfl)]
          go_simp
          refine hK.out _ _ (fun _ hT _ => by simp [StT] at hT) ?_
          clear hK K hcc hff
          try simp only [Act.put, List.setIfInBounds_toArray, List.set_cons_zero, List.set_cons_succ]
          refine wpAnyF_done (by kernel_rfl) ?_ _
          have hk0 : Wk5.heap[r]? = some (.cells #[(.slice pk n ck), (.slice pv n cv)] 30 (0, 0)) := (Hk5.out.block r HRB.out.2).trans HHR.out
          have hWK := heap_setCell_same Wk5 r 0 _ _ (.slice (some ⟨g5, 0, none⟩) (i + 1 + m) c5) hk0
          have hOK := own_st (u := .slice (some ⟨g5, 0, none⟩) (i + 1 + m) c5) Ok.out hk0 (by decide)
          have hVK := own_st (u := .slice (some ⟨g5, 0, none⟩) (i + 1 + m) c5) (own_up HV.out Hk5.out) hk0 (by decide)
          have hBK := (Fr.of_below (S := (· = r)) (Hk5.out.mono HB1.out.size)).setCell (p := ⟨r, 0, none⟩) (.inl rfl) (.slice (some ⟨g5, 0, none⟩) (i + 1 + m) c5)
          have hNK := (Below.heap_setCell Wk5 ⟨r, 0, none⟩ (.slice (some ⟨g5, 0, none⟩) (i + 1 + m) c5) w.heap.size (Nat.ne_of_gt HRW.out)).trans ((Hk5.out.block _ (lt_of_heap HNB1.out)).trans HNB1.out)
          have hSZ : w1.heap.size ≤ (Wk5.setCell ⟨r, 0, none⟩ (.slice (some ⟨g5, 0, none⟩) (i + 1 + m) c5)).heap.size := hBK.size
          generalize Wk5.setCell ⟨r, 0, none⟩ (.slice (some ⟨g5, 0, none⟩) (i + 1 + m) c5) = WK at *
          have HFIN : Hid (PMid B w1.heap.size w.heap.size r i m (.slice (some ⟨g5, 0, none⟩) (i + 1 + m) c5) (.slice pv n cv) (((xs.take i).map keyV ++ [.string x.k]) ++ (xs.drop i).map keyV) (xs.flatMap ridV) (i + 1 + m) n x.p x.c w WK) := by
            refine ⟨hWK, own_cut hOK ?_, hVK, hNK, (Fr.of_below HB1.out).trans hBK (Nat.le_refl _) (fun _ _ h => h), hSZ⟩
            have hnx := HN.out
            rw [List.drop_zero, List.take_of_length_le (by omega : xs.length ≤ n)]
          clear hk0 hWK hOK hVK hBK hNK hSZ
          go_wp2
          go_meet
          exact ⟨_, _, HFIN.out⟩
      · rw [if_pos (by rfl)]
        go_simp
        have Hk2 := Lib.hid (Hk1.out.alloc Hk1.out.size (.cells #[.string x.k] 9))
        have HE := Lib.hid (heap_alloc_new Wk1 (.cells #[.string x.k] 9))
        have HNE : Hid (Wk1.heap.size ≠ gm) := by have := own_blk_lt Ok.out; exact Nat.ne_of_gt this
        replace Ok := Lib.hid (own_up Ok.out ((Below.refl _ Wk1).alloc (Nat.le_refl _) (.cells #[.string x.k] 9)))
        generalize Wk1.alloc (.cells #[.string x.k] 9) = Wk2 at *
        generalize Wk1.heap.size = ge at *
        refine hK.out _ _ (fun k _ _ => HCk.out k _ Hk2.out) ?_
        clear hK K
        try simp only [Act.put, List.setIfInBounds_toArray, List.set_cons_zero, List.set_cons_succ]
        refine wpAnyF_ready (rs := [8]) (by kernel_rfl) (by simp) ?_
        refine AllReadyF.cons (o := ⟨_, _, _, _, _, _⟩) rfl (fun K hK => ?_) (AllReadyF.nil)
        · refine step_append_src rfl (.tmp 33) (.tmp 39) 27 rfl w1.heap.size 9 i1 (.string ⟨#[]⟩) 1 16 undStrs hi1 hz1 hy1 hx1 rfl (by decide) gm 0 0 [] rfl Ok.out _ i _ rfl (HSK1.out.up Hk2.out) (HLK1.out) (one_keys _) (by unfold maxLen; omega) (by omega) Hk2.out.size ?_
          intro g3 c3 Wk3 ho hg hor
          have Hk3 := Lib.hid (below_grown Hk2.out Ok.out hg Hk2.out.size)
          replace HE := Lib.hid (grown_keep hg HE.out HNE.out)
          clear HNE
          rw [Nat.zero_add]
          rw [Nat.zero_add, List.nil_append] at ho
          replace Ok := Lib.hid ho
          clear ho hg hor
          refine hK.out _ _ (fun k _ _ => HCk.out k _ Hk3.out) ?_
          clear hK K
          try simp only [Act.put, List.setIfInBounds_toArray, List.set_cons_zero, List.set_cons_succ]
          refine wpAnyF_ready (rs := [11]) (by kernel_rfl) (by simp) ?_
          refine AllReadyF.cons (o := ⟨_, _, _, _, _, _⟩) rfl (fun K hK => ?_) (AllReadyF.nil)
          refine step_append_src rfl (.tmp 40) (.tmp 42) 27 rfl w1.heap.size 9 i1 (.string ⟨#[]⟩) 1 16 undStrs hi1 hz1 hy1 hx1 rfl (by decide) g3 c3 i _ rfl Ok.out _ 1 [.string x.k] rfl (src_new HE.out rfl rfl) (rfl) (by intro u hu; simp at hu; subst hu; rfl) (by unfold maxLen; omega) (by omega) Hk3.out.size ?_
          intro g4 c4 Wk4 ho hg hor
          have Hk4 := Lib.hid (below_grown Hk3.out Ok.out hg Hk3.out.size)
          replace Ok := Lib.hid ho
          clear ho hg hor
          refine hK.out _ _ (fun k _ _ => HCk.out k _ Hk4.out) ?_
          clear hK K
          try simp only [Act.put, List.setIfInBounds_toArray, List.set_cons_zero, List.set_cons_succ]
          refine wpAnyF_ready (rs := [18]) (by kernel_rfl) (by simp) ?_
          refine AllReadyF.cons (o := ⟨_, _, _, _, _, _⟩) rfl (fun K hK => ?_) (AllReadyF.nil)
          refine step_append_src rfl (.tmp 43) (.tmp 49) 27 rfl w1.heap.size 9 i1 (.string ⟨#[]⟩) 1 16 undStrs hi1 hz1 hy1 hx1 rfl (by decide) g4 c4 (i + 1) _ rfl Ok.out _ m _ rfl (HSK2.out.up Hk4.out) (HLK2.out) (one_keys _) (by unfold maxLen; omega) (by omega) Hk4.out.size ?_
          intro g5 c5 Wk5 ho hg hor
          have Hk5 := Lib.hid (below_grown Hk4.out Ok.out hg Hk4.out.size)
          replace Ok := Lib.hid ho
          clear ho hg hor
          refine hK.out _ _ (fun k _ _ => HCk.out k _ Hk5.out) ?_
          clear hK K
          try simp only [Act.put, List.setIfInBounds_toArray, List.set_cons_zero, List.set_cons_succ]
          refine wpAnyF_take0 (i := 19) (oi := ⟨_, _, _, _, _, _⟩) (v := ?_) rfl (by kernel_rfl) (by kernel_rfl) (by kernel_rfl) (fun _ _ _ h => h) (Or.inl ⟨by rfl, ?_⟩) ?_
          rotate_left
          · intro W _
            go_simp
            try with_reducible rfl
          rotate_left
          try simp only [Act.put, List.setIfInBounds_toArray, List.set_cons_zero, List.set_cons_succ]
          refine wpAnyF_take0 (i := 20) (oi := ⟨_, _, _, _, _, _⟩) (v := ?_) rfl (by kernel_rfl) (by kernel_rfl) (by kernel_rfl) (fun _ _ _ h => h) (Or.inl ⟨by rfl, ?_⟩) ?_
          rotate_left
          · intro W _
            go_simp
            try with_reducible rfl
          rotate_left
          try simp only [Act.put, List.setIfInBounds_toArray, List.set_cons_zero, List.set_cons_succ]
          refine wpAnyF_ready (rs := [21]) (by kernel_rfl) (by simp) ?_
          refine AllReadyF.cons (o := ⟨_, _, _, _, _, _⟩) rfl (fun K hK => ?_) (AllReadyF.nil)
          have hcc : Wk5.cell? ⟨r, 0, none⟩ = some (.slice pk n ck) := HCk.out true _ Hk5.out
          have hff : Wk5.frozen? ⟨r, 0, none⟩ = false := HCkF.out _ Hk5.out
          rw [if_pos (by rfl)]
          go_simp
          refine hK.out _ _ (fun _ hT _ => by simp [StT] at hT) ?_
          clear hK K hcc hff
          try simp only [Act.put, List.setIfInBounds_toArray, List.set_cons_zero, List.set_cons_succ]
          refine wpAnyF_done (by kernel_rfl) ?_ _
          have hk0 : Wk5.heap[r]? = some (.cells #[(.slice pk n ck), (.slice pv n cv)] 30 (0, 0)) := (Hk5.out.block r HRB.out.2).trans HHR.out
          have hWK := heap_setCell_same Wk5 r 0 _ _ (.slice (some ⟨g5, 0, none⟩) (i + 1 + m) c5) hk0
          have hOK := own_st (u := .slice (some ⟨g5, 0, none⟩) (i + 1 + m) c5) Ok.out hk0 (by decide)
          have hVK := own_st (u := .slice (some ⟨g5, 0, none⟩) (i + 1 + m) c5) (own_up HV.out Hk5.out) hk0 (by decide)
          have hBK := (Fr.of_below (S := (· = r)) (Hk5.out.mono HB1.out.size)).setCell (p := ⟨r, 0, none⟩) (.inl rfl) (.slice (some ⟨g5, 0, none⟩) (i + 1 + m) c5)
          have hNK := (Below.heap_setCell Wk5 ⟨r, 0, none⟩ (.slice (some ⟨g5, 0, none⟩) (i + 1 + m) c5) w.heap.size (Nat.ne_of_gt HRW.out)).trans ((Hk5.out.block _ (lt_of_heap HNB1.out)).trans HNB1.out)
          have hSZ : w1.heap.size ≤ (Wk5.setCell ⟨r, 0, none⟩ (.slice (some ⟨g5, 0, none⟩) (i + 1 + m) c5)).heap.size := hBK.size
          generalize Wk5.setCell ⟨r, 0, none⟩ (.slice (some ⟨g5, 0, none⟩) (i + 1 + m) c5) = WK at *
          have HFIN : Hid (PMid B w1.heap.size w.heap.size r i m (.slice (some ⟨g5, 0, none⟩) (i + 1 + m) c5) (.slice pv n cv) (((xs.take i).map keyV ++ [.string x.k]) ++ (xs.drop i).map keyV) (xs.flatMap ridV) (i + 1 + m) n x.p x.c w WK) := by
            refine ⟨hWK, own_cut hOK ?_, hVK, hNK, (Fr.of_below HB1.out).trans hBK (Nat.le_refl _) (fun _ _ h => h), hSZ⟩
            have hnx := HN.out
            rw [List.drop_zero, List.take_of_length_le (by omega : xs.length ≤ n)]
          clear hk0 hWK hOK hVK hBK hNK hSZ
          go_wp2
          go_meet
          exact ⟨_, _, HFIN.out⟩
    · rw [if_pos (by rfl)]
      go_simp
      have Hk1 := Lib.hid (Hk0.out.alloc Hk0.out.size (.cells #[.string x.k] 9))
      have HE := Lib.hid (heap_alloc_new Wk0 (.cells #[.string x.k] 9))
      generalize Wk0.alloc (.cells #[.string x.k] 9) = Wk1 at *
      generalize Wk0.heap.size = ge at *
      refine hK.out _ _ (fun k _ _ => HCk.out k _ Hk1.out) ?_
      clear hK K
      try simp only [Act.put, List.setIfInBounds_toArray, List.set_cons_zero, List.set_cons_succ]
      refine wpAnyF_ready (rs := [1]) (by kernel_rfl) (by simp) ?_
      refine AllReadyF.cons (o := ⟨_, _, _, _, _, _⟩) rfl (fun K hK => ?_) (AllReadyF.nil)
      · rw [if_pos (by rfl)]
        go_simp
        have Hk2 := Lib.hid (Hk1.out.alloc Hk1.out.size (.cells #[] 9))
        have Ok := Lib.hid (World.ownsRow_made (e := 9) (size := 1) Wk1 #[] 0 Hk1.out.size (by decide) rfl)
        have HNE : Hid (ge ≠ Wk1.heap.size) := by have := lt_of_heap HE.out; exact Nat.ne_of_lt this
        replace HE := Lib.hid ((((Below.refl _ Wk1).alloc (Nat.le_refl _) (.cells #[] 9)).block ge (lt_of_heap HE.out)).trans HE.out)
        generalize Wk1.alloc (.cells #[] 9) = Wk2 at *
        generalize Wk1.heap.size = gm at *
        refine hK.out _ _ (fun k _ _ => HCk.out k _ Hk2.out) ?_
        clear hK K
        try simp only [Act.put, List.setIfInBounds_toArray, List.set_cons_zero, List.set_cons_succ]
        refine wpAnyF_ready (rs := [8]) (by kernel_rfl) (by simp) ?_
        refine AllReadyF.cons (o := ⟨_, _, _, _, _, _⟩) rfl (fun K hK => ?_) (AllReadyF.nil)
        · refine step_append_src rfl (.tmp 33) (.tmp 39) 27 rfl w1.heap.size 9 i1 (.string ⟨#[]⟩) 1 16 undStrs hi1 hz1 hy1 hx1 rfl (by decide) gm 0 0 [] rfl Ok.out _ i _ rfl (HSK1.out.up Hk2.out) (HLK1.out) (one_keys _) (by unfold maxLen; omega) (by omega) Hk2.out.size ?_
          intro g3 c3 Wk3 ho hg hor
          have Hk3 := Lib.hid (below_grown Hk2.out Ok.out hg Hk2.out.size)
          replace HE := Lib.hid (grown_keep hg HE.out HNE.out)
          clear HNE
          rw [Nat.zero_add]
          rw [Nat.zero_add, List.nil_append] at ho
          replace Ok := Lib.hid ho
          clear ho hg hor
          refine hK.out _ _ (fun k _ _ => HCk.out k _ Hk3.out) ?_
          clear hK K
          try simp only [Act.put, List.setIfInBounds_toArray, List.set_cons_zero, List.set_cons_succ]
          refine wpAnyF_ready (rs := [11]) (by kernel_rfl) (by simp) ?_
          refine AllReadyF.cons (o := ⟨_, _, _, _, _, _⟩) rfl (fun K hK => ?_) (AllReadyF.nil)
          refine step_append_src rfl (.tmp 40) (.tmp 42) 27 rfl w1.heap.size 9 i1 (.string ⟨#[]⟩) 1 16 undStrs hi1 hz1 hy1 hx1 rfl (by decide) g3 c3 i _ rfl Ok.out _ 1 [.string x.k] rfl (src_new HE.out rfl rfl) (rfl) (by intro u hu; simp at hu; subst hu; rfl) (by unfold maxLen; omega) (by omega) Hk3.out.size ?_
          intro g4 c4 Wk4 ho hg hor
          have Hk4 := Lib.hid (below_grown Hk3.out Ok.out hg Hk3.out.size)
          replace Ok := Lib.hid ho
          clear ho hg hor
          refine hK.out _ _ (fun k _ _ => HCk.out k _ Hk4.out) ?_
          clear hK K
          try simp only [Act.put, List.setIfInBounds_toArray, List.set_cons_zero, List.set_cons_succ]
          refine wpAnyF_ready (rs := [18]) (by kernel_rfl) (by simp) ?_
          refine AllReadyF.cons (o := ⟨_, _, _, _, _, _⟩) rfl (fun K hK => ?_) (AllReadyF.nil)
          refine step_append_src rfl (.tmp 43) (.tmp 49) 27 rfl w1.heap.size 9 i1 (.string ⟨#[]⟩) 1 16 undStrs hi1 hz1 hy1 hx1 rfl (by decide) g4 c4 (i + 1) _ rfl Ok.out _ m _ rfl (HSK2.out.up Hk4.out) (HLK2.out) (one_keys _) (by unfold maxLen; omega) (by omega) Hk4.out.size ?_
          intro g5 c5 Wk5 ho hg hor
          have Hk5 := Lib.hid (below_grown Hk4.out Ok.out hg Hk4.out.size)
          replace Ok := Lib.hid ho
          clear ho hg hor
          refine hK.out _ _ (fun k _ _ => HCk.out k _ Hk5.out) ?_
          clear hK K
          try simp only [Act.put, List.setIfInBounds_toArray, List.set_cons_zero, List.set_cons_succ]
          refine wpAnyF_take0 (i := 19) (oi := ⟨_, _, _, _, _, _⟩) (v := ?_) rfl (by kernel_rfl) (by kernel_rfl) (by kernel_rfl) (fun _ _ _ h => h) (Or.inl ⟨by rfl, ?_⟩) ?_
          rotate_left
          · intro W _
            go_simp
            try with_reducible rfl
          rotate_left
          try simp only [Act.put, List.setIfInBounds_toArray, List.set_cons_zero, List.set_cons_succ]
          refine wpAnyF_take0 (i := 20) (oi := ⟨_, _, _, _, _, _⟩) (v := ?_) rfl (by kernel_rfl) (by kernel_rfl) (by kernel_rfl) (fun _ _ _ h => h) (Or.inl ⟨by rfl, ?_⟩) ?_
          rotate_left
          · intro W _
            go_simp
            try with_reducible rfl
          rotate_left
          try simp only [Act.put, List.setIfInBounds_toArray, List.set_cons_zero, List.set_cons_succ]
          refine wpAnyF_ready (rs := [21]) (by kernel_rfl) (by simp) ?_
          refine AllReadyF.cons (o := ⟨_, _, _, _, _, _⟩) rfl (fun K hK => ?_) (AllReadyF.nil)
          have hcc : Wk5.cell? ⟨r, 0, none⟩ = some (.slice pk n ck) := HCk.out true _ Hk5.out
          have hff : Wk5.frozen? ⟨r, 0, none⟩ = false := HCkF.out _ Hk5.out
          rw [if_pos (by rfl)]
          go_simp
          refine hK.out _ _ (fun _ hT _ => by simp [StT] at hT) ?_
          clear hK K hcc hff
          try simp only [Act.put, List.setIfInBounds_toArray, List.set_cons_zero, List.set_cons_succ]
          refine wpAnyF_done (by kernel_rfl) ?_ _
          have hk0 : Wk5.heap[r]? = some (.cells #[(.slice pk n ck), (.slice pv n cv)] 30 (0, 0)) := (Hk5.out.block r HRB.out.2).trans HHR.out
          have hWK := heap_setCell_same Wk5 r 0 _ _ (.slice (some ⟨g5, 0, none⟩) (i + 1 + m) c5) hk0
          have hOK := own_st (u := .slice (some ⟨g5, 0, none⟩) (i + 1 + m) c5) Ok.out hk0 (by decide)
          have hVK := own_st (u := .slice (some ⟨g5, 0, none⟩) (i + 1 + m) c5) (own_up HV.out Hk5.out) hk0 (by decide)
          have hBK := (Fr.of_below (S := (· = r)) (Hk5.out.mono HB1.out.size)).setCell (p := ⟨r, 0, none⟩) (.inl rfl) (.slice (some ⟨g5, 0, none⟩) (i + 1 + m) c5)
          have hNK := (Below.heap_setCell Wk5 ⟨r, 0, none⟩ (.slice (some ⟨g5, 0, none⟩) (i + 1 + m) c5) w.heap.size (Nat.ne_of_gt HRW.out)).trans ((Hk5.out.block _ (lt_of_heap HNB1.out)).trans HNB1.out)
          have hSZ : w1.heap.size ≤ (Wk5.setCell ⟨r, 0, none⟩ (.slice (some ⟨g5, 0, none⟩) (i + 1 + m) c5)).heap.size := hBK.size
          generalize Wk5.setCell ⟨r, 0, none⟩ (.slice (some ⟨g5, 0, none⟩) (i + 1 + m) c5) = WK at *
          have HFIN : Hid (PMid B w1.heap.size w.heap.size r i m (.slice (some ⟨g5, 0, none⟩) (i + 1 + m) c5) (.slice pv n cv) (((xs.take i).map keyV ++ [.string x.k]) ++ (xs.drop i).map keyV) (xs.flatMap ridV) (i + 1 + m) n x.p x.c w WK) := by
            refine ⟨hWK, own_cut hOK ?_, hVK, hNK, (Fr.of_below HB1.out).trans hBK (Nat.le_refl _) (fun _ _ h => h), hSZ⟩
            have hnx := HN.out
            rw [List.drop_zero, List.take_of_length_le (by omega : xs.length ≤ n)]
          clear hk0 hWK hOK hVK hBK hNK hSZ
          go_wp2
          go_meet
          exact ⟨_, _, HFIN.out⟩
  case rest =>
    obtain ⟨gk, qk, PM⟩ := hcut
    have HPM := Lib.hid PM
    have hrl : r < wc.heap.size := lt_of_heap PM.hp
    have HSV1 := Lib.hid (own_src PM.ov (l := 0) (r := i) (by omega) (by omega))
    have HSV2 := Lib.hid (own_src PM.ov (l := i) (r := n) (by omega) (by omega))
    rw [HMM.out, cut_rids, HZV2.out] at HSV2
    rw [Nat.sub_zero, cut_rids, HZV1.out] at HSV1
    have HCv : Hid (∀ (k : Bool) (W : World), Below wc.heap.size wc W → PtS w.heap.size x.p x.c r 1 (.slice pv n cv) k W) := fun k W hb => by
      cases k
      · exact (hb.block _ (lt_of_heap HPM.out.bx)).trans HPM.out.bx
      · exact (World.cell?_of_block (hb.block r (lt_of_heap HPM.out.hp))).trans (cell_of HPM.out.hp 1).1
    have HCvF : Hid (∀ W : World, Below wc.heap.size wc W → W.frozen? ⟨r, 1, none⟩ = false) := fun W hb => (World.frozen?_of_block (hb.block r (lt_of_heap HPM.out.hp))).trans (cell_of HPM.out.hp 1).2
    clear PM
    go_upto_region 7 with (fail)
    refine wp_region_F (PtS w.heap.size x.p x.c r 1 (.slice pv n cv)) (fun _ j => StT 21 () j) (by kernel_rfl) ?_
    have Hv0 := Lib.hid (Below.refl wc.heap.size wc).drew
    generalize wc.drew = Wv0 at *
    refine wpAnyF_take0 (i := 0) (oi := ⟨_, _, _, _, _, _⟩) (v := ?_) rfl (by kernel_rfl) (by kernel_rfl) (by kernel_rfl) (fun _ _ _ h => h) (Or.inl ⟨by rfl, ?_⟩) ?_
    rotate_left
    · intro W _
      go_simp
      try with_reducible rfl
    rotate_left
    try simp only [Act.put, List.setIfInBounds_toArray, List.set_cons_zero, List.set_cons_succ]
    refine wpAnyF_take0 (i := 2) (oi := ⟨_, _, _, _, _, _⟩) (v := ?_) rfl (by kernel_rfl) (by kernel_rfl) (by kernel_rfl) (fun _ _ _ h => h) (Or.inl ⟨by rfl, ?_⟩) ?_
    rotate_left
    · intro W _
      go_simp
      try with_reducible rfl
    rotate_left
    try simp only [Act.put, List.setIfInBounds_toArray, List.set_cons_zero, List.set_cons_succ]
    refine wpAnyF_take0 (i := 3) (oi := ⟨_, _, _, _, _, _⟩) (v := ?_) rfl (by kernel_rfl) (by kernel_rfl) (by kernel_rfl) (fun _ _ _ h => h) (Or.inl ⟨by rfl, ?_⟩) ?_
    rotate_left
    · intro W _
      go_simp
      try with_reducible rfl
    rotate_left
    try simp only [Act.put, List.setIfInBounds_toArray, List.set_cons_zero, List.set_cons_succ]
    refine wpAnyF_take0 (i := 4) (oi := ⟨_, _, _, _, _, _⟩) (v := ?_) rfl (by kernel_rfl) (by kernel_rfl) (by kernel_rfl) (fun _ _ _ h => h) (Or.inl ⟨by rfl, ?_⟩) ?_
    rotate_left
    · intro W _
      go_simp
      try with_reducible rfl
    rotate_left
    try simp only [Act.put, List.setIfInBounds_toArray, List.set_cons_zero, List.set_cons_succ]
    refine wpAnyF_take true (i := 5) (oi := ⟨_, _, _, _, _, _⟩) (v := (.slice pv n cv)) rfl (by kernel_rfl) (by kernel_rfl) (by kernel_rfl) (by kernel_rfl) (fun _ _ _ h => h) (HCv.out true _ Hv0.out) (Or.inl ⟨by rfl, fun W hSW => ?_⟩) ?_
    · have hS : W.cell? ⟨r, 1, none⟩ = some (.slice pv n cv) := hSW
      go_simp
    try simp only [Act.put, List.setIfInBounds_toArray, List.set_cons_zero, List.set_cons_succ]
    refine wpAnyF_take0 (i := 6) (oi := ⟨_, _, _, _, _, _⟩) (v := ?_) rfl (by kernel_rfl) (by kernel_rfl) (by kernel_rfl) (fun _ _ _ h => h) (Or.inl ⟨by rfl, ?_⟩) ?_
    rotate_left
    · intro W _
      go_simp
      try with_reducible rfl
    rotate_left
    try simp only [Act.put, List.setIfInBounds_toArray, List.set_cons_zero, List.set_cons_succ]
    refine wpAnyF_take0 (i := 7) (oi := ⟨_, _, _, _, _, _⟩) (v := zv1) rfl (by kernel_rfl) (by kernel_rfl) (by kernel_rfl) (fun _ _ _ h => h) (Or.inl ⟨by rfl, fun W _ => ?_⟩) ?_
    · go_simp
      rw [← HZV1.out]
      first
        | rw [if_pos (show i ≤ cv by omega), sliced_zero]
        | (rw [if_pos ⟨by omega, by omega⟩]; simp [sliced, Addr.add])
    try simp only [Act.put, List.setIfInBounds_toArray, List.set_cons_zero, List.set_cons_succ]
    refine wpAnyF_take false (i := 9) (oi := ⟨_, _, _, _, _, _⟩) (v := .agg #[.int .i64 x.p, .int .i64 x.c]) rfl (by kernel_rfl) (by kernel_rfl) (by kernel_rfl) (by kernel_rfl) (fun _ _ _ h => h) (HCv.out false _ Hv0.out) (Or.inl ⟨by rfl, fun W hSW => ?_⟩) ?_
    · exact held_row 35 (.tmp 5) (by rfl) w.heap.size (by rfl) 35 _ (0, 0) _ hSW undRID rfl (szRIDz x.p x.c)
    try simp only [Act.put, List.setIfInBounds_toArray, List.set_cons_zero, List.set_cons_succ]
    refine wpAnyF_take0 (i := 12) (oi := ⟨_, _, _, _, _, _⟩) (v := ?_) rfl (by kernel_rfl) (by kernel_rfl) (by kernel_rfl) (fun _ _ _ h => h) (Or.inl ⟨by rfl, ?_⟩) ?_
    rotate_left
    · intro W _
      go_simp
      try with_reducible rfl
    rotate_left
    try simp only [Act.put, List.setIfInBounds_toArray, List.set_cons_zero, List.set_cons_succ]
    refine wpAnyF_take0 (i := 13) (oi := ⟨_, _, _, _, _, _⟩) (v := ?_) rfl (by kernel_rfl) (by kernel_rfl) (by kernel_rfl) (fun _ _ _ h => h) (Or.inl ⟨by rfl, ?_⟩) ?_
    rotate_left
    · intro W _
      go_simp
      try with_reducible rfl
    rotate_left
    try simp only [Act.put, List.setIfInBounds_toArray, List.set_cons_zero, List.set_cons_succ]
    refine wpAnyF_take0 (i := 14) (oi := ⟨_, _, _, _, _, _⟩) (v := ?_) rfl (by kernel_rfl) (by kernel_rfl) (by kernel_rfl) (fun _ _ _ h => h) (Or.inl ⟨by rfl, ?_⟩) ?_
    rotate_left
    · intro W _
      go_simp
      try with_reducible rfl
    rotate_left
    try simp only [Act.put, List.setIfInBounds_toArray, List.set_cons_zero, List.set_cons_succ]
    refine wpAnyF_take true (i := 15) (oi := ⟨_, _, _, _, _, _⟩) (v := (.slice pv n cv)) rfl (by kernel_rfl) (by kernel_rfl) (by kernel_rfl) (by kernel_rfl) (fun _ _ _ h => h) (HCv.out true _ Hv0.out) (Or.inl ⟨by rfl, fun W hSW => ?_⟩) ?_
    · have hS : W.cell? ⟨r, 1, none⟩ = some (.slice pv n cv) := hSW
      go_simp
    try simp only [Act.put, List.setIfInBounds_toArray, List.set_cons_zero, List.set_cons_succ]
    refine wpAnyF_take0 (i := 16) (oi := ⟨_, _, _, _, _, _⟩) (v := ?_) rfl (by kernel_rfl) (by kernel_rfl) (by kernel_rfl) (fun _ _ _ h => h) (Or.inl ⟨by rfl, ?_⟩) ?_
    rotate_left
    · intro W _
      go_simp
      try with_reducible rfl
    rotate_left
    try simp only [Act.put, List.setIfInBounds_toArray, List.set_cons_zero, List.set_cons_succ]
    refine wpAnyF_take0 (i := 17) (oi := ⟨_, _, _, _, _, _⟩) (v := zv2) rfl (by kernel_rfl) (by kernel_rfl) (by kernel_rfl) (fun _ _ _ h => h) (Or.inl ⟨by rfl, fun W _ => ?_⟩) ?_
    · go_simp
      rw [← HZV2.out]
      first
        | rw [if_pos (show i ≤ cv by omega), sliced_zero]
        | (unfold sliced; rfl)
        | (unfold sliced; rw [Nat.mul_one])
        | (trace_state; sorry)
    try simp only [Act.put, List.setIfInBounds_toArray, List.set_cons_zero, List.set_cons_succ]
    refine wpAnyF_ready (rs := [1, 10]) (by kernel_rfl) (by simp) ?_
    refine AllReadyF.cons (o := ⟨_, _, _, _, _, _⟩) rfl (fun K hK => ?_) (AllReadyF.cons (o := ⟨_, _, _, _, _, _⟩) rfl (fun K hK => ?_) (AllReadyF.nil))
    · rw [if_pos (by rfl)]
      go_simp
      have Hv1 := Lib.hid (Hv0.out.alloc Hv0.out.size (.cells #[] 35))
      have Ov := Lib.hid (World.ownsRow_made (e := 35) (size := 2) Wv0 #[] 0 Hv0.out.size (by decide) rfl)
      generalize Wv0.alloc (.cells #[] 35) = Wv1 at *
      generalize Wv0.heap.size = gm at *
      refine hK.out _ _ (fun k _ _ => HCv.out k _ Hv1.out) ?_
      clear hK K
      try simp only [Act.put, List.setIfInBounds_toArray, List.set_cons_zero, List.set_cons_succ]
      refine wpAnyF_ready (rs := [8, 10]) (by kernel_rfl) (by simp) ?_
      refine AllReadyF.cons (o := ⟨_, _, _, _, _, _⟩) rfl (fun K hK => ?_) (AllReadyF.cons (o := ⟨_, _, _, _, _, _⟩) rfl (fun K hK => ?_) (AllReadyF.nil))
      · refine step_append_src rfl (.tmp 54) (.tmp 60) 28 rfl wc.heap.size 35 i2 (.agg #[.int .i64 0, .int .i64 0]) 2 16 undRids hi2 hz2 hy2 hx2 rfl (by decide) gm 0 0 [] rfl Ov.out _ i _ rfl (HSV1.out.up Hv1.out) (HLV1.out) (one_rids _) (by unfold maxLen; omega) (by omega) Hv1.out.size ?_
        intro g2 c2 Wv2 ho hg hor
        have Hv2 := Lib.hid (below_grown Hv1.out Ov.out hg Hv1.out.size)
        rw [Nat.zero_add]
        rw [Nat.zero_add, List.nil_append] at ho
        replace Ov := Lib.hid ho
        clear ho hg hor
        refine hK.out _ _ (fun k _ _ => HCv.out k _ Hv2.out) ?_
        clear hK K
        try simp only [Act.put, List.setIfInBounds_toArray, List.set_cons_zero, List.set_cons_succ]
        refine wpAnyF_ready (rs := [10]) (by kernel_rfl) (by simp) ?_
        refine AllReadyF.cons (o := ⟨_, _, _, _, _, _⟩) rfl (fun K hK => ?_) (AllReadyF.nil)
        · rw [if_pos (by rfl)]
          go_simp
          have Hv3 := Lib.hid (Hv2.out.alloc Hv2.out.size (.cells #[.int .i64 x.p, .int .i64 x.c] 35))
          have HE := Lib.hid (heap_alloc_new Wv2 (.cells #[.int .i64 x.p, .int .i64 x.c] 35))
          have HNE : Hid (Wv2.heap.size ≠ g2) := by have := own_blk_lt Ov.out; exact Nat.ne_of_gt this
          replace Ov := Lib.hid (own_up Ov.out ((Below.refl _ Wv2).alloc (Nat.le_refl _) (.cells #[.int .i64 x.p, .int .i64 x.c] 35)))
          generalize Wv2.alloc (.cells #[.int .i64 x.p, .int .i64 x.c] 35) = Wv3 at *
          generalize Wv2.heap.size = ge at *
          refine hK.out _ _ (fun k _ _ => HCv.out k _ Hv3.out) ?_
          clear hK K
          try simp only [Act.put, List.setIfInBounds_toArray, List.set_cons_zero, List.set_cons_succ]
          refine wpAnyF_ready (rs := [11]) (by kernel_rfl) (by simp) ?_
          refine AllReadyF.cons (o := ⟨_, _, _, _, _, _⟩) rfl (fun K hK => ?_) (AllReadyF.nil)
          refine step_append_src rfl (.tmp 61) (.tmp 63) 28 rfl wc.heap.size 35 i2 (.agg #[.int .i64 0, .int .i64 0]) 2 16 undRids hi2 hz2 hy2 hx2 rfl (by decide) g2 c2 i _ rfl Ov.out _ 1 [.int .i64 x.p, .int .i64 x.c] rfl (src_new HE.out rfl rfl) (rfl) (by intro u hu; simp at hu; rcases hu with rfl | rfl <;> rfl) (by unfold maxLen; omega) (by omega) Hv3.out.size ?_
          intro g4 c4 Wv4 ho hg hor
          have Hv4 := Lib.hid (below_grown Hv3.out Ov.out hg Hv3.out.size)
          replace Ov := Lib.hid ho
          clear ho hg hor
          refine hK.out _ _ (fun k _ _ => HCv.out k _ Hv4.out) ?_
          clear hK K
          try simp only [Act.put, List.setIfInBounds_toArray, List.set_cons_zero, List.set_cons_succ]
          refine wpAnyF_ready (rs := [18]) (by kernel_rfl) (by simp) ?_
          refine AllReadyF.cons (o := ⟨_, _, _, _, _, _⟩) rfl (fun K hK => ?_) (AllReadyF.nil)
          refine step_append_src rfl (.tmp 64) (.tmp 70) 28 rfl wc.heap.size 35 i2 (.agg #[.int .i64 0, .int .i64 0]) 2 16 undRids hi2 hz2 hy2 hx2 rfl (by decide) g4 c4 (i + 1) _ rfl Ov.out _ m _ rfl (HSV2.out.up Hv4.out) (HLV2.out) (one_rids _) (by unfold maxLen; omega) (by omega) Hv4.out.size ?_
          intro g5 c5 Wv5 ho hg hor
          have Hv5 := Lib.hid (below_grown Hv4.out Ov.out hg Hv4.out.size)
          replace Ov := Lib.hid ho
          clear ho hg hor
          refine hK.out _ _ (fun k _ _ => HCv.out k _ Hv5.out) ?_
          clear hK K
          try simp only [Act.put, List.setIfInBounds_toArray, List.set_cons_zero, List.set_cons_succ]
          refine wpAnyF_take0 (i := 19) (oi := ⟨_, _, _, _, _, _⟩) (v := ?_) rfl (by kernel_rfl) (by kernel_rfl) (by kernel_rfl) (fun _ _ _ h => h) (Or.inl ⟨by rfl, ?_⟩) ?_
          rotate_left
          · intro W _
            go_simp
            try with_reducible rfl
          rotate_left
          try simp only [Act.put, List.setIfInBounds_toArray, List.set_cons_zero, List.set_cons_succ]
          refine wpAnyF_take0 (i := 20) (oi := ⟨_, _, _, _, _, _⟩) (v := ?_) rfl (by kernel_rfl) (by kernel_rfl) (by kernel_rfl) (fun _ _ _ h => h) (Or.inl ⟨by rfl, ?_⟩) ?_
          rotate_left
          · intro W _
            go_simp
            try with_reducible rfl
          rotate_left
          try simp only [Act.put, List.setIfInBounds_toArray, List.set_cons_zero, List.set_cons_succ]
          refine wpAnyF_ready (rs := [21]) (by kernel_rfl) (by simp) ?_
          refine AllReadyF.cons (o := ⟨_, _, _, _, _, _⟩) rfl (fun K hK => ?_) (AllReadyF.nil)
          have hcc : Wv5.cell? ⟨r, 1, none⟩ = some (.slice pv n cv) := HCv.out true _ Hv5.out
          have hff : Wv5.frozen? ⟨r, 1, none⟩ = false := HCvF.out _ Hv5.out
          rw [if_pos (by rfl)]
          go_simp
          refine hK.out _ _ (fun _ hT _ => by simp [StT] at hT) ?_
          clear hK K hcc hff
          try simp only [Act.put, List.setIfInBounds_toArray, List.set_cons_zero, List.set_cons_succ]
          refine wpAnyF_done (by kernel_rfl) ?_ _
          have hv0 : Wv5.heap[r]? = some (.cells #[(.slice (some ⟨gk, 0, none⟩) (i + 1 + m) qk), (.slice pv n cv)] 30 (0, 0)) := (Hv5.out.block r hrl).trans HPM.out.hp
          have hWV := heap_setCell_same Wv5 r 1 _ _ (.slice (some ⟨g5, 0, none⟩) (i + 1 + m) c5) hv0
          have hOV := own_st1 (i := 1) (u := .slice (some ⟨g5, 0, none⟩) (i + 1 + m) c5) Ov.out hv0 (by decide)
          have hKV := own_st1 (i := 1) (u := .slice (some ⟨g5, 0, none⟩) (i + 1 + m) c5) (own_up HPM.out.ok Hv5.out) hv0 (by decide)
          have hBV := (HPM.out.bl.below Hv5.out (Nat.le_trans HB1.out.size HPM.out.le)).setCell (p := ⟨r, 1, none⟩) (.inl rfl) (.slice (some ⟨g5, 0, none⟩) (i + 1 + m) c5)
          generalize Wv5.setCell ⟨r, 1, none⟩ (.slice (some ⟨g5, 0, none⟩) (i + 1 + m) c5) = WV at *
          have HFIN : Hid (RTA A WV B r (ins x xs) ∧ Fr w.heap.size (· = r) w WV) := by
            have hnx := HN.out
            have hmm := HMM.out
            have hdl : (ins x xs).length = i + 1 + m := by rw [HINS.out, List.length_append, List.length_take, List.length_cons, List.length_drop, hnx]; omega
            refine ⟨⟨HRB.out.1, HNA.out, _, _, hWV, ?_, ?_, own_avoid hKV (fun a h => Nat.lt_of_lt_of_le (hA a h) HB1.out.size), own_avoid hOV (fun a h => Nat.lt_of_lt_of_le (hA a h) (Nat.le_trans HB1.out.size HPM.out.le))⟩, hBV⟩
            · rw [hdl]
              refine own_base (own_cut hKV ?_) (Nat.le_trans hB HB1.out.size)
              rw [HINS.out, List.map_append, List.map_cons, List.append_assoc]
              rfl
            · rw [hdl]
              refine own_base (own_cut hOV ?_) (Nat.le_trans hB (Nat.le_trans HB1.out.size HPM.out.le))
              rw [HINS.out, List.flatMap_append, List.flatMap_cons, List.append_assoc, List.drop_zero, List.take_of_length_le (by omega : xs.length ≤ n)]
              rfl
          clear hv0 hWV hOV hKV hBV
          go_wp2_with fail
          go_ret
          exact ⟨rfl, HFIN.out⟩
      · rw [if_pos (by rfl)]
        go_simp
        have Hv2 := Lib.hid (Hv1.out.alloc Hv1.out.size (.cells #[.int .i64 x.p, .int .i64 x.c] 35))
        have HE := Lib.hid (heap_alloc_new Wv1 (.cells #[.int .i64 x.p, .int .i64 x.c] 35))
        have HNE : Hid (Wv1.heap.size ≠ gm) := by have := own_blk_lt Ov.out; exact Nat.ne_of_gt this
        replace Ov := Lib.hid (own_up Ov.out ((Below.refl _ Wv1).alloc (Nat.le_refl _) (.cells #[.int .i64 x.p, .int .i64 x.c] 35)))
        generalize Wv1.alloc (.cells #[.int .i64 x.p, .int .i64 x.c] 35) = Wv2 at *
        generalize Wv1.heap.size = ge at *
        refine hK.out _ _ (fun k _ _ => HCv.out k _ Hv2.out) ?_
        clear hK K
        try simp only [Act.put, List.setIfInBounds_toArray, List.set_cons_zero, List.set_cons_succ]
        refine wpAnyF_ready (rs := [8]) (by kernel_rfl) (by simp) ?_
        refine AllReadyF.cons (o := ⟨_, _, _, _, _, _⟩) rfl (fun K hK => ?_) (AllReadyF.nil)
        · refine step_append_src rfl (.tmp 54) (.tmp 60) 28 rfl wc.heap.size 35 i2 (.agg #[.int .i64 0, .int .i64 0]) 2 16 undRids hi2 hz2 hy2 hx2 rfl (by decide) gm 0 0 [] rfl Ov.out _ i _ rfl (HSV1.out.up Hv2.out) (HLV1.out) (one_rids _) (by unfold maxLen; omega) (by omega) Hv2.out.size ?_
          intro g3 c3 Wv3 ho hg hor
          have Hv3 := Lib.hid (below_grown Hv2.out Ov.out hg Hv2.out.size)
          replace HE := Lib.hid (grown_keep hg HE.out HNE.out)
          clear HNE
          rw [Nat.zero_add]
          rw [Nat.zero_add, List.nil_append] at ho
          replace Ov := Lib.hid ho
          clear ho hg hor
          refine hK.out _ _ (fun k _ _ => HCv.out k _ Hv3.out) ?_
          clear hK K
          try simp only [Act.put, List.setIfInBounds_toArray, List.set_cons_zero, List.set_cons_succ]
          refine wpAnyF_ready (rs := [11]) (by kernel_rfl) (by simp) ?_
          refine AllReadyF.cons (o := ⟨_, _, _, _, _, _⟩) rfl (fun K hK => ?_) (AllReadyF.nil)
          refine step_append_src rfl (.tmp 61) (.tmp 63) 28 rfl wc.heap.size 35 i2 (.agg #[.int .i64 0, .int .i64 0]) 2 16 undRids hi2 hz2 hy2 hx2 rfl (by decide) g3 c3 i _ rfl Ov.out _ 1 [.int .i64 x.p, .int .i64 x.c] rfl (src_new HE.out rfl rfl) (rfl) (by intro u hu; simp at hu; rcases hu with rfl | rfl <;> rfl) (by unfold maxLen; omega) (by omega) Hv3.out.size ?_
          intro g4 c4 Wv4 ho hg hor
          have Hv4 := Lib.hid (below_grown Hv3.out Ov.out hg Hv3.out.size)
          replace Ov := Lib.hid ho
          clear ho hg hor
          refine hK.out _ _ (fun k _ _ => HCv.out k _ Hv4.out) ?_
          clear hK K
          try simp only [Act.put, List.setIfInBounds_toArray, List.set_cons_zero, List.set_cons_succ]
          refine wpAnyF_ready (rs := [18]) (by kernel_rfl) (by simp) ?_
          refine AllReadyF.cons (o := ⟨_, _, _, _, _, _⟩) rfl (fun K hK => ?_) (AllReadyF.nil)
          refine step_append_src rfl (.tmp 64) (.tmp 70) 28 rfl wc.heap.size 35 i2 (.agg #[.int .i64 0, .int .i64 0]) 2 16 undRids hi2 hz2 hy2 hx2 rfl (by decide) g4 c4 (i + 1) _ rfl Ov.out _ m _ rfl (HSV2.out.up Hv4.out) (HLV2.out) (one_rids _) (by unfold maxLen; omega) (by omega) Hv4.out.size ?_
          intro g5 c5 Wv5 ho hg hor
          have Hv5 := Lib.hid (below_grown Hv4.out Ov.out hg Hv4.out.size)
          replace Ov := Lib.hid ho
          clear ho hg hor
          refine hK.out _ _ (fun k _ _ => HCv.out k _ Hv5.out) ?_
          clear hK K
          try simp only [Act.put, List.setIfInBounds_toArray, List.set_cons_zero, List.set_cons_succ]
          refine wpAnyF_take0 (i := 19) (oi := ⟨_, _, _, _, _, _⟩) (v := ?_) rfl (by kernel_rfl) (by kernel_rfl) (by kernel_rfl) (fun _ _ _ h => h) (Or.inl ⟨by rfl, ?_⟩) ?_
          rotate_left
          · intro W _
            go_simp
            try with_reducible rfl
          rotate_left
          try simp only [Act.put, List.setIfInBounds_toArray, List.set_cons_zero, List.set_cons_succ]
          refine wpAnyF_take0 (i := 20) (oi := ⟨_, _, _, _, _, _⟩) (v := ?_) rfl (by kernel_rfl) (by kernel_rfl) (by kernel_rfl) (fun _ _ _ h => h) (Or.inl ⟨by rfl, ?_⟩) ?_
          rotate_left
          · intro W _
            go_simp
            try with_reducible rfl
          rotate_left
          try simp only [Act.put, List.setIfInBounds_toArray, List.set_cons_zero, List.set_cons_succ]
          refine wpAnyF_ready (rs := [21]) (by kernel_rfl) (by simp) ?_
          refine AllReadyF.cons (o := ⟨_, _, _, _, _, _⟩) rfl (fun K hK => ?_) (AllReadyF.nil)
          have hcc : Wv5.cell? ⟨r, 1, none⟩ = some (.slice pv n cv) := HCv.out true _ Hv5.out
          have hff : Wv5.frozen? ⟨r, 1, none⟩ = false := HCvF.out _ Hv5.out
          rw [if_pos (by rfl)]
          go_simp
          refine hK.out _ _ (fun _ hT _ => by simp [StT] at hT) ?_
          clear hK K hcc hff
          try simp only [Act.put, List.setIfInBounds_toArray, List.set_cons_zero, List.set_cons_succ]
          refine wpAnyF_done (by kernel_rfl) ?_ _
          have hv0 : Wv5.heap[r]? = some (.cells #[(.slice (some ⟨gk, 0, none⟩) (i + 1 + m) qk), (.slice pv n cv)] 30 (0, 0)) := (Hv5.out.block r hrl).trans HPM.out.hp
          have hWV := heap_setCell_same Wv5 r 1 _ _ (.slice (some ⟨g5, 0, none⟩) (i + 1 + m) c5) hv0
          have hOV := own_st1 (i := 1) (u := .slice (some ⟨g5, 0, none⟩) (i + 1 + m) c5) Ov.out hv0 (by decide)
          have hKV := own_st1 (i := 1) (u := .slice (some ⟨g5, 0, none⟩) (i + 1 + m) c5) (own_up HPM.out.ok Hv5.out) hv0 (by decide)
          have hBV := (HPM.out.bl.below Hv5.out (Nat.le_trans HB1.out.size HPM.out.le)).setCell (p := ⟨r, 1, none⟩) (.inl rfl) (.slice (some ⟨g5, 0, none⟩) (i + 1 + m) c5)
          generalize Wv5.setCell ⟨r, 1, none⟩ (.slice (some ⟨g5, 0, none⟩) (i + 1 + m) c5) = WV at *
          have HFIN : Hid (RTA A WV B r (ins x xs) ∧ Fr w.heap.size (· = r) w WV) := by
            have hnx := HN.out
            have hmm := HMM.out
            have hdl : (ins x xs).length = i + 1 + m := by rw [HINS.out, List.length_append, List.length_take, List.length_cons, List.length_drop, hnx]; omega
            refine ⟨⟨HRB.out.1, HNA.out, _, _, hWV, ?_, ?_, own_avoid hKV (fun a h => Nat.lt_of_lt_of_le (hA a h) HB1.out.size), own_avoid hOV (fun a h => Nat.lt_of_lt_of_le (hA a h) (Nat.le_trans HB1.out.size HPM.out.le))⟩, hBV⟩
            · rw [hdl]
              refine own_base (own_cut hKV ?_) (Nat.le_trans hB HB1.out.size)
              rw [HINS.out, List.map_append, List.map_cons, List.append_assoc]
              rfl
            · rw [hdl]
              refine own_base (own_cut hOV ?_) (Nat.le_trans hB (Nat.le_trans HB1.out.size HPM.out.le))
              rw [HINS.out, List.flatMap_append, List.flatMap_cons, List.append_assoc, List.drop_zero, List.take_of_length_le (by omega : xs.length ≤ n)]
              rfl
          clear hv0 hWV hOV hKV hBV
          go_wp2_with fail
          go_ret
          exact ⟨rfl, HFIN.out⟩
    · rw [if_pos (by rfl)]
      go_simp
      have Hv1 := Lib.hid (Hv0.out.alloc Hv0.out.size (.cells #[.int .i64 x.p, .int .i64 x.c] 35))
      have HE := Lib.hid (heap_alloc_new Wv0 (.cells #[.int .i64 x.p, .int .i64 x.c] 35))
      generalize Wv0.alloc (.cells #[.int .i64 x.p, .int .i64 x.c] 35) = Wv1 at *
      generalize Wv0.heap.size = ge at *
      refine hK.out _ _ (fun k _ _ => HCv.out k _ Hv1.out) ?_
      clear hK K
      try simp only [Act.put, List.setIfInBounds_toArray, List.set_cons_zero, List.set_cons_succ]
      refine wpAnyF_ready (rs := [1]) (by kernel_rfl) (by simp) ?_
      refine AllReadyF.cons (o := ⟨_, _, _, _, _, _⟩) rfl (fun K hK => ?_) (AllReadyF.nil)
      · rw [if_pos (by rfl)]
        go_simp
        have Hv2 := Lib.hid (Hv1.out.alloc Hv1.out.size (.cells #[] 35))
        have Ov := Lib.hid (World.ownsRow_made (e := 35) (size := 2) Wv1 #[] 0 Hv1.out.size (by decide) rfl)
        have HNE : Hid (ge ≠ Wv1.heap.size) := by have := lt_of_heap HE.out; exact Nat.ne_of_lt this
        replace HE := Lib.hid ((((Below.refl _ Wv1).alloc (Nat.le_refl _) (.cells #[] 35)).block ge (lt_of_heap HE.out)).trans HE.out)
        generalize Wv1.alloc (.cells #[] 35) = Wv2 at *
        generalize Wv1.heap.size = gm at *
        refine hK.out _ _ (fun k _ _ => HCv.out k _ Hv2.out) ?_
        clear hK K
        try simp only [Act.put, List.setIfInBounds_toArray, List.set_cons_zero, List.set_cons_succ]
        refine wpAnyF_ready (rs := [8]) (by kernel_rfl) (by simp) ?_
        refine AllReadyF.cons (o := ⟨_, _, _, _, _, _⟩) rfl (fun K hK => ?_) (AllReadyF.nil)
        · refine step_append_src rfl (.tmp 54) (.tmp 60) 28 rfl wc.heap.size 35 i2 (.agg #[.int .i64 0, .int .i64 0]) 2 16 undRids hi2 hz2 hy2 hx2 rfl (by decide) gm 0 0 [] rfl Ov.out _ i _ rfl (HSV1.out.up Hv2.out) (HLV1.out) (one_rids _) (by unfold maxLen; omega) (by omega) Hv2.out.size ?_
          intro g3 c3 Wv3 ho hg hor
          have Hv3 := Lib.hid (below_grown Hv2.out Ov.out hg Hv2.out.size)
          replace HE := Lib.hid (grown_keep hg HE.out HNE.out)
          clear HNE
          rw [Nat.zero_add]
          rw [Nat.zero_add, List.nil_append] at ho
          replace Ov := Lib.hid ho
          clear ho hg hor
          refine hK.out _ _ (fun k _ _ => HCv.out k _ Hv3.out) ?_
          clear hK K
          try simp only [Act.put, List.setIfInBounds_toArray, List.set_cons_zero, List.set_cons_succ]
          refine wpAnyF_ready (rs := [11]) (by kernel_rfl) (by simp) ?_
          refine AllReadyF.cons (o := ⟨_, _, _, _, _, _⟩) rfl (fun K hK => ?_) (AllReadyF.nil)
          refine step_append_src rfl (.tmp 61) (.tmp 63) 28 rfl wc.heap.size 35 i2 (.agg #[.int .i64 0, .int .i64 0]) 2 16 undRids hi2 hz2 hy2 hx2 rfl (by decide) g3 c3 i _ rfl Ov.out _ 1 [.int .i64 x.p, .int .i64 x.c] rfl (src_new HE.out rfl rfl) (rfl) (by intro u hu; simp at hu; rcases hu with rfl | rfl <;> rfl) (by unfold maxLen; omega) (by omega) Hv3.out.size ?_
          intro g4 c4 Wv4 ho hg hor
          have Hv4 := Lib.hid (below_grown Hv3.out Ov.out hg Hv3.out.size)
          replace Ov := Lib.hid ho
          clear ho hg hor
          refine hK.out _ _ (fun k _ _ => HCv.out k _ Hv4.out) ?_
          clear hK K
          try simp only [Act.put, List.setIfInBounds_toArray, List.set_cons_zero, List.set_cons_succ]
          refine wpAnyF_ready (rs := [18]) (by kernel_rfl) (by simp) ?_
          refine AllReadyF.cons (o := ⟨_, _, _, _, _, _⟩) rfl (fun K hK => ?_) (AllReadyF.nil)
          refine step_append_src rfl (.tmp 64) (.tmp 70) 28 rfl wc.heap.size 35 i2 (.agg #[.int .i64 0, .int .i64 0]) 2 16 undRids hi2 hz2 hy2 hx2 rfl (by decide) g4 c4 (i + 1) _ rfl Ov.out _ m _ rfl (HSV2.out.up Hv4.out) (HLV2.out) (one_rids _) (by unfold maxLen; omega) (by omega) Hv4.out.size ?_
          intro g5 c5 Wv5 ho hg hor
          have Hv5 := Lib.hid (below_grown Hv4.out Ov.out hg Hv4.out.size)
          replace Ov := Lib.hid ho
          clear ho hg hor
          refine hK.out _ _ (fun k _ _ => HCv.out k _ Hv5.out) ?_
          clear hK K
          try simp only [Act.put, List.setIfInBounds_toArray, List.set_cons_zero, List.set_cons_succ]
          refine wpAnyF_take0 (i := 19) (oi := ⟨_, _, _, _, _, _⟩) (v := ?_) rfl (by kernel_rfl) (by kernel_rfl) (by kernel_rfl) (fun _ _ _ h => h) (Or.inl ⟨by rfl, ?_⟩) ?_
          rotate_left
          · intro W _
            go_simp
            try with_reducible rfl
          rotate_left
          try simp only [Act.put, List.setIfInBounds_toArray, List.set_cons_zero, List.set_cons_succ]
          refine wpAnyF_take0 (i := 20) (oi := ⟨_, _, _, _, _, _⟩) (v := ?_) rfl (by kernel_rfl) (by kernel_rfl) (by kernel_rfl) (fun _ _ _ h => h) (Or.inl ⟨by rfl, ?_⟩) ?_
          rotate_left
          · intro W _
            go_simp
            try with_reducible rfl
          rotate_left
          try simp only [Act.put, List.setIfInBounds_toArray, List.set_cons_zero, List.set_cons_succ]
          refine wpAnyF_ready (rs := [21]) (by kernel_rfl) (by simp) ?_
          refine AllReadyF.cons (o := ⟨_, _, _, _, _, _⟩) rfl (fun K hK => ?_) (AllReadyF.nil)
          have hcc : Wv5.cell? ⟨r, 1, none⟩ = some (.slice pv n cv) := HCv.out true _ Hv5.out
          have hff : Wv5.frozen? ⟨r, 1, none⟩ = false := HCvF.out _ Hv5.out
          rw [if_pos (by rfl)]
          go_simp
          refine hK.out _ _ (fun _ hT _ => by simp [StT] at hT) ?_
          clear hK K hcc hff
          try simp only [Act.put, List.setIfInBounds_toArray, List.set_cons_zero, List.set_cons_succ]
          refine wpAnyF_done (by kernel_rfl) ?_ _
          have hv0 : Wv5.heap[r]? = some (.cells #[(.slice (some ⟨gk, 0, none⟩) (i + 1 + m) qk), (.slice pv n cv)] 30 (0, 0)) := (Hv5.out.block r hrl).trans HPM.out.hp
          have hWV := heap_setCell_same Wv5 r 1 _ _ (.slice (some ⟨g5, 0, none⟩) (i + 1 + m) c5) hv0
          have hOV := own_st1 (i := 1) (u := .slice (some ⟨g5, 0, none⟩) (i + 1 + m) c5) Ov.out hv0 (by decide)
          have hKV := own_st1 (i := 1) (u := .slice (some ⟨g5, 0, none⟩) (i + 1 + m) c5) (own_up HPM.out.ok Hv5.out) hv0 (by decide)
          have hBV := (HPM.out.bl.below Hv5.out (Nat.le_trans HB1.out.size HPM.out.le)).setCell (p := ⟨r, 1, none⟩) (.inl rfl) (.slice (some ⟨g5, 0, none⟩) (i + 1 + m) c5)
          generalize Wv5.setCell ⟨r, 1, none⟩ (.slice (some ⟨g5, 0, none⟩) (i + 1 + m) c5) = WV at *
          have HFIN : Hid (RTA A WV B r (ins x xs) ∧ Fr w.heap.size (· = r) w WV) := by
            have hnx := HN.out
            have hmm := HMM.out
            have hdl : (ins x xs).length = i + 1 + m := by rw [HINS.out, List.length_append, List.length_take, List.length_cons, List.length_drop, hnx]; omega
            refine ⟨⟨HRB.out.1, HNA.out, _, _, hWV, ?_, ?_, own_avoid hKV (fun a h => Nat.lt_of_lt_of_le (hA a h) HB1.out.size), own_avoid hOV (fun a h => Nat.lt_of_lt_of_le (hA a h) (Nat.le_trans HB1.out.size HPM.out.le))⟩, hBV⟩
            · rw [hdl]
              refine own_base (own_cut hKV ?_) (Nat.le_trans hB HB1.out.size)
              rw [HINS.out, List.map_append, List.map_cons, List.append_assoc]
              rfl
            · rw [hdl]
              refine own_base (own_cut hOV ?_) (Nat.le_trans hB (Nat.le_trans HB1.out.size HPM.out.le))
              rw [HINS.out, List.flatMap_append, List.flatMap_cons, List.append_assoc, List.drop_zero, List.take_of_length_le (by omega : xs.length ≤ n)]
              rfl
          clear hv0 hWV hOV hKV hBV
          go_wp2_with fail
          go_ret
          exact ⟨rfl, HFIN.out⟩
end Go.Proofs.Ytejbbojephiifaa
