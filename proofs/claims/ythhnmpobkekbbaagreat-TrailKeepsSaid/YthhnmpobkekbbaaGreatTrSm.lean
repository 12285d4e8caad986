/- The laws' Some: entries by numbers. -/
import Derived.Test.YthhnmpobkekbbaaGreatTrB
import Derived.Test.YthhnmpobkekbbaaGreatRowR
import Derived.Test.YthhnmpobkekbbaaGreatHeldL
import Derived.Deep.RegionLaw
namespace Go.Proofs.YthhnmpobkekbbaaGreat
open Go.RowKit

def someK (x : Int) : List Int := rowL (bstr [97 + x % 20]) ⟨#[115]⟩ ⟨#[]⟩
def someE (i : Nat) (x : Int) : Ent := ⟨1 + x % 9, x % 7, 0, 0, (i : Int), 0, x % 32, x % 4, 0, 0, [], someK x, [], [], [], []⟩
def enN (o : Ent × Value) : List Value := (entC o.1 (.slice none 0 0) o.2 (.slice none 0 0) (.slice none 0 0) (.slice none 0 0) (.slice none 0 0)).toList
theorem enN_len (o : Ent × Value) : (enN o).length = 16 := rfl
theorem slk_at {w w' : World} {v : Value} {l : List Int} (h : SlK .u8 w v l) (hs : w.heap.size ≤ w'.heap.size) (hb : ∀ b, v.ownBlock = some b → b < w.heap.size → w'.heap[b]? = w.heap[b]?) : SlK .u8 w' v l := by
  obtain ⟨p, cap, rfl, h1, h2, h3, h4⟩ := h
  refine ⟨p, cap, rfl, h1, h2, h3, fun a ha => ?_⟩
  obtain ⟨h5, h6, h7⟩ := h4 a ha
  subst ha
  have e := hb a.block rfl h6
  refine ⟨h5, Nat.lt_of_lt_of_le h6 hs, fun j hj => ?_⟩
  rw [← h7 j hj]
  exact World.cell?_of_block e
theorem slk_lt {w : World} {v : Value} {l : List Int} (h : SlK .u8 w v l) {b : Nat} (hb : v.ownBlock = some b) : b < w.heap.size := by
  obtain ⟨p, cap, rfl, h1, h2, h3, h4⟩ := h
  cases p with
  | none => cases hb
  | some a =>
    cases hb
    exact (h4 a rfl).2.1
theorem someK_len (x : Int) (_ : 0 ≤ x ∧ x < 256) : (someK x).length = 26 := by
  have h1 : (bstr [97 + x % 20]).size = 1 := bstr_size (fun y hy => by simp at hy; subst hy; omega)
  unfold someK rowL
  rw [List.length_append, List.length_append, List.length_append, part_len (by omega), part_len (by decide), part_len (by decide)]
  rfl
theorem someE_B (i : Nat) (hi : i < 100) (x : Int) (hx : 0 ≤ x ∧ x < 256) : entB (someE i x) = true := by
  have hk := someK_len x hx
  have f : ∀ (n : Int) (k : Nat), 0 ≤ n → n < 256 → k = 1 ∨ k = 3 → fitB n k = true := fun n k h0 h1 h => fit_iff.2 ⟨h0, by rcases h with rfl | rfl <;> omega⟩
  have c : celOk (someK x) = true := by unfold celOk; rw [hk]; rfl
  have kb : kindB (1 + x % 9) = true := by unfold kindB; simp only [decide_eq_true_eq]; omega
  unfold entB someE plB
  simp only [kb, c, f (1 + x % 9) 1 (by omega) (by omega) (.inl rfl), f (x % 7) 1 (by omega) (by omega) (.inl rfl), f (i : Int) 3 (by omega) (by omega) (.inr rfl), f (x % 32) 1 (by omega) (by omega) (.inl rfl), f (x % 4) 1 (by omega) (by omega) (.inl rfl), Bool.and_true, Bool.true_and]
  decide
theorem someE_len (i : Nat) (x : Int) (hx : 0 ≤ x ∧ x < 256) : (entL (someE i x)).length = 47 := by
  have hk := someK_len x hx
  have c : celOk (someK x) = true := by unfold celOk; rw [hk]; rfl
  unfold entL someE
  simp [numL, plL, celL, lstL, celOk, hk]

def SmRel (w : World) (l : List Int) (j : Nat) (v : Value) (wr : World) : Prop := ∃ es : List (Ent × Value), es.length = j ∧ (∀ k (h : k < es.length), (es[k]).1 = someE k (l.getD k 0)) ∧ wr.ownsRow w.heap.size 44 16 v j (es.flatMap enN) ∧ (∀ o ∈ es, SlK .u8 wr o.2 o.1.new ∧ ∀ b, o.2.ownBlock = some b → w.heap.size ≤ b ∧ v.ownBlock ≠ some b) ∧ Below w.heap.size w wr

theorem rowS (w : World) (x : Int) (_ : 0 ≤ x ∧ x < 256) : Calls Tryz.prog 57 #[.agg #[.string (bstr [97 + x % 20]), .string ⟨#[115]⟩, .string ⟨#[]⟩]] w fun e w' => ∃ A m c, e = .returned (.tuple #[.slice A m c, .int .i64 0]) ∧ w'.ownsRow w.heap.size 5 1 (.slice A m c) 26 (byteV (someK x)) ∧ Below w.heap.size w w' := by
  have h1 : (bstr [97 + x % 20]).size = 1 := bstr_size (fun y hy => by simp at hy; subst hy; omega)
  refine (rrow_ok w _ _ _ (by unfold mayB; rw [h1]; decide)).mono ?_
  rintro e w' ⟨v, rfl, ho, hb⟩
  obtain ⟨A, m, c, rfl⟩ := own_shape ho
  exact ⟨A, m, c, rfl, ho, hb⟩
theorem someK_ok (x : Int) (_ : 0 ≤ x ∧ x < 256) : bytesOk (someK x) := by
  have h1 : (bstr [97 + x % 20]).size = 1 := bstr_size (fun y hy => by simp at hy; subst hy; omega)
  intro y hy
  unfold someK rowL at hy
  rcases List.mem_append.1 hy with hy | hy
  · rcases List.mem_append.1 hy with hy | hy
    · rcases List.mem_append.1 hy with hy | hy
      · simp at hy; omega
      · exact part_ok (by omega) (by decide) y hy
    · exact part_ok (by decide) (by decide) y hy
  · exact part_ok (by decide) (by decide) y hy

set_option maxRecDepth 100000 in
set_option maxHeartbeats 1000000 in
theorem some_any (w : World) {sv : Value} {l : List Int} (h : SlK .u8 w sv l) (hl : l.length ≤ 20) : Calls Tryz.prog 33 #[sv] w fun e w' => ∃ v, e = .returned v ∧ SmRel w l l.length v w' := by
  obtain ⟨A0, c0, rfl, hlc⟩ := h.form
  have HS := Lib.hid h
  have H1 : Hid (SmRel w l 0 (.slice none 0 0) w) := Lib.hid ⟨[], rfl, (fun k hk => absurd hk (Nat.not_lt_zero k)), World.ownsRow_nil _ _ _ _, (fun o ho => by cases ho), Below.refl _ _⟩
  obtain ⟨ii, hi, hz0, hz1, hz2⟩ := info_parts infoEntA
  have HII := Lib.hid (And.intro hi (And.intro hz0 (And.intro hz1 hz2)))
  clear h hi hz0 hz1 hz2
  go_enter Tryz.func33, Tryz.ntmps33
  go_wp2
  go_loopw [3, 4] (fun v i wr => ∃ j : Nat, j ≤ l.length ∧ i = .int .i64 j ∧ Hid (SmRel w l j v wr)) (fun _ i _ => l.length - ivT2 i)
  case atStart => exact ⟨0, Nat.zero_le _, rfl, H1⟩
  case round =>
    obtain ⟨j, hj, rfl, HR⟩ := hrel
    obtain ⟨es, hes, hel, ho, hin, hb⟩ := HR.out
    obtain ⟨A, m, c, rfl⟩ := own_shape ho
    have hm := own_n ho
    subst hm
    by_cases hlt : m < l.length
    · have hsw := HS.out.below hb (Nat.le_refl _)
      obtain ⟨b', o', c', e, _, _, h3⟩ := id (hsw.pt (fun e => by rw [e] at hlt; cases hlt))
      injection e with e1 e2 e3
      subst e1 e3
      have c1 := h3 m hlt
      have HBQ : Hid (b' < w.heap.size) := Lib.hid (slk_lt HS.out rfl)
      have hx := hsw.ok l[m] (List.getElem_mem hlt)
      have hgd : l.getD m 0 = l[m] := by simp [List.getD_eq_getElem?_getD, hlt]
      obtain ⟨x, hxe⟩ : ∃ x, x = l[m] := ⟨_, rfl⟩
      rw [← hxe] at c1 hx hgd
      have HGD := Lib.hid hgd
      have hj12 : (m : Int) ≤ 20 := by omega
      have hji : (m : Int) < (l.length : Int) := by omega
      have p0 : (x : Int).tmod 20 = x % 20 := Int.tmod_eq_emod_of_nonneg hx.1
      have p1 : IntKind.u8.wrap (x % 20) = x % 20 := IntWalk.u8_in _ (by omega)
      have p2 : IntKind.u8.wrap (97 + x % 20) = 97 + x % 20 := IntWalk.u8_in _ (by omega)
      have hk1 : (wr.alloc (.cells #[.int .u8 (97 + x % 20)] 5)).heap[wr.heap.size]? = some (.cells (byteV [97 + x % 20]).toArray 5 (0, 0)) := heap_alloc_new wr _
      have hc := conv_slK ((pt_row hk1 (n := 1) rfl).slK (fun y hy => by simp at hy; subst hy; omega))
      have HRW := Lib.hid (fun W => rowS W x hx)
      have HO := Lib.hid ho
      have HIN := Lib.hid hin
      have HES := Lib.hid (And.intro hes hel)
      have HB := Lib.hid hb
      have HSW := Lib.hid hsw
      have hb1 : Below wr.heap.size wr (wr.alloc (.cells #[.int .u8 (97 + x % 20)] 5)) := (Below.refl _ _).alloc (Nat.le_refl _) _
      have HB1 := Lib.hid hb1
      clear ho hin hes hel hb hsw h3 e2 hgd hxe hk1 hb1 HR H1
      go_upto_region 6 with (go_at_call 57; refine (HRW.out _).mono ?_; rintro r9 w2 ⟨A2, m2, c2, rfl, ho2, hb2⟩)
      have hm2 := own_n ho2
      subst hm2
      have hs2 : SlK .u8 w2 (.slice A2 26 c2) (someK x) := own_slK ho2 (someK_ok x hx)
      have hb12 : Below wr.heap.size wr w2 := HB1.out.trans (hb2.mono HB1.out.size)
      have hlow : ∀ b, (Value.slice A2 26 c2).ownBlock = some b → wr.heap.size ≤ b := fun b hb => Nat.le_trans HB1.out.size (ho2.lt b hb).1
      have d1 : w2.drew.cell? ⟨b', o' + m, none⟩ = some (.int .u8 x) := by
        have h4 := (HSW.out.below hb12 (Nat.le_refl _)).pt (fun e => by rw [e] at hlt; cases hlt)
        obtain ⟨b9, o9, c9, e, _, _, h3⟩ := h4
        injection e with e1
        injection e1 with e1
        injection e1 with e1 e2
        subst e1 e2
        have := h3 m hlt
        have hg := HGD.out
        simp [List.getD_eq_getElem?_getD, hlt] at hg
        rw [← hg]
        exact this
      have ho3 : w2.ownsRow w.heap.size 44 16 (.slice A m c) m (es.flatMap enN) := own_at HO.out fun k hk => hb12.block k (HO.out.lt k hk).2
      have HOA : Hid (∀ o, (w2.drew.alloc o).ownsRow w.heap.size 44 16 (.slice A m c) m (es.flatMap enN)) := Lib.hid fun o => (own_at (w' := w2.drew) ho3 fun k hk => rfl).alloc o
      have HAL : Hid (∀ o, Below w2.heap.size w2 (w2.drew.alloc o)) := Lib.hid fun o => ((Below.refl w2.heap.size w2).drew).alloc (Nat.le_refl _) _
      have HS2 := Lib.hid hs2
      have HLW := Lib.hid hlow
      have HB12 := Lib.hid hb12
      have HSZ : Hid (w.heap.size ≤ w2.heap.size) := Lib.hid (Nat.le_trans HB.out.size hb12.size)
      have t1 : IntKind.i64.wrap x = x := IntWalk.i64_in _ (by omega)
      have t2 : x.tmod 9 = x % 9 := Int.tmod_eq_emod_of_nonneg hx.1
      have t3 : x.tmod 7 = x % 7 := Int.tmod_eq_emod_of_nonneg hx.1
      have t4 : x.tmod 32 = x % 32 := Int.tmod_eq_emod_of_nonneg hx.1
      have t5 : x.tmod 4 = x % 4 := Int.tmod_eq_emod_of_nonneg hx.1
      have t6 : IntKind.i64.wrap (x % 9) = x % 9 := IntWalk.i64_in _ (by omega)
      have t7 : IntKind.i64.wrap (x % 7) = x % 7 := IntWalk.i64_in _ (by omega)
      have t8 : IntKind.i64.wrap (x % 32) = x % 32 := IntWalk.i64_in _ (by omega)
      have t9 : IntKind.i64.wrap (x % 4) = x % 4 := IntWalk.i64_in _ (by omega)
      have t10 : IntKind.i64.wrap (1 + x % 9) = 1 + x % 9 := IntWalk.i64_in _ (by omega)
      obtain ⟨hi, hz0, hz1, hz2⟩ := HII.out
      clear ho2 hb2 hs2 hb12 hlow ho3 c1 hc p0 p1 p2 HRW HSW HS
      have HBQ2 : Hid (b' < w2.heap.size) := Lib.hid (Nat.lt_of_lt_of_le HBQ.out HSZ.out)
      have HCB : Hid (∀ W : World, W.heap[b']? = w2.heap[b']? → W.cell? ⟨b', o' + m, none⟩ = some (.int .u8 x)) := Lib.hid fun W e => (World.cell?_of_block (w := w2.drew) e).trans d1
      have hS0 : (fun Z : World => Z.cell? ⟨b', o' + m, none⟩ = some (.int .u8 x)) w2.drew := d1
      refine wp_region_G (fun Z : World => Z.cell? ⟨b', o' + m, none⟩ = some (.int .u8 x)) (fun j => j == 99) (by kernel_rfl) ?_
      clear d1
      refine wpAnyG_take0 (i := 0) (oi := ⟨_, _, _, _, _, _⟩) (v := ?_) rfl (by kernel_rfl) (by kernel_rfl) (by kernel_rfl) (fun _ _ _ h => h) (Or.inl ⟨by rfl, ?_⟩) ?_
      rotate_left
      · intro W _
        go_simp
        try with_reducible rfl
      rotate_left
      try simp only [Act.put, List.setIfInBounds_toArray, List.set_cons_zero, List.set_cons_succ]
      refine wpAnyG_take0 (i := 1) (oi := ⟨_, _, _, _, _, _⟩) (v := ?_) rfl (by kernel_rfl) (by kernel_rfl) (by kernel_rfl) (fun _ _ _ h => h) (Or.inl ⟨by rfl, ?_⟩) ?_
      rotate_left
      · intro W _
        go_simp
        try with_reducible rfl
      rotate_left
      try simp only [Act.put, List.setIfInBounds_toArray, List.set_cons_zero, List.set_cons_succ]
      refine wpAnyG_take0 (i := 2) (oi := ⟨_, _, _, _, _, _⟩) (v := ?_) rfl (by kernel_rfl) (by kernel_rfl) (by kernel_rfl) (fun _ _ _ h => h) (Or.inl ⟨by rfl, ?_⟩) ?_
      rotate_left
      · intro W _
        go_simp
        try with_reducible rfl
      rotate_left
      try simp only [Act.put, List.setIfInBounds_toArray, List.set_cons_zero, List.set_cons_succ]
      refine wpAnyG_take0 (i := 3) (oi := ⟨_, _, _, _, _, _⟩) (v := ?_) rfl (by kernel_rfl) (by kernel_rfl) (by kernel_rfl) (fun _ _ _ h => h) (Or.inl ⟨by rfl, ?_⟩) ?_
      rotate_left
      · intro W _
        go_simp
        try with_reducible rfl
      rotate_left
      try simp only [Act.put, List.setIfInBounds_toArray, List.set_cons_zero, List.set_cons_succ]
      refine wpAnyG_take (i := 4) (oi := ⟨_, _, _, _, _, _⟩) (v := ?_) rfl (by kernel_rfl) (by kernel_rfl) (by kernel_rfl) (by kernel_rfl) (fun _ _ _ h => h) hS0 (Or.inl ⟨by rfl, ?_⟩) ?_
      rotate_left
      · intro W hSW
        try dsimp only at hSW
        go_simp
        try with_reducible rfl
      rotate_left
      try simp only [Act.put, List.setIfInBounds_toArray, List.set_cons_zero, List.set_cons_succ]
      refine wpAnyG_take0 (i := 5) (oi := ⟨_, _, _, _, _, _⟩) (v := ?_) rfl (by kernel_rfl) (by kernel_rfl) (by kernel_rfl) (fun _ _ _ h => h) (Or.inl ⟨by rfl, ?_⟩) ?_
      rotate_left
      · intro W _
        go_simp
        try with_reducible rfl
      rotate_left
      try simp only [Act.put, List.setIfInBounds_toArray, List.set_cons_zero, List.set_cons_succ]
      refine wpAnyG_take0 (i := 6) (oi := ⟨_, _, _, _, _, _⟩) (v := ?_) rfl (by kernel_rfl) (by kernel_rfl) (by kernel_rfl) (fun _ _ _ h => h) (Or.inl ⟨by rfl, ?_⟩) ?_
      rotate_left
      · intro W _
        go_simp
        try with_reducible rfl
      rotate_left
      try simp only [Act.put, List.setIfInBounds_toArray, List.set_cons_zero, List.set_cons_succ]
      refine wpAnyG_take0 (i := 7) (oi := ⟨_, _, _, _, _, _⟩) (v := ?_) rfl (by kernel_rfl) (by kernel_rfl) (by kernel_rfl) (fun _ _ _ h => h) (Or.inl ⟨by rfl, ?_⟩) ?_
      rotate_left
      · intro W _
        go_simp
        try with_reducible rfl
      rotate_left
      try simp only [Act.put, List.setIfInBounds_toArray, List.set_cons_zero, List.set_cons_succ]
      refine wpAnyG_take0 (i := 8) (oi := ⟨_, _, _, _, _, _⟩) (v := ?_) rfl (by kernel_rfl) (by kernel_rfl) (by kernel_rfl) (fun _ _ _ h => h) (Or.inl ⟨by rfl, ?_⟩) ?_
      rotate_left
      · intro W _
        go_simp
        try with_reducible rfl
      rotate_left
      try simp only [Act.put, List.setIfInBounds_toArray, List.set_cons_zero, List.set_cons_succ]
      refine wpAnyG_take0 (i := 9) (oi := ⟨_, _, _, _, _, _⟩) (v := ?_) rfl (by kernel_rfl) (by kernel_rfl) (by kernel_rfl) (fun _ _ _ h => h) (Or.inl ⟨by rfl, ?_⟩) ?_
      rotate_left
      · intro W _
        go_simp
        try with_reducible rfl
      rotate_left
      try simp only [Act.put, List.setIfInBounds_toArray, List.set_cons_zero, List.set_cons_succ]
      refine wpAnyG_take0 (i := 10) (oi := ⟨_, _, _, _, _, _⟩) (v := ?_) rfl (by kernel_rfl) (by kernel_rfl) (by kernel_rfl) (fun _ _ _ h => h) (Or.inl ⟨by rfl, ?_⟩) ?_
      rotate_left
      · intro W _
        go_simp
        try with_reducible rfl
      rotate_left
      try simp only [Act.put, List.setIfInBounds_toArray, List.set_cons_zero, List.set_cons_succ]
      refine wpAnyG_take (i := 11) (oi := ⟨_, _, _, _, _, _⟩) (v := ?_) rfl (by kernel_rfl) (by kernel_rfl) (by kernel_rfl) (by kernel_rfl) (fun _ _ _ h => h) hS0 (Or.inl ⟨by rfl, ?_⟩) ?_
      rotate_left
      · intro W hSW
        try dsimp only at hSW
        go_simp
        try with_reducible rfl
      rotate_left
      try simp only [Act.put, List.setIfInBounds_toArray, List.set_cons_zero, List.set_cons_succ]
      refine wpAnyG_take0 (i := 12) (oi := ⟨_, _, _, _, _, _⟩) (v := ?_) rfl (by kernel_rfl) (by kernel_rfl) (by kernel_rfl) (fun _ _ _ h => h) (Or.inl ⟨by rfl, ?_⟩) ?_
      rotate_left
      · intro W _
        go_simp
        try with_reducible rfl
      rotate_left
      try simp only [Act.put, List.setIfInBounds_toArray, List.set_cons_zero, List.set_cons_succ]
      refine wpAnyG_take0 (i := 13) (oi := ⟨_, _, _, _, _, _⟩) (v := ?_) rfl (by kernel_rfl) (by kernel_rfl) (by kernel_rfl) (fun _ _ _ h => h) (Or.inl ⟨by rfl, ?_⟩) ?_
      rotate_left
      · intro W _
        go_simp
        try with_reducible rfl
      rotate_left
      try simp only [Act.put, List.setIfInBounds_toArray, List.set_cons_zero, List.set_cons_succ]
      refine wpAnyG_take0 (i := 14) (oi := ⟨_, _, _, _, _, _⟩) (v := ?_) rfl (by kernel_rfl) (by kernel_rfl) (by kernel_rfl) (fun _ _ _ h => h) (Or.inl ⟨by rfl, ?_⟩) ?_
      rotate_left
      · intro W _
        go_simp
        try with_reducible rfl
      rotate_left
      try simp only [Act.put, List.setIfInBounds_toArray, List.set_cons_zero, List.set_cons_succ]
      refine wpAnyG_take0 (i := 15) (oi := ⟨_, _, _, _, _, _⟩) (v := ?_) rfl (by kernel_rfl) (by kernel_rfl) (by kernel_rfl) (fun _ _ _ h => h) (Or.inl ⟨by rfl, ?_⟩) ?_
      rotate_left
      · intro W _
        go_simp
        try with_reducible rfl
      rotate_left
      try simp only [Act.put, List.setIfInBounds_toArray, List.set_cons_zero, List.set_cons_succ]
      refine wpAnyG_take0 (i := 16) (oi := ⟨_, _, _, _, _, _⟩) (v := ?_) rfl (by kernel_rfl) (by kernel_rfl) (by kernel_rfl) (fun _ _ _ h => h) (Or.inl ⟨by rfl, ?_⟩) ?_
      rotate_left
      · intro W _
        go_simp
        try with_reducible rfl
      rotate_left
      try simp only [Act.put, List.setIfInBounds_toArray, List.set_cons_zero, List.set_cons_succ]
      refine wpAnyG_take0 (i := 17) (oi := ⟨_, _, _, _, _, _⟩) (v := ?_) rfl (by kernel_rfl) (by kernel_rfl) (by kernel_rfl) (fun _ _ _ h => h) (Or.inl ⟨by rfl, ?_⟩) ?_
      rotate_left
      · intro W _
        go_simp
        try with_reducible rfl
      rotate_left
      try simp only [Act.put, List.setIfInBounds_toArray, List.set_cons_zero, List.set_cons_succ]
      refine wpAnyG_take (i := 18) (oi := ⟨_, _, _, _, _, _⟩) (v := ?_) rfl (by kernel_rfl) (by kernel_rfl) (by kernel_rfl) (by kernel_rfl) (fun _ _ _ h => h) hS0 (Or.inl ⟨by rfl, ?_⟩) ?_
      rotate_left
      · intro W hSW
        try dsimp only at hSW
        go_simp
        try with_reducible rfl
      rotate_left
      try simp only [Act.put, List.setIfInBounds_toArray, List.set_cons_zero, List.set_cons_succ]
      refine wpAnyG_take0 (i := 19) (oi := ⟨_, _, _, _, _, _⟩) (v := ?_) rfl (by kernel_rfl) (by kernel_rfl) (by kernel_rfl) (fun _ _ _ h => h) (Or.inl ⟨by rfl, ?_⟩) ?_
      rotate_left
      · intro W _
        go_simp
        try with_reducible rfl
      rotate_left
      try simp only [Act.put, List.setIfInBounds_toArray, List.set_cons_zero, List.set_cons_succ]
      refine wpAnyG_take0 (i := 20) (oi := ⟨_, _, _, _, _, _⟩) (v := ?_) rfl (by kernel_rfl) (by kernel_rfl) (by kernel_rfl) (fun _ _ _ h => h) (Or.inl ⟨by rfl, ?_⟩) ?_
      rotate_left
      · intro W _
        go_simp
        try with_reducible rfl
      rotate_left
      try simp only [Act.put, List.setIfInBounds_toArray, List.set_cons_zero, List.set_cons_succ]
      refine wpAnyG_take0 (i := 21) (oi := ⟨_, _, _, _, _, _⟩) (v := ?_) rfl (by kernel_rfl) (by kernel_rfl) (by kernel_rfl) (fun _ _ _ h => h) (Or.inl ⟨by rfl, ?_⟩) ?_
      rotate_left
      · intro W _
        go_simp
        try with_reducible rfl
      rotate_left
      try simp only [Act.put, List.setIfInBounds_toArray, List.set_cons_zero, List.set_cons_succ]
      refine wpAnyG_take0 (i := 22) (oi := ⟨_, _, _, _, _, _⟩) (v := ?_) rfl (by kernel_rfl) (by kernel_rfl) (by kernel_rfl) (fun _ _ _ h => h) (Or.inl ⟨by rfl, ?_⟩) ?_
      rotate_left
      · intro W _
        go_simp
        try with_reducible rfl
      rotate_left
      try simp only [Act.put, List.setIfInBounds_toArray, List.set_cons_zero, List.set_cons_succ]
      refine wpAnyG_take0 (i := 23) (oi := ⟨_, _, _, _, _, _⟩) (v := ?_) rfl (by kernel_rfl) (by kernel_rfl) (by kernel_rfl) (fun _ _ _ h => h) (Or.inl ⟨by rfl, ?_⟩) ?_
      rotate_left
      · intro W _
        go_simp
        try with_reducible rfl
      rotate_left
      try simp only [Act.put, List.setIfInBounds_toArray, List.set_cons_zero, List.set_cons_succ]
      refine wpAnyG_take (i := 24) (oi := ⟨_, _, _, _, _, _⟩) (v := ?_) rfl (by kernel_rfl) (by kernel_rfl) (by kernel_rfl) (by kernel_rfl) (fun _ _ _ h => h) hS0 (Or.inl ⟨by rfl, ?_⟩) ?_
      rotate_left
      · intro W hSW
        try dsimp only at hSW
        go_simp
        try with_reducible rfl
      rotate_left
      try simp only [Act.put, List.setIfInBounds_toArray, List.set_cons_zero, List.set_cons_succ]
      refine wpAnyG_take0 (i := 25) (oi := ⟨_, _, _, _, _, _⟩) (v := ?_) rfl (by kernel_rfl) (by kernel_rfl) (by kernel_rfl) (fun _ _ _ h => h) (Or.inl ⟨by rfl, ?_⟩) ?_
      rotate_left
      · intro W _
        go_simp
        try with_reducible rfl
      rotate_left
      try simp only [Act.put, List.setIfInBounds_toArray, List.set_cons_zero, List.set_cons_succ]
      refine wpAnyG_take0 (i := 26) (oi := ⟨_, _, _, _, _, _⟩) (v := ?_) rfl (by kernel_rfl) (by kernel_rfl) (by kernel_rfl) (fun _ _ _ h => h) (Or.inl ⟨by rfl, ?_⟩) ?_
      rotate_left
      · intro W _
        go_simp
        try with_reducible rfl
      rotate_left
      try simp only [Act.put, List.setIfInBounds_toArray, List.set_cons_zero, List.set_cons_succ]
      refine wpAnyG_take0 (i := 27) (oi := ⟨_, _, _, _, _, _⟩) (v := ?_) rfl (by kernel_rfl) (by kernel_rfl) (by kernel_rfl) (fun _ _ _ h => h) (Or.inl ⟨by rfl, ?_⟩) ?_
      rotate_left
      · intro W _
        go_simp
        try with_reducible rfl
      rotate_left
      try simp only [Act.put, List.setIfInBounds_toArray, List.set_cons_zero, List.set_cons_succ]
      refine wpAnyG_take0 (i := 28) (oi := ⟨_, _, _, _, _, _⟩) (v := ?_) rfl (by kernel_rfl) (by kernel_rfl) (by kernel_rfl) (fun _ _ _ h => h) (Or.inl ⟨by rfl, ?_⟩) ?_
      rotate_left
      · intro W _
        go_simp
        try with_reducible rfl
      rotate_left
      try simp only [Act.put, List.setIfInBounds_toArray, List.set_cons_zero, List.set_cons_succ]
      refine wpAnyG_take0 (i := 29) (oi := ⟨_, _, _, _, _, _⟩) (v := ?_) rfl (by kernel_rfl) (by kernel_rfl) (by kernel_rfl) (fun _ _ _ h => h) (Or.inl ⟨by rfl, ?_⟩) ?_
      rotate_left
      · intro W _
        go_simp
        try with_reducible rfl
      rotate_left
      try simp only [Act.put, List.setIfInBounds_toArray, List.set_cons_zero, List.set_cons_succ]
      refine wpAnyG_ready (rs := [30]) (by kernel_rfl) (by simp) ?_
      refine AllReadyG.cons (o := ⟨_, _, _, _, _, _⟩) rfl (fun K hK => ?_) AllReadyG.nil
      go_simp
      refine hK.out _ _ (fun _ _ => HCB.out _ ((HAL.out _).block b' HBQ2.out)) ?_
      clear hK K
      try simp only [Act.put, List.setIfInBounds_toArray, List.set_cons_zero, List.set_cons_succ]
      refine wpAnyG_ready (rs := [31]) (by kernel_rfl) (by simp) ?_
      refine AllReadyG.cons (o := ⟨_, _, _, _, _, _⟩) rfl (fun K hK => ?_) AllReadyG.nil
      refine step_append_lies _ rfl (.tmp 26) (.tmp 56) 29 rfl w.heap.size 44 ii (.agg #[.int .i64 0, .int .i64 0, .int .i64 0, .int .i64 0, .int .i64 0, .int .i64 0, .int .i64 0, .int .i64 0, .int .i64 0, .int .i64 0, .slice none 0 0, .slice none 0 0, .slice none 0 0, .slice none 0 0, .slice none 0 0, .slice none 0 0]) 16 224 Tryz.underlying29 hi hz0 hz1 hz2 rfl (by decide) (.slice A m c) m (es.flatMap enN) rfl (HOA.out _) ⟨_, 0, none⟩ 1 1 [.int .i64 (1 + x % 9), .int .i64 (x % 7), .int .i64 0, .int .i64 0, .int .i64 m, .int .i64 0, .int .i64 (x % 32), .int .i64 (x % 4), .int .i64 0, .int .i64 0, .slice none 0 0, .slice A2 26 c2, .slice none 0 0, .slice none 0 0, .slice none 0 0, .slice none 0 0] rfl rfl (World.news_of_block (heap_alloc_new w2.drew _)) (fun u hu => by simp at hu; rcases hu with rfl | rfl | rfl | rfl | rfl | rfl | rfl | rfl | rfl | rfl | rfl <;> rfl) (by omega) (by unfold maxLen; omega) (by omega) (by simp; exact Nat.le_succ_of_le HSZ.out) _ rfl ?_
      intro g5 c5 w5 ho5 hg5 hv5 hl5
      have hS5 : w5.heap[b']? = w2.heap[b']? := (hg5.block b' (Nat.lt_of_lt_of_le HBQ2.out (HAL.out _).size) (fun e => by have := (HO.out.lt b' e.symm).1; have := HBQ.out; omega)).trans ((HAL.out _).block b' HBQ2.out)
      refine hK.out _ _ (fun _ _ => HCB.out _ hS5) ?_
      clear hK K
      try simp only [Act.put, List.setIfInBounds_toArray, List.set_cons_zero, List.set_cons_succ]
      refine wpAnyG_take0 (i := 32) (oi := ⟨_, _, _, _, _, _⟩) (v := ?_) rfl (by kernel_rfl) (by kernel_rfl) (by kernel_rfl) (fun _ _ _ h => h) (Or.inl ⟨by rfl, ?_⟩) ?_
      rotate_left
      · intro W _
        go_simp
        try with_reducible rfl
      rotate_left
      try simp only [Act.put, List.setIfInBounds_toArray, List.set_cons_zero, List.set_cons_succ]
      refine wpAnyG_done (by kernel_rfl) ?_ _
      have hR : SmRel w l (m + 1) (.slice (some ⟨g5, 0, none⟩) (m + 1) c5) w5 := by
        obtain ⟨hes, hel⟩ := HES.out
        have hbA : Below w2.heap.size w2 (w2.drew.alloc (Obj.cells #[.int .i64 (1 + x % 9), .int .i64 (x % 7), .int .i64 0, .int .i64 0, .int .i64 m, .int .i64 0, .int .i64 (x % 32), .int .i64 (x % 4), .int .i64 0, .int .i64 0, .slice none 0 0, .slice A2 26 c2, .slice none 0 0, .slice none 0 0, .slice none 0 0, .slice none 0 0] 44)) := HAL.out _
        have hsame : ∀ b, b < w2.heap.size → (Value.slice A m c).ownBlock ≠ some b → w5.heap[b]? = w2.heap[b]? := fun b h1 h2 => (hg5.block b (Nat.lt_of_lt_of_le h1 hbA.size) (fun e => h2 e.symm)).trans (hbA.block b h1)
        have hgb : ∀ b, b < w2.heap.size → (Value.slice A m c).ownBlock ≠ some b → (Value.slice (some ⟨g5, 0, none⟩) (m + 1) c5).ownBlock ≠ some b := fun b h1 h2 e => by
          have e2 : g5 = b := by simpa [Value.ownBlock] using e
          rcases hv5 with h | h
          · exact h2 (by rw [h, e2])
          · have : w2.heap.size ≤ g5 := by rw [h]; exact hbA.size
            omega
        refine ⟨es ++ [(someE m x, .slice A2 26 c2)], by rw [List.length_append, hes]; rfl, fun k hk => ?_, ?_, fun o ho => ?_, ?_⟩
        · rw [List.length_append] at hk
          simp only [List.length_singleton] at hk
          by_cases hkm : k < es.length
          · rw [List.getElem_append_left hkm]; exact hel k hkm
          · obtain rfl : k = es.length := by omega
            rw [List.getElem_append_right (Nat.le_refl _)]
            simp only [Nat.sub_self, List.getElem_cons_zero]
            rw [hes, HGD.out]
        · rw [List.flatMap_append]
          exact ho5
        · rcases List.mem_append.1 ho with ho | ho
          · obtain ⟨z1, z2⟩ := HIN.out o ho
            have z3 := z1.below HB12.out (Nat.le_refl _)
            refine ⟨slk_at z3 (Nat.le_trans hbA.size hg5.size) (fun b hb hlt => hsame b hlt (z2 b hb).2), fun b hb => ⟨(z2 b hb).1, hgb b (slk_lt z3 hb) (z2 b hb).2⟩⟩
          · obtain rfl : o = (someE m x, .slice A2 26 c2) := by simpa using ho
            have z : ∀ b, (Value.slice A2 26 c2).ownBlock = some b → (Value.slice A m c).ownBlock ≠ some b := fun b hb e => by
              have := HLW.out b hb
              have := (HO.out.lt b e).2
              omega
            refine ⟨slk_at HS2.out (Nat.le_trans hbA.size hg5.size) (fun b hb hlt => hsame b hlt (z b hb)), fun b hb => ⟨Nat.le_trans HB.out.size (HLW.out b hb), hgb b (slk_lt HS2.out hb) (z b hb)⟩⟩
        · have hb2 : Below w.heap.size w w2 := HB.out.trans (HB12.out.mono HB.out.size)
          exact hb2.trans ⟨hg5.os.trans hbA.os, hg5.tape.trans hbA.tape, hg5.output.trans hbA.output, Nat.le_trans hbA.size hg5.size, fun k hk => hsame k (Nat.lt_of_lt_of_le hk HSZ.out) (fun e => by have := (HO.out.lt k e).1; omega)⟩
      have HR5 := Lib.hid hR
      clear ho5 hg5 hv5 hl5 hR hi hz0 hz1 hz2 hS0 HS2 HIN HO HES
      go_wp2
      go_roundw
      all_goals first
        | exact ⟨m + 1, hlt, by go_num, HR5⟩
        | (simp [ivT2]; omega)
    · obtain rfl : m = l.length := by omega
      have HF := Lib.hid (show SmRel w l l.length (.slice A l.length c) wr from ⟨es, hes, hel, ho, hin, hb⟩)
      clear hes hel ho hin hb HR H1
      go_wp2
      go_ret
      exact ⟨_, rfl, HF.out⟩
end Go.Proofs.YthhnmpobkekbbaaGreat
