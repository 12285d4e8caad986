/- The tree's laws: a tree among other things; how many keys a height has; begun. -/
import Derived.Test.YtejbbojephiifaaTeX
namespace Go.Proofs.Ytejbbojephiifaa
open Go.RowKit

/-- A tree that lies behind M. -/
def TT (M : Nat) (w : World) (p : Nat) (xs : List KV) : Prop := M ≤ w.heap.size ∧ ∃ L, TA w p xs L ∧ ∀ a ∈ L, M ≤ a
theorem TT.below {M p : Nat} {w w' : World} {xs : List KV} (h : TT M w p xs) (hb : Below w.heap.size w w') : TT M w' p xs := by
  obtain ⟨h0, L, h1, h2⟩ := h
  exact ⟨Nat.le_trans h0 hb.size, L, h1.below hb, h2⟩
theorem TT.rise {M p : Nat} {w : World} {xs : List KV} (h : TT M w p xs) : Rise KV.k xs := by
  obtain ⟨_, L, h1, _⟩ := h
  exact h1.rise
theorem foot_ge {M N : Nat} {L L' : List Nat} (f : Foot N L L') (h : ∀ a ∈ L, M ≤ a) (hN : M ≤ N) : ∀ a ∈ L', M ≤ a := fun a ha => by
  rcases f.mem ha with h1 | h1
  · exact h a h1
  · omega
theorem fr_ge {M N : Nat} {L : List Nat} {w w' : World} (f : Fr N (· ∈ L) w w') (h : ∀ a ∈ L, M ≤ a) (hN : M ≤ N) : Below M w w' := f.toBelow hN h
theorem tnew {w : World} : Calls Try.prog 10 #[] w fun e w' => ∃ p, e = .returned (.pointer (some ⟨p, 0, none⟩)) ∧ TT w.heap.size w' p [] ∧ Below w.heap.size w w' := by
  refine (new_any w).mono ?_
  rintro e w' ⟨p, L, rfl, h1, h2, h3⟩
  exact ⟨p, rfl, ⟨h3.size, L, h1, h2⟩, h3⟩
theorem tput {M p : Nat} {w : World} {xs : List KV} (h : TT M w p xs) (hsm : xs.length ≤ 100000) (x : KV) :
    Calls Try.prog 14 #[.pointer (some ⟨p, 0, none⟩), .string x.k, .agg #[.int .i64 x.p, .int .i64 x.c]] w fun e w' => e = .returned (.bool (!has x.k xs)) ∧ TT M w' p (ins x xs) ∧ Below M w w' := by
  obtain ⟨h0, L, h1, h2⟩ := h
  refine (tput_any w h1 hsm x).mono ?_
  rintro e w' ⟨rfl, L', h3, h4, h5⟩
  have hb := fr_ge h5 h2 h0
  exact ⟨rfl, ⟨Nat.le_trans h0 hb.size, L', h3, foot_ge h4 h2 h0⟩, hb⟩
theorem tcut {M p : Nat} {w : World} {xs : List KV} (h : TT M w p xs) (hsm : xs.length ≤ 100000) (k : ByteArray) :
    Calls Try.prog 12 #[.pointer (some ⟨p, 0, none⟩), .string k] w fun e w' => e = .returned (.bool (has k xs)) ∧ TT M w' p (del k xs) ∧ Below M w w' := by
  obtain ⟨h0, L, h1, h2⟩ := h
  refine (tcut_any w h1 hsm k).mono ?_
  rintro e w' ⟨rfl, L', h3, h4, h5⟩
  have hb := fr_ge h5 h2 h0
  exact ⟨rfl, ⟨Nat.le_trans h0 hb.size, L', h3, foot_ge h4 h2 h0⟩, hb⟩
theorem tget {M p : Nat} {w : World} {xs : List KV} (h : TT M w p xs) (k : ByteArray) :
    Calls Try.prog 16 #[.pointer (some ⟨p, 0, none⟩), .string k] w fun e w' => e = .returned (fndV (fnd k xs)) ∧ TT M w' p xs ∧ Below w.heap.size w w' := by
  obtain ⟨L, h1, h2⟩ := h.2
  refine (tget_any w h1 k).mono ?_
  rintro e w' ⟨rfl, hb⟩
  exact ⟨rfl, h.below hb, hb⟩
theorem tlen {M p : Nat} {w : World} {xs : List KV} (h : TT M w p xs) :
    Calls Try.prog 18 #[.pointer (some ⟨p, 0, none⟩)] w fun e w' => e = .returned (.int .i64 xs.length) ∧ TT M w' p xs ∧ Below w.heap.size w w' := by
  obtain ⟨L, h1, h2⟩ := h.2
  refine (len_any w h1).mono ?_
  rintro e w' ⟨rfl, hb⟩
  exact ⟨rfl, h.below hb, hb⟩
theorem tfrom {M p : Nat} {w : World} {xs : List KV} (h : TT M w p xs) (hx : xs.length ≤ 100000) (k : ByteArray) (most : Int) :
    Calls Try.prog 21 #[.pointer (some ⟨p, 0, none⟩), .string k, .int .i64 most] w fun e w' => ∃ sk sv, e = .returned (.tuple #[sk, sv]) ∧ TT M w' p xs ∧ Below w.heap.size w w' ∧
      w'.ownsRow w.heap.size 9 1 sk (cutM most (frm k xs)).length ((cutM most (frm k xs)).map keyV) ∧ w'.ownsRow w.heap.size 35 2 sv (cutM most (frm k xs)).length ((cutM most (frm k xs)).flatMap ridV) := by
  obtain ⟨L, h1, h2⟩ := h.2
  refine (from_any w h1 hx k most).mono ?_
  rintro e w' ⟨sk, sv, rfl, hb, o1, o2⟩
  exact ⟨sk, sv, rfl, h.below hb, hb, o1, o2⟩
/-- A shape in memory: rows of numbers. -/
def ShA (B : Nat) (w : World) (s : Value) (rows : List (List Nat)) : Prop := ∃ vs, w.ownsRow B 54 1 s rows.length vs ∧ vs.length = rows.length ∧ ∀ i (_ : i < rows.length), ∃ v, vs[i]? = some v ∧ w.ownsRow B 3 1 v (rows.getD i []).length ((rows.getD i []).map intV)
/-- A tree of these keys as it may be. -/
def Fits (h : Nat) (g : G h) (xs : List KV) : Prop := Ok h g ∧ (h = 0 ∨ 2 ≤ cnt h g) ∧ cnt h g ≤ 4 ∧ kvs h g = xs
theorem tshape {M p : Nat} {w : World} {xs : List KV} (h : TT M w p xs) (hx : xs.length ≤ 100000) :
    Calls Try.prog 20 #[.pointer (some ⟨p, 0, none⟩)] w fun e w' => ∃ s h', ∃ g : G h', e = .returned s ∧ Fits h' g xs ∧ TT M w' p xs ∧ Below w.heap.size w w' ∧ ShA w.heap.size w' s (lv h' [g]) := by
  obtain ⟨L, h1, h2⟩ := h.2
  refine (shape_any w h1 hx).mono ?_
  rintro e w' ⟨s, h', g, rfl, o1, o2, o3, o4, hb, o5⟩
  exact ⟨s, h', g, rfl, ⟨o1, o2, o3, o4⟩, h.below hb, hb, o5⟩

theorem kk_ge {h m : Nat} : ∀ {l : List (ByteArray × G h)}, (∀ x ∈ l, m ≤ (kvs h x.2).length) → m * l.length ≤ (kk h l).length
  | [], _ => by simp
  | x :: r, hk => by
    have h1 := hk x (List.mem_cons_self ..)
    have h2 := kk_ge fun y hy => hk y (List.mem_cons_of_mem _ hy)
    rw [kk_cons, List.length_append, List.length_cons, Nat.mul_succ]
    omega
theorem kk_le {h m : Nat} : ∀ {l : List (ByteArray × G h)}, (∀ x ∈ l, (kvs h x.2).length ≤ m) → (kk h l).length ≤ m * l.length
  | [], _ => by simp [kk]
  | x :: r, hk => by
    have h1 := hk x (List.mem_cons_self ..)
    have h2 := kk_le fun y hy => hk y (List.mem_cons_of_mem _ hy)
    rw [kk_cons, List.length_append, List.length_cons, Nat.mul_succ]
    omega
theorem kvs_ge : ∀ {h : Nat} {g : G h}, Ok h g → 2 ≤ cnt h g → 2 ^ (h + 1) ≤ (kvs h g).length
  | 0, _, _, hc => hc
  | h + 1, g, ho, hc => by
    obtain ⟨b, v, l⟩ : Nd (G h) := g
    have h1 := kk_ge (h := h) (m := 2 ^ (h + 1)) (l := l) fun x hx => kvs_ge (ho x hx).2.2.1 (ho x hx).1
    have h2 : 2 ≤ l.length := hc
    have h3 : 2 ^ (h + 1) * 2 ≤ 2 ^ (h + 1) * l.length := Nat.mul_le_mul_left _ h2
    show 2 ^ (h + 1 + 1) ≤ (kk h l).length
    rw [Nat.pow_succ]
    omega
theorem kvs_le : ∀ {h : Nat} {g : G h}, Ok h g → cnt h g ≤ 4 → (kvs h g).length ≤ 4 ^ (h + 1)
  | 0, _, _, hc => hc
  | h + 1, g, ho, hc => by
    obtain ⟨b, v, l⟩ : Nd (G h) := g
    have h1 := kk_le (h := h) (m := 4 ^ (h + 1)) (l := l) fun x hx => kvs_le (ho x hx).2.2.1 (ho x hx).2.1
    have h2 : l.length ≤ 4 := hc
    have h3 : 4 ^ (h + 1) * l.length ≤ 4 ^ (h + 1) * 4 := Nat.mul_le_mul_left _ h2
    show (kk h l).length ≤ 4 ^ (h + 1 + 1)
    rw [Nat.pow_succ]
    omega
theorem Fits.small {h : Nat} {g : G h} {xs : List KV} (hf : Fits h g xs) (hx : xs.length < 4) : h = 0 ∧ lv h [g] = [[xs.length]] := by
  obtain ⟨o1, o2, o3, rfl⟩ := hf
  cases h with
  | zero => exact ⟨rfl, rfl⟩
  | succ h =>
    exfalso
    have h2 : 2 ≤ cnt (h + 1) g := by rcases o2 with e | e; omega; exact e
    have := kvs_ge o1 h2
    have h3 : 2 ^ (h + 1 + 1) = 2 ^ h * 4 := by rw [Nat.pow_succ, Nat.pow_succ]; omega
    have h4 : 1 ≤ 2 ^ h := Nat.one_le_two_pow
    omega

/-- A tree that lies beside some blocks. -/
def TI (M N N2 : Nat) (w : World) (p : Nat) (xs : List KV) : Prop := M ≤ w.heap.size ∧ N2 ≤ w.heap.size ∧ ∃ L, TA w p xs L ∧ ∀ a ∈ L, M ≤ a ∧ (a < N ∨ N2 ≤ a)
theorem tcut_keep {M N N2 p : Nat} {w : World} {xs : List KV} (h : TI M N N2 w p xs) (hsm : xs.length ≤ 100000) (k : ByteArray) :
    Calls Try.prog 12 #[.pointer (some ⟨p, 0, none⟩), .string k] w fun e w' => e = .returned (.bool (has k xs)) ∧ TI M N N2 w' p (del k xs) ∧ Below M w w' ∧ ∀ b, N ≤ b → b < N2 → w'.heap[b]? = w.heap[b]? := by
  obtain ⟨h0, h9, L, h1, h2⟩ := h
  refine (tcut_any w h1 hsm k).mono ?_
  rintro e w' ⟨rfl, L', h3, h4, h5⟩
  have hb := fr_ge h5 (fun a ha => (h2 a ha).1) h0
  refine ⟨rfl, ⟨Nat.le_trans h0 hb.size, Nat.le_trans h9 hb.size, L', h3, fun a ha => ⟨foot_ge h4 (fun a ha => (h2 a ha).1) h0 a ha, ?_⟩⟩, hb, fun b b1 b2 => h5.block b (by omega) (fun hm => by have := (h2 b hm).2; omega)⟩
  rcases h4.mem ha with h6 | h6
  · exact (h2 a h6).2
  · exact .inr (by omega)

theorem TT.aside {M p : Nat} {w w' w'' : World} {xs : List KV} (h : TT M w p xs) (hb : Below w.heap.size w w') (hb2 : Below w'.heap.size w' w'') : TI M w.heap.size w'.heap.size w'' p xs := by
  obtain ⟨h0, L, h1, h2⟩ := h
  exact ⟨Nat.le_trans h0 (Nat.le_trans hb.size hb2.size), hb2.size, L, (h1.below hb).below hb2, fun a ha => ⟨h2 a ha, .inl (h1.lt a ha)⟩⟩
/-- A row of a shape. -/
theorem ShA.row {B : Nat} {w : World} {s : Value} {rows : List (List Nat)} (h : ShA B w s rows) {i : Nat} (hi : i < rows.length) : ∃ gs cs A m, s = .slice (some ⟨gs, 0, none⟩) rows.length cs ∧ B ≤ gs ∧ gs < w.heap.size ∧ w.cell? ⟨gs, i, none⟩ = some (.slice A (rows.getD i []).length m) ∧
    ∀ j, j < (rows.getD i []).length → ∃ gr, A = some ⟨gr, 0, none⟩ ∧ B ≤ gr ∧ gr < w.heap.size ∧ w.cell? ⟨gr, j, none⟩ = some (.int .i64 ((rows.getD i []).getD j 0 : Nat)) := by
  obtain ⟨vs, h1, h2, h3⟩ := h
  obtain ⟨gs, cs, rfl, hb, hlt⟩ := h1.form (by omega)
  obtain ⟨v, hv, ho⟩ := h3 i hi
  obtain ⟨A, m, rfl⟩ := own_shape ho
  refine ⟨gs, cs, A, m, rfl, hb, hlt, ?_, fun j hj => ?_⟩
  · have := h1.cellAt i (by omega)
    exact this.trans hv
  · obtain ⟨gr, cr, e, hb2, hlt2⟩ := ho.form (by omega)
    cases e
    refine ⟨gr, rfl, hb2, hlt2, ?_⟩
    have := ho.cellAt j (by omega)
    rw [this]
    generalize rows.getD i [] = r at hj
    simp [List.getD_eq_getElem?_getD, List.getElem?_eq_getElem hj, intV]
def kA : ByteArray := ⟨#[97]⟩
def kB : ByteArray := ⟨#[98]⟩
theorem lt_ab : bL kA kB = true := by unfold bL; rw [Lib.toList_data, Lib.toList_data]; rfl
theorem lt_ba : bL kB kA = false := bL_asym lt_ab
def xs2 : List KV := [⟨kA, 2, 0⟩, ⟨kB, 1, 0⟩]
theorem beg_ins : ins ⟨kA, 2, 0⟩ (ins ⟨kB, 1, 0⟩ []) = xs2 := by simp [ins, lt_ab, lt_ba, xs2]
theorem beg_has : has kA (ins ⟨kB, 1, 0⟩ []) = false := by simp [ins, has, lt_ab, lt_ba]
theorem beg_fnd : fnd kB xs2 = some ⟨kB, 1, 0⟩ := by simp [fnd, xs2, lt_ab, bL_irr]
theorem beg_frm : cutM (-1) (frm kA xs2) = xs2 := by simp [frm, xs2, cutM, bL_irr]
theorem beg_has2 : has kA xs2 = true := by simp [has, xs2, bL_irr]
theorem beg_del : has kA (del kA xs2) = false := by simp [has, del, xs2, bL_irr, lt_ab, lt_ba]

set_option maxRecDepth 100000 in
set_option maxHeartbeats 8000000 in
theorem begun_any (w : World) : Calls Try.prog 9 #[] w fun e w' => e = .returned (.bool true) ∧ Below w.heap.size w w' := by
  go_enter Try.func9, Try.ntmps9
  go_wp2_with fail
  refine tnew.mono ?_
  rintro e w1 ⟨p, rfl, t1, b1⟩
  generalize hM : w.heap.size = M at *
  have HM := Lib.hid hM
  clear hM
  go_wp2_with fail
  refine (tput t1 (by simp) ⟨kB, 1, 0⟩).mono ?_
  rintro e w2 ⟨rfl, t2, b2⟩
  have B2 := b1.trans b2
  clear t1 b1 b2
  go_wp2_with fail
  refine (tput t2 (by decide) ⟨kA, 2, 0⟩).mono ?_
  rintro e w3 ⟨rfl, t3, b3⟩
  have B3 := B2.trans b3
  rw [beg_has]
  rw [beg_ins] at t3
  clear t2 B2 b3
  rw [show has kB [] = false from rfl]
  go_wp2_with fail
  refine (tget t3 kB).mono ?_
  rintro e w4 ⟨rfl, t4, b4⟩
  have B4 := B3.trans (b4.mono t3.1)
  rw [beg_fnd]
  simp only [fndV]
  clear t3 b4 B3
  have hbx := heap_alloc_new w4 (.cells #[.int .i64 1, .int .i64 0] 35)
  have hab := (Below.refl w4.heap.size w4).alloc (Nat.le_refl _) (.cells #[.int .i64 1, .int .i64 0] 35)
  have t5 := t4.below hab
  have B5 := B4.trans (hab.mono t4.1)
  clear t4 B4 hab
  go_wp2_with fail
  generalize w4.alloc (.cells #[.int .i64 1, .int .i64 0] 35) = w5 at *
  have hbl := (Array.getElem?_eq_some_iff.1 hbx).1
  generalize w4.heap.size = nb at *
  refine (tfrom t5 (by decide) kA (-1)).mono ?_
  rintro e w6 ⟨sk, sv, rfl, t6, b6, o1, o2⟩
  have B6 := B5.trans (b6.mono t5.1)
  have hbx6 := (b6.block nb hbl).trans hbx
  rw [beg_frm] at o1 o2
  obtain ⟨g1, c1, rfl, _, hg1⟩ := o1.form (by decide)
  obtain ⟨g2, c2, rfl, _, _⟩ := o2.form (by decide)
  have k1 : w6.cell? ⟨g1, 0, none⟩ = some (.string kA) := o1.cellAt 0 (by decide)
  rw [show xs2.length = 2 from rfl]
  have hbl6 := Nat.lt_of_lt_of_le hbl b6.size
  clear t5 B5 hbx hbl o1 o2 b6
  go_wp2_with fail
  refine (tshape t6 (by decide)).mono ?_
  rintro e w7 ⟨s, h', g', rfl, f7, t7, b7, a7⟩
  obtain ⟨rfl, hlv⟩ := f7.small (by decide)
  rw [hlv] at a7
  have B7 := B6.trans (b7.mono t6.1)
  have k17 := (b7.cell (p := ⟨g1, 0, none⟩) hg1).trans k1
  have hbx7 := (b7.block nb hbl6).trans hbx6
  have v7 : w7.cell? ⟨nb, 0, none⟩ = some (.int .i64 1) := (cell_of hbx7 0).1
  obtain ⟨gs, cs, A, m, rfl, hs1, hs2, hs3, hs4⟩ := a7.row (i := 0) (by decide)
  obtain ⟨gr, rfl, hr1, hr2, hr3⟩ := hs4 0 (by decide)
  have HT7 := Lib.hid (fun w8 (h : Below w7.heap.size w7 w8) => t6.aside b7 h)
  have hs3' : w7.cell? ⟨gs, 0, none⟩ = some (.slice (some ⟨gr, 0, none⟩) 1 m) := hs3
  have hr3' : w7.cell? ⟨gr, 0, none⟩ = some (.int .i64 2) := hr3
  have HS := Lib.hid (And.intro (And.intro hs1 hs2) (And.intro hs3' (And.intro hr1 (And.intro hr2 hr3'))))
  have hkA : kA.toList = [97] := by rw [Lib.toList_data]; rfl
  have HM7 : M ≤ w7.heap.size := t7.1
  clear B6 b7 k1 hbx6 hbx7 t6 hs1 hs2 hs3 hs4 hr1 hr2 hr3 hs3' hr3' a7 hlv f7 hg1 hbl6
  generalize hN6 : w6.heap.size = N at *
  clear hN6
  generalize hN7 : w7.heap.size = N2 at *
  have HN7 := Lib.hid hN7
  go_wp2_with fail
  refine (tlen t7).mono ?_
  rintro e w8 ⟨rfl, _, b8⟩
  have t8 := HT7.out w8 (HN7.out ▸ b8)
  have B8 : Below M w w8 := B7.trans (b8.mono (by omega))
  have hs8 : ∀ b, N ≤ b → b < N2 → w8.heap[b]? = w7.heap[b]? := fun b _ h2 => b8.block b (by omega)
  have HS8 := Lib.hid hs8
  rw [show xs2.length = 2 from rfl]
  clear hs8 B7 b8 t7 k17 v7 HT7
  go_wp2_with fail
  refine (tcut_keep t8 (by decide) kA).mono ?_
  rintro e w9 ⟨rfl, t9, b9, k9⟩
  have B9 := B8.trans b9
  rw [beg_has2]
  have HS9 := Lib.hid k9
  clear t8 B8 b9 k9
  go_wp2_with fail
  refine (tcut_keep t9 (Nat.le_trans del_sub.length_le (by decide)) kA).mono ?_
  rintro e wA ⟨rfl, tA, bA, kA'⟩
  have BA := B9.trans bA
  rw [beg_del]
  have hbk : ∀ b, N ≤ b → b < N2 → wA.heap[b]? = w7.heap[b]? := fun b h1 h2 => (kA' b h1 h2).trans ((HS9.out b h1 h2).trans (HS8.out b h1 h2))
  have z1 := (World.cell?_of_block (a := ⟨gs, 0, none⟩) (hbk gs HS.out.1.1 HS.out.1.2)).trans HS.out.2.1
  have z2 := (World.cell?_of_block (a := ⟨gr, 0, none⟩) (hbk gr HS.out.2.2.1 HS.out.2.2.2.1)).trans HS.out.2.2.2.2
  have HBA := Lib.hid BA
  clear t9 tA B9 bA kA' hbk BA HS HS8 HS9
  go_wp2_with fail
  go_ret
  rw [HM.out]
  exact ⟨rfl, HBA.out⟩
end Go.Proofs.Ytejbbojephiifaa
