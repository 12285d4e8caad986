/- EntryLengths: its walk. -/
import Derived.Test.YtkfebibnpincpaaEZero
import Derived.Test.YtkfebibnpincpaaEntRe
import Derived.Deep.CutBlock
namespace Go.Proofs.Ytkfebibnpincpaa.entryLengths
open Go.ChangeShapes Go.WideShapes Go.ChangeAt Go.RowKit

def Fin (w : World) (e : Ending) (w' : World) : Prop := e = .returned (.bool true) ∧ Below w.heap.size w w'

/-- What each of the five leaves. -/
def LR (B m l d o : Nat) : Nat → Value → World → Prop
  | 0, v, W => ∃ g, v = .slice (some ⟨g, 0, none⟩) m m ∧ W.ownsRow B 52 4 (.slice (some ⟨g, 0, none⟩) m m) m ((List.replicate m mv0).flatMap mvV)
  | 1, v, W => ∃ g, v = .slice (some ⟨g, 0, none⟩) l l ∧ W.ownsRow B 46 4 (.slice (some ⟨g, 0, none⟩) l l) l ((List.replicate l lv0).flatMap lvV)
  | 2, v, W => ∃ g, v = .slice (some ⟨g, 0, none⟩) d d ∧ W.ownsRow B 48 2 (.slice (some ⟨g, 0, none⟩) d d) d ((List.replicate d dt0).flatMap dtV)
  | 3, v, W => ∃ g, v = .slice (some ⟨g, 0, none⟩) o o ∧ W.ownsRow B 50 3 (.slice (some ⟨g, 0, none⟩) o o) o ((List.replicate o op0).flatMap opV)
  | 4, v, W => ∃ g, v = .pointer (some ⟨g, 0, none⟩) ∧ B ≤ g ∧ W.heap[g]? = some (.cells ent0 30 (0, 0))
  | _, v, W => ∃ g0 g1 g2 g3, v = .agg (entC (zE 9 m l d o [] []) (.slice none 0 0) (.slice none 0 0) (.slice (some ⟨g0, 0, none⟩) m m) (.slice (some ⟨g1, 0, none⟩) l l) (.slice (some ⟨g2, 0, none⟩) d d) (.slice (some ⟨g3, 0, none⟩) o o)) ∧ W.ownsRow B 52 4 (.slice (some ⟨g0, 0, none⟩) m m) m ((List.replicate m mv0).flatMap mvV) ∧ W.ownsRow B 46 4 (.slice (some ⟨g1, 0, none⟩) l l) l ((List.replicate l lv0).flatMap lvV) ∧ W.ownsRow B 48 2 (.slice (some ⟨g2, 0, none⟩) d d) d ((List.replicate d dt0).flatMap dtV) ∧ W.ownsRow B 50 3 (.slice (some ⟨g3, 0, none⟩) o o) o ((List.replicate o op0).flatMap opV)
theorem LR.mono {B m l d o : Nat} {W W' : World} (hb : Below W.heap.size W W') : ∀ j u, LR B m l d o j u W → LR B m l d o j u W'
  | 0, _, ⟨g, e, h⟩ => ⟨g, e, own_bel h hb⟩
  | 1, _, ⟨g, e, h⟩ => ⟨g, e, own_bel h hb⟩
  | 2, _, ⟨g, e, h⟩ => ⟨g, e, own_bel h hb⟩
  | 3, _, ⟨g, e, h⟩ => ⟨g, e, own_bel h hb⟩
  | 4, _, ⟨g, e, hB, h⟩ => ⟨g, e, hB, (hb.block g (Array.getElem?_eq_some_iff.1 h).1).trans h⟩
  | _ + 5, _, ⟨g0, g1, g2, g3, e, h0, h1, h2, h3⟩ => ⟨g0, g1, g2, g3, e, own_bel h0 hb, own_bel h1 hb, own_bel h2 hb, own_bel h3 hb⟩
theorem own_ne {w : World} {B k n m g0 g : Nat} {e t : TypeId} {xs : List Value} {cs : Array Value} {fr : Nat × Nat} (h : w.ownsRow B e k (.slice (some ⟨g0, 0, none⟩) m m) n xs) (hg : w.heap[g]? = some (.cells cs t fr)) (ht : t ≠ e) : g0 ≠ g := by
  rintro rfl
  rcases h.2 with ⟨e, h0⟩ | ⟨g, cap, cur, e, _, h1, _⟩
  · cases e
  · cases e
    rw [h1] at hg
    injection hg with hg
    injection hg with _ e2 _
    exact ht e2.symm
theorem own_row {w : World} {B k n m g0 g : Nat} {e t : TypeId} {xs : List Value} {cs cs' : Array Value} {fr : Nat × Nat} (h : w.ownsRow B e k (.slice (some ⟨g0, 0, none⟩) m m) n xs) (hg : w.heap[g]? = some (.cells cs t fr)) (ht : t ≠ e) : (w.setRow g cs').ownsRow B e k (.slice (some ⟨g0, 0, none⟩) m m) n xs :=
  own_at h fun k hk => by
    injection hk with hk
    rw [← hk]
    exact setRow_far _ _ _ (own_ne h hg ht)

theorem len_box {w : World} {B m l d o g0 g1 g2 g3 g : Nat} (h0 : w.ownsRow B 52 4 (.slice (some ⟨g0, 0, none⟩) m m) m ((List.replicate m mv0).flatMap mvV)) (h1 : w.ownsRow B 46 4 (.slice (some ⟨g1, 0, none⟩) l l) l ((List.replicate l lv0).flatMap lvV))
    (h2 : w.ownsRow B 48 2 (.slice (some ⟨g2, 0, none⟩) d d) d ((List.replicate d dt0).flatMap dtV)) (h3 : w.ownsRow B 50 3 (.slice (some ⟨g3, 0, none⟩) o o) o ((List.replicate o op0).flatMap opV)) (hg : w.heap[g]? = some (.cells ent0 30 (0, 0))) (hB : B ≤ g) (k : Int) :
    Bz g (zE k m l d o [] []) (.slice none 0 0) (.slice none 0 0) (.slice (some ⟨g0, 0, none⟩) m m) (.slice (some ⟨g1, 0, none⟩) l l) (.slice (some ⟨g2, 0, none⟩) d d) (.slice (some ⟨g3, 0, none⟩) o o) (w.setRow g (entC (zE k m l d o [] []) (.slice none 0 0) (.slice none 0 0) (.slice (some ⟨g0, 0, none⟩) m m) (.slice (some ⟨g1, 0, none⟩) l l) (.slice (some ⟨g2, 0, none⟩) d d) (.slice (some ⟨g3, 0, none⟩) o o))) ∧ Below B w (w.setRow g (entC (zE k m l d o [] []) (.slice none 0 0) (.slice none 0 0) (.slice (some ⟨g0, 0, none⟩) m m) (.slice (some ⟨g1, 0, none⟩) l l) (.slice (some ⟨g2, 0, none⟩) d d) (.slice (some ⟨g3, 0, none⟩) o o))) := by
  refine ⟨⟨setRow_heap _ _ _ _ _ _ hg, slK_nil _, slK_nil _, (own_els (f := mvV) (fun _ => rfl) (own_row h0 hg (by decide)) List.length_replicate).1, (own_els (f := lvV) (fun _ => rfl) (own_row h1 hg (by decide)) List.length_replicate).1, (own_els (f := dtV) (fun _ => rfl) (own_row h2 hg (by decide)) List.length_replicate).1, z_opens (own_row h3 hg (by decide))⟩, setRow_below _ _ _ hB⟩


def z26 : List Int := List.replicate 26 0
theorem z26_ok : bytesOk z26 := fun x hx => by rw [List.eq_of_mem_replicate hx]; omega
theorem z26_len : z26.length = 26 := List.length_replicate
def NG (g : Nat) (v : Value) : Prop := ∀ b, v.ownBlock = some b → b ≠ g
theorem slK_ng {w : World} {g i : Nat} {x v : Value} {l : List Int} (h : SlK .u8 w v l) (hn : NG g v) : SlK .u8 (w.setCell ⟨g, i, none⟩ x) v l := by
  obtain ⟨p, cap, rfl, h1, h2, h3, h4⟩ := h
  refine ⟨p, cap, rfl, h1, h2, h3, fun a ha => ?_⟩
  obtain ⟨h5, h6, h7⟩ := h4 a ha
  subst ha
  have e := setCell_far w g i x (hn a.block rfl)
  refine ⟨h5, by simpa using h6, fun j hj => ?_⟩
  rw [← h7 j hj]
  exact World.cell?_of_block e

/-- The entry and its rows. -/
structure Lo (w : World) (g m l d o g0 g1 g2 g3 : Nat) (old new : List Int) (so sn : Value) (W : World) : Prop where
  b : Below w.heap.size w W
  le : w.heap.size ≤ g
  bx : W.heap[g]? = some (.cells (entC (zE 9 m l d o old new) so sn (.slice (some ⟨g0, 0, none⟩) m m) (.slice (some ⟨g1, 0, none⟩) l l) (.slice (some ⟨g2, 0, none⟩) d d) (.slice (some ⟨g3, 0, none⟩) o o)) 30 (0, 0))
  o0 : W.ownsRow w.heap.size 52 4 (.slice (some ⟨g0, 0, none⟩) m m) m ((List.replicate m mv0).flatMap mvV)
  o1 : W.ownsRow w.heap.size 46 4 (.slice (some ⟨g1, 0, none⟩) l l) l ((List.replicate l lv0).flatMap lvV)
  o2 : W.ownsRow w.heap.size 48 2 (.slice (some ⟨g2, 0, none⟩) d d) d ((List.replicate d dt0).flatMap dtV)
  o3 : W.ownsRow w.heap.size 50 3 (.slice (some ⟨g3, 0, none⟩) o o) o ((List.replicate o op0).flatMap opV)
  hso : SlK .u8 W so old
  hsn : SlK .u8 W sn new
  no : NG g so
  nn : NG g sn
section
variable {w : World} {g m l d o g0 g1 g2 g3 : Nat} {old new old' new' : List Int} {so sn so' sn' : Value} {W W' : World}
theorem Lo.lt (h : Lo w g m l d o g0 g1 g2 g3 old new so sn W) : g < W.heap.size := (Array.getElem?_eq_some_iff.1 h.bx).1
theorem Lo.on (h : Lo w g m l d o g0 g1 g2 g3 old new so sn W) (hb : Below W.heap.size W W') : Lo w g m l d o g0 g1 g2 g3 old new so sn W' :=
  ⟨h.b.trans (hb.mono h.b.size), h.le, (hb.block g h.lt).trans h.bx, own_bel h.o0 hb, own_bel h.o1 hb, own_bel h.o2 hb, own_bel h.o3 hb, h.hso.below hb (Nat.le_refl _), h.hsn.below hb (Nat.le_refl _), h.no, h.nn⟩
theorem Lo.bz (h : Lo w g m l d o g0 g1 g2 g3 old new so sn W) : Bz g (zE 9 m l d o old new) so sn (.slice (some ⟨g0, 0, none⟩) m m) (.slice (some ⟨g1, 0, none⟩) l l) (.slice (some ⟨g2, 0, none⟩) d d) (.slice (some ⟨g3, 0, none⟩) o o) W :=
  ⟨h.bx, h.hso, h.hsn, (own_els (f := mvV) (fun _ => rfl) h.o0 List.length_replicate).1, (own_els (f := lvV) (fun _ => rfl) h.o1 List.length_replicate).1, (own_els (f := dtV) (fun _ => rfl) h.o2 List.length_replicate).1, z_opens h.o3⟩
theorem own_cell {k n q a : Nat} {B i : Nat} {e : TypeId} {xs : List Value} {cs : Array Value} {x : Value} (h : W.ownsRow B e k (.slice (some ⟨a, 0, none⟩) q q) n xs) (hg : W.heap[g]? = some (.cells cs 30 (0, 0))) (ht : 30 ≠ e) : (W.setCell ⟨g, i, none⟩ x).ownsRow B e k (.slice (some ⟨a, 0, none⟩) q q) n xs :=
  own_at h fun k hk => by
    injection hk with hk
    rw [← hk]
    exact setCell_far _ _ _ _ (own_ne h hg ht)
theorem Lo.cell {i : Nat} {v : Value} (h : Lo w g m l d o g0 g1 g2 g3 old new so sn W) (he : (entC (zE 9 m l d o old new) so sn (.slice (some ⟨g0, 0, none⟩) m m) (.slice (some ⟨g1, 0, none⟩) l l) (.slice (some ⟨g2, 0, none⟩) d d) (.slice (some ⟨g3, 0, none⟩) o o)).setIfInBounds i v = entC (zE 9 m l d o old' new') so' sn' (.slice (some ⟨g0, 0, none⟩) m m) (.slice (some ⟨g1, 0, none⟩) l l) (.slice (some ⟨g2, 0, none⟩) d d) (.slice (some ⟨g3, 0, none⟩) o o))
    (h1 : SlK .u8 W so' old') (h2 : SlK .u8 W sn' new') (n1 : NG g so') (n2 : NG g sn') : Lo w g m l d o g0 g1 g2 g3 old' new' so' sn' (W.setCell ⟨g, i, none⟩ v) := by
  refine ⟨h.b.trans ⟨rfl, rfl, rfl, by simp, fun k hk => setCell_far _ _ _ _ (by have := h.le; omega)⟩, h.le, ?_, own_cell h.o0 h.bx (by decide), own_cell h.o1 h.bx (by decide), own_cell h.o2 h.bx (by decide), own_cell h.o3 h.bx (by decide), slK_ng h1 n1, slK_ng h2 n2, n1, n2⟩
  rw [heap_setCell_same _ _ _ _ _ _ h.bx, he]
/-- 26 zeros in a block of their own. -/
theorem Lo.made (h : Lo w g m l d o g0 g1 g2 g3 old new so sn W) : Lo w g m l d o g0 g1 g2 g3 old new so sn (W.alloc (.cells (byteV z26).toArray 5)) ∧ SlK .u8 (W.alloc (.cells (byteV z26).toArray 5)) (.slice (some ⟨W.heap.size, 0, none⟩) 26 26) z26 ∧ NG g (.slice (some ⟨W.heap.size, 0, none⟩) 26 26) := by
  refine ⟨h.on ((Below.refl _ _).alloc (Nat.le_refl _) _), ((blk_new W z26).pt (n := 26) (c := 26) z26_len.symm (by decide)).slK z26_ok, fun b hb => ?_⟩
  injection hb with hb
  have hb2 : W.heap.size = b := hb
  have := h.lt
  omega
end

set_option maxRecDepth 100000 in
set_option maxHeartbeats 4000000 in
theorem walk (w : World) (a0 a1 a2 a3 : Int) (ha0 : 0 ≤ a0 ∧ a0 < 256) (ha1 : 0 ≤ a1 ∧ a1 < 256) (ha2 : 0 ≤ a2 ∧ a2 < 256) (ha3 : 0 ≤ a3 ∧ a3 < 256) (b0 b1 : Bool) :
    Calls Try.prog 8 #[.int .u8 a0, .int .u8 a1, .int .u8 a2, .int .u8 a3, .bool b0, .bool b1] w (Fin w) := by
  obtain ⟨n0, e0, q0⟩ : ∃ n : Nat, a0.tmod 41 = (n : Int) ∧ n ≤ 40 := ⟨(a0 % 41).toNat, by rw [Int.tmod_eq_emod_of_nonneg (by omega)]; omega, by omega⟩
  obtain ⟨n1, e1, q1⟩ : ∃ n : Nat, a1.tmod 41 = (n : Int) ∧ n ≤ 40 := ⟨(a1 % 41).toNat, by rw [Int.tmod_eq_emod_of_nonneg (by omega)]; omega, by omega⟩
  obtain ⟨n2, e2, q2⟩ : ∃ n : Nat, a2.tmod 41 = (n : Int) ∧ n ≤ 40 := ⟨(a2 % 41).toNat, by rw [Int.tmod_eq_emod_of_nonneg (by omega)]; omega, by omega⟩
  obtain ⟨n3, e3, q3⟩ : ∃ n : Nat, a3.tmod 41 = (n : Int) ∧ n ≤ 40 := ⟨(a3 % 41).toNat, by rw [Int.tmod_eq_emod_of_nonneg (by omega)]; omega, by omega⟩
  clear ha0 ha1 ha2 ha3
  go_enter Try.func8, Try.ntmps8
  go_wp2_with fail
  refine (begun_any w).mono ?_
  rintro r w2 ⟨rfl, hb2⟩
  have HB2 := Lib.hid hb2
  have HS : Hid (∀ W, Below w2.heap.size w2 W → Below w2.heap.size w2 W) := fun W h => h
  have D0 := (Below.refl w2.heap.size w2).drew
  clear hb2
  go_upto_region 3 with (fail)
  refine wp_region_held_drew (S := (fun W : World => Below w2.heap.size w2 W)) (by kernel_rfl) (HS.out _ D0) (fun hHeld => ?_)
  refine wpAnyH_take (i := 0) (oi := ⟨_, _, _, _, _, _⟩) (v := ?_) rfl (by kernel_rfl) (by kernel_rfl) (by kernel_rfl) (fun _ _ _ h => h) (Or.inl ⟨by rfl, ?_⟩) (by assumption) ?_
  rotate_left
  · intro W hSW
    try dsimp only at hSW
    go_simp
    try with_reducible rfl
  rotate_left
  try simp only [Act.put, List.setIfInBounds_toArray, List.set_cons_zero, List.set_cons_succ]
  refine wpAnyH_take (i := 1) (oi := ⟨_, _, _, _, _, _⟩) (v := ?_) rfl (by kernel_rfl) (by kernel_rfl) (by kernel_rfl) (fun _ _ _ h => h) (Or.inl ⟨by rfl, ?_⟩) (by assumption) ?_
  rotate_left
  · intro W hSW
    try dsimp only at hSW
    go_simp
    try with_reducible rfl
  rotate_left
  try simp only [Act.put, List.setIfInBounds_toArray, List.set_cons_zero, List.set_cons_succ]
  refine wpAnyH_take (i := 3) (oi := ⟨_, _, _, _, _, _⟩) (v := ?_) rfl (by kernel_rfl) (by kernel_rfl) (by kernel_rfl) (fun _ _ _ h => h) (Or.inl ⟨by rfl, ?_⟩) (by assumption) ?_
  rotate_left
  · intro W hSW
    try dsimp only at hSW
    go_simp
    try with_reducible rfl
  rotate_left
  try simp only [Act.put, List.setIfInBounds_toArray, List.set_cons_zero, List.set_cons_succ]
  refine wpAnyH_take (i := 4) (oi := ⟨_, _, _, _, _, _⟩) (v := ?_) rfl (by kernel_rfl) (by kernel_rfl) (by kernel_rfl) (fun _ _ _ h => h) (Or.inl ⟨by rfl, ?_⟩) (by assumption) ?_
  rotate_left
  · intro W hSW
    try dsimp only at hSW
    go_simp
    try with_reducible rfl
  rotate_left
  try simp only [Act.put, List.setIfInBounds_toArray, List.set_cons_zero, List.set_cons_succ]
  refine wpAnyH_take (i := 6) (oi := ⟨_, _, _, _, _, _⟩) (v := ?_) rfl (by kernel_rfl) (by kernel_rfl) (by kernel_rfl) (fun _ _ _ h => h) (Or.inl ⟨by rfl, ?_⟩) (by assumption) ?_
  rotate_left
  · intro W hSW
    try dsimp only at hSW
    go_simp
    try with_reducible rfl
  rotate_left
  try simp only [Act.put, List.setIfInBounds_toArray, List.set_cons_zero, List.set_cons_succ]
  refine wpAnyH_take (i := 7) (oi := ⟨_, _, _, _, _, _⟩) (v := ?_) rfl (by kernel_rfl) (by kernel_rfl) (by kernel_rfl) (fun _ _ _ h => h) (Or.inl ⟨by rfl, ?_⟩) (by assumption) ?_
  rotate_left
  · intro W hSW
    try dsimp only at hSW
    go_simp
    try with_reducible rfl
  rotate_left
  try simp only [Act.put, List.setIfInBounds_toArray, List.set_cons_zero, List.set_cons_succ]
  refine wpAnyH_take (i := 9) (oi := ⟨_, _, _, _, _, _⟩) (v := ?_) rfl (by kernel_rfl) (by kernel_rfl) (by kernel_rfl) (fun _ _ _ h => h) (Or.inl ⟨by rfl, ?_⟩) (by assumption) ?_
  rotate_left
  · intro W hSW
    try dsimp only at hSW
    go_simp
    try with_reducible rfl
  rotate_left
  try simp only [Act.put, List.setIfInBounds_toArray, List.set_cons_zero, List.set_cons_succ]
  refine wpAnyH_take (i := 10) (oi := ⟨_, _, _, _, _, _⟩) (v := ?_) rfl (by kernel_rfl) (by kernel_rfl) (by kernel_rfl) (fun _ _ _ h => h) (Or.inl ⟨by rfl, ?_⟩) (by assumption) ?_
  rotate_left
  · intro W hSW
    try dsimp only at hSW
    go_simp
    try with_reducible rfl
  rotate_left
  try simp only [Act.put, List.setIfInBounds_toArray, List.set_cons_zero, List.set_cons_succ]
  refine makers [(2, 22), (5, 25), (8, 28), (11, 31), (13, 13), (12, 32)] _ #[true, true, false, true, true, false, true, true, false, true, true, false, false, false, false] (fun W => Below w2.heap.size w2 W) (LR w2.heap.size n0 n1 n2 n3) 1 (by decide) (by decide) (fun d hd => ?_) (fun _ h => h) (fun L hL hex => ?_) (fun k hk L a W K hL hrd hdone hA hI hK => ?_) (fun vs w3 hl hv hI => ?_) 6 [false, false, false, false, false, false] _ _ rfl rfl (Agree.refl _ _) (fun k hk h => ?_) D0
  · have h : d ≤ 32 := by simp [ds] at hd; omega
    exact Nat.lt_of_le_of_lt h (show 32 < 83 by decide)
  · obtain ⟨c0, c1, c2, c3, c4, c5, rfl⟩ : ∃ c0 c1 c2 c3 c4 c5, L = [c0, c1, c2, c3, c4, c5] := by
      match L, hL with
      | [c0, c1, c2, c3, c4, c5], _ => exact ⟨c0, c1, c2, c3, c4, c5, rfl⟩
    have hp : ∀ l1 l2 : List Nat, (!l1.isEmpty && l1.all fun i => l2.contains i) = true → l1 ≠ [] ∧ ∀ i ∈ l1, i ∈ l2 := fun l1 l2 h => by
      simp only [Bool.and_eq_true, Bool.not_eq_true', List.isEmpty_eq_false_iff, List.all_eq_true, List.contains_iff_mem] at h
      exact h
    refine hp _ _ ?_
    clear hp
    cases c0 <;> cases c1 <;> cases c2 <;> cases c3 <;> cases c4 <;> cases c5 <;> first
      | (exfalso; obtain ⟨k, hk⟩ := hex; rcases k with _ | _ | _ | _ | _ | _ | k <;> simp at hk; done)
      | kernel_rfl
  · rcases k with _ | _ | _ | _ | _ | _ | k
    · obtain ⟨w', hr, ho, hb⟩ := mk_moves .u8 n0 (by omega) W
      exact wpOp_makeS rfl rfl rfl rfl ((hA.eval (by decide)).trans (by first | rfl | exact congrArg (Value.int .u8) e0)) ((hA.eval (by decide)).trans (by first | rfl | exact congrArg (Value.int .u8) e0)) hr (hK _ _ (hI.trans (hb.mono hI.size)) (LR.mono hb) ⟨_, rfl, ho.mono hI.size⟩)
    · obtain ⟨w', hr, ho, hb⟩ := mk_lives .u8 n1 (by omega) W
      exact wpOp_makeS rfl rfl rfl rfl ((hA.eval (by decide)).trans (by first | rfl | exact congrArg (Value.int .u8) e1)) ((hA.eval (by decide)).trans (by first | rfl | exact congrArg (Value.int .u8) e1)) hr (hK _ _ (hI.trans (hb.mono hI.size)) (LR.mono hb) ⟨_, rfl, ho.mono hI.size⟩)
    · obtain ⟨w', hr, ho, hb⟩ := mk_dirty .u8 n2 (by omega) W
      exact wpOp_makeS rfl rfl rfl rfl ((hA.eval (by decide)).trans (by first | rfl | exact congrArg (Value.int .u8) e2)) ((hA.eval (by decide)).trans (by first | rfl | exact congrArg (Value.int .u8) e2)) hr (hK _ _ (hI.trans (hb.mono hI.size)) (LR.mono hb) ⟨_, rfl, ho.mono hI.size⟩)
    · obtain ⟨w', hr, ho, hb⟩ := mk_opens .u8 n3 (by omega) W
      exact wpOp_makeS rfl rfl rfl rfl ((hA.eval (by decide)).trans (by first | rfl | exact congrArg (Value.int .u8) e3)) ((hA.eval (by decide)).trans (by first | rfl | exact congrArg (Value.int .u8) e3)) hr (hK _ _ (hI.trans (hb.mono hI.size)) (LR.mono hb) ⟨_, rfl, ho.mono hI.size⟩)
    · have hb : Below W.heap.size W (W.alloc (.cells ent0 30)) := (Below.refl _ _).alloc (Nat.le_refl _) _
      exact wpOp_alloc rfl rfl rfl rfl (alloc_ent W) (hK _ _ (hI.trans (hb.mono hI.size)) (LR.mono hb) ⟨_, rfl, hI.size, heap_alloc_new W _⟩)
    · obtain ⟨c0, c1, c2, c3, c4, c5, rfl⟩ : ∃ c0 c1 c2 c3 c4 c5, L = [c0, c1, c2, c3, c4, c5] := by
        match L, hL with
        | [c0, c1, c2, c3, c4, c5], _ => exact ⟨c0, c1, c2, c3, c4, c5, rfl⟩
      obtain ⟨rfl, rfl, rfl, rfl⟩ : c0 = true ∧ c1 = true ∧ c2 = true ∧ c3 = true := by
        have hrd2 := List.contains_iff_mem.2 hrd
        clear hrd hdone hL
        revert hrd2
        cases c0 <;> cases c1 <;> cases c2 <;> cases c3 <;> cases c4 <;> cases c5 <;> first
          | (intro _; exact ⟨rfl, rfl, rfl, rfl⟩)
          | (intro h; exact absurd (h.symm.trans (by kernel_rfl : _ = false)) (by decide))
      obtain ⟨v0, t0, g0, rfl, o0⟩ := hdone 0 (by simp) rfl
      obtain ⟨v1, t1, g1, rfl, o1⟩ := hdone 1 (by simp) rfl
      obtain ⟨v2, t2, g2, rfl, o2⟩ := hdone 2 (by simp) rfl
      obtain ⟨v3, t3, g3, rfl, o3⟩ := hdone 3 (by simp) rfl
      refine wpOp_build (v := .agg (entC (zE 9 n0 n1 n2 n3 [] []) (.slice none 0 0) (.slice none 0 0) (.slice (some ⟨g0, 0, none⟩) n0 n0) (.slice (some ⟨g1, 0, none⟩) n1 n1) (.slice (some ⟨g2, 0, none⟩) n2 n2) (.slice (some ⟨g3, 0, none⟩) n3 n3))) rfl rfl rfl ?_ (hK _ _ hI (fun _ _ h => h) ⟨g0, g1, g2, g3, rfl, o0, o1, o2, o3⟩)
      have hev : ∀ {d : Nat} {v : Value}, a.tmps[d]? = some v → a.eval (.tmp d) = v := fun h => by
        show a.tmps.getD _ undef = _
        rw [Array.getD_eq_getD_getElem?, h]
        rfl
      have x0 := hev t0
      have x1 := hev t1
      have x2 := hev t2
      have x3 := hev t3
      simp only [List.getElem_cons_zero, List.getElem_cons_succ] at x0 x1 x2 x3
      have hb : Try.prog.built 30 [(0, .int .i64 9), (10, .slice (some ⟨g0, 0, none⟩) n0 n0), (11, .slice (some ⟨g1, 0, none⟩) n1 n1), (12, .slice (some ⟨g2, 0, none⟩) n2 n2), (13, .slice (some ⟨g3, 0, none⟩) n3 n3)] = some (entC (zE 9 n0 n1 n2 n3 [] []) (.slice none 0 0) (.slice none 0 0) (.slice (some ⟨g0, 0, none⟩) n0 n0) (.slice (some ⟨g1, 0, none⟩) n1 n1) (.slice (some ⟨g2, 0, none⟩) n2 n2) (.slice (some ⟨g3, 0, none⟩) n3 n3)) := by kernel_rfl
      refine run_exec_build rfl ?_
      simp only [List.map_toArray, List.map_cons, List.map_nil, x0, x1, x2, x3]
      exact hb
    · simp at hk; omega
  · obtain ⟨v0, v1, v2, v3, v4, v5, rfl⟩ : ∃ v0 v1 v2 v3 v4 v5, vs = [v0, v1, v2, v3, v4, v5] := by
      match vs, hl with
      | [v0, v1, v2, v3, v4, v5], _ => exact ⟨v0, v1, v2, v3, v4, v5, rfl⟩
    obtain ⟨_, rfl, _⟩ := hv 0 (by simp)
    obtain ⟨_, rfl, _⟩ := hv 1 (by simp)
    obtain ⟨_, rfl, _⟩ := hv 2 (by simp)
    obtain ⟨_, rfl, _⟩ := hv 3 (by simp)
    obtain ⟨g, rfl, hgB, hg⟩ := hv 4 (by simp)
    obtain ⟨g0, g1, g2, g3, rfl, o0, o1, o2, o3⟩ := hv 5 (by simp)
    obtain ⟨hz, hzb⟩ := len_box o0 o1 o2 o3 hg hgB 9
    have hHeld : Below w2.heap.size w2 w3 := hI
    have HZI := Lib.hid (infoEntC (zE 9 n0 n1 n2 n3 [] []) (.slice none 0 0) (.slice none 0 0) (.slice (some ⟨g0, 0, none⟩) n0 n0) (.slice (some ⟨g1, 0, none⟩) n1 n1) (.slice (some ⟨g2, 0, none⟩) n2 n2) (.slice (some ⟨g3, 0, none⟩) n3 n3))
    have HZA := Lib.hid (entC_all (zE 9 n0 n1 n2 n3 [] []) none none (some ⟨g0, 0, none⟩) (some ⟨g1, 0, none⟩) (some ⟨g2, 0, none⟩) (some ⟨g3, 0, none⟩) 0 0 0 0 n0 n0 n1 n1 n2 n2 n3 n3)
    have HG := Lib.hid hg
    have HZ := Lib.hid hz
    have HZB := Lib.hid (hI.trans hzb)
    have o0' := o0
    have o1' := o1
    have o2' := o2
    have o3' := o3
    clear hv hl hI o0 o1 o2 o3 hg hz hzb
    show wpAnyH _ _ _ _ _ 1 #[true, true, true, true, true, true, true, true, true, true, true, true, true, true, false] _ w3
    simp only [putAll, Act.put, List.setIfInBounds_toArray, List.set_cons_zero, List.set_cons_succ]
    refine wpAnyH_ready (rs := [14]) (by kernel_rfl) (by simp) ?_
    refine AllReadyH.cons (o := ⟨_, _, _, _, _, _⟩) rfl (fun K hK => ?_) AllReadyH.nil
    rw [if_pos (by rfl)]
    refine wp_store_row 30 (.tmp 13) (.tmp 32) rfl g (entC (zE 9 n0 n1 n2 n3 [] []) (.slice none 0 0) (.slice none 0 0) (.slice (some ⟨g0, 0, none⟩) n0 n0) (.slice (some ⟨g1, 0, none⟩) n1 n1) (.slice (some ⟨g2, 0, none⟩) n2 n2) (.slice (some ⟨g3, 0, none⟩) n3 n3)) rfl rfl 30 ent0 HG.out HZI.out rfl HZA.out ?_
    refine hK.out _ _ HZB.out (fun hHeld => ?_)
    clear hK K
    try simp only [Act.put, List.setIfInBounds_toArray, List.set_cons_zero, List.set_cons_succ]
    refine wpAnyH_done (by kernel_rfl) ?_ _
    have hLo : Lo w2 g n0 n1 n2 n3 g0 g1 g2 g3 [] [] (.slice none 0 0) (.slice none 0 0) (w3.setRow g (entC (zE 9 n0 n1 n2 n3 [] []) (.slice none 0 0) (.slice none 0 0) (.slice (some ⟨g0, 0, none⟩) n0 n0) (.slice (some ⟨g1, 0, none⟩) n1 n1) (.slice (some ⟨g2, 0, none⟩) n2 n2) (.slice (some ⟨g3, 0, none⟩) n3 n3))) :=
      ⟨HZB.out, hgB, HZ.out.bx, own_row o0' HG.out (by decide), own_row o1' HG.out (by decide), own_row o2' HG.out (by decide), own_row o3' HG.out (by decide), slK_nil _, slK_nil _, (fun b hb => by cases hb), (fun b hb => by cases hb)⟩
    obtain ⟨w4, hw4⟩ : ∃ W, W = w3.setRow g (entC (zE 9 n0 n1 n2 n3 [] []) (.slice none 0 0) (.slice none 0 0) (.slice (some ⟨g0, 0, none⟩) n0 n0) (.slice (some ⟨g1, 0, none⟩) n1 n1) (.slice (some ⟨g2, 0, none⟩) n2 n2) (.slice (some ⟨g3, 0, none⟩) n3 n3)) := ⟨_, rfl⟩
    rw [← hw4] at hLo ⊢
    have HL4 := Lib.hid hLo
    clear HZI HZA HG HZ HZB hw4 hgB hLo o0' o1' o2' o3' hHeld
    go_upto_region 4 with (fail)
    go_cut [14] (fun u wx => u = .int .i64 (21 + 4 * n0 + 8 * n1 + 4 * n2 + 4 * n3) ∧ w4 = wx)
    case first =>
      go_wp2
      go_meet
      exact ⟨rfl, rfl⟩
    case rest =>
      obtain ⟨rfl, rfl⟩ := hcut
      have hmk : ∀ W, (Instr.makeSlice 24 (.int .i64 26) (.int .i64 26)).run Try.prog W = .ok (.slice (some ⟨W.heap.size, 0, none⟩) 26 26) (W.alloc (.cells (byteV z26).toArray 5)) := fun W => make_bytes W 26 26 (by omega) (by omega)
      have i0 : (n0 : Int) ≤ 40 := by omega
      have i1 : (n1 : Int) ≤ 40 := by omega
      have i2 : (n2 : Int) ≤ 40 := by omega
      have i3 : (n3 : Int) ≤ 40 := by omega
      obtain ⟨N, hN⟩ : ∃ N : Int, N = 21 + 4 * n0 + 8 * n1 + 4 * n2 + 4 * n3 := ⟨_, rfl⟩
      rw [← hN]
      have hN0 : 0 ≤ N := by omega
      have hN1 : N ≤ 1000 := by omega
      have HN := Lib.hid hN
      clear hN i0 i1 i2 i3
      go_upto_if 53 with (fail)
      go_cut [14] (fun u wx => ∃ so old, u = .int .i64 (N + (old : List Int).length) ∧ (old = [] ∨ old = z26) ∧ Lo w2 g n0 n1 n2 n3 g0 g1 g2 g3 old [] so (.slice none 0 0) wx)
      case first =>
        cases b0 with
        | false =>
          clear hmk
          go_wp2
          go_meet
          exact ⟨_, [], by simp, .inl rfl, HL4.out⟩
        | true =>
          obtain ⟨hm, hs, hn⟩ := HL4.out.made
          have x0 := (cell_of hm.bx 10).1
          have f0 := (cell_of hm.bx 10).2
          have HM := Lib.hid (hm.cell (i := 10) (v := .slice (some ⟨w4.heap.size, 0, none⟩) 26 26) (old' := z26) (new' := []) (so' := .slice (some ⟨w4.heap.size, 0, none⟩) 26 26) (sn' := .slice none 0 0) rfl hs hm.hsn hn hm.nn)
          have hmk' := hmk w4
          clear hm hs hn hmk
          go_wp2
          go_meet
          exact ⟨_, z26, by rw [z26_len]; rfl, .inr rfl, HM.out⟩
      case rest =>
        obtain ⟨so, old, rfl, hold, hlo⟩ := hcut
        have HL5 := Lib.hid hlo
        have hol : (old.length : Int) ≤ 26 := by rcases hold with rfl | rfl <;> simp [z26_len]
        have HOLD := Lib.hid hold
        clear hlo hold HL4
        generalize wc = w5 at *
        obtain ⟨M, hM⟩ : ∃ M : Int, M = N + old.length := ⟨_, rfl⟩
        rw [← hM]
        have hM0 : 0 ≤ M := by omega
        have hM1 : M ≤ 2000 := by omega
        have HMM := Lib.hid hM
        clear hM hN0 hN1 hol
        go_upto_if 58 with (fail)
        go_cut [14] (fun u wx => ∃ sn new, u = .int .i64 (M + (new : List Int).length) ∧ (new = [] ∨ new = z26) ∧ Lo w2 g n0 n1 n2 n3 g0 g1 g2 g3 old new so sn wx)
        case first =>
          cases b1 with
          | false =>
            clear hmk
            go_wp2
            go_meet
            exact ⟨_, [], by simp, .inl rfl, HL5.out⟩
          | true =>
            obtain ⟨hm, hs, hn⟩ := HL5.out.made
            have x0 := (cell_of hm.bx 11).1
            have f0 := (cell_of hm.bx 11).2
            have HM := Lib.hid (hm.cell (i := 11) (v := .slice (some ⟨w5.heap.size, 0, none⟩) 26 26) (old' := old) (new' := z26) (so' := so) (sn' := .slice (some ⟨w5.heap.size, 0, none⟩) 26 26) rfl hm.hso hs hm.no hn)
            have hmk' := hmk w5
            clear hm hs hn hmk
            go_wp2
            go_meet
            exact ⟨_, z26, by rw [z26_len]; rfl, .inr rfl, HM.out⟩
        case rest =>
          obtain ⟨sn, new, rfl, hnew, hlo⟩ := hcut
          generalize wc = w6 at *
          have ho1 : celOk old = true := by rcases HOLD.out with h | h <;> rw [h] <;> decide
          have hn1 : celOk new = true := by rcases hnew with h | h <;> rw [h] <;> decide
          have ho2 : bytesOk old := by
            rcases HOLD.out with h | h <;> rw [h]
            · exact fun x hx => by cases hx
            · exact z26_ok
          have hn2 : bytesOk new := by
            rcases hnew with h | h <;> rw [h]
            · exact fun x hx => by cases hx
            · exact z26_ok
          have hEB : entB (zE 9 n0 n1 n2 n3 old new) = true := zE_B (by decide) (by decide) q0 q1 q2 q3 ho1 hn1
          have hEL := zE_len (k := 9) q0 q1 q2 q3 ho1 hn1
          obtain ⟨E, hE⟩ : ∃ E, E = zE 9 n0 n1 n2 n3 old new := ⟨_, rfl⟩
          have hEI : EntI E := by rw [hE]; exact zE_I ⟨by decide, by decide⟩ _ _ _ _ _ _
          rw [← hE] at hEB hEL
          obtain ⟨T, hT⟩ : ∃ T : Int, T = M + new.length := ⟨_, rfl⟩
          rw [← hT]
          have hTL : T = (entL E).length := by rw [hT, HMM.out, HN.out, hEL]; omega
          have hbz := hlo.bz
          rw [← hE] at hbz
          have HZ6 := Lib.hid hbz
          have HB6 := Lib.hid (below_on HB2.out hlo.b)
          have HOK : Hid (bytesOk (entL E)) := entL_okE (by rw [hE]; exact ho2) (by rw [hE]; exact hn2)
          have HEB := Lib.hid hEB
          have HEI := Lib.hid hEI
          have HTL := Lib.hid hTL
          have HZI := Lib.hid (infoEntC E so sn (.slice (some ⟨g0, 0, none⟩) n0 n0) (.slice (some ⟨g1, 0, none⟩) n1 n1) (.slice (some ⟨g2, 0, none⟩) n2 n2) (.slice (some ⟨g3, 0, none⟩) n3 n3))
          clear hlo hnew ho1 hn1 ho2 hn2 hEB hEL hE hEI hT hTL hbz HL5 HOLD HMM HN hmk q0 q1 q2 q3 e0 e1 e2 e3 hM0 hM1 HS
          have HP := Lib.hid (put_any w6 E HZ6.out.s HEI.out)
          go_wp2_with (with_reducible refine wpList_load_row rfl 30 (.tmp 13) rfl g rfl 30 _ (0, 0) _ HZ6.out.bx Try.underlying30 rfl HZI.out ?_)
          refine HP.out.mono ?_
          rintro r w7 ⟨A, m, c, rfl, ho, hb7⟩
          rw [putL_yes HEB.out] at ho
          have hmn := own_n ho
          have hw := own_slK ho HOK.out
          have hmT : T = (m : Int) := by rw [HTL.out, hmn]
          subst hmT
          have HB7 := Lib.hid (below_on HB6.out hb7)
          have HZ7 := Lib.hid (HZ6.out.on hb7)
          have hTk := take_ok w7 hw
          obtain ⟨_, t2, t3⟩ := tkB_entL HEB.out
          unfold TkPost at hTk
          rw [t2, t3] at hTk
          have HT := Lib.hid hTk
          have HW := Lib.hid hw
          clear ho hmn hw hb7 hTk t2 t3 HP HB6 HZ6 HTL HOK
          go_wp2_with fail
          refine HT.out.mono ?_
          rintro r w8 ⟨D1, k1, f1, D2, k2, f2, D3, k3, f3, D4, k4, f4, D5, k5, f5, D6, k6, f6, hr, hE, hb8⟩
          subst hr
          have HB8 := Lib.hid (below_on HB7.out hb8)
          have HZ8 := Lib.hid (HZ7.out.on hb8)
          have HE8 := Lib.hid hE.entS
          clear HB7 HZ7 hE hb8 HT HW
          have HBox := Lib.hid (heap_alloc_new w8 (.cells #[.int .i64 0, .int .i64 0, .int .i64 0, .int .i64 0, .int .i64 0, .int .i64 0, .int .i64 0, .int .i64 0, .int .i64 0, .int .i64 0, .slice none 0 0, .slice none 0 0, .slice none 0 0, .slice none 0 0, .slice none 0 0, .slice none 0 0] 30))
          have HZIx := Lib.hid (infoEntC E (.slice D1 k1 f1) (.slice D2 k2 f2) (.slice D3 k3 f3) (.slice D4 k4 f4) (.slice D5 k5 f5) (.slice D6 k6 f6))
          have HZAx := Lib.hid (entC_all E D1 D2 D3 D4 D5 D6 k1 f1 k2 f2 k3 f3 k4 f4 k5 f5 k6 f6)
          have HZNx := Lib.hid (show (#[.int .i64 0, .int .i64 0, .int .i64 0, .int .i64 0, .int .i64 0, .int .i64 0, .int .i64 0, .int .i64 0, .int .i64 0, .int .i64 0, .slice none 0 0, .slice none 0 0, .slice none 0 0, .slice none 0 0, .slice none 0 0, .slice none 0 0] : Array Value).size = (entC E (.slice D1 k1 f1) (.slice D2 k2 f2) (.slice D3 k3 f3) (.slice D4 k4 f4) (.slice D5 k5 f5) (.slice D6 k6 f6)).size from rfl)
          have HSAx := Lib.hid (setRow_alloc w8 #[.int .i64 0, .int .i64 0, .int .i64 0, .int .i64 0, .int .i64 0, .int .i64 0, .int .i64 0, .int .i64 0, .int .i64 0, .int .i64 0, .slice none 0 0, .slice none 0 0, .slice none 0 0, .slice none 0 0, .slice none 0 0, .slice none 0 0] (entC E (.slice D1 k1 f1) (.slice D2 k2 f2) (.slice D3 k3 f3) (.slice D4 k4 f4) (.slice D5 k5 f5) (.slice D6 k6 f6)) 30)
          go_upto_region 11 with (with_reducible refine wpList_store_row rfl 30 (.tmp 16) (.tmp 68) rfl w8.heap.size _ rfl rfl 30 _ HBox.out HZIx.out HZNx.out HZAx.out ?_)
          rw [HSAx.out]
          obtain ⟨w9, HWx, hxx, hbxx⟩ : ∃ W, Hid (w8.alloc (.cells (entC E (.slice D1 k1 f1) (.slice D2 k2 f2) (.slice D3 k3 f3) (.slice D4 k4 f4) (.slice D5 k5 f5) (.slice D6 k6 f6)) 30) = W) ∧ W.heap[w8.heap.size]? = some (.cells (entC E (.slice D1 k1 f1) (.slice D2 k2 f2) (.slice D3 k3 f3) (.slice D4 k4 f4) (.slice D5 k5 f5) (.slice D6 k6 f6)) 30 (0, 0)) ∧ Below w8.heap.size w8 W := ⟨_, Lib.hid rfl, heap_alloc_new w8 _, (Below.refl _ _).alloc (Nat.le_refl _) _⟩
          rw [HWx.out]
          clear HBox HZAx HZNx HSAx HWx
          have HB9 := Lib.hid (below_on HB8.out hbxx)
          have HZ9 := Lib.hid (HZ8.out.on hbxx)
          have HX9 : Hid (Bz w8.heap.size E (.slice D1 k1 f1) (.slice D2 k2 f2) (.slice D3 k3 f3) (.slice D4 k4 f4) (.slice D5 k5 f5) (.slice D6 k6 f6) w9) := ⟨hxx, HE8.out.below hbxx (Nat.le_refl _)⟩
          clear HB8 HZ8 HE8 hxx hbxx
          generalize w8.heap.size = gx at *
          have HSm := Lib.hid (rsame_any w9 E E HZ9.out.s HX9.out.s (entB_len HEB.out))
          rw [(sameE_iff E E).2 rfl] at HSm
          go_wp2_with (first
            | ((with_reducible refine wpList_load_rowG ?_ 30 (.tmp 13) rfl g rfl 30 _ (0, 0) _ HZ9.out.bx Try.underlying30 rfl HZI.out ?_); · rfl)
            | ((with_reducible refine wpList_load_rowG ?_ 30 (.tmp 16) rfl gx rfl 30 _ (0, 0) _ HX9.out.bx Try.underlying30 rfl HZIx.out ?_); · rfl))
          refine HSm.out.mono ?_
          rintro r w10 ⟨rfl, hb10⟩
          have HB10 := Lib.hid (below_on HB9.out hb10)
          clear HSm hb10 HB9 HZ9 HX9
          go_wp2
          go_ret
          exact ⟨rfl, HB10.out⟩
  · exfalso
    rcases k with _ | _ | _ | _ | _ | _ | k <;> simp at h
end Go.Proofs.Ytkfebibnpincpaa.entryLengths
