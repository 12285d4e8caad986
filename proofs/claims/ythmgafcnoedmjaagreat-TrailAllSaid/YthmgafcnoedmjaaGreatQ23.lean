/- TrailAll, a part. -/
import Derived.Test.YthmgafcnoedmjaaGreatQ20
import Derived.Test.YthmgafcnoedmjaaGreatQ13
import Derived.Deep.AppendLies
import Derived.Deep.RegionLaw
import Derived.Laws.OwnMore
import Derived.Deep.DeepCutAuto
namespace Go.Proofs.YthmgafcnoedmjaaGreat
set_option maxRecDepth 100000
open Go.RowKit Go.Maps
structure Nz (W : World) (r : Nat) (c0 c1 c2 : Value) (un : Value) (kn : Nat) (uw : Value) (kw : Nat) (ut : Value) (kt : Nat) (s : ByteArray) : Prop where
 cells : W.heap[r]? = some (.cells #[c0, c1, c2, .bool false, .bool false, .int .i64 0, .slice none 0 0] 57 (0, 0))
 on : W.ownsRow (r + 1) 9 1 un kn (List.replicate kn (.string s))
 ow : W.ownsRow (r + 1) 9 1 uw kw (List.replicate kw (.string s))
 ot : W.ownsRow (r + 1) 4 1 ut kt (List.replicate kt (.bool false))
 ne : ∀ g, un.ownBlock = some g → uw.ownBlock ≠ some g
section
variable {W W' : World} {r : Nat} {c0 c1 c2 un uw ut : Value} {kn kw kt : Nat} {s : ByteArray}
theorem Nz.lt (h : Nz W r c0 c1 c2 un kn uw kw ut kt s) : r < W.heap.size := (Array.getElem?_eq_some_iff.1 h.cells).1
theorem Nz.drew (h : Nz W r c0 c1 c2 un kn uw kw ut kt s) : Nz W.drew r c0 c1 c2 un kn uw kw ut kt s := ⟨h.cells, h.on, h.ow, h.ot, h.ne⟩
theorem Nz.alloc (h : Nz W r c0 c1 c2 un kn uw kw ut kt s) (o : Obj) : Nz (W.alloc o) r c0 c1 c2 un kn uw kw ut kt s := ⟨(Below.heap_alloc _ _ _ h.lt).trans h.cells, h.on.alloc o, h.ow.alloc o, h.ot.alloc o, h.ne⟩
theorem own_diff {t t' : TypeId} {B B' n n' : Nat} {v v' : Value} {xs ys : List Value} (hne : t ≠ t') (h : W.ownsRow B t 1 v n xs) (h' : W.ownsRow B' t' 1 v' n' ys) : v.ownBlock = none ∨ v.ownBlock ≠ v'.ownBlock := by
 rcases h.2 with ⟨rfl, _⟩ | ⟨g, cap, cur, rfl, _, hg, _⟩
 ·exact .inl rfl
 ·rcases h'.2 with ⟨rfl, _⟩ | ⟨g', cap', cur', rfl, _, hg', _⟩
  ·exact .inr (by simp [Value.ownBlock])
  ·refine .inr fun e => ?_
   have e' : g = g' := by simpa [Value.ownBlock] using e
   subst e'
   rw [hg] at hg'
   injection hg' with h1
   injection h1 with _ h2
   exact hne h2
theorem Nz.row (h : Nz W r c0 c1 c2 un kn uw kw ut kt s) {row : Option Nat} (hg : W.grownBy W' row) (hr : row ≠ some r) : W'.heap[r]? = some (.cells #[c0, c1, c2, .bool false, .bool false, .int .i64 0, .slice none 0 0] 57 (0, 0)) := (hg.block r h.lt (fun e => hr e.symm)).trans h.cells
theorem own_ne {t n : Nat} {v : Value} {xs : List Value} (h : W.ownsRow (r + 1) t 1 v n xs) : v.ownBlock ≠ some r := fun e => by have := (h.lt r e).1; omega
theorem own_lt {B t n : Nat} {v : Value} {xs : List Value} (h : W.ownsRow B t 1 v n xs) {g : Nat} (e : v.ownBlock = some g) : g < W.heap.size := (h.lt g e).2
theorem Nz.n (h : Nz W r c0 c1 c2 un kn uw kw ut kt s) {g c : Nat} (o1 : W'.ownsRow (r + 1) 9 1 (.slice (some ⟨g, 0, none⟩) (kn + 1) c) (kn + 1) (List.replicate kn (.string s) ++ [.string s])) (hg : W.grownBy W' un.ownBlock) (ha : un.ownBlock = some g ∨ g = W.heap.size) :
  Nz W' r c0 c1 c2 (.slice (some ⟨g, 0, none⟩) (kn + 1) c) (kn + 1) uw kw ut kt s := by
 have hw : uw.ownBlock = none ∨ uw.ownBlock ≠ un.ownBlock := by
  cases e : un.ownBlock with
  | none => cases e2 : uw.ownBlock with
   | none => exact .inl rfl
   | some q => exact .inr (by simp)
  | some q => exact .inr (h.ne q e)
 refine ⟨h.row hg (own_ne h.on), by rw [List.replicate_succ']; exact o1, h.ow.kept hg hw, h.ot.kept hg (own_diff (by decide) h.ot h.on), fun q hq => ?_⟩
 have e : g = q := by simpa [Value.ownBlock] using hq
 subst e
 rcases ha with ha | ha
 ·exact h.ne g ha
 ·intro e; have := own_lt h.ow e; omega
theorem Nz.w (h : Nz W r c0 c1 c2 un kn uw kw ut kt s) {g c : Nat} (o1 : W'.ownsRow (r + 1) 9 1 (.slice (some ⟨g, 0, none⟩) (kw + 1) c) (kw + 1) (List.replicate kw (.string s) ++ [.string s])) (hg : W.grownBy W' uw.ownBlock) (ha : uw.ownBlock = some g ∨ g = W.heap.size) :
  Nz W' r c0 c1 c2 un kn (.slice (some ⟨g, 0, none⟩) (kw + 1) c) (kw + 1) ut kt s := by
 have hw : un.ownBlock = none ∨ un.ownBlock ≠ uw.ownBlock := by
  cases e : un.ownBlock with
  | none => exact .inl rfl
  | some q => exact .inr (fun e2 => h.ne q e e2.symm)
 refine ⟨h.row hg (own_ne h.ow), h.on.kept hg hw, by rw [List.replicate_succ']; exact o1, h.ot.kept hg (own_diff (by decide) h.ot h.ow), fun q hq => ?_⟩
 show some g ≠ some q
 intro e
 have e : g = q := by simpa using e
 subst e
 rcases ha with ha | ha
 ·exact h.ne g hq ha
 ·have := own_lt h.on hq; omega
theorem Nz.t (h : Nz W r c0 c1 c2 un kn uw kw ut kt s) {g c : Nat} (o1 : W'.ownsRow (r + 1) 4 1 (.slice (some ⟨g, 0, none⟩) (kt + 1) c) (kt + 1) (List.replicate kt (.bool false) ++ [.bool false])) (hg : W.grownBy W' ut.ownBlock) :
  Nz W' r c0 c1 c2 un kn uw kw (.slice (some ⟨g, 0, none⟩) (kt + 1) c) (kt + 1) s :=
 ⟨h.row hg (own_ne h.ot), h.on.kept hg (own_diff (by decide) h.on h.ot), h.ow.kept hg (own_diff (by decide) h.ow h.ot), by rw [List.replicate_succ']; exact o1, h.ne⟩
theorem Nz.set (h : Nz W r c0 c1 c2 un kn uw kw ut kt s) (a b c : Value) : Nz (((W.setCell ⟨r, 0, none⟩ a).setCell ⟨r, 1, none⟩ b).setCell ⟨r, 2, none⟩ c) r a b c un kn uw kw ut kt s := by
 refine ⟨?_, ?_, ?_, ?_, h.ne⟩
 ·rw [heap_setCell_same _ _ _ _ _ _ (heap_setCell_same _ _ _ _ _ _ (heap_setCell_same _ _ _ _ _ _ h.cells))]; rfl
 ·exact ownsRow_setCell_below (ownsRow_setCell_below (ownsRow_setCell_below h.on (a := ⟨r, 0, none⟩) (by show r < r + 1; omega) _) (a := ⟨r, 1, none⟩) (by show r < r + 1; omega) _) (a := ⟨r, 2, none⟩) (by show r < r + 1; omega) _
 ·exact ownsRow_setCell_below (ownsRow_setCell_below (ownsRow_setCell_below h.ow (a := ⟨r, 0, none⟩) (by show r < r + 1; omega) _) (a := ⟨r, 1, none⟩) (by show r < r + 1; omega) _) (a := ⟨r, 2, none⟩) (by show r < r + 1; omega) _
 ·exact ownsRow_setCell_below (ownsRow_setCell_below (ownsRow_setCell_below h.ot (a := ⟨r, 0, none⟩) (by show r < r + 1; omega) _) (a := ⟨r, 1, none⟩) (by show r < r + 1; omega) _) (a := ⟨r, 2, none⟩) (by show r < r + 1; omega) _
end
theorem infoStr : (Tryz.prog.info? 9).map (fun i => (i.zero, i.size, i.bytes)) = some (some (.string ⟨#[]⟩), 1, 16) := by kernel_rfl
theorem infoBool : (Tryz.prog.info? 4).map (fun i => (i.zero, i.size, i.bytes)) = some (some (.bool false), 1, 1) := by kernel_rfl
def ivK : Value → Nat | .int _ q => q.toNat | _ => 0
def z64 : List Int := List.replicate 64 0
def NewPost (w : World) (k : Nat) (s : ByteArray) (e : Ending) (w' : World) : Prop := ∃ vn vw vt, e = .returned (.pointer (some ⟨w.heap.size, 0, none⟩)) ∧ Nz w' w.heap.size vn vw vt vn k vw k vt k s ∧ Below w.heap.size w w' ∧ (k = 0 → vn = .slice none 0 0 ∧ vw = .slice none 0 0 ∧ vt = .slice none 0 0)
set_option maxHeartbeats 4000000 in
theorem rnew_any (w : World) (n : Nat) (hn : n ≤ 2000) (s : ByteArray) (hs : ∀ W : World, (convert 36 9 (.slice (some ⟨W.heap.size, 0, none⟩) 64 64)).run Tryz.prog (W.alloc (.cells (byteV z64).toArray 5)) = .ok (.string s) (W.alloc (.cells (byteV z64).toArray 5))) : Calls Tryz.prog 8 #[.int .i64 n] w (NewPost w n s) := by
 obtain ⟨is, his, hzs0, hzs1, hzs2⟩ := info_parts infoStr
 obtain ⟨ib, hib, hzb0, hzb1, hzb2⟩ := info_parts infoBool
 have hmk : ∀ W, (Instr.makeSlice 36 (.int .i64 64) (.int .i64 64)).run Tryz.prog W = .ok (.slice (some ⟨W.heap.size, 0, none⟩) 64 64) (W.alloc (.cells (byteV z64).toArray 5)) := fun _ => by kernel_rfl
 go_enter Tryz.func8, Tryz.ntmps8
 have h1 := hs (w.alloc (.cells #[.slice none 0 0, .slice none 0 0, .slice none 0 0, .bool false, .bool false, .int .i64 0, .slice none 0 0] 57))
 rw [show (w.alloc (.cells #[.slice none 0 0, .slice none 0 0, .slice none 0 0, .bool false, .bool false, .int .i64 0, .slice none 0 0] 57)).heap.size = w.heap.size + 1 by simp] at h1
 clear hs
 go_wp2
 have N0 : Nz ((w.alloc (.cells #[.slice none 0 0, .slice none 0 0, .slice none 0 0, .bool false, .bool false, .int .i64 0, .slice none 0 0] 57)).alloc (.cells (byteV z64).toArray 5)) w.heap.size (.slice none 0 0) (.slice none 0 0) (.slice none 0 0) (.slice none 0 0) 0 (.slice none 0 0) 0 (.slice none 0 0) 0 s :=
  Nz.alloc ⟨heap_alloc_new w _, World.ownsRow_nil _ _ _ _, World.ownsRow_nil _ _ _ _, World.ownsRow_nil _ _ _ _, fun g e => by cases e⟩ _
 have B0 : Below w.heap.size w ((w.alloc (.cells #[.slice none 0 0, .slice none 0 0, .slice none 0 0, .bool false, .bool false, .int .i64 0, .slice none 0 0] 57)).alloc (.cells (byteV z64).toArray 5)) := ((Below.refl _ _).alloc (Nat.le_refl _) _).alloc (by simp) _
 generalize (w.alloc (.cells #[.slice none 0 0, .slice none 0 0, .slice none 0 0, .bool false, .bool false, .int .i64 0, .slice none 0 0] 57)).alloc (.cells (byteV z64).toArray 5) = w1 at *
 clear h1
 go_loopw [5] (fun iv wr => ∃ (k : Nat) (vn vw vt : Value), k ≤ n ∧ iv = .int .i64 k ∧ Nz wr w.heap.size vn vw vt vn k vw k vt k s ∧ Below w.heap.size w wr ∧ (k = 0 → vn = .slice none 0 0 ∧ vw = .slice none 0 0 ∧ vt = .slice none 0 0)) (fun iv _ => n - ivK iv)
 case atStart => exact ⟨0, _, _, _, by omega, rfl, N0, B0, fun _ => ⟨rfl, rfl, rfl⟩⟩
 case round =>
  obtain ⟨k, vn, vw, vt, hk, rfl, N1, B1, hnl⟩ := hrel
  have HNL := Lib.hid hnl
  clear hnl
  have HN1 := Lib.hid N1
  have HB1 := Lib.hid B1
  have x0 := (c_o N1.cells 0)
  have x1 := (c_o N1.cells 1)
  have x2 := (c_o N1.cells 2)
  obtain ⟨x0, y0⟩ := x0
  obtain ⟨x1, y1⟩ := x1
  obtain ⟨x2, y2⟩ := x2
  have hlt0 := N1.lt
  clear N1 B1 N0 B0
  by_cases hlt : k < n
  ·have i1 : (k : Int) < 2000 := by omega
   go_upto_region 6 with (fail)
   have HLT := Lib.hid hlt
   clear hk hlt
   have hS0 : (fun W : World => W.cell? ⟨w.heap.size, 0, none⟩ = some vn ∧ W.cell? ⟨w.heap.size, 1, none⟩ = some vw ∧ W.cell? ⟨w.heap.size, 2, none⟩ = some vt) wr.drew := ⟨x0, x1, x2⟩
   have N0 := HN1.out.drew
   have B0 := HB1.out.drew
   have hmx : k + 1 ≤ maxLen := by unfold maxLen; omega
   have lvn := fun q (e : vn.ownBlock = some q) => own_lt N0.on e
   have lvw := fun q (e : vw.ownBlock = some q) => own_lt N0.ow e
   have lvt := fun q (e : vt.ownBlock = some q) => own_lt N0.ot e
   refine wp_region_G (fun W : World => W.cell? ⟨w.heap.size, 0, none⟩ = some vn ∧ W.cell? ⟨w.heap.size, 1, none⟩ = some vw ∧ W.cell? ⟨w.heap.size, 2, none⟩ = some vt) (fun j => j == 25 || j == 28 || j == 31) (by kernel_rfl) ?_
   clear x0 x1 x2 y0 y1 y2 HN1 HB1
   generalize wr.drew = W0 at *
   obtain ⟨W0z, hW0z⟩ : ∃ z, W0.heap.size = z := ⟨_, rfl⟩
   rw [hW0z] at lvn lvw lvt
   have hz0 : W0z ≤ W0.heap.size := by omega
   have HW0 := Lib.hid hW0z
   clear hW0z
   refine tG0 (i := 0) (v := ?_) rfl ?_ ?_
   rotate_left;(focus intro W _;go_simp;try with_reducible rfl);rotate_left;try simp only[Act.put,zq]
   refine tG0 (i := 1) (v := ?_) rfl ?_ ?_
   rotate_left;(focus intro W _;go_simp;try with_reducible rfl);rotate_left;try simp only[Act.put,zq]
   refine tG0 (i := 2) (v := ?_) rfl ?_ ?_
   rotate_left;(focus intro W _;go_simp;try with_reducible rfl);rotate_left;try simp only[Act.put,zq]
   refine tG0 (i := 3) (v := ?_) rfl ?_ ?_
   rotate_left;(focus intro W _;go_simp;try with_reducible rfl);rotate_left;try simp only[Act.put,zq]
   refine tG0 (i := 4) (v := ?_) rfl ?_ ?_
   rotate_left;(focus intro W _;go_simp;try with_reducible rfl);rotate_left;try simp only[Act.put,zq]
   refine tG0 (i := 5) (v := ?_) rfl ?_ ?_
   rotate_left;(focus intro W _;go_simp;try with_reducible rfl);rotate_left;try simp only[Act.put,zq]
   refine tG1 (i := 6) (v := ?_) rfl hS0 ?_ ?_
   rotate_left;(focus intro W hSW;(try dsimp only at hSW);go_simp;try with_reducible rfl);rotate_left;try simp only[Act.put,zq]
   refine tG0 (i := 7) (v := ?_) rfl ?_ ?_
   rotate_left;(focus intro W _;go_simp;try with_reducible rfl);rotate_left;try simp only[Act.put,zq]
   refine tG0 (i := 10) (v := ?_) rfl ?_ ?_
   rotate_left;(focus intro W _;go_simp;try with_reducible rfl);rotate_left;try simp only[Act.put,zq]
   refine tG0 (i := 11) (v := ?_) rfl ?_ ?_
   rotate_left;(focus intro W _;go_simp;try with_reducible rfl);rotate_left;try simp only[Act.put,zq]
   refine tG0 (i := 12) (v := ?_) rfl ?_ ?_
   rotate_left;(focus intro W _;go_simp;try with_reducible rfl);rotate_left;try simp only[Act.put,zq]
   refine tG1 (i := 13) (v := ?_) rfl hS0 ?_ ?_
   rotate_left;(focus intro W hSW;(try dsimp only at hSW);go_simp;try with_reducible rfl);rotate_left;try simp only[Act.put,zq]
   refine tG0 (i := 14) (v := ?_) rfl ?_ ?_
   rotate_left;(focus intro W _;go_simp;try with_reducible rfl);rotate_left;try simp only[Act.put,zq]
   refine tG0 (i := 17) (v := ?_) rfl ?_ ?_
   rotate_left;(focus intro W _;go_simp;try with_reducible rfl);rotate_left;try simp only[Act.put,zq]
   refine tG0 (i := 18) (v := ?_) rfl ?_ ?_
   rotate_left;(focus intro W _;go_simp;try with_reducible rfl);rotate_left;try simp only[Act.put,zq]
   refine tG0 (i := 19) (v := ?_) rfl ?_ ?_
   rotate_left;(focus intro W _;go_simp;try with_reducible rfl);rotate_left;try simp only[Act.put,zq]
   refine tG1 (i := 20) (v := ?_) rfl hS0 ?_ ?_
   rotate_left;(focus intro W hSW;(try dsimp only at hSW);go_simp;try with_reducible rfl);rotate_left;try simp only[Act.put,zq]
   refine rdG (rs := [8, 15, 21]) (by kernel_rfl) (by simp) ?_
   refine cG2 rfl (fun K hK => ?_) ?_
   ·go_simp
    have N1 := N0.alloc (.cells #[.string s] 9)
    have B1 : Below w.heap.size w (W0.alloc (.cells #[.string s] 9)) := B0.alloc B0.size _
    have nb8 := heap_alloc_new W0 (.cells #[.string s] 9)
    have hb8 : W0z ≤ W0.heap.size := hz0
    have hz1 : W0z ≤ (W0.alloc (.cells #[.string s] 9)).heap.size := by simp; omega
    generalize W0.alloc (.cells #[.string s] 9) = W1 at *
    refine hK.out _ _ (fun _ _ => ⟨(c_o N1.cells 0).1, (c_o N1.cells 1).1, (c_o N1.cells 2).1⟩) ?_
    clear hK K
    try simp only[Act.put,zq]
    refine rdG (rs := [9, 15, 21]) (by kernel_rfl) (by simp) ?_
    refine cG2 rfl (fun K hK => ?_) ?_
    ·refine step_append_lies _ rfl (.tmp 25) (.tmp 27) 54 rfl (w.heap.size + 1) 9 is (.string ⟨#[]⟩) 1 16 Tryz.underlying54 his hzs0 hzs1 hzs2 rfl (by decide) vn k (List.replicate k (.string s)) rfl N1.on ⟨_, 0, none⟩ 1 1 [.string s] rfl rfl (World.news_of_block nb8) (fun u hu => by simp at hu; subst hu; rfl) (by omega) hmx (by omega) N1.lt _ rfl ?_
     intro g9 q9 W2 o9 r9 a9 b9
     have N2 := N1.n o9 r9 a9
     have B2 := B1.grown r9 B1.size (fun q hq => by have := (N1.on.lt q hq).1; omega)
     have hz2 : W0z ≤ W2.heap.size := Nat.le_trans hz1 r9.size
     clear nb8 hb8 o9 r9 a9 b9
     refine hK.out _ _ (fun _ _ => ⟨(c_o N2.cells 0).1, (c_o N2.cells 1).1, (c_o N2.cells 2).1⟩) ?_
     clear hK K
     try simp only[Act.put,zq]
     refine rdG (rs := [15, 21]) (by kernel_rfl) (by simp) ?_
     refine cG2 rfl (fun K hK => ?_) ?_
     ·go_simp
      have N3 := N2.alloc (.cells #[.string s] 9)
      have B3 : Below w.heap.size w (W2.alloc (.cells #[.string s] 9)) := B2.alloc B2.size _
      have nb15 := heap_alloc_new W2 (.cells #[.string s] 9)
      have hb15 : W0z ≤ W2.heap.size := hz2
      have hz3 : W0z ≤ (W2.alloc (.cells #[.string s] 9)).heap.size := by simp; omega
      generalize W2.alloc (.cells #[.string s] 9) = W3 at *
      refine hK.out _ _ (fun _ _ => ⟨(c_o N3.cells 0).1, (c_o N3.cells 1).1, (c_o N3.cells 2).1⟩) ?_
      clear hK K
      try simp only[Act.put,zq]
      refine rdG (rs := [16, 21]) (by kernel_rfl) (by simp) ?_
      refine cG2 rfl (fun K hK => ?_) ?_
      ·refine step_append_lies _ rfl (.tmp 32) (.tmp 34) 54 rfl (w.heap.size + 1) 9 is (.string ⟨#[]⟩) 1 16 Tryz.underlying54 his hzs0 hzs1 hzs2 rfl (by decide) vw k (List.replicate k (.string s)) rfl N3.ow ⟨_, 0, none⟩ 1 1 [.string s] rfl rfl (World.news_of_block nb15) (fun u hu => by simp at hu; subst hu; rfl) (by omega) hmx (by omega) N3.lt _ rfl ?_
       intro g16 q16 W4 o16 r16 a16 b16
       have N4 := N3.w o16 r16 a16
       have B4 := B3.grown r16 B3.size (fun q hq => by have := (N3.ow.lt q hq).1; omega)
       have hz4 : W0z ≤ W4.heap.size := Nat.le_trans hz3 r16.size
       clear nb15 hb15 o16 r16 a16 b16
       refine hK.out _ _ (fun _ _ => ⟨(c_o N4.cells 0).1, (c_o N4.cells 1).1, (c_o N4.cells 2).1⟩) ?_
       clear hK K
       try simp only[Act.put,zq]
       refine rdG (rs := [21]) (by kernel_rfl) (by simp) ?_
       refine cG2 rfl (fun K hK => ?_) ?_
       ·go_simp
        have N5 := N4.alloc (.cells #[.bool false] 4)
        have B5 : Below w.heap.size w (W4.alloc (.cells #[.bool false] 4)) := B4.alloc B4.size _
        have nb21 := heap_alloc_new W4 (.cells #[.bool false] 4)
        have hb21 : W0z ≤ W4.heap.size := hz4
        have hz5 : W0z ≤ (W4.alloc (.cells #[.bool false] 4)).heap.size := by simp; omega
        generalize W4.alloc (.cells #[.bool false] 4) = W5 at *
        refine hK.out _ _ (fun _ _ => ⟨(c_o N5.cells 0).1, (c_o N5.cells 1).1, (c_o N5.cells 2).1⟩) ?_
        clear hK K
        try simp only[Act.put,zq]
        refine rdG (rs := [22]) (by kernel_rfl) (by simp) ?_
        refine cG2 rfl (fun K hK => ?_) ?_
        ·refine step_append_lies _ rfl (.tmp 39) (.tmp 40) 55 rfl (w.heap.size + 1) 4 ib (.bool false) 1 1 Tryz.underlying55 hib hzb0 hzb1 hzb2 rfl (by decide) vt k (List.replicate k (.bool false)) rfl N5.ot ⟨_, 0, none⟩ 1 1 [.bool false] rfl rfl (World.news_of_block nb21) (fun u hu => by simp at hu; subst hu; rfl) (by omega) hmx (by omega) N5.lt _ rfl ?_
         intro g22 q22 W6 o22 r22 a22 b22
         have N6 := N5.t o22 r22
         have B6 := B5.grown r22 B5.size (fun q hq => by have := (N5.ot.lt q hq).1; omega)
         have hz6 : W0z ≤ W6.heap.size := Nat.le_trans hz5 r22.size
         clear nb21 hb21 o22 r22 a22 b22
         refine hK.out _ _ (fun _ _ => ⟨(c_o N6.cells 0).1, (c_o N6.cells 1).1, (c_o N6.cells 2).1⟩) ?_
         clear hK K
         try simp only[Act.put,zq]
         have e0 := c_o N6.cells 0
         have e1 := c_o N6.cells 1
         have e2 := c_o N6.cells 2
         obtain ⟨e0, f0⟩ := e0
         obtain ⟨e1, f1⟩ := e1
         obtain ⟨e2, f2⟩ := e2
         have NF := Lib.hid (N6.set (.slice (some ⟨g9, 0, none⟩) (k + 1) q9) (.slice (some ⟨g16, 0, none⟩) (k + 1) q16) (.slice (some ⟨g22, 0, none⟩) (k + 1) q22))
         have HF := Lib.hid (((B6.setCell (p := ⟨w.heap.size, 0, none⟩) (Nat.le_refl _) (.slice (some ⟨g9, 0, none⟩) (k + 1) q9)).setCell (p := ⟨w.heap.size, 1, none⟩) (Nat.le_refl _) (.slice (some ⟨g16, 0, none⟩) (k + 1) q16)).setCell (p := ⟨w.heap.size, 2, none⟩) (Nat.le_refl _) (.slice (some ⟨g22, 0, none⟩) (k + 1) q22))
         refine tG0 (i := 23) (v := ?_) rfl ?_ ?_
         rotate_left;(focus intro W _;go_simp;try with_reducible rfl);rotate_left;try simp only[Act.put,zq]
         refine tG0 (i := 24) (v := ?_) rfl ?_ ?_
         rotate_left;(focus intro W _;go_simp;try with_reducible rfl);rotate_left;try simp only[Act.put,zq]
         refine rdG (rs := [25]) (by kernel_rfl) (by simp) ?_
         refine cG1 rfl fun K hK => ?_
         go_simp
         refine hK.out _ _ (fun h => by cases h) ?_
         clear hK K
         try simp only[Act.put,zq]
         refine tG0 (i := 26) (v := ?_) rfl ?_ ?_
         rotate_left;(focus intro W _;go_simp;try with_reducible rfl);rotate_left;try simp only[Act.put,zq]
         refine tG0 (i := 27) (v := ?_) rfl ?_ ?_
         rotate_left;(focus intro W _;go_simp;try with_reducible rfl);rotate_left;try simp only[Act.put,zq]
         refine rdG (rs := [28]) (by kernel_rfl) (by simp) ?_
         refine cG1 rfl fun K hK => ?_
         go_simp
         refine hK.out _ _ (fun h => by cases h) ?_
         clear hK K
         try simp only[Act.put,zq]
         refine tG0 (i := 29) (v := ?_) rfl ?_ ?_
         rotate_left;(focus intro W _;go_simp;try with_reducible rfl);rotate_left;try simp only[Act.put,zq]
         refine tG0 (i := 30) (v := ?_) rfl ?_ ?_
         rotate_left;(focus intro W _;go_simp;try with_reducible rfl);rotate_left;try simp only[Act.put,zq]
         refine rdG (rs := [31]) (by kernel_rfl) (by simp) ?_
         refine cG1 rfl fun K hK => ?_
         go_simp
         refine hK.out _ _ (fun h => by cases h) ?_
         clear hK K
         try simp only[Act.put,zq]
         refine wpAnyG_done (by kernel_rfl) ?_ _
         clear e0 e1 e2 f0 f1 f2
         go_wp2
         go_roundw
         case rel => exact ⟨k + 1, _, _, _, by have := HLT.out; omega, by go_num, NF.out, HF.out, fun e => by omega⟩
         case measure => have := HLT.out; simp [ivK]; omega
        exact AllReadyG.nil
       exact AllReadyG.nil
      refine cG2 rfl (fun K hK => ?_) ?_
      ·go_simp
       have N4 := N3.alloc (.cells #[.bool false] 4)
       have B4 : Below w.heap.size w (W3.alloc (.cells #[.bool false] 4)) := B3.alloc B3.size _
       have nb21 := heap_alloc_new W3 (.cells #[.bool false] 4)
       have hb21 : W0z ≤ W3.heap.size := hz3
       have hz4 : W0z ≤ (W3.alloc (.cells #[.bool false] 4)).heap.size := by simp; omega
       replace nb15 := (Below.heap_alloc W3 (.cells #[.bool false] 4) _ (Array.getElem?_eq_some_iff.1 nb15).1).trans nb15
       generalize W3.alloc (.cells #[.bool false] 4) = W4 at *
       refine hK.out _ _ (fun _ _ => ⟨(c_o N4.cells 0).1, (c_o N4.cells 1).1, (c_o N4.cells 2).1⟩) ?_
       clear hK K
       try simp only[Act.put,zq]
       refine rdG (rs := [16]) (by kernel_rfl) (by simp) ?_
       refine cG2 rfl (fun K hK => ?_) ?_
       ·refine step_append_lies _ rfl (.tmp 32) (.tmp 34) 54 rfl (w.heap.size + 1) 9 is (.string ⟨#[]⟩) 1 16 Tryz.underlying54 his hzs0 hzs1 hzs2 rfl (by decide) vw k (List.replicate k (.string s)) rfl N4.ow ⟨_, 0, none⟩ 1 1 [.string s] rfl rfl (World.news_of_block nb15) (fun u hu => by simp at hu; subst hu; rfl) (by omega) hmx (by omega) N4.lt _ rfl ?_
        intro g16 q16 W5 o16 r16 a16 b16
        have N5 := N4.w o16 r16 a16
        have B5 := B4.grown r16 B4.size (fun q hq => by have := (N4.ow.lt q hq).1; omega)
        have hz5 : W0z ≤ W5.heap.size := Nat.le_trans hz4 r16.size
        replace nb21 := (r16.block _ (Array.getElem?_eq_some_iff.1 nb21).1 (fun e => by have := lvw _ e.symm; omega)).trans nb21
        clear nb15 hb15 o16 r16 a16 b16
        refine hK.out _ _ (fun _ _ => ⟨(c_o N5.cells 0).1, (c_o N5.cells 1).1, (c_o N5.cells 2).1⟩) ?_
        clear hK K
        try simp only[Act.put,zq]
        refine rdG (rs := [22]) (by kernel_rfl) (by simp) ?_
        refine cG2 rfl (fun K hK => ?_) ?_
        ·refine step_append_lies _ rfl (.tmp 39) (.tmp 40) 55 rfl (w.heap.size + 1) 4 ib (.bool false) 1 1 Tryz.underlying55 hib hzb0 hzb1 hzb2 rfl (by decide) vt k (List.replicate k (.bool false)) rfl N5.ot ⟨_, 0, none⟩ 1 1 [.bool false] rfl rfl (World.news_of_block nb21) (fun u hu => by simp at hu; subst hu; rfl) (by omega) hmx (by omega) N5.lt _ rfl ?_
         intro g22 q22 W6 o22 r22 a22 b22
         have N6 := N5.t o22 r22
         have B6 := B5.grown r22 B5.size (fun q hq => by have := (N5.ot.lt q hq).1; omega)
         have hz6 : W0z ≤ W6.heap.size := Nat.le_trans hz5 r22.size
         clear nb21 hb21 o22 r22 a22 b22
         refine hK.out _ _ (fun _ _ => ⟨(c_o N6.cells 0).1, (c_o N6.cells 1).1, (c_o N6.cells 2).1⟩) ?_
         clear hK K
         try simp only[Act.put,zq]
         have e0 := c_o N6.cells 0
         have e1 := c_o N6.cells 1
         have e2 := c_o N6.cells 2
         obtain ⟨e0, f0⟩ := e0
         obtain ⟨e1, f1⟩ := e1
         obtain ⟨e2, f2⟩ := e2
         have NF := Lib.hid (N6.set (.slice (some ⟨g9, 0, none⟩) (k + 1) q9) (.slice (some ⟨g16, 0, none⟩) (k + 1) q16) (.slice (some ⟨g22, 0, none⟩) (k + 1) q22))
         have HF := Lib.hid (((B6.setCell (p := ⟨w.heap.size, 0, none⟩) (Nat.le_refl _) (.slice (some ⟨g9, 0, none⟩) (k + 1) q9)).setCell (p := ⟨w.heap.size, 1, none⟩) (Nat.le_refl _) (.slice (some ⟨g16, 0, none⟩) (k + 1) q16)).setCell (p := ⟨w.heap.size, 2, none⟩) (Nat.le_refl _) (.slice (some ⟨g22, 0, none⟩) (k + 1) q22))
         refine tG0 (i := 23) (v := ?_) rfl ?_ ?_
         rotate_left;(focus intro W _;go_simp;try with_reducible rfl);rotate_left;try simp only[Act.put,zq]
         refine tG0 (i := 24) (v := ?_) rfl ?_ ?_
         rotate_left;(focus intro W _;go_simp;try with_reducible rfl);rotate_left;try simp only[Act.put,zq]
         refine rdG (rs := [25]) (by kernel_rfl) (by simp) ?_
         refine cG1 rfl fun K hK => ?_
         go_simp
         refine hK.out _ _ (fun h => by cases h) ?_
         clear hK K
         try simp only[Act.put,zq]
         refine tG0 (i := 26) (v := ?_) rfl ?_ ?_
         rotate_left;(focus intro W _;go_simp;try with_reducible rfl);rotate_left;try simp only[Act.put,zq]
         refine tG0 (i := 27) (v := ?_) rfl ?_ ?_
         rotate_left;(focus intro W _;go_simp;try with_reducible rfl);rotate_left;try simp only[Act.put,zq]
         refine rdG (rs := [28]) (by kernel_rfl) (by simp) ?_
         refine cG1 rfl fun K hK => ?_
         go_simp
         refine hK.out _ _ (fun h => by cases h) ?_
         clear hK K
         try simp only[Act.put,zq]
         refine tG0 (i := 29) (v := ?_) rfl ?_ ?_
         rotate_left;(focus intro W _;go_simp;try with_reducible rfl);rotate_left;try simp only[Act.put,zq]
         refine tG0 (i := 30) (v := ?_) rfl ?_ ?_
         rotate_left;(focus intro W _;go_simp;try with_reducible rfl);rotate_left;try simp only[Act.put,zq]
         refine rdG (rs := [31]) (by kernel_rfl) (by simp) ?_
         refine cG1 rfl fun K hK => ?_
         go_simp
         refine hK.out _ _ (fun h => by cases h) ?_
         clear hK K
         try simp only[Act.put,zq]
         refine wpAnyG_done (by kernel_rfl) ?_ _
         clear e0 e1 e2 f0 f1 f2
         go_wp2
         go_roundw
         case rel => exact ⟨k + 1, _, _, _, by have := HLT.out; omega, by go_num, NF.out, HF.out, fun e => by omega⟩
         case measure => have := HLT.out; simp [ivK]; omega
        exact AllReadyG.nil
       exact AllReadyG.nil
      exact AllReadyG.nil
     refine cG2 rfl (fun K hK => ?_) ?_
     ·go_simp
      have N3 := N2.alloc (.cells #[.bool false] 4)
      have B3 : Below w.heap.size w (W2.alloc (.cells #[.bool false] 4)) := B2.alloc B2.size _
      have nb21 := heap_alloc_new W2 (.cells #[.bool false] 4)
      have hb21 : W0z ≤ W2.heap.size := hz2
      have hz3 : W0z ≤ (W2.alloc (.cells #[.bool false] 4)).heap.size := by simp; omega
      generalize W2.alloc (.cells #[.bool false] 4) = W3 at *
      refine hK.out _ _ (fun _ _ => ⟨(c_o N3.cells 0).1, (c_o N3.cells 1).1, (c_o N3.cells 2).1⟩) ?_
      clear hK K
      try simp only[Act.put,zq]
      refine rdG (rs := [15]) (by kernel_rfl) (by simp) ?_
      refine cG2 rfl (fun K hK => ?_) ?_
      ·go_simp
       have N4 := N3.alloc (.cells #[.string s] 9)
       have B4 : Below w.heap.size w (W3.alloc (.cells #[.string s] 9)) := B3.alloc B3.size _
       have nb15 := heap_alloc_new W3 (.cells #[.string s] 9)
       have hb15 : W0z ≤ W3.heap.size := hz3
       have hz4 : W0z ≤ (W3.alloc (.cells #[.string s] 9)).heap.size := by simp; omega
       replace nb21 := (Below.heap_alloc W3 (.cells #[.string s] 9) _ (Array.getElem?_eq_some_iff.1 nb21).1).trans nb21
       generalize W3.alloc (.cells #[.string s] 9) = W4 at *
       refine hK.out _ _ (fun _ _ => ⟨(c_o N4.cells 0).1, (c_o N4.cells 1).1, (c_o N4.cells 2).1⟩) ?_
       clear hK K
       try simp only[Act.put,zq]
       refine rdG (rs := [16]) (by kernel_rfl) (by simp) ?_
       refine cG2 rfl (fun K hK => ?_) ?_
       ·refine step_append_lies _ rfl (.tmp 32) (.tmp 34) 54 rfl (w.heap.size + 1) 9 is (.string ⟨#[]⟩) 1 16 Tryz.underlying54 his hzs0 hzs1 hzs2 rfl (by decide) vw k (List.replicate k (.string s)) rfl N4.ow ⟨_, 0, none⟩ 1 1 [.string s] rfl rfl (World.news_of_block nb15) (fun u hu => by simp at hu; subst hu; rfl) (by omega) hmx (by omega) N4.lt _ rfl ?_
        intro g16 q16 W5 o16 r16 a16 b16
        have N5 := N4.w o16 r16 a16
        have B5 := B4.grown r16 B4.size (fun q hq => by have := (N4.ow.lt q hq).1; omega)
        have hz5 : W0z ≤ W5.heap.size := Nat.le_trans hz4 r16.size
        replace nb21 := (r16.block _ (Array.getElem?_eq_some_iff.1 nb21).1 (fun e => by have := lvw _ e.symm; omega)).trans nb21
        clear nb15 hb15 o16 r16 a16 b16
        refine hK.out _ _ (fun _ _ => ⟨(c_o N5.cells 0).1, (c_o N5.cells 1).1, (c_o N5.cells 2).1⟩) ?_
        clear hK K
        try simp only[Act.put,zq]
        refine rdG (rs := [22]) (by kernel_rfl) (by simp) ?_
        refine cG2 rfl (fun K hK => ?_) ?_
        ·refine step_append_lies _ rfl (.tmp 39) (.tmp 40) 55 rfl (w.heap.size + 1) 4 ib (.bool false) 1 1 Tryz.underlying55 hib hzb0 hzb1 hzb2 rfl (by decide) vt k (List.replicate k (.bool false)) rfl N5.ot ⟨_, 0, none⟩ 1 1 [.bool false] rfl rfl (World.news_of_block nb21) (fun u hu => by simp at hu; subst hu; rfl) (by omega) hmx (by omega) N5.lt _ rfl ?_
         intro g22 q22 W6 o22 r22 a22 b22
         have N6 := N5.t o22 r22
         have B6 := B5.grown r22 B5.size (fun q hq => by have := (N5.ot.lt q hq).1; omega)
         have hz6 : W0z ≤ W6.heap.size := Nat.le_trans hz5 r22.size
         clear nb21 hb21 o22 r22 a22 b22
         refine hK.out _ _ (fun _ _ => ⟨(c_o N6.cells 0).1, (c_o N6.cells 1).1, (c_o N6.cells 2).1⟩) ?_
         clear hK K
         try simp only[Act.put,zq]
         have e0 := c_o N6.cells 0
         have e1 := c_o N6.cells 1
         have e2 := c_o N6.cells 2
         obtain ⟨e0, f0⟩ := e0
         obtain ⟨e1, f1⟩ := e1
         obtain ⟨e2, f2⟩ := e2
         have NF := Lib.hid (N6.set (.slice (some ⟨g9, 0, none⟩) (k + 1) q9) (.slice (some ⟨g16, 0, none⟩) (k + 1) q16) (.slice (some ⟨g22, 0, none⟩) (k + 1) q22))
         have HF := Lib.hid (((B6.setCell (p := ⟨w.heap.size, 0, none⟩) (Nat.le_refl _) (.slice (some ⟨g9, 0, none⟩) (k + 1) q9)).setCell (p := ⟨w.heap.size, 1, none⟩) (Nat.le_refl _) (.slice (some ⟨g16, 0, none⟩) (k + 1) q16)).setCell (p := ⟨w.heap.size, 2, none⟩) (Nat.le_refl _) (.slice (some ⟨g22, 0, none⟩) (k + 1) q22))
         refine tG0 (i := 23) (v := ?_) rfl ?_ ?_
         rotate_left;(focus intro W _;go_simp;try with_reducible rfl);rotate_left;try simp only[Act.put,zq]
         refine tG0 (i := 24) (v := ?_) rfl ?_ ?_
         rotate_left;(focus intro W _;go_simp;try with_reducible rfl);rotate_left;try simp only[Act.put,zq]
         refine rdG (rs := [25]) (by kernel_rfl) (by simp) ?_
         refine cG1 rfl fun K hK => ?_
         go_simp
         refine hK.out _ _ (fun h => by cases h) ?_
         clear hK K
         try simp only[Act.put,zq]
         refine tG0 (i := 26) (v := ?_) rfl ?_ ?_
         rotate_left;(focus intro W _;go_simp;try with_reducible rfl);rotate_left;try simp only[Act.put,zq]
         refine tG0 (i := 27) (v := ?_) rfl ?_ ?_
         rotate_left;(focus intro W _;go_simp;try with_reducible rfl);rotate_left;try simp only[Act.put,zq]
         refine rdG (rs := [28]) (by kernel_rfl) (by simp) ?_
         refine cG1 rfl fun K hK => ?_
         go_simp
         refine hK.out _ _ (fun h => by cases h) ?_
         clear hK K
         try simp only[Act.put,zq]
         refine tG0 (i := 29) (v := ?_) rfl ?_ ?_
         rotate_left;(focus intro W _;go_simp;try with_reducible rfl);rotate_left;try simp only[Act.put,zq]
         refine tG0 (i := 30) (v := ?_) rfl ?_ ?_
         rotate_left;(focus intro W _;go_simp;try with_reducible rfl);rotate_left;try simp only[Act.put,zq]
         refine rdG (rs := [31]) (by kernel_rfl) (by simp) ?_
         refine cG1 rfl fun K hK => ?_
         go_simp
         refine hK.out _ _ (fun h => by cases h) ?_
         clear hK K
         try simp only[Act.put,zq]
         refine wpAnyG_done (by kernel_rfl) ?_ _
         clear e0 e1 e2 f0 f1 f2
         go_wp2
         go_roundw
         case rel => exact ⟨k + 1, _, _, _, by have := HLT.out; omega, by go_num, NF.out, HF.out, fun e => by omega⟩
         case measure => have := HLT.out; simp [ivK]; omega
        exact AllReadyG.nil
       exact AllReadyG.nil
      exact AllReadyG.nil
     exact AllReadyG.nil
    refine cG2 rfl (fun K hK => ?_) ?_
    ·go_simp
     have N2 := N1.alloc (.cells #[.string s] 9)
     have B2 : Below w.heap.size w (W1.alloc (.cells #[.string s] 9)) := B1.alloc B1.size _
     have nb15 := heap_alloc_new W1 (.cells #[.string s] 9)
     have hb15 : W0z ≤ W1.heap.size := hz1
     have hz2 : W0z ≤ (W1.alloc (.cells #[.string s] 9)).heap.size := by simp; omega
     replace nb8 := (Below.heap_alloc W1 (.cells #[.string s] 9) _ (Array.getElem?_eq_some_iff.1 nb8).1).trans nb8
     generalize W1.alloc (.cells #[.string s] 9) = W2 at *
     refine hK.out _ _ (fun _ _ => ⟨(c_o N2.cells 0).1, (c_o N2.cells 1).1, (c_o N2.cells 2).1⟩) ?_
     clear hK K
     try simp only[Act.put,zq]
     refine rdG (rs := [9, 21]) (by kernel_rfl) (by simp) ?_
     refine cG2 rfl (fun K hK => ?_) ?_
     ·refine step_append_lies _ rfl (.tmp 25) (.tmp 27) 54 rfl (w.heap.size + 1) 9 is (.string ⟨#[]⟩) 1 16 Tryz.underlying54 his hzs0 hzs1 hzs2 rfl (by decide) vn k (List.replicate k (.string s)) rfl N2.on ⟨_, 0, none⟩ 1 1 [.string s] rfl rfl (World.news_of_block nb8) (fun u hu => by simp at hu; subst hu; rfl) (by omega) hmx (by omega) N2.lt _ rfl ?_
      intro g9 q9 W3 o9 r9 a9 b9
      have N3 := N2.n o9 r9 a9
      have B3 := B2.grown r9 B2.size (fun q hq => by have := (N2.on.lt q hq).1; omega)
      have hz3 : W0z ≤ W3.heap.size := Nat.le_trans hz2 r9.size
      replace nb15 := (r9.block _ (Array.getElem?_eq_some_iff.1 nb15).1 (fun e => by have := lvn _ e.symm; omega)).trans nb15
      clear nb8 hb8 o9 r9 a9 b9
      refine hK.out _ _ (fun _ _ => ⟨(c_o N3.cells 0).1, (c_o N3.cells 1).1, (c_o N3.cells 2).1⟩) ?_
      clear hK K
      try simp only[Act.put,zq]
      refine rdG (rs := [16, 21]) (by kernel_rfl) (by simp) ?_
      refine cG2 rfl (fun K hK => ?_) ?_
      ·refine step_append_lies _ rfl (.tmp 32) (.tmp 34) 54 rfl (w.heap.size + 1) 9 is (.string ⟨#[]⟩) 1 16 Tryz.underlying54 his hzs0 hzs1 hzs2 rfl (by decide) vw k (List.replicate k (.string s)) rfl N3.ow ⟨_, 0, none⟩ 1 1 [.string s] rfl rfl (World.news_of_block nb15) (fun u hu => by simp at hu; subst hu; rfl) (by omega) hmx (by omega) N3.lt _ rfl ?_
       intro g16 q16 W4 o16 r16 a16 b16
       have N4 := N3.w o16 r16 a16
       have B4 := B3.grown r16 B3.size (fun q hq => by have := (N3.ow.lt q hq).1; omega)
       have hz4 : W0z ≤ W4.heap.size := Nat.le_trans hz3 r16.size
       clear nb15 hb15 o16 r16 a16 b16
       refine hK.out _ _ (fun _ _ => ⟨(c_o N4.cells 0).1, (c_o N4.cells 1).1, (c_o N4.cells 2).1⟩) ?_
       clear hK K
       try simp only[Act.put,zq]
       refine rdG (rs := [21]) (by kernel_rfl) (by simp) ?_
       refine cG2 rfl (fun K hK => ?_) ?_
       ·go_simp
        have N5 := N4.alloc (.cells #[.bool false] 4)
        have B5 : Below w.heap.size w (W4.alloc (.cells #[.bool false] 4)) := B4.alloc B4.size _
        have nb21 := heap_alloc_new W4 (.cells #[.bool false] 4)
        have hb21 : W0z ≤ W4.heap.size := hz4
        have hz5 : W0z ≤ (W4.alloc (.cells #[.bool false] 4)).heap.size := by simp; omega
        generalize W4.alloc (.cells #[.bool false] 4) = W5 at *
        refine hK.out _ _ (fun _ _ => ⟨(c_o N5.cells 0).1, (c_o N5.cells 1).1, (c_o N5.cells 2).1⟩) ?_
        clear hK K
        try simp only[Act.put,zq]
        refine rdG (rs := [22]) (by kernel_rfl) (by simp) ?_
        refine cG2 rfl (fun K hK => ?_) ?_
        ·refine step_append_lies _ rfl (.tmp 39) (.tmp 40) 55 rfl (w.heap.size + 1) 4 ib (.bool false) 1 1 Tryz.underlying55 hib hzb0 hzb1 hzb2 rfl (by decide) vt k (List.replicate k (.bool false)) rfl N5.ot ⟨_, 0, none⟩ 1 1 [.bool false] rfl rfl (World.news_of_block nb21) (fun u hu => by simp at hu; subst hu; rfl) (by omega) hmx (by omega) N5.lt _ rfl ?_
         intro g22 q22 W6 o22 r22 a22 b22
         have N6 := N5.t o22 r22
         have B6 := B5.grown r22 B5.size (fun q hq => by have := (N5.ot.lt q hq).1; omega)
         have hz6 : W0z ≤ W6.heap.size := Nat.le_trans hz5 r22.size
         clear nb21 hb21 o22 r22 a22 b22
         refine hK.out _ _ (fun _ _ => ⟨(c_o N6.cells 0).1, (c_o N6.cells 1).1, (c_o N6.cells 2).1⟩) ?_
         clear hK K
         try simp only[Act.put,zq]
         have e0 := c_o N6.cells 0
         have e1 := c_o N6.cells 1
         have e2 := c_o N6.cells 2
         obtain ⟨e0, f0⟩ := e0
         obtain ⟨e1, f1⟩ := e1
         obtain ⟨e2, f2⟩ := e2
         have NF := Lib.hid (N6.set (.slice (some ⟨g9, 0, none⟩) (k + 1) q9) (.slice (some ⟨g16, 0, none⟩) (k + 1) q16) (.slice (some ⟨g22, 0, none⟩) (k + 1) q22))
         have HF := Lib.hid (((B6.setCell (p := ⟨w.heap.size, 0, none⟩) (Nat.le_refl _) (.slice (some ⟨g9, 0, none⟩) (k + 1) q9)).setCell (p := ⟨w.heap.size, 1, none⟩) (Nat.le_refl _) (.slice (some ⟨g16, 0, none⟩) (k + 1) q16)).setCell (p := ⟨w.heap.size, 2, none⟩) (Nat.le_refl _) (.slice (some ⟨g22, 0, none⟩) (k + 1) q22))
         refine tG0 (i := 23) (v := ?_) rfl ?_ ?_
         rotate_left;(focus intro W _;go_simp;try with_reducible rfl);rotate_left;try simp only[Act.put,zq]
         refine tG0 (i := 24) (v := ?_) rfl ?_ ?_
         rotate_left;(focus intro W _;go_simp;try with_reducible rfl);rotate_left;try simp only[Act.put,zq]
         refine rdG (rs := [25]) (by kernel_rfl) (by simp) ?_
         refine cG1 rfl fun K hK => ?_
         go_simp
         refine hK.out _ _ (fun h => by cases h) ?_
         clear hK K
         try simp only[Act.put,zq]
         refine tG0 (i := 26) (v := ?_) rfl ?_ ?_
         rotate_left;(focus intro W _;go_simp;try with_reducible rfl);rotate_left;try simp only[Act.put,zq]
         refine tG0 (i := 27) (v := ?_) rfl ?_ ?_
         rotate_left;(focus intro W _;go_simp;try with_reducible rfl);rotate_left;try simp only[Act.put,zq]
         refine rdG (rs := [28]) (by kernel_rfl) (by simp) ?_
         refine cG1 rfl fun K hK => ?_
         go_simp
         refine hK.out _ _ (fun h => by cases h) ?_
         clear hK K
         try simp only[Act.put,zq]
         refine tG0 (i := 29) (v := ?_) rfl ?_ ?_
         rotate_left;(focus intro W _;go_simp;try with_reducible rfl);rotate_left;try simp only[Act.put,zq]
         refine tG0 (i := 30) (v := ?_) rfl ?_ ?_
         rotate_left;(focus intro W _;go_simp;try with_reducible rfl);rotate_left;try simp only[Act.put,zq]
         refine rdG (rs := [31]) (by kernel_rfl) (by simp) ?_
         refine cG1 rfl fun K hK => ?_
         go_simp
         refine hK.out _ _ (fun h => by cases h) ?_
         clear hK K
         try simp only[Act.put,zq]
         refine wpAnyG_done (by kernel_rfl) ?_ _
         clear e0 e1 e2 f0 f1 f2
         go_wp2
         go_roundw
         case rel => exact ⟨k + 1, _, _, _, by have := HLT.out; omega, by go_num, NF.out, HF.out, fun e => by omega⟩
         case measure => have := HLT.out; simp [ivK]; omega
        exact AllReadyG.nil
       exact AllReadyG.nil
      refine cG2 rfl (fun K hK => ?_) ?_
      ·go_simp
       have N4 := N3.alloc (.cells #[.bool false] 4)
       have B4 : Below w.heap.size w (W3.alloc (.cells #[.bool false] 4)) := B3.alloc B3.size _
       have nb21 := heap_alloc_new W3 (.cells #[.bool false] 4)
       have hb21 : W0z ≤ W3.heap.size := hz3
       have hz4 : W0z ≤ (W3.alloc (.cells #[.bool false] 4)).heap.size := by simp; omega
       replace nb15 := (Below.heap_alloc W3 (.cells #[.bool false] 4) _ (Array.getElem?_eq_some_iff.1 nb15).1).trans nb15
       generalize W3.alloc (.cells #[.bool false] 4) = W4 at *
       refine hK.out _ _ (fun _ _ => ⟨(c_o N4.cells 0).1, (c_o N4.cells 1).1, (c_o N4.cells 2).1⟩) ?_
       clear hK K
       try simp only[Act.put,zq]
       refine rdG (rs := [16]) (by kernel_rfl) (by simp) ?_
       refine cG2 rfl (fun K hK => ?_) ?_
       ·refine step_append_lies _ rfl (.tmp 32) (.tmp 34) 54 rfl (w.heap.size + 1) 9 is (.string ⟨#[]⟩) 1 16 Tryz.underlying54 his hzs0 hzs1 hzs2 rfl (by decide) vw k (List.replicate k (.string s)) rfl N4.ow ⟨_, 0, none⟩ 1 1 [.string s] rfl rfl (World.news_of_block nb15) (fun u hu => by simp at hu; subst hu; rfl) (by omega) hmx (by omega) N4.lt _ rfl ?_
        intro g16 q16 W5 o16 r16 a16 b16
        have N5 := N4.w o16 r16 a16
        have B5 := B4.grown r16 B4.size (fun q hq => by have := (N4.ow.lt q hq).1; omega)
        have hz5 : W0z ≤ W5.heap.size := Nat.le_trans hz4 r16.size
        replace nb21 := (r16.block _ (Array.getElem?_eq_some_iff.1 nb21).1 (fun e => by have := lvw _ e.symm; omega)).trans nb21
        clear nb15 hb15 o16 r16 a16 b16
        refine hK.out _ _ (fun _ _ => ⟨(c_o N5.cells 0).1, (c_o N5.cells 1).1, (c_o N5.cells 2).1⟩) ?_
        clear hK K
        try simp only[Act.put,zq]
        refine rdG (rs := [22]) (by kernel_rfl) (by simp) ?_
        refine cG2 rfl (fun K hK => ?_) ?_
        ·refine step_append_lies _ rfl (.tmp 39) (.tmp 40) 55 rfl (w.heap.size + 1) 4 ib (.bool false) 1 1 Tryz.underlying55 hib hzb0 hzb1 hzb2 rfl (by decide) vt k (List.replicate k (.bool false)) rfl N5.ot ⟨_, 0, none⟩ 1 1 [.bool false] rfl rfl (World.news_of_block nb21) (fun u hu => by simp at hu; subst hu; rfl) (by omega) hmx (by omega) N5.lt _ rfl ?_
         intro g22 q22 W6 o22 r22 a22 b22
         have N6 := N5.t o22 r22
         have B6 := B5.grown r22 B5.size (fun q hq => by have := (N5.ot.lt q hq).1; omega)
         have hz6 : W0z ≤ W6.heap.size := Nat.le_trans hz5 r22.size
         clear nb21 hb21 o22 r22 a22 b22
         refine hK.out _ _ (fun _ _ => ⟨(c_o N6.cells 0).1, (c_o N6.cells 1).1, (c_o N6.cells 2).1⟩) ?_
         clear hK K
         try simp only[Act.put,zq]
         have e0 := c_o N6.cells 0
         have e1 := c_o N6.cells 1
         have e2 := c_o N6.cells 2
         obtain ⟨e0, f0⟩ := e0
         obtain ⟨e1, f1⟩ := e1
         obtain ⟨e2, f2⟩ := e2
         have NF := Lib.hid (N6.set (.slice (some ⟨g9, 0, none⟩) (k + 1) q9) (.slice (some ⟨g16, 0, none⟩) (k + 1) q16) (.slice (some ⟨g22, 0, none⟩) (k + 1) q22))
         have HF := Lib.hid (((B6.setCell (p := ⟨w.heap.size, 0, none⟩) (Nat.le_refl _) (.slice (some ⟨g9, 0, none⟩) (k + 1) q9)).setCell (p := ⟨w.heap.size, 1, none⟩) (Nat.le_refl _) (.slice (some ⟨g16, 0, none⟩) (k + 1) q16)).setCell (p := ⟨w.heap.size, 2, none⟩) (Nat.le_refl _) (.slice (some ⟨g22, 0, none⟩) (k + 1) q22))
         refine tG0 (i := 23) (v := ?_) rfl ?_ ?_
         rotate_left;(focus intro W _;go_simp;try with_reducible rfl);rotate_left;try simp only[Act.put,zq]
         refine tG0 (i := 24) (v := ?_) rfl ?_ ?_
         rotate_left;(focus intro W _;go_simp;try with_reducible rfl);rotate_left;try simp only[Act.put,zq]
         refine rdG (rs := [25]) (by kernel_rfl) (by simp) ?_
         refine cG1 rfl fun K hK => ?_
         go_simp
         refine hK.out _ _ (fun h => by cases h) ?_
         clear hK K
         try simp only[Act.put,zq]
         refine tG0 (i := 26) (v := ?_) rfl ?_ ?_
         rotate_left;(focus intro W _;go_simp;try with_reducible rfl);rotate_left;try simp only[Act.put,zq]
         refine tG0 (i := 27) (v := ?_) rfl ?_ ?_
         rotate_left;(focus intro W _;go_simp;try with_reducible rfl);rotate_left;try simp only[Act.put,zq]
         refine rdG (rs := [28]) (by kernel_rfl) (by simp) ?_
         refine cG1 rfl fun K hK => ?_
         go_simp
         refine hK.out _ _ (fun h => by cases h) ?_
         clear hK K
         try simp only[Act.put,zq]
         refine tG0 (i := 29) (v := ?_) rfl ?_ ?_
         rotate_left;(focus intro W _;go_simp;try with_reducible rfl);rotate_left;try simp only[Act.put,zq]
         refine tG0 (i := 30) (v := ?_) rfl ?_ ?_
         rotate_left;(focus intro W _;go_simp;try with_reducible rfl);rotate_left;try simp only[Act.put,zq]
         refine rdG (rs := [31]) (by kernel_rfl) (by simp) ?_
         refine cG1 rfl fun K hK => ?_
         go_simp
         refine hK.out _ _ (fun h => by cases h) ?_
         clear hK K
         try simp only[Act.put,zq]
         refine wpAnyG_done (by kernel_rfl) ?_ _
         clear e0 e1 e2 f0 f1 f2
         go_wp2
         go_roundw
         case rel => exact ⟨k + 1, _, _, _, by have := HLT.out; omega, by go_num, NF.out, HF.out, fun e => by omega⟩
         case measure => have := HLT.out; simp [ivK]; omega
        exact AllReadyG.nil
       exact AllReadyG.nil
      exact AllReadyG.nil
     refine cG2 rfl (fun K hK => ?_) ?_
     ·go_simp
      have N3 := N2.alloc (.cells #[.bool false] 4)
      have B3 : Below w.heap.size w (W2.alloc (.cells #[.bool false] 4)) := B2.alloc B2.size _
      have nb21 := heap_alloc_new W2 (.cells #[.bool false] 4)
      have hb21 : W0z ≤ W2.heap.size := hz2
      have hz3 : W0z ≤ (W2.alloc (.cells #[.bool false] 4)).heap.size := by simp; omega
      replace nb8 := (Below.heap_alloc W2 (.cells #[.bool false] 4) _ (Array.getElem?_eq_some_iff.1 nb8).1).trans nb8
      replace nb15 := (Below.heap_alloc W2 (.cells #[.bool false] 4) _ (Array.getElem?_eq_some_iff.1 nb15).1).trans nb15
      generalize W2.alloc (.cells #[.bool false] 4) = W3 at *
      refine hK.out _ _ (fun _ _ => ⟨(c_o N3.cells 0).1, (c_o N3.cells 1).1, (c_o N3.cells 2).1⟩) ?_
      clear hK K
      try simp only[Act.put,zq]
      refine rdG (rs := [9]) (by kernel_rfl) (by simp) ?_
      refine cG2 rfl (fun K hK => ?_) ?_
      ·refine step_append_lies _ rfl (.tmp 25) (.tmp 27) 54 rfl (w.heap.size + 1) 9 is (.string ⟨#[]⟩) 1 16 Tryz.underlying54 his hzs0 hzs1 hzs2 rfl (by decide) vn k (List.replicate k (.string s)) rfl N3.on ⟨_, 0, none⟩ 1 1 [.string s] rfl rfl (World.news_of_block nb8) (fun u hu => by simp at hu; subst hu; rfl) (by omega) hmx (by omega) N3.lt _ rfl ?_
       intro g9 q9 W4 o9 r9 a9 b9
       have N4 := N3.n o9 r9 a9
       have B4 := B3.grown r9 B3.size (fun q hq => by have := (N3.on.lt q hq).1; omega)
       have hz4 : W0z ≤ W4.heap.size := Nat.le_trans hz3 r9.size
       replace nb15 := (r9.block _ (Array.getElem?_eq_some_iff.1 nb15).1 (fun e => by have := lvn _ e.symm; omega)).trans nb15
       replace nb21 := (r9.block _ (Array.getElem?_eq_some_iff.1 nb21).1 (fun e => by have := lvn _ e.symm; omega)).trans nb21
       clear nb8 hb8 o9 r9 a9 b9
       refine hK.out _ _ (fun _ _ => ⟨(c_o N4.cells 0).1, (c_o N4.cells 1).1, (c_o N4.cells 2).1⟩) ?_
       clear hK K
       try simp only[Act.put,zq]
       refine rdG (rs := [16]) (by kernel_rfl) (by simp) ?_
       refine cG2 rfl (fun K hK => ?_) ?_
       ·refine step_append_lies _ rfl (.tmp 32) (.tmp 34) 54 rfl (w.heap.size + 1) 9 is (.string ⟨#[]⟩) 1 16 Tryz.underlying54 his hzs0 hzs1 hzs2 rfl (by decide) vw k (List.replicate k (.string s)) rfl N4.ow ⟨_, 0, none⟩ 1 1 [.string s] rfl rfl (World.news_of_block nb15) (fun u hu => by simp at hu; subst hu; rfl) (by omega) hmx (by omega) N4.lt _ rfl ?_
        intro g16 q16 W5 o16 r16 a16 b16
        have N5 := N4.w o16 r16 a16
        have B5 := B4.grown r16 B4.size (fun q hq => by have := (N4.ow.lt q hq).1; omega)
        have hz5 : W0z ≤ W5.heap.size := Nat.le_trans hz4 r16.size
        replace nb21 := (r16.block _ (Array.getElem?_eq_some_iff.1 nb21).1 (fun e => by have := lvw _ e.symm; omega)).trans nb21
        clear nb15 hb15 o16 r16 a16 b16
        refine hK.out _ _ (fun _ _ => ⟨(c_o N5.cells 0).1, (c_o N5.cells 1).1, (c_o N5.cells 2).1⟩) ?_
        clear hK K
        try simp only[Act.put,zq]
        refine rdG (rs := [22]) (by kernel_rfl) (by simp) ?_
        refine cG2 rfl (fun K hK => ?_) ?_
        ·refine step_append_lies _ rfl (.tmp 39) (.tmp 40) 55 rfl (w.heap.size + 1) 4 ib (.bool false) 1 1 Tryz.underlying55 hib hzb0 hzb1 hzb2 rfl (by decide) vt k (List.replicate k (.bool false)) rfl N5.ot ⟨_, 0, none⟩ 1 1 [.bool false] rfl rfl (World.news_of_block nb21) (fun u hu => by simp at hu; subst hu; rfl) (by omega) hmx (by omega) N5.lt _ rfl ?_
         intro g22 q22 W6 o22 r22 a22 b22
         have N6 := N5.t o22 r22
         have B6 := B5.grown r22 B5.size (fun q hq => by have := (N5.ot.lt q hq).1; omega)
         have hz6 : W0z ≤ W6.heap.size := Nat.le_trans hz5 r22.size
         clear nb21 hb21 o22 r22 a22 b22
         refine hK.out _ _ (fun _ _ => ⟨(c_o N6.cells 0).1, (c_o N6.cells 1).1, (c_o N6.cells 2).1⟩) ?_
         clear hK K
         try simp only[Act.put,zq]
         have e0 := c_o N6.cells 0
         have e1 := c_o N6.cells 1
         have e2 := c_o N6.cells 2
         obtain ⟨e0, f0⟩ := e0
         obtain ⟨e1, f1⟩ := e1
         obtain ⟨e2, f2⟩ := e2
         have NF := Lib.hid (N6.set (.slice (some ⟨g9, 0, none⟩) (k + 1) q9) (.slice (some ⟨g16, 0, none⟩) (k + 1) q16) (.slice (some ⟨g22, 0, none⟩) (k + 1) q22))
         have HF := Lib.hid (((B6.setCell (p := ⟨w.heap.size, 0, none⟩) (Nat.le_refl _) (.slice (some ⟨g9, 0, none⟩) (k + 1) q9)).setCell (p := ⟨w.heap.size, 1, none⟩) (Nat.le_refl _) (.slice (some ⟨g16, 0, none⟩) (k + 1) q16)).setCell (p := ⟨w.heap.size, 2, none⟩) (Nat.le_refl _) (.slice (some ⟨g22, 0, none⟩) (k + 1) q22))
         refine tG0 (i := 23) (v := ?_) rfl ?_ ?_
         rotate_left;(focus intro W _;go_simp;try with_reducible rfl);rotate_left;try simp only[Act.put,zq]
         refine tG0 (i := 24) (v := ?_) rfl ?_ ?_
         rotate_left;(focus intro W _;go_simp;try with_reducible rfl);rotate_left;try simp only[Act.put,zq]
         refine rdG (rs := [25]) (by kernel_rfl) (by simp) ?_
         refine cG1 rfl fun K hK => ?_
         go_simp
         refine hK.out _ _ (fun h => by cases h) ?_
         clear hK K
         try simp only[Act.put,zq]
         refine tG0 (i := 26) (v := ?_) rfl ?_ ?_
         rotate_left;(focus intro W _;go_simp;try with_reducible rfl);rotate_left;try simp only[Act.put,zq]
         refine tG0 (i := 27) (v := ?_) rfl ?_ ?_
         rotate_left;(focus intro W _;go_simp;try with_reducible rfl);rotate_left;try simp only[Act.put,zq]
         refine rdG (rs := [28]) (by kernel_rfl) (by simp) ?_
         refine cG1 rfl fun K hK => ?_
         go_simp
         refine hK.out _ _ (fun h => by cases h) ?_
         clear hK K
         try simp only[Act.put,zq]
         refine tG0 (i := 29) (v := ?_) rfl ?_ ?_
         rotate_left;(focus intro W _;go_simp;try with_reducible rfl);rotate_left;try simp only[Act.put,zq]
         refine tG0 (i := 30) (v := ?_) rfl ?_ ?_
         rotate_left;(focus intro W _;go_simp;try with_reducible rfl);rotate_left;try simp only[Act.put,zq]
         refine rdG (rs := [31]) (by kernel_rfl) (by simp) ?_
         refine cG1 rfl fun K hK => ?_
         go_simp
         refine hK.out _ _ (fun h => by cases h) ?_
         clear hK K
         try simp only[Act.put,zq]
         refine wpAnyG_done (by kernel_rfl) ?_ _
         clear e0 e1 e2 f0 f1 f2
         go_wp2
         go_roundw
         case rel => exact ⟨k + 1, _, _, _, by have := HLT.out; omega, by go_num, NF.out, HF.out, fun e => by omega⟩
         case measure => have := HLT.out; simp [ivK]; omega
        exact AllReadyG.nil
       exact AllReadyG.nil
      exact AllReadyG.nil
     exact AllReadyG.nil
    refine cG2 rfl (fun K hK => ?_) ?_
    ·go_simp
     have N2 := N1.alloc (.cells #[.bool false] 4)
     have B2 : Below w.heap.size w (W1.alloc (.cells #[.bool false] 4)) := B1.alloc B1.size _
     have nb21 := heap_alloc_new W1 (.cells #[.bool false] 4)
     have hb21 : W0z ≤ W1.heap.size := hz1
     have hz2 : W0z ≤ (W1.alloc (.cells #[.bool false] 4)).heap.size := by simp; omega
     replace nb8 := (Below.heap_alloc W1 (.cells #[.bool false] 4) _ (Array.getElem?_eq_some_iff.1 nb8).1).trans nb8
     generalize W1.alloc (.cells #[.bool false] 4) = W2 at *
     refine hK.out _ _ (fun _ _ => ⟨(c_o N2.cells 0).1, (c_o N2.cells 1).1, (c_o N2.cells 2).1⟩) ?_
     clear hK K
     try simp only[Act.put,zq]
     refine rdG (rs := [9, 15]) (by kernel_rfl) (by simp) ?_
     refine cG2 rfl (fun K hK => ?_) ?_
     ·refine step_append_lies _ rfl (.tmp 25) (.tmp 27) 54 rfl (w.heap.size + 1) 9 is (.string ⟨#[]⟩) 1 16 Tryz.underlying54 his hzs0 hzs1 hzs2 rfl (by decide) vn k (List.replicate k (.string s)) rfl N2.on ⟨_, 0, none⟩ 1 1 [.string s] rfl rfl (World.news_of_block nb8) (fun u hu => by simp at hu; subst hu; rfl) (by omega) hmx (by omega) N2.lt _ rfl ?_
      intro g9 q9 W3 o9 r9 a9 b9
      have N3 := N2.n o9 r9 a9
      have B3 := B2.grown r9 B2.size (fun q hq => by have := (N2.on.lt q hq).1; omega)
      have hz3 : W0z ≤ W3.heap.size := Nat.le_trans hz2 r9.size
      replace nb21 := (r9.block _ (Array.getElem?_eq_some_iff.1 nb21).1 (fun e => by have := lvn _ e.symm; omega)).trans nb21
      clear nb8 hb8 o9 r9 a9 b9
      refine hK.out _ _ (fun _ _ => ⟨(c_o N3.cells 0).1, (c_o N3.cells 1).1, (c_o N3.cells 2).1⟩) ?_
      clear hK K
      try simp only[Act.put,zq]
      refine rdG (rs := [15]) (by kernel_rfl) (by simp) ?_
      refine cG2 rfl (fun K hK => ?_) ?_
      ·go_simp
       have N4 := N3.alloc (.cells #[.string s] 9)
       have B4 : Below w.heap.size w (W3.alloc (.cells #[.string s] 9)) := B3.alloc B3.size _
       have nb15 := heap_alloc_new W3 (.cells #[.string s] 9)
       have hb15 : W0z ≤ W3.heap.size := hz3
       have hz4 : W0z ≤ (W3.alloc (.cells #[.string s] 9)).heap.size := by simp; omega
       replace nb21 := (Below.heap_alloc W3 (.cells #[.string s] 9) _ (Array.getElem?_eq_some_iff.1 nb21).1).trans nb21
       generalize W3.alloc (.cells #[.string s] 9) = W4 at *
       refine hK.out _ _ (fun _ _ => ⟨(c_o N4.cells 0).1, (c_o N4.cells 1).1, (c_o N4.cells 2).1⟩) ?_
       clear hK K
       try simp only[Act.put,zq]
       refine rdG (rs := [16]) (by kernel_rfl) (by simp) ?_
       refine cG2 rfl (fun K hK => ?_) ?_
       ·refine step_append_lies _ rfl (.tmp 32) (.tmp 34) 54 rfl (w.heap.size + 1) 9 is (.string ⟨#[]⟩) 1 16 Tryz.underlying54 his hzs0 hzs1 hzs2 rfl (by decide) vw k (List.replicate k (.string s)) rfl N4.ow ⟨_, 0, none⟩ 1 1 [.string s] rfl rfl (World.news_of_block nb15) (fun u hu => by simp at hu; subst hu; rfl) (by omega) hmx (by omega) N4.lt _ rfl ?_
        intro g16 q16 W5 o16 r16 a16 b16
        have N5 := N4.w o16 r16 a16
        have B5 := B4.grown r16 B4.size (fun q hq => by have := (N4.ow.lt q hq).1; omega)
        have hz5 : W0z ≤ W5.heap.size := Nat.le_trans hz4 r16.size
        replace nb21 := (r16.block _ (Array.getElem?_eq_some_iff.1 nb21).1 (fun e => by have := lvw _ e.symm; omega)).trans nb21
        clear nb15 hb15 o16 r16 a16 b16
        refine hK.out _ _ (fun _ _ => ⟨(c_o N5.cells 0).1, (c_o N5.cells 1).1, (c_o N5.cells 2).1⟩) ?_
        clear hK K
        try simp only[Act.put,zq]
        refine rdG (rs := [22]) (by kernel_rfl) (by simp) ?_
        refine cG2 rfl (fun K hK => ?_) ?_
        ·refine step_append_lies _ rfl (.tmp 39) (.tmp 40) 55 rfl (w.heap.size + 1) 4 ib (.bool false) 1 1 Tryz.underlying55 hib hzb0 hzb1 hzb2 rfl (by decide) vt k (List.replicate k (.bool false)) rfl N5.ot ⟨_, 0, none⟩ 1 1 [.bool false] rfl rfl (World.news_of_block nb21) (fun u hu => by simp at hu; subst hu; rfl) (by omega) hmx (by omega) N5.lt _ rfl ?_
         intro g22 q22 W6 o22 r22 a22 b22
         have N6 := N5.t o22 r22
         have B6 := B5.grown r22 B5.size (fun q hq => by have := (N5.ot.lt q hq).1; omega)
         have hz6 : W0z ≤ W6.heap.size := Nat.le_trans hz5 r22.size
         clear nb21 hb21 o22 r22 a22 b22
         refine hK.out _ _ (fun _ _ => ⟨(c_o N6.cells 0).1, (c_o N6.cells 1).1, (c_o N6.cells 2).1⟩) ?_
         clear hK K
         try simp only[Act.put,zq]
         have e0 := c_o N6.cells 0
         have e1 := c_o N6.cells 1
         have e2 := c_o N6.cells 2
         obtain ⟨e0, f0⟩ := e0
         obtain ⟨e1, f1⟩ := e1
         obtain ⟨e2, f2⟩ := e2
         have NF := Lib.hid (N6.set (.slice (some ⟨g9, 0, none⟩) (k + 1) q9) (.slice (some ⟨g16, 0, none⟩) (k + 1) q16) (.slice (some ⟨g22, 0, none⟩) (k + 1) q22))
         have HF := Lib.hid (((B6.setCell (p := ⟨w.heap.size, 0, none⟩) (Nat.le_refl _) (.slice (some ⟨g9, 0, none⟩) (k + 1) q9)).setCell (p := ⟨w.heap.size, 1, none⟩) (Nat.le_refl _) (.slice (some ⟨g16, 0, none⟩) (k + 1) q16)).setCell (p := ⟨w.heap.size, 2, none⟩) (Nat.le_refl _) (.slice (some ⟨g22, 0, none⟩) (k + 1) q22))
         refine tG0 (i := 23) (v := ?_) rfl ?_ ?_
         rotate_left;(focus intro W _;go_simp;try with_reducible rfl);rotate_left;try simp only[Act.put,zq]
         refine tG0 (i := 24) (v := ?_) rfl ?_ ?_
         rotate_left;(focus intro W _;go_simp;try with_reducible rfl);rotate_left;try simp only[Act.put,zq]
         refine rdG (rs := [25]) (by kernel_rfl) (by simp) ?_
         refine cG1 rfl fun K hK => ?_
         go_simp
         refine hK.out _ _ (fun h => by cases h) ?_
         clear hK K
         try simp only[Act.put,zq]
         refine tG0 (i := 26) (v := ?_) rfl ?_ ?_
         rotate_left;(focus intro W _;go_simp;try with_reducible rfl);rotate_left;try simp only[Act.put,zq]
         refine tG0 (i := 27) (v := ?_) rfl ?_ ?_
         rotate_left;(focus intro W _;go_simp;try with_reducible rfl);rotate_left;try simp only[Act.put,zq]
         refine rdG (rs := [28]) (by kernel_rfl) (by simp) ?_
         refine cG1 rfl fun K hK => ?_
         go_simp
         refine hK.out _ _ (fun h => by cases h) ?_
         clear hK K
         try simp only[Act.put,zq]
         refine tG0 (i := 29) (v := ?_) rfl ?_ ?_
         rotate_left;(focus intro W _;go_simp;try with_reducible rfl);rotate_left;try simp only[Act.put,zq]
         refine tG0 (i := 30) (v := ?_) rfl ?_ ?_
         rotate_left;(focus intro W _;go_simp;try with_reducible rfl);rotate_left;try simp only[Act.put,zq]
         refine rdG (rs := [31]) (by kernel_rfl) (by simp) ?_
         refine cG1 rfl fun K hK => ?_
         go_simp
         refine hK.out _ _ (fun h => by cases h) ?_
         clear hK K
         try simp only[Act.put,zq]
         refine wpAnyG_done (by kernel_rfl) ?_ _
         clear e0 e1 e2 f0 f1 f2
         go_wp2
         go_roundw
         case rel => exact ⟨k + 1, _, _, _, by have := HLT.out; omega, by go_num, NF.out, HF.out, fun e => by omega⟩
         case measure => have := HLT.out; simp [ivK]; omega
        exact AllReadyG.nil
       exact AllReadyG.nil
      exact AllReadyG.nil
     refine cG2 rfl (fun K hK => ?_) ?_
     ·go_simp
      have N3 := N2.alloc (.cells #[.string s] 9)
      have B3 : Below w.heap.size w (W2.alloc (.cells #[.string s] 9)) := B2.alloc B2.size _
      have nb15 := heap_alloc_new W2 (.cells #[.string s] 9)
      have hb15 : W0z ≤ W2.heap.size := hz2
      have hz3 : W0z ≤ (W2.alloc (.cells #[.string s] 9)).heap.size := by simp; omega
      replace nb8 := (Below.heap_alloc W2 (.cells #[.string s] 9) _ (Array.getElem?_eq_some_iff.1 nb8).1).trans nb8
      replace nb21 := (Below.heap_alloc W2 (.cells #[.string s] 9) _ (Array.getElem?_eq_some_iff.1 nb21).1).trans nb21
      generalize W2.alloc (.cells #[.string s] 9) = W3 at *
      refine hK.out _ _ (fun _ _ => ⟨(c_o N3.cells 0).1, (c_o N3.cells 1).1, (c_o N3.cells 2).1⟩) ?_
      clear hK K
      try simp only[Act.put,zq]
      refine rdG (rs := [9]) (by kernel_rfl) (by simp) ?_
      refine cG2 rfl (fun K hK => ?_) ?_
      ·refine step_append_lies _ rfl (.tmp 25) (.tmp 27) 54 rfl (w.heap.size + 1) 9 is (.string ⟨#[]⟩) 1 16 Tryz.underlying54 his hzs0 hzs1 hzs2 rfl (by decide) vn k (List.replicate k (.string s)) rfl N3.on ⟨_, 0, none⟩ 1 1 [.string s] rfl rfl (World.news_of_block nb8) (fun u hu => by simp at hu; subst hu; rfl) (by omega) hmx (by omega) N3.lt _ rfl ?_
       intro g9 q9 W4 o9 r9 a9 b9
       have N4 := N3.n o9 r9 a9
       have B4 := B3.grown r9 B3.size (fun q hq => by have := (N3.on.lt q hq).1; omega)
       have hz4 : W0z ≤ W4.heap.size := Nat.le_trans hz3 r9.size
       replace nb21 := (r9.block _ (Array.getElem?_eq_some_iff.1 nb21).1 (fun e => by have := lvn _ e.symm; omega)).trans nb21
       replace nb15 := (r9.block _ (Array.getElem?_eq_some_iff.1 nb15).1 (fun e => by have := lvn _ e.symm; omega)).trans nb15
       clear nb8 hb8 o9 r9 a9 b9
       refine hK.out _ _ (fun _ _ => ⟨(c_o N4.cells 0).1, (c_o N4.cells 1).1, (c_o N4.cells 2).1⟩) ?_
       clear hK K
       try simp only[Act.put,zq]
       refine rdG (rs := [16]) (by kernel_rfl) (by simp) ?_
       refine cG2 rfl (fun K hK => ?_) ?_
       ·refine step_append_lies _ rfl (.tmp 32) (.tmp 34) 54 rfl (w.heap.size + 1) 9 is (.string ⟨#[]⟩) 1 16 Tryz.underlying54 his hzs0 hzs1 hzs2 rfl (by decide) vw k (List.replicate k (.string s)) rfl N4.ow ⟨_, 0, none⟩ 1 1 [.string s] rfl rfl (World.news_of_block nb15) (fun u hu => by simp at hu; subst hu; rfl) (by omega) hmx (by omega) N4.lt _ rfl ?_
        intro g16 q16 W5 o16 r16 a16 b16
        have N5 := N4.w o16 r16 a16
        have B5 := B4.grown r16 B4.size (fun q hq => by have := (N4.ow.lt q hq).1; omega)
        have hz5 : W0z ≤ W5.heap.size := Nat.le_trans hz4 r16.size
        replace nb21 := (r16.block _ (Array.getElem?_eq_some_iff.1 nb21).1 (fun e => by have := lvw _ e.symm; omega)).trans nb21
        clear nb15 hb15 o16 r16 a16 b16
        refine hK.out _ _ (fun _ _ => ⟨(c_o N5.cells 0).1, (c_o N5.cells 1).1, (c_o N5.cells 2).1⟩) ?_
        clear hK K
        try simp only[Act.put,zq]
        refine rdG (rs := [22]) (by kernel_rfl) (by simp) ?_
        refine cG2 rfl (fun K hK => ?_) ?_
        ·refine step_append_lies _ rfl (.tmp 39) (.tmp 40) 55 rfl (w.heap.size + 1) 4 ib (.bool false) 1 1 Tryz.underlying55 hib hzb0 hzb1 hzb2 rfl (by decide) vt k (List.replicate k (.bool false)) rfl N5.ot ⟨_, 0, none⟩ 1 1 [.bool false] rfl rfl (World.news_of_block nb21) (fun u hu => by simp at hu; subst hu; rfl) (by omega) hmx (by omega) N5.lt _ rfl ?_
         intro g22 q22 W6 o22 r22 a22 b22
         have N6 := N5.t o22 r22
         have B6 := B5.grown r22 B5.size (fun q hq => by have := (N5.ot.lt q hq).1; omega)
         have hz6 : W0z ≤ W6.heap.size := Nat.le_trans hz5 r22.size
         clear nb21 hb21 o22 r22 a22 b22
         refine hK.out _ _ (fun _ _ => ⟨(c_o N6.cells 0).1, (c_o N6.cells 1).1, (c_o N6.cells 2).1⟩) ?_
         clear hK K
         try simp only[Act.put,zq]
         have e0 := c_o N6.cells 0
         have e1 := c_o N6.cells 1
         have e2 := c_o N6.cells 2
         obtain ⟨e0, f0⟩ := e0
         obtain ⟨e1, f1⟩ := e1
         obtain ⟨e2, f2⟩ := e2
         have NF := Lib.hid (N6.set (.slice (some ⟨g9, 0, none⟩) (k + 1) q9) (.slice (some ⟨g16, 0, none⟩) (k + 1) q16) (.slice (some ⟨g22, 0, none⟩) (k + 1) q22))
         have HF := Lib.hid (((B6.setCell (p := ⟨w.heap.size, 0, none⟩) (Nat.le_refl _) (.slice (some ⟨g9, 0, none⟩) (k + 1) q9)).setCell (p := ⟨w.heap.size, 1, none⟩) (Nat.le_refl _) (.slice (some ⟨g16, 0, none⟩) (k + 1) q16)).setCell (p := ⟨w.heap.size, 2, none⟩) (Nat.le_refl _) (.slice (some ⟨g22, 0, none⟩) (k + 1) q22))
         refine tG0 (i := 23) (v := ?_) rfl ?_ ?_
         rotate_left;(focus intro W _;go_simp;try with_reducible rfl);rotate_left;try simp only[Act.put,zq]
         refine tG0 (i := 24) (v := ?_) rfl ?_ ?_
         rotate_left;(focus intro W _;go_simp;try with_reducible rfl);rotate_left;try simp only[Act.put,zq]
         refine rdG (rs := [25]) (by kernel_rfl) (by simp) ?_
         refine cG1 rfl fun K hK => ?_
         go_simp
         refine hK.out _ _ (fun h => by cases h) ?_
         clear hK K
         try simp only[Act.put,zq]
         refine tG0 (i := 26) (v := ?_) rfl ?_ ?_
         rotate_left;(focus intro W _;go_simp;try with_reducible rfl);rotate_left;try simp only[Act.put,zq]
         refine tG0 (i := 27) (v := ?_) rfl ?_ ?_
         rotate_left;(focus intro W _;go_simp;try with_reducible rfl);rotate_left;try simp only[Act.put,zq]
         refine rdG (rs := [28]) (by kernel_rfl) (by simp) ?_
         refine cG1 rfl fun K hK => ?_
         go_simp
         refine hK.out _ _ (fun h => by cases h) ?_
         clear hK K
         try simp only[Act.put,zq]
         refine tG0 (i := 29) (v := ?_) rfl ?_ ?_
         rotate_left;(focus intro W _;go_simp;try with_reducible rfl);rotate_left;try simp only[Act.put,zq]
         refine tG0 (i := 30) (v := ?_) rfl ?_ ?_
         rotate_left;(focus intro W _;go_simp;try with_reducible rfl);rotate_left;try simp only[Act.put,zq]
         refine rdG (rs := [31]) (by kernel_rfl) (by simp) ?_
         refine cG1 rfl fun K hK => ?_
         go_simp
         refine hK.out _ _ (fun h => by cases h) ?_
         clear hK K
         try simp only[Act.put,zq]
         refine wpAnyG_done (by kernel_rfl) ?_ _
         clear e0 e1 e2 f0 f1 f2
         go_wp2
         go_roundw
         case rel => exact ⟨k + 1, _, _, _, by have := HLT.out; omega, by go_num, NF.out, HF.out, fun e => by omega⟩
         case measure => have := HLT.out; simp [ivK]; omega
        exact AllReadyG.nil
       exact AllReadyG.nil
      exact AllReadyG.nil
     exact AllReadyG.nil
    exact AllReadyG.nil
   refine cG2 rfl (fun K hK => ?_) ?_
   ·go_simp
    have N1 := N0.alloc (.cells #[.string s] 9)
    have B1 : Below w.heap.size w (W0.alloc (.cells #[.string s] 9)) := B0.alloc B0.size _
    have nb15 := heap_alloc_new W0 (.cells #[.string s] 9)
    have hb15 : W0z ≤ W0.heap.size := hz0
    have hz1 : W0z ≤ (W0.alloc (.cells #[.string s] 9)).heap.size := by simp; omega
    generalize W0.alloc (.cells #[.string s] 9) = W1 at *
    refine hK.out _ _ (fun _ _ => ⟨(c_o N1.cells 0).1, (c_o N1.cells 1).1, (c_o N1.cells 2).1⟩) ?_
    clear hK K
    try simp only[Act.put,zq]
    refine rdG (rs := [8, 21]) (by kernel_rfl) (by simp) ?_
    refine cG2 rfl (fun K hK => ?_) ?_
    ·go_simp
     have N2 := N1.alloc (.cells #[.string s] 9)
     have B2 : Below w.heap.size w (W1.alloc (.cells #[.string s] 9)) := B1.alloc B1.size _
     have nb8 := heap_alloc_new W1 (.cells #[.string s] 9)
     have hb8 : W0z ≤ W1.heap.size := hz1
     have hz2 : W0z ≤ (W1.alloc (.cells #[.string s] 9)).heap.size := by simp; omega
     replace nb15 := (Below.heap_alloc W1 (.cells #[.string s] 9) _ (Array.getElem?_eq_some_iff.1 nb15).1).trans nb15
     generalize W1.alloc (.cells #[.string s] 9) = W2 at *
     refine hK.out _ _ (fun _ _ => ⟨(c_o N2.cells 0).1, (c_o N2.cells 1).1, (c_o N2.cells 2).1⟩) ?_
     clear hK K
     try simp only[Act.put,zq]
     refine rdG (rs := [9, 21]) (by kernel_rfl) (by simp) ?_
     refine cG2 rfl (fun K hK => ?_) ?_
     ·refine step_append_lies _ rfl (.tmp 25) (.tmp 27) 54 rfl (w.heap.size + 1) 9 is (.string ⟨#[]⟩) 1 16 Tryz.underlying54 his hzs0 hzs1 hzs2 rfl (by decide) vn k (List.replicate k (.string s)) rfl N2.on ⟨_, 0, none⟩ 1 1 [.string s] rfl rfl (World.news_of_block nb8) (fun u hu => by simp at hu; subst hu; rfl) (by omega) hmx (by omega) N2.lt _ rfl ?_
      intro g9 q9 W3 o9 r9 a9 b9
      have N3 := N2.n o9 r9 a9
      have B3 := B2.grown r9 B2.size (fun q hq => by have := (N2.on.lt q hq).1; omega)
      have hz3 : W0z ≤ W3.heap.size := Nat.le_trans hz2 r9.size
      replace nb15 := (r9.block _ (Array.getElem?_eq_some_iff.1 nb15).1 (fun e => by have := lvn _ e.symm; omega)).trans nb15
      clear nb8 hb8 o9 r9 a9 b9
      refine hK.out _ _ (fun _ _ => ⟨(c_o N3.cells 0).1, (c_o N3.cells 1).1, (c_o N3.cells 2).1⟩) ?_
      clear hK K
      try simp only[Act.put,zq]
      refine rdG (rs := [16, 21]) (by kernel_rfl) (by simp) ?_
      refine cG2 rfl (fun K hK => ?_) ?_
      ·refine step_append_lies _ rfl (.tmp 32) (.tmp 34) 54 rfl (w.heap.size + 1) 9 is (.string ⟨#[]⟩) 1 16 Tryz.underlying54 his hzs0 hzs1 hzs2 rfl (by decide) vw k (List.replicate k (.string s)) rfl N3.ow ⟨_, 0, none⟩ 1 1 [.string s] rfl rfl (World.news_of_block nb15) (fun u hu => by simp at hu; subst hu; rfl) (by omega) hmx (by omega) N3.lt _ rfl ?_
       intro g16 q16 W4 o16 r16 a16 b16
       have N4 := N3.w o16 r16 a16
       have B4 := B3.grown r16 B3.size (fun q hq => by have := (N3.ow.lt q hq).1; omega)
       have hz4 : W0z ≤ W4.heap.size := Nat.le_trans hz3 r16.size
       clear nb15 hb15 o16 r16 a16 b16
       refine hK.out _ _ (fun _ _ => ⟨(c_o N4.cells 0).1, (c_o N4.cells 1).1, (c_o N4.cells 2).1⟩) ?_
       clear hK K
       try simp only[Act.put,zq]
       refine rdG (rs := [21]) (by kernel_rfl) (by simp) ?_
       refine cG2 rfl (fun K hK => ?_) ?_
       ·go_simp
        have N5 := N4.alloc (.cells #[.bool false] 4)
        have B5 : Below w.heap.size w (W4.alloc (.cells #[.bool false] 4)) := B4.alloc B4.size _
        have nb21 := heap_alloc_new W4 (.cells #[.bool false] 4)
        have hb21 : W0z ≤ W4.heap.size := hz4
        have hz5 : W0z ≤ (W4.alloc (.cells #[.bool false] 4)).heap.size := by simp; omega
        generalize W4.alloc (.cells #[.bool false] 4) = W5 at *
        refine hK.out _ _ (fun _ _ => ⟨(c_o N5.cells 0).1, (c_o N5.cells 1).1, (c_o N5.cells 2).1⟩) ?_
        clear hK K
        try simp only[Act.put,zq]
        refine rdG (rs := [22]) (by kernel_rfl) (by simp) ?_
        refine cG2 rfl (fun K hK => ?_) ?_
        ·refine step_append_lies _ rfl (.tmp 39) (.tmp 40) 55 rfl (w.heap.size + 1) 4 ib (.bool false) 1 1 Tryz.underlying55 hib hzb0 hzb1 hzb2 rfl (by decide) vt k (List.replicate k (.bool false)) rfl N5.ot ⟨_, 0, none⟩ 1 1 [.bool false] rfl rfl (World.news_of_block nb21) (fun u hu => by simp at hu; subst hu; rfl) (by omega) hmx (by omega) N5.lt _ rfl ?_
         intro g22 q22 W6 o22 r22 a22 b22
         have N6 := N5.t o22 r22
         have B6 := B5.grown r22 B5.size (fun q hq => by have := (N5.ot.lt q hq).1; omega)
         have hz6 : W0z ≤ W6.heap.size := Nat.le_trans hz5 r22.size
         clear nb21 hb21 o22 r22 a22 b22
         refine hK.out _ _ (fun _ _ => ⟨(c_o N6.cells 0).1, (c_o N6.cells 1).1, (c_o N6.cells 2).1⟩) ?_
         clear hK K
         try simp only[Act.put,zq]
         have e0 := c_o N6.cells 0
         have e1 := c_o N6.cells 1
         have e2 := c_o N6.cells 2
         obtain ⟨e0, f0⟩ := e0
         obtain ⟨e1, f1⟩ := e1
         obtain ⟨e2, f2⟩ := e2
         have NF := Lib.hid (N6.set (.slice (some ⟨g9, 0, none⟩) (k + 1) q9) (.slice (some ⟨g16, 0, none⟩) (k + 1) q16) (.slice (some ⟨g22, 0, none⟩) (k + 1) q22))
         have HF := Lib.hid (((B6.setCell (p := ⟨w.heap.size, 0, none⟩) (Nat.le_refl _) (.slice (some ⟨g9, 0, none⟩) (k + 1) q9)).setCell (p := ⟨w.heap.size, 1, none⟩) (Nat.le_refl _) (.slice (some ⟨g16, 0, none⟩) (k + 1) q16)).setCell (p := ⟨w.heap.size, 2, none⟩) (Nat.le_refl _) (.slice (some ⟨g22, 0, none⟩) (k + 1) q22))
         refine tG0 (i := 23) (v := ?_) rfl ?_ ?_
         rotate_left;(focus intro W _;go_simp;try with_reducible rfl);rotate_left;try simp only[Act.put,zq]
         refine tG0 (i := 24) (v := ?_) rfl ?_ ?_
         rotate_left;(focus intro W _;go_simp;try with_reducible rfl);rotate_left;try simp only[Act.put,zq]
         refine rdG (rs := [25]) (by kernel_rfl) (by simp) ?_
         refine cG1 rfl fun K hK => ?_
         go_simp
         refine hK.out _ _ (fun h => by cases h) ?_
         clear hK K
         try simp only[Act.put,zq]
         refine tG0 (i := 26) (v := ?_) rfl ?_ ?_
         rotate_left;(focus intro W _;go_simp;try with_reducible rfl);rotate_left;try simp only[Act.put,zq]
         refine tG0 (i := 27) (v := ?_) rfl ?_ ?_
         rotate_left;(focus intro W _;go_simp;try with_reducible rfl);rotate_left;try simp only[Act.put,zq]
         refine rdG (rs := [28]) (by kernel_rfl) (by simp) ?_
         refine cG1 rfl fun K hK => ?_
         go_simp
         refine hK.out _ _ (fun h => by cases h) ?_
         clear hK K
         try simp only[Act.put,zq]
         refine tG0 (i := 29) (v := ?_) rfl ?_ ?_
         rotate_left;(focus intro W _;go_simp;try with_reducible rfl);rotate_left;try simp only[Act.put,zq]
         refine tG0 (i := 30) (v := ?_) rfl ?_ ?_
         rotate_left;(focus intro W _;go_simp;try with_reducible rfl);rotate_left;try simp only[Act.put,zq]
         refine rdG (rs := [31]) (by kernel_rfl) (by simp) ?_
         refine cG1 rfl fun K hK => ?_
         go_simp
         refine hK.out _ _ (fun h => by cases h) ?_
         clear hK K
         try simp only[Act.put,zq]
         refine wpAnyG_done (by kernel_rfl) ?_ _
         clear e0 e1 e2 f0 f1 f2
         go_wp2
         go_roundw
         case rel => exact ⟨k + 1, _, _, _, by have := HLT.out; omega, by go_num, NF.out, HF.out, fun e => by omega⟩
         case measure => have := HLT.out; simp [ivK]; omega
        exact AllReadyG.nil
       exact AllReadyG.nil
      refine cG2 rfl (fun K hK => ?_) ?_
      ·go_simp
       have N4 := N3.alloc (.cells #[.bool false] 4)
       have B4 : Below w.heap.size w (W3.alloc (.cells #[.bool false] 4)) := B3.alloc B3.size _
       have nb21 := heap_alloc_new W3 (.cells #[.bool false] 4)
       have hb21 : W0z ≤ W3.heap.size := hz3
       have hz4 : W0z ≤ (W3.alloc (.cells #[.bool false] 4)).heap.size := by simp; omega
       replace nb15 := (Below.heap_alloc W3 (.cells #[.bool false] 4) _ (Array.getElem?_eq_some_iff.1 nb15).1).trans nb15
       generalize W3.alloc (.cells #[.bool false] 4) = W4 at *
       refine hK.out _ _ (fun _ _ => ⟨(c_o N4.cells 0).1, (c_o N4.cells 1).1, (c_o N4.cells 2).1⟩) ?_
       clear hK K
       try simp only[Act.put,zq]
       refine rdG (rs := [16]) (by kernel_rfl) (by simp) ?_
       refine cG2 rfl (fun K hK => ?_) ?_
       ·refine step_append_lies _ rfl (.tmp 32) (.tmp 34) 54 rfl (w.heap.size + 1) 9 is (.string ⟨#[]⟩) 1 16 Tryz.underlying54 his hzs0 hzs1 hzs2 rfl (by decide) vw k (List.replicate k (.string s)) rfl N4.ow ⟨_, 0, none⟩ 1 1 [.string s] rfl rfl (World.news_of_block nb15) (fun u hu => by simp at hu; subst hu; rfl) (by omega) hmx (by omega) N4.lt _ rfl ?_
        intro g16 q16 W5 o16 r16 a16 b16
        have N5 := N4.w o16 r16 a16
        have B5 := B4.grown r16 B4.size (fun q hq => by have := (N4.ow.lt q hq).1; omega)
        have hz5 : W0z ≤ W5.heap.size := Nat.le_trans hz4 r16.size
        replace nb21 := (r16.block _ (Array.getElem?_eq_some_iff.1 nb21).1 (fun e => by have := lvw _ e.symm; omega)).trans nb21
        clear nb15 hb15 o16 r16 a16 b16
        refine hK.out _ _ (fun _ _ => ⟨(c_o N5.cells 0).1, (c_o N5.cells 1).1, (c_o N5.cells 2).1⟩) ?_
        clear hK K
        try simp only[Act.put,zq]
        refine rdG (rs := [22]) (by kernel_rfl) (by simp) ?_
        refine cG2 rfl (fun K hK => ?_) ?_
        ·refine step_append_lies _ rfl (.tmp 39) (.tmp 40) 55 rfl (w.heap.size + 1) 4 ib (.bool false) 1 1 Tryz.underlying55 hib hzb0 hzb1 hzb2 rfl (by decide) vt k (List.replicate k (.bool false)) rfl N5.ot ⟨_, 0, none⟩ 1 1 [.bool false] rfl rfl (World.news_of_block nb21) (fun u hu => by simp at hu; subst hu; rfl) (by omega) hmx (by omega) N5.lt _ rfl ?_
         intro g22 q22 W6 o22 r22 a22 b22
         have N6 := N5.t o22 r22
         have B6 := B5.grown r22 B5.size (fun q hq => by have := (N5.ot.lt q hq).1; omega)
         have hz6 : W0z ≤ W6.heap.size := Nat.le_trans hz5 r22.size
         clear nb21 hb21 o22 r22 a22 b22
         refine hK.out _ _ (fun _ _ => ⟨(c_o N6.cells 0).1, (c_o N6.cells 1).1, (c_o N6.cells 2).1⟩) ?_
         clear hK K
         try simp only[Act.put,zq]
         have e0 := c_o N6.cells 0
         have e1 := c_o N6.cells 1
         have e2 := c_o N6.cells 2
         obtain ⟨e0, f0⟩ := e0
         obtain ⟨e1, f1⟩ := e1
         obtain ⟨e2, f2⟩ := e2
         have NF := Lib.hid (N6.set (.slice (some ⟨g9, 0, none⟩) (k + 1) q9) (.slice (some ⟨g16, 0, none⟩) (k + 1) q16) (.slice (some ⟨g22, 0, none⟩) (k + 1) q22))
         have HF := Lib.hid (((B6.setCell (p := ⟨w.heap.size, 0, none⟩) (Nat.le_refl _) (.slice (some ⟨g9, 0, none⟩) (k + 1) q9)).setCell (p := ⟨w.heap.size, 1, none⟩) (Nat.le_refl _) (.slice (some ⟨g16, 0, none⟩) (k + 1) q16)).setCell (p := ⟨w.heap.size, 2, none⟩) (Nat.le_refl _) (.slice (some ⟨g22, 0, none⟩) (k + 1) q22))
         refine tG0 (i := 23) (v := ?_) rfl ?_ ?_
         rotate_left;(focus intro W _;go_simp;try with_reducible rfl);rotate_left;try simp only[Act.put,zq]
         refine tG0 (i := 24) (v := ?_) rfl ?_ ?_
         rotate_left;(focus intro W _;go_simp;try with_reducible rfl);rotate_left;try simp only[Act.put,zq]
         refine rdG (rs := [25]) (by kernel_rfl) (by simp) ?_
         refine cG1 rfl fun K hK => ?_
         go_simp
         refine hK.out _ _ (fun h => by cases h) ?_
         clear hK K
         try simp only[Act.put,zq]
         refine tG0 (i := 26) (v := ?_) rfl ?_ ?_
         rotate_left;(focus intro W _;go_simp;try with_reducible rfl);rotate_left;try simp only[Act.put,zq]
         refine tG0 (i := 27) (v := ?_) rfl ?_ ?_
         rotate_left;(focus intro W _;go_simp;try with_reducible rfl);rotate_left;try simp only[Act.put,zq]
         refine rdG (rs := [28]) (by kernel_rfl) (by simp) ?_
         refine cG1 rfl fun K hK => ?_
         go_simp
         refine hK.out _ _ (fun h => by cases h) ?_
         clear hK K
         try simp only[Act.put,zq]
         refine tG0 (i := 29) (v := ?_) rfl ?_ ?_
         rotate_left;(focus intro W _;go_simp;try with_reducible rfl);rotate_left;try simp only[Act.put,zq]
         refine tG0 (i := 30) (v := ?_) rfl ?_ ?_
         rotate_left;(focus intro W _;go_simp;try with_reducible rfl);rotate_left;try simp only[Act.put,zq]
         refine rdG (rs := [31]) (by kernel_rfl) (by simp) ?_
         refine cG1 rfl fun K hK => ?_
         go_simp
         refine hK.out _ _ (fun h => by cases h) ?_
         clear hK K
         try simp only[Act.put,zq]
         refine wpAnyG_done (by kernel_rfl) ?_ _
         clear e0 e1 e2 f0 f1 f2
         go_wp2
         go_roundw
         case rel => exact ⟨k + 1, _, _, _, by have := HLT.out; omega, by go_num, NF.out, HF.out, fun e => by omega⟩
         case measure => have := HLT.out; simp [ivK]; omega
        exact AllReadyG.nil
       exact AllReadyG.nil
      exact AllReadyG.nil
     refine cG2 rfl (fun K hK => ?_) ?_
     ·go_simp
      have N3 := N2.alloc (.cells #[.bool false] 4)
      have B3 : Below w.heap.size w (W2.alloc (.cells #[.bool false] 4)) := B2.alloc B2.size _
      have nb21 := heap_alloc_new W2 (.cells #[.bool false] 4)
      have hb21 : W0z ≤ W2.heap.size := hz2
      have hz3 : W0z ≤ (W2.alloc (.cells #[.bool false] 4)).heap.size := by simp; omega
      replace nb15 := (Below.heap_alloc W2 (.cells #[.bool false] 4) _ (Array.getElem?_eq_some_iff.1 nb15).1).trans nb15
      replace nb8 := (Below.heap_alloc W2 (.cells #[.bool false] 4) _ (Array.getElem?_eq_some_iff.1 nb8).1).trans nb8
      generalize W2.alloc (.cells #[.bool false] 4) = W3 at *
      refine hK.out _ _ (fun _ _ => ⟨(c_o N3.cells 0).1, (c_o N3.cells 1).1, (c_o N3.cells 2).1⟩) ?_
      clear hK K
      try simp only[Act.put,zq]
      refine rdG (rs := [9]) (by kernel_rfl) (by simp) ?_
      refine cG2 rfl (fun K hK => ?_) ?_
      ·refine step_append_lies _ rfl (.tmp 25) (.tmp 27) 54 rfl (w.heap.size + 1) 9 is (.string ⟨#[]⟩) 1 16 Tryz.underlying54 his hzs0 hzs1 hzs2 rfl (by decide) vn k (List.replicate k (.string s)) rfl N3.on ⟨_, 0, none⟩ 1 1 [.string s] rfl rfl (World.news_of_block nb8) (fun u hu => by simp at hu; subst hu; rfl) (by omega) hmx (by omega) N3.lt _ rfl ?_
       intro g9 q9 W4 o9 r9 a9 b9
       have N4 := N3.n o9 r9 a9
       have B4 := B3.grown r9 B3.size (fun q hq => by have := (N3.on.lt q hq).1; omega)
       have hz4 : W0z ≤ W4.heap.size := Nat.le_trans hz3 r9.size
       replace nb15 := (r9.block _ (Array.getElem?_eq_some_iff.1 nb15).1 (fun e => by have := lvn _ e.symm; omega)).trans nb15
       replace nb21 := (r9.block _ (Array.getElem?_eq_some_iff.1 nb21).1 (fun e => by have := lvn _ e.symm; omega)).trans nb21
       clear nb8 hb8 o9 r9 a9 b9
       refine hK.out _ _ (fun _ _ => ⟨(c_o N4.cells 0).1, (c_o N4.cells 1).1, (c_o N4.cells 2).1⟩) ?_
       clear hK K
       try simp only[Act.put,zq]
       refine rdG (rs := [16]) (by kernel_rfl) (by simp) ?_
       refine cG2 rfl (fun K hK => ?_) ?_
       ·refine step_append_lies _ rfl (.tmp 32) (.tmp 34) 54 rfl (w.heap.size + 1) 9 is (.string ⟨#[]⟩) 1 16 Tryz.underlying54 his hzs0 hzs1 hzs2 rfl (by decide) vw k (List.replicate k (.string s)) rfl N4.ow ⟨_, 0, none⟩ 1 1 [.string s] rfl rfl (World.news_of_block nb15) (fun u hu => by simp at hu; subst hu; rfl) (by omega) hmx (by omega) N4.lt _ rfl ?_
        intro g16 q16 W5 o16 r16 a16 b16
        have N5 := N4.w o16 r16 a16
        have B5 := B4.grown r16 B4.size (fun q hq => by have := (N4.ow.lt q hq).1; omega)
        have hz5 : W0z ≤ W5.heap.size := Nat.le_trans hz4 r16.size
        replace nb21 := (r16.block _ (Array.getElem?_eq_some_iff.1 nb21).1 (fun e => by have := lvw _ e.symm; omega)).trans nb21
        clear nb15 hb15 o16 r16 a16 b16
        refine hK.out _ _ (fun _ _ => ⟨(c_o N5.cells 0).1, (c_o N5.cells 1).1, (c_o N5.cells 2).1⟩) ?_
        clear hK K
        try simp only[Act.put,zq]
        refine rdG (rs := [22]) (by kernel_rfl) (by simp) ?_
        refine cG2 rfl (fun K hK => ?_) ?_
        ·refine step_append_lies _ rfl (.tmp 39) (.tmp 40) 55 rfl (w.heap.size + 1) 4 ib (.bool false) 1 1 Tryz.underlying55 hib hzb0 hzb1 hzb2 rfl (by decide) vt k (List.replicate k (.bool false)) rfl N5.ot ⟨_, 0, none⟩ 1 1 [.bool false] rfl rfl (World.news_of_block nb21) (fun u hu => by simp at hu; subst hu; rfl) (by omega) hmx (by omega) N5.lt _ rfl ?_
         intro g22 q22 W6 o22 r22 a22 b22
         have N6 := N5.t o22 r22
         have B6 := B5.grown r22 B5.size (fun q hq => by have := (N5.ot.lt q hq).1; omega)
         have hz6 : W0z ≤ W6.heap.size := Nat.le_trans hz5 r22.size
         clear nb21 hb21 o22 r22 a22 b22
         refine hK.out _ _ (fun _ _ => ⟨(c_o N6.cells 0).1, (c_o N6.cells 1).1, (c_o N6.cells 2).1⟩) ?_
         clear hK K
         try simp only[Act.put,zq]
         have e0 := c_o N6.cells 0
         have e1 := c_o N6.cells 1
         have e2 := c_o N6.cells 2
         obtain ⟨e0, f0⟩ := e0
         obtain ⟨e1, f1⟩ := e1
         obtain ⟨e2, f2⟩ := e2
         have NF := Lib.hid (N6.set (.slice (some ⟨g9, 0, none⟩) (k + 1) q9) (.slice (some ⟨g16, 0, none⟩) (k + 1) q16) (.slice (some ⟨g22, 0, none⟩) (k + 1) q22))
         have HF := Lib.hid (((B6.setCell (p := ⟨w.heap.size, 0, none⟩) (Nat.le_refl _) (.slice (some ⟨g9, 0, none⟩) (k + 1) q9)).setCell (p := ⟨w.heap.size, 1, none⟩) (Nat.le_refl _) (.slice (some ⟨g16, 0, none⟩) (k + 1) q16)).setCell (p := ⟨w.heap.size, 2, none⟩) (Nat.le_refl _) (.slice (some ⟨g22, 0, none⟩) (k + 1) q22))
         refine tG0 (i := 23) (v := ?_) rfl ?_ ?_
         rotate_left;(focus intro W _;go_simp;try with_reducible rfl);rotate_left;try simp only[Act.put,zq]
         refine tG0 (i := 24) (v := ?_) rfl ?_ ?_
         rotate_left;(focus intro W _;go_simp;try with_reducible rfl);rotate_left;try simp only[Act.put,zq]
         refine rdG (rs := [25]) (by kernel_rfl) (by simp) ?_
         refine cG1 rfl fun K hK => ?_
         go_simp
         refine hK.out _ _ (fun h => by cases h) ?_
         clear hK K
         try simp only[Act.put,zq]
         refine tG0 (i := 26) (v := ?_) rfl ?_ ?_
         rotate_left;(focus intro W _;go_simp;try with_reducible rfl);rotate_left;try simp only[Act.put,zq]
         refine tG0 (i := 27) (v := ?_) rfl ?_ ?_
         rotate_left;(focus intro W _;go_simp;try with_reducible rfl);rotate_left;try simp only[Act.put,zq]
         refine rdG (rs := [28]) (by kernel_rfl) (by simp) ?_
         refine cG1 rfl fun K hK => ?_
         go_simp
         refine hK.out _ _ (fun h => by cases h) ?_
         clear hK K
         try simp only[Act.put,zq]
         refine tG0 (i := 29) (v := ?_) rfl ?_ ?_
         rotate_left;(focus intro W _;go_simp;try with_reducible rfl);rotate_left;try simp only[Act.put,zq]
         refine tG0 (i := 30) (v := ?_) rfl ?_ ?_
         rotate_left;(focus intro W _;go_simp;try with_reducible rfl);rotate_left;try simp only[Act.put,zq]
         refine rdG (rs := [31]) (by kernel_rfl) (by simp) ?_
         refine cG1 rfl fun K hK => ?_
         go_simp
         refine hK.out _ _ (fun h => by cases h) ?_
         clear hK K
         try simp only[Act.put,zq]
         refine wpAnyG_done (by kernel_rfl) ?_ _
         clear e0 e1 e2 f0 f1 f2
         go_wp2
         go_roundw
         case rel => exact ⟨k + 1, _, _, _, by have := HLT.out; omega, by go_num, NF.out, HF.out, fun e => by omega⟩
         case measure => have := HLT.out; simp [ivK]; omega
        exact AllReadyG.nil
       exact AllReadyG.nil
      exact AllReadyG.nil
     exact AllReadyG.nil
    refine cG2 rfl (fun K hK => ?_) ?_
    ·go_simp
     have N2 := N1.alloc (.cells #[.bool false] 4)
     have B2 : Below w.heap.size w (W1.alloc (.cells #[.bool false] 4)) := B1.alloc B1.size _
     have nb21 := heap_alloc_new W1 (.cells #[.bool false] 4)
     have hb21 : W0z ≤ W1.heap.size := hz1
     have hz2 : W0z ≤ (W1.alloc (.cells #[.bool false] 4)).heap.size := by simp; omega
     replace nb15 := (Below.heap_alloc W1 (.cells #[.bool false] 4) _ (Array.getElem?_eq_some_iff.1 nb15).1).trans nb15
     generalize W1.alloc (.cells #[.bool false] 4) = W2 at *
     refine hK.out _ _ (fun _ _ => ⟨(c_o N2.cells 0).1, (c_o N2.cells 1).1, (c_o N2.cells 2).1⟩) ?_
     clear hK K
     try simp only[Act.put,zq]
     refine rdG (rs := [8]) (by kernel_rfl) (by simp) ?_
     refine cG2 rfl (fun K hK => ?_) ?_
     ·go_simp
      have N3 := N2.alloc (.cells #[.string s] 9)
      have B3 : Below w.heap.size w (W2.alloc (.cells #[.string s] 9)) := B2.alloc B2.size _
      have nb8 := heap_alloc_new W2 (.cells #[.string s] 9)
      have hb8 : W0z ≤ W2.heap.size := hz2
      have hz3 : W0z ≤ (W2.alloc (.cells #[.string s] 9)).heap.size := by simp; omega
      replace nb15 := (Below.heap_alloc W2 (.cells #[.string s] 9) _ (Array.getElem?_eq_some_iff.1 nb15).1).trans nb15
      replace nb21 := (Below.heap_alloc W2 (.cells #[.string s] 9) _ (Array.getElem?_eq_some_iff.1 nb21).1).trans nb21
      generalize W2.alloc (.cells #[.string s] 9) = W3 at *
      refine hK.out _ _ (fun _ _ => ⟨(c_o N3.cells 0).1, (c_o N3.cells 1).1, (c_o N3.cells 2).1⟩) ?_
      clear hK K
      try simp only[Act.put,zq]
      refine rdG (rs := [9]) (by kernel_rfl) (by simp) ?_
      refine cG2 rfl (fun K hK => ?_) ?_
      ·refine step_append_lies _ rfl (.tmp 25) (.tmp 27) 54 rfl (w.heap.size + 1) 9 is (.string ⟨#[]⟩) 1 16 Tryz.underlying54 his hzs0 hzs1 hzs2 rfl (by decide) vn k (List.replicate k (.string s)) rfl N3.on ⟨_, 0, none⟩ 1 1 [.string s] rfl rfl (World.news_of_block nb8) (fun u hu => by simp at hu; subst hu; rfl) (by omega) hmx (by omega) N3.lt _ rfl ?_
       intro g9 q9 W4 o9 r9 a9 b9
       have N4 := N3.n o9 r9 a9
       have B4 := B3.grown r9 B3.size (fun q hq => by have := (N3.on.lt q hq).1; omega)
       have hz4 : W0z ≤ W4.heap.size := Nat.le_trans hz3 r9.size
       replace nb15 := (r9.block _ (Array.getElem?_eq_some_iff.1 nb15).1 (fun e => by have := lvn _ e.symm; omega)).trans nb15
       replace nb21 := (r9.block _ (Array.getElem?_eq_some_iff.1 nb21).1 (fun e => by have := lvn _ e.symm; omega)).trans nb21
       clear nb8 hb8 o9 r9 a9 b9
       refine hK.out _ _ (fun _ _ => ⟨(c_o N4.cells 0).1, (c_o N4.cells 1).1, (c_o N4.cells 2).1⟩) ?_
       clear hK K
       try simp only[Act.put,zq]
       refine rdG (rs := [16]) (by kernel_rfl) (by simp) ?_
       refine cG2 rfl (fun K hK => ?_) ?_
       ·refine step_append_lies _ rfl (.tmp 32) (.tmp 34) 54 rfl (w.heap.size + 1) 9 is (.string ⟨#[]⟩) 1 16 Tryz.underlying54 his hzs0 hzs1 hzs2 rfl (by decide) vw k (List.replicate k (.string s)) rfl N4.ow ⟨_, 0, none⟩ 1 1 [.string s] rfl rfl (World.news_of_block nb15) (fun u hu => by simp at hu; subst hu; rfl) (by omega) hmx (by omega) N4.lt _ rfl ?_
        intro g16 q16 W5 o16 r16 a16 b16
        have N5 := N4.w o16 r16 a16
        have B5 := B4.grown r16 B4.size (fun q hq => by have := (N4.ow.lt q hq).1; omega)
        have hz5 : W0z ≤ W5.heap.size := Nat.le_trans hz4 r16.size
        replace nb21 := (r16.block _ (Array.getElem?_eq_some_iff.1 nb21).1 (fun e => by have := lvw _ e.symm; omega)).trans nb21
        clear nb15 hb15 o16 r16 a16 b16
        refine hK.out _ _ (fun _ _ => ⟨(c_o N5.cells 0).1, (c_o N5.cells 1).1, (c_o N5.cells 2).1⟩) ?_
        clear hK K
        try simp only[Act.put,zq]
        refine rdG (rs := [22]) (by kernel_rfl) (by simp) ?_
        refine cG2 rfl (fun K hK => ?_) ?_
        ·refine step_append_lies _ rfl (.tmp 39) (.tmp 40) 55 rfl (w.heap.size + 1) 4 ib (.bool false) 1 1 Tryz.underlying55 hib hzb0 hzb1 hzb2 rfl (by decide) vt k (List.replicate k (.bool false)) rfl N5.ot ⟨_, 0, none⟩ 1 1 [.bool false] rfl rfl (World.news_of_block nb21) (fun u hu => by simp at hu; subst hu; rfl) (by omega) hmx (by omega) N5.lt _ rfl ?_
         intro g22 q22 W6 o22 r22 a22 b22
         have N6 := N5.t o22 r22
         have B6 := B5.grown r22 B5.size (fun q hq => by have := (N5.ot.lt q hq).1; omega)
         have hz6 : W0z ≤ W6.heap.size := Nat.le_trans hz5 r22.size
         clear nb21 hb21 o22 r22 a22 b22
         refine hK.out _ _ (fun _ _ => ⟨(c_o N6.cells 0).1, (c_o N6.cells 1).1, (c_o N6.cells 2).1⟩) ?_
         clear hK K
         try simp only[Act.put,zq]
         have e0 := c_o N6.cells 0
         have e1 := c_o N6.cells 1
         have e2 := c_o N6.cells 2
         obtain ⟨e0, f0⟩ := e0
         obtain ⟨e1, f1⟩ := e1
         obtain ⟨e2, f2⟩ := e2
         have NF := Lib.hid (N6.set (.slice (some ⟨g9, 0, none⟩) (k + 1) q9) (.slice (some ⟨g16, 0, none⟩) (k + 1) q16) (.slice (some ⟨g22, 0, none⟩) (k + 1) q22))
         have HF := Lib.hid (((B6.setCell (p := ⟨w.heap.size, 0, none⟩) (Nat.le_refl _) (.slice (some ⟨g9, 0, none⟩) (k + 1) q9)).setCell (p := ⟨w.heap.size, 1, none⟩) (Nat.le_refl _) (.slice (some ⟨g16, 0, none⟩) (k + 1) q16)).setCell (p := ⟨w.heap.size, 2, none⟩) (Nat.le_refl _) (.slice (some ⟨g22, 0, none⟩) (k + 1) q22))
         refine tG0 (i := 23) (v := ?_) rfl ?_ ?_
         rotate_left;(focus intro W _;go_simp;try with_reducible rfl);rotate_left;try simp only[Act.put,zq]
         refine tG0 (i := 24) (v := ?_) rfl ?_ ?_
         rotate_left;(focus intro W _;go_simp;try with_reducible rfl);rotate_left;try simp only[Act.put,zq]
         refine rdG (rs := [25]) (by kernel_rfl) (by simp) ?_
         refine cG1 rfl fun K hK => ?_
         go_simp
         refine hK.out _ _ (fun h => by cases h) ?_
         clear hK K
         try simp only[Act.put,zq]
         refine tG0 (i := 26) (v := ?_) rfl ?_ ?_
         rotate_left;(focus intro W _;go_simp;try with_reducible rfl);rotate_left;try simp only[Act.put,zq]
         refine tG0 (i := 27) (v := ?_) rfl ?_ ?_
         rotate_left;(focus intro W _;go_simp;try with_reducible rfl);rotate_left;try simp only[Act.put,zq]
         refine rdG (rs := [28]) (by kernel_rfl) (by simp) ?_
         refine cG1 rfl fun K hK => ?_
         go_simp
         refine hK.out _ _ (fun h => by cases h) ?_
         clear hK K
         try simp only[Act.put,zq]
         refine tG0 (i := 29) (v := ?_) rfl ?_ ?_
         rotate_left;(focus intro W _;go_simp;try with_reducible rfl);rotate_left;try simp only[Act.put,zq]
         refine tG0 (i := 30) (v := ?_) rfl ?_ ?_
         rotate_left;(focus intro W _;go_simp;try with_reducible rfl);rotate_left;try simp only[Act.put,zq]
         refine rdG (rs := [31]) (by kernel_rfl) (by simp) ?_
         refine cG1 rfl fun K hK => ?_
         go_simp
         refine hK.out _ _ (fun h => by cases h) ?_
         clear hK K
         try simp only[Act.put,zq]
         refine wpAnyG_done (by kernel_rfl) ?_ _
         clear e0 e1 e2 f0 f1 f2
         go_wp2
         go_roundw
         case rel => exact ⟨k + 1, _, _, _, by have := HLT.out; omega, by go_num, NF.out, HF.out, fun e => by omega⟩
         case measure => have := HLT.out; simp [ivK]; omega
        exact AllReadyG.nil
       exact AllReadyG.nil
      exact AllReadyG.nil
     exact AllReadyG.nil
    exact AllReadyG.nil
   refine cG2 rfl (fun K hK => ?_) ?_
   ·go_simp
    have N1 := N0.alloc (.cells #[.bool false] 4)
    have B1 : Below w.heap.size w (W0.alloc (.cells #[.bool false] 4)) := B0.alloc B0.size _
    have nb21 := heap_alloc_new W0 (.cells #[.bool false] 4)
    have hb21 : W0z ≤ W0.heap.size := hz0
    have hz1 : W0z ≤ (W0.alloc (.cells #[.bool false] 4)).heap.size := by simp; omega
    generalize W0.alloc (.cells #[.bool false] 4) = W1 at *
    refine hK.out _ _ (fun _ _ => ⟨(c_o N1.cells 0).1, (c_o N1.cells 1).1, (c_o N1.cells 2).1⟩) ?_
    clear hK K
    try simp only[Act.put,zq]
    refine rdG (rs := [8, 15]) (by kernel_rfl) (by simp) ?_
    refine cG2 rfl (fun K hK => ?_) ?_
    ·go_simp
     have N2 := N1.alloc (.cells #[.string s] 9)
     have B2 : Below w.heap.size w (W1.alloc (.cells #[.string s] 9)) := B1.alloc B1.size _
     have nb8 := heap_alloc_new W1 (.cells #[.string s] 9)
     have hb8 : W0z ≤ W1.heap.size := hz1
     have hz2 : W0z ≤ (W1.alloc (.cells #[.string s] 9)).heap.size := by simp; omega
     replace nb21 := (Below.heap_alloc W1 (.cells #[.string s] 9) _ (Array.getElem?_eq_some_iff.1 nb21).1).trans nb21
     generalize W1.alloc (.cells #[.string s] 9) = W2 at *
     refine hK.out _ _ (fun _ _ => ⟨(c_o N2.cells 0).1, (c_o N2.cells 1).1, (c_o N2.cells 2).1⟩) ?_
     clear hK K
     try simp only[Act.put,zq]
     refine rdG (rs := [9, 15]) (by kernel_rfl) (by simp) ?_
     refine cG2 rfl (fun K hK => ?_) ?_
     ·refine step_append_lies _ rfl (.tmp 25) (.tmp 27) 54 rfl (w.heap.size + 1) 9 is (.string ⟨#[]⟩) 1 16 Tryz.underlying54 his hzs0 hzs1 hzs2 rfl (by decide) vn k (List.replicate k (.string s)) rfl N2.on ⟨_, 0, none⟩ 1 1 [.string s] rfl rfl (World.news_of_block nb8) (fun u hu => by simp at hu; subst hu; rfl) (by omega) hmx (by omega) N2.lt _ rfl ?_
      intro g9 q9 W3 o9 r9 a9 b9
      have N3 := N2.n o9 r9 a9
      have B3 := B2.grown r9 B2.size (fun q hq => by have := (N2.on.lt q hq).1; omega)
      have hz3 : W0z ≤ W3.heap.size := Nat.le_trans hz2 r9.size
      replace nb21 := (r9.block _ (Array.getElem?_eq_some_iff.1 nb21).1 (fun e => by have := lvn _ e.symm; omega)).trans nb21
      clear nb8 hb8 o9 r9 a9 b9
      refine hK.out _ _ (fun _ _ => ⟨(c_o N3.cells 0).1, (c_o N3.cells 1).1, (c_o N3.cells 2).1⟩) ?_
      clear hK K
      try simp only[Act.put,zq]
      refine rdG (rs := [15]) (by kernel_rfl) (by simp) ?_
      refine cG2 rfl (fun K hK => ?_) ?_
      ·go_simp
       have N4 := N3.alloc (.cells #[.string s] 9)
       have B4 : Below w.heap.size w (W3.alloc (.cells #[.string s] 9)) := B3.alloc B3.size _
       have nb15 := heap_alloc_new W3 (.cells #[.string s] 9)
       have hb15 : W0z ≤ W3.heap.size := hz3
       have hz4 : W0z ≤ (W3.alloc (.cells #[.string s] 9)).heap.size := by simp; omega
       replace nb21 := (Below.heap_alloc W3 (.cells #[.string s] 9) _ (Array.getElem?_eq_some_iff.1 nb21).1).trans nb21
       generalize W3.alloc (.cells #[.string s] 9) = W4 at *
       refine hK.out _ _ (fun _ _ => ⟨(c_o N4.cells 0).1, (c_o N4.cells 1).1, (c_o N4.cells 2).1⟩) ?_
       clear hK K
       try simp only[Act.put,zq]
       refine rdG (rs := [16]) (by kernel_rfl) (by simp) ?_
       refine cG2 rfl (fun K hK => ?_) ?_
       ·refine step_append_lies _ rfl (.tmp 32) (.tmp 34) 54 rfl (w.heap.size + 1) 9 is (.string ⟨#[]⟩) 1 16 Tryz.underlying54 his hzs0 hzs1 hzs2 rfl (by decide) vw k (List.replicate k (.string s)) rfl N4.ow ⟨_, 0, none⟩ 1 1 [.string s] rfl rfl (World.news_of_block nb15) (fun u hu => by simp at hu; subst hu; rfl) (by omega) hmx (by omega) N4.lt _ rfl ?_
        intro g16 q16 W5 o16 r16 a16 b16
        have N5 := N4.w o16 r16 a16
        have B5 := B4.grown r16 B4.size (fun q hq => by have := (N4.ow.lt q hq).1; omega)
        have hz5 : W0z ≤ W5.heap.size := Nat.le_trans hz4 r16.size
        replace nb21 := (r16.block _ (Array.getElem?_eq_some_iff.1 nb21).1 (fun e => by have := lvw _ e.symm; omega)).trans nb21
        clear nb15 hb15 o16 r16 a16 b16
        refine hK.out _ _ (fun _ _ => ⟨(c_o N5.cells 0).1, (c_o N5.cells 1).1, (c_o N5.cells 2).1⟩) ?_
        clear hK K
        try simp only[Act.put,zq]
        refine rdG (rs := [22]) (by kernel_rfl) (by simp) ?_
        refine cG2 rfl (fun K hK => ?_) ?_
        ·refine step_append_lies _ rfl (.tmp 39) (.tmp 40) 55 rfl (w.heap.size + 1) 4 ib (.bool false) 1 1 Tryz.underlying55 hib hzb0 hzb1 hzb2 rfl (by decide) vt k (List.replicate k (.bool false)) rfl N5.ot ⟨_, 0, none⟩ 1 1 [.bool false] rfl rfl (World.news_of_block nb21) (fun u hu => by simp at hu; subst hu; rfl) (by omega) hmx (by omega) N5.lt _ rfl ?_
         intro g22 q22 W6 o22 r22 a22 b22
         have N6 := N5.t o22 r22
         have B6 := B5.grown r22 B5.size (fun q hq => by have := (N5.ot.lt q hq).1; omega)
         have hz6 : W0z ≤ W6.heap.size := Nat.le_trans hz5 r22.size
         clear nb21 hb21 o22 r22 a22 b22
         refine hK.out _ _ (fun _ _ => ⟨(c_o N6.cells 0).1, (c_o N6.cells 1).1, (c_o N6.cells 2).1⟩) ?_
         clear hK K
         try simp only[Act.put,zq]
         have e0 := c_o N6.cells 0
         have e1 := c_o N6.cells 1
         have e2 := c_o N6.cells 2
         obtain ⟨e0, f0⟩ := e0
         obtain ⟨e1, f1⟩ := e1
         obtain ⟨e2, f2⟩ := e2
         have NF := Lib.hid (N6.set (.slice (some ⟨g9, 0, none⟩) (k + 1) q9) (.slice (some ⟨g16, 0, none⟩) (k + 1) q16) (.slice (some ⟨g22, 0, none⟩) (k + 1) q22))
         have HF := Lib.hid (((B6.setCell (p := ⟨w.heap.size, 0, none⟩) (Nat.le_refl _) (.slice (some ⟨g9, 0, none⟩) (k + 1) q9)).setCell (p := ⟨w.heap.size, 1, none⟩) (Nat.le_refl _) (.slice (some ⟨g16, 0, none⟩) (k + 1) q16)).setCell (p := ⟨w.heap.size, 2, none⟩) (Nat.le_refl _) (.slice (some ⟨g22, 0, none⟩) (k + 1) q22))
         refine tG0 (i := 23) (v := ?_) rfl ?_ ?_
         rotate_left;(focus intro W _;go_simp;try with_reducible rfl);rotate_left;try simp only[Act.put,zq]
         refine tG0 (i := 24) (v := ?_) rfl ?_ ?_
         rotate_left;(focus intro W _;go_simp;try with_reducible rfl);rotate_left;try simp only[Act.put,zq]
         refine rdG (rs := [25]) (by kernel_rfl) (by simp) ?_
         refine cG1 rfl fun K hK => ?_
         go_simp
         refine hK.out _ _ (fun h => by cases h) ?_
         clear hK K
         try simp only[Act.put,zq]
         refine tG0 (i := 26) (v := ?_) rfl ?_ ?_
         rotate_left;(focus intro W _;go_simp;try with_reducible rfl);rotate_left;try simp only[Act.put,zq]
         refine tG0 (i := 27) (v := ?_) rfl ?_ ?_
         rotate_left;(focus intro W _;go_simp;try with_reducible rfl);rotate_left;try simp only[Act.put,zq]
         refine rdG (rs := [28]) (by kernel_rfl) (by simp) ?_
         refine cG1 rfl fun K hK => ?_
         go_simp
         refine hK.out _ _ (fun h => by cases h) ?_
         clear hK K
         try simp only[Act.put,zq]
         refine tG0 (i := 29) (v := ?_) rfl ?_ ?_
         rotate_left;(focus intro W _;go_simp;try with_reducible rfl);rotate_left;try simp only[Act.put,zq]
         refine tG0 (i := 30) (v := ?_) rfl ?_ ?_
         rotate_left;(focus intro W _;go_simp;try with_reducible rfl);rotate_left;try simp only[Act.put,zq]
         refine rdG (rs := [31]) (by kernel_rfl) (by simp) ?_
         refine cG1 rfl fun K hK => ?_
         go_simp
         refine hK.out _ _ (fun h => by cases h) ?_
         clear hK K
         try simp only[Act.put,zq]
         refine wpAnyG_done (by kernel_rfl) ?_ _
         clear e0 e1 e2 f0 f1 f2
         go_wp2
         go_roundw
         case rel => exact ⟨k + 1, _, _, _, by have := HLT.out; omega, by go_num, NF.out, HF.out, fun e => by omega⟩
         case measure => have := HLT.out; simp [ivK]; omega
        exact AllReadyG.nil
       exact AllReadyG.nil
      exact AllReadyG.nil
     refine cG2 rfl (fun K hK => ?_) ?_
     ·go_simp
      have N3 := N2.alloc (.cells #[.string s] 9)
      have B3 : Below w.heap.size w (W2.alloc (.cells #[.string s] 9)) := B2.alloc B2.size _
      have nb15 := heap_alloc_new W2 (.cells #[.string s] 9)
      have hb15 : W0z ≤ W2.heap.size := hz2
      have hz3 : W0z ≤ (W2.alloc (.cells #[.string s] 9)).heap.size := by simp; omega
      replace nb21 := (Below.heap_alloc W2 (.cells #[.string s] 9) _ (Array.getElem?_eq_some_iff.1 nb21).1).trans nb21
      replace nb8 := (Below.heap_alloc W2 (.cells #[.string s] 9) _ (Array.getElem?_eq_some_iff.1 nb8).1).trans nb8
      generalize W2.alloc (.cells #[.string s] 9) = W3 at *
      refine hK.out _ _ (fun _ _ => ⟨(c_o N3.cells 0).1, (c_o N3.cells 1).1, (c_o N3.cells 2).1⟩) ?_
      clear hK K
      try simp only[Act.put,zq]
      refine rdG (rs := [9]) (by kernel_rfl) (by simp) ?_
      refine cG2 rfl (fun K hK => ?_) ?_
      ·refine step_append_lies _ rfl (.tmp 25) (.tmp 27) 54 rfl (w.heap.size + 1) 9 is (.string ⟨#[]⟩) 1 16 Tryz.underlying54 his hzs0 hzs1 hzs2 rfl (by decide) vn k (List.replicate k (.string s)) rfl N3.on ⟨_, 0, none⟩ 1 1 [.string s] rfl rfl (World.news_of_block nb8) (fun u hu => by simp at hu; subst hu; rfl) (by omega) hmx (by omega) N3.lt _ rfl ?_
       intro g9 q9 W4 o9 r9 a9 b9
       have N4 := N3.n o9 r9 a9
       have B4 := B3.grown r9 B3.size (fun q hq => by have := (N3.on.lt q hq).1; omega)
       have hz4 : W0z ≤ W4.heap.size := Nat.le_trans hz3 r9.size
       replace nb21 := (r9.block _ (Array.getElem?_eq_some_iff.1 nb21).1 (fun e => by have := lvn _ e.symm; omega)).trans nb21
       replace nb15 := (r9.block _ (Array.getElem?_eq_some_iff.1 nb15).1 (fun e => by have := lvn _ e.symm; omega)).trans nb15
       clear nb8 hb8 o9 r9 a9 b9
       refine hK.out _ _ (fun _ _ => ⟨(c_o N4.cells 0).1, (c_o N4.cells 1).1, (c_o N4.cells 2).1⟩) ?_
       clear hK K
       try simp only[Act.put,zq]
       refine rdG (rs := [16]) (by kernel_rfl) (by simp) ?_
       refine cG2 rfl (fun K hK => ?_) ?_
       ·refine step_append_lies _ rfl (.tmp 32) (.tmp 34) 54 rfl (w.heap.size + 1) 9 is (.string ⟨#[]⟩) 1 16 Tryz.underlying54 his hzs0 hzs1 hzs2 rfl (by decide) vw k (List.replicate k (.string s)) rfl N4.ow ⟨_, 0, none⟩ 1 1 [.string s] rfl rfl (World.news_of_block nb15) (fun u hu => by simp at hu; subst hu; rfl) (by omega) hmx (by omega) N4.lt _ rfl ?_
        intro g16 q16 W5 o16 r16 a16 b16
        have N5 := N4.w o16 r16 a16
        have B5 := B4.grown r16 B4.size (fun q hq => by have := (N4.ow.lt q hq).1; omega)
        have hz5 : W0z ≤ W5.heap.size := Nat.le_trans hz4 r16.size
        replace nb21 := (r16.block _ (Array.getElem?_eq_some_iff.1 nb21).1 (fun e => by have := lvw _ e.symm; omega)).trans nb21
        clear nb15 hb15 o16 r16 a16 b16
        refine hK.out _ _ (fun _ _ => ⟨(c_o N5.cells 0).1, (c_o N5.cells 1).1, (c_o N5.cells 2).1⟩) ?_
        clear hK K
        try simp only[Act.put,zq]
        refine rdG (rs := [22]) (by kernel_rfl) (by simp) ?_
        refine cG2 rfl (fun K hK => ?_) ?_
        ·refine step_append_lies _ rfl (.tmp 39) (.tmp 40) 55 rfl (w.heap.size + 1) 4 ib (.bool false) 1 1 Tryz.underlying55 hib hzb0 hzb1 hzb2 rfl (by decide) vt k (List.replicate k (.bool false)) rfl N5.ot ⟨_, 0, none⟩ 1 1 [.bool false] rfl rfl (World.news_of_block nb21) (fun u hu => by simp at hu; subst hu; rfl) (by omega) hmx (by omega) N5.lt _ rfl ?_
         intro g22 q22 W6 o22 r22 a22 b22
         have N6 := N5.t o22 r22
         have B6 := B5.grown r22 B5.size (fun q hq => by have := (N5.ot.lt q hq).1; omega)
         have hz6 : W0z ≤ W6.heap.size := Nat.le_trans hz5 r22.size
         clear nb21 hb21 o22 r22 a22 b22
         refine hK.out _ _ (fun _ _ => ⟨(c_o N6.cells 0).1, (c_o N6.cells 1).1, (c_o N6.cells 2).1⟩) ?_
         clear hK K
         try simp only[Act.put,zq]
         have e0 := c_o N6.cells 0
         have e1 := c_o N6.cells 1
         have e2 := c_o N6.cells 2
         obtain ⟨e0, f0⟩ := e0
         obtain ⟨e1, f1⟩ := e1
         obtain ⟨e2, f2⟩ := e2
         have NF := Lib.hid (N6.set (.slice (some ⟨g9, 0, none⟩) (k + 1) q9) (.slice (some ⟨g16, 0, none⟩) (k + 1) q16) (.slice (some ⟨g22, 0, none⟩) (k + 1) q22))
         have HF := Lib.hid (((B6.setCell (p := ⟨w.heap.size, 0, none⟩) (Nat.le_refl _) (.slice (some ⟨g9, 0, none⟩) (k + 1) q9)).setCell (p := ⟨w.heap.size, 1, none⟩) (Nat.le_refl _) (.slice (some ⟨g16, 0, none⟩) (k + 1) q16)).setCell (p := ⟨w.heap.size, 2, none⟩) (Nat.le_refl _) (.slice (some ⟨g22, 0, none⟩) (k + 1) q22))
         refine tG0 (i := 23) (v := ?_) rfl ?_ ?_
         rotate_left;(focus intro W _;go_simp;try with_reducible rfl);rotate_left;try simp only[Act.put,zq]
         refine tG0 (i := 24) (v := ?_) rfl ?_ ?_
         rotate_left;(focus intro W _;go_simp;try with_reducible rfl);rotate_left;try simp only[Act.put,zq]
         refine rdG (rs := [25]) (by kernel_rfl) (by simp) ?_
         refine cG1 rfl fun K hK => ?_
         go_simp
         refine hK.out _ _ (fun h => by cases h) ?_
         clear hK K
         try simp only[Act.put,zq]
         refine tG0 (i := 26) (v := ?_) rfl ?_ ?_
         rotate_left;(focus intro W _;go_simp;try with_reducible rfl);rotate_left;try simp only[Act.put,zq]
         refine tG0 (i := 27) (v := ?_) rfl ?_ ?_
         rotate_left;(focus intro W _;go_simp;try with_reducible rfl);rotate_left;try simp only[Act.put,zq]
         refine rdG (rs := [28]) (by kernel_rfl) (by simp) ?_
         refine cG1 rfl fun K hK => ?_
         go_simp
         refine hK.out _ _ (fun h => by cases h) ?_
         clear hK K
         try simp only[Act.put,zq]
         refine tG0 (i := 29) (v := ?_) rfl ?_ ?_
         rotate_left;(focus intro W _;go_simp;try with_reducible rfl);rotate_left;try simp only[Act.put,zq]
         refine tG0 (i := 30) (v := ?_) rfl ?_ ?_
         rotate_left;(focus intro W _;go_simp;try with_reducible rfl);rotate_left;try simp only[Act.put,zq]
         refine rdG (rs := [31]) (by kernel_rfl) (by simp) ?_
         refine cG1 rfl fun K hK => ?_
         go_simp
         refine hK.out _ _ (fun h => by cases h) ?_
         clear hK K
         try simp only[Act.put,zq]
         refine wpAnyG_done (by kernel_rfl) ?_ _
         clear e0 e1 e2 f0 f1 f2
         go_wp2
         go_roundw
         case rel => exact ⟨k + 1, _, _, _, by have := HLT.out; omega, by go_num, NF.out, HF.out, fun e => by omega⟩
         case measure => have := HLT.out; simp [ivK]; omega
        exact AllReadyG.nil
       exact AllReadyG.nil
      exact AllReadyG.nil
     exact AllReadyG.nil
    refine cG2 rfl (fun K hK => ?_) ?_
    ·go_simp
     have N2 := N1.alloc (.cells #[.string s] 9)
     have B2 : Below w.heap.size w (W1.alloc (.cells #[.string s] 9)) := B1.alloc B1.size _
     have nb15 := heap_alloc_new W1 (.cells #[.string s] 9)
     have hb15 : W0z ≤ W1.heap.size := hz1
     have hz2 : W0z ≤ (W1.alloc (.cells #[.string s] 9)).heap.size := by simp; omega
     replace nb21 := (Below.heap_alloc W1 (.cells #[.string s] 9) _ (Array.getElem?_eq_some_iff.1 nb21).1).trans nb21
     generalize W1.alloc (.cells #[.string s] 9) = W2 at *
     refine hK.out _ _ (fun _ _ => ⟨(c_o N2.cells 0).1, (c_o N2.cells 1).1, (c_o N2.cells 2).1⟩) ?_
     clear hK K
     try simp only[Act.put,zq]
     refine rdG (rs := [8]) (by kernel_rfl) (by simp) ?_
     refine cG2 rfl (fun K hK => ?_) ?_
     ·go_simp
      have N3 := N2.alloc (.cells #[.string s] 9)
      have B3 : Below w.heap.size w (W2.alloc (.cells #[.string s] 9)) := B2.alloc B2.size _
      have nb8 := heap_alloc_new W2 (.cells #[.string s] 9)
      have hb8 : W0z ≤ W2.heap.size := hz2
      have hz3 : W0z ≤ (W2.alloc (.cells #[.string s] 9)).heap.size := by simp; omega
      replace nb21 := (Below.heap_alloc W2 (.cells #[.string s] 9) _ (Array.getElem?_eq_some_iff.1 nb21).1).trans nb21
      replace nb15 := (Below.heap_alloc W2 (.cells #[.string s] 9) _ (Array.getElem?_eq_some_iff.1 nb15).1).trans nb15
      generalize W2.alloc (.cells #[.string s] 9) = W3 at *
      refine hK.out _ _ (fun _ _ => ⟨(c_o N3.cells 0).1, (c_o N3.cells 1).1, (c_o N3.cells 2).1⟩) ?_
      clear hK K
      try simp only[Act.put,zq]
      refine rdG (rs := [9]) (by kernel_rfl) (by simp) ?_
      refine cG2 rfl (fun K hK => ?_) ?_
      ·refine step_append_lies _ rfl (.tmp 25) (.tmp 27) 54 rfl (w.heap.size + 1) 9 is (.string ⟨#[]⟩) 1 16 Tryz.underlying54 his hzs0 hzs1 hzs2 rfl (by decide) vn k (List.replicate k (.string s)) rfl N3.on ⟨_, 0, none⟩ 1 1 [.string s] rfl rfl (World.news_of_block nb8) (fun u hu => by simp at hu; subst hu; rfl) (by omega) hmx (by omega) N3.lt _ rfl ?_
       intro g9 q9 W4 o9 r9 a9 b9
       have N4 := N3.n o9 r9 a9
       have B4 := B3.grown r9 B3.size (fun q hq => by have := (N3.on.lt q hq).1; omega)
       have hz4 : W0z ≤ W4.heap.size := Nat.le_trans hz3 r9.size
       replace nb21 := (r9.block _ (Array.getElem?_eq_some_iff.1 nb21).1 (fun e => by have := lvn _ e.symm; omega)).trans nb21
       replace nb15 := (r9.block _ (Array.getElem?_eq_some_iff.1 nb15).1 (fun e => by have := lvn _ e.symm; omega)).trans nb15
       clear nb8 hb8 o9 r9 a9 b9
       refine hK.out _ _ (fun _ _ => ⟨(c_o N4.cells 0).1, (c_o N4.cells 1).1, (c_o N4.cells 2).1⟩) ?_
       clear hK K
       try simp only[Act.put,zq]
       refine rdG (rs := [16]) (by kernel_rfl) (by simp) ?_
       refine cG2 rfl (fun K hK => ?_) ?_
       ·refine step_append_lies _ rfl (.tmp 32) (.tmp 34) 54 rfl (w.heap.size + 1) 9 is (.string ⟨#[]⟩) 1 16 Tryz.underlying54 his hzs0 hzs1 hzs2 rfl (by decide) vw k (List.replicate k (.string s)) rfl N4.ow ⟨_, 0, none⟩ 1 1 [.string s] rfl rfl (World.news_of_block nb15) (fun u hu => by simp at hu; subst hu; rfl) (by omega) hmx (by omega) N4.lt _ rfl ?_
        intro g16 q16 W5 o16 r16 a16 b16
        have N5 := N4.w o16 r16 a16
        have B5 := B4.grown r16 B4.size (fun q hq => by have := (N4.ow.lt q hq).1; omega)
        have hz5 : W0z ≤ W5.heap.size := Nat.le_trans hz4 r16.size
        replace nb21 := (r16.block _ (Array.getElem?_eq_some_iff.1 nb21).1 (fun e => by have := lvw _ e.symm; omega)).trans nb21
        clear nb15 hb15 o16 r16 a16 b16
        refine hK.out _ _ (fun _ _ => ⟨(c_o N5.cells 0).1, (c_o N5.cells 1).1, (c_o N5.cells 2).1⟩) ?_
        clear hK K
        try simp only[Act.put,zq]
        refine rdG (rs := [22]) (by kernel_rfl) (by simp) ?_
        refine cG2 rfl (fun K hK => ?_) ?_
        ·refine step_append_lies _ rfl (.tmp 39) (.tmp 40) 55 rfl (w.heap.size + 1) 4 ib (.bool false) 1 1 Tryz.underlying55 hib hzb0 hzb1 hzb2 rfl (by decide) vt k (List.replicate k (.bool false)) rfl N5.ot ⟨_, 0, none⟩ 1 1 [.bool false] rfl rfl (World.news_of_block nb21) (fun u hu => by simp at hu; subst hu; rfl) (by omega) hmx (by omega) N5.lt _ rfl ?_
         intro g22 q22 W6 o22 r22 a22 b22
         have N6 := N5.t o22 r22
         have B6 := B5.grown r22 B5.size (fun q hq => by have := (N5.ot.lt q hq).1; omega)
         have hz6 : W0z ≤ W6.heap.size := Nat.le_trans hz5 r22.size
         clear nb21 hb21 o22 r22 a22 b22
         refine hK.out _ _ (fun _ _ => ⟨(c_o N6.cells 0).1, (c_o N6.cells 1).1, (c_o N6.cells 2).1⟩) ?_
         clear hK K
         try simp only[Act.put,zq]
         have e0 := c_o N6.cells 0
         have e1 := c_o N6.cells 1
         have e2 := c_o N6.cells 2
         obtain ⟨e0, f0⟩ := e0
         obtain ⟨e1, f1⟩ := e1
         obtain ⟨e2, f2⟩ := e2
         have NF := Lib.hid (N6.set (.slice (some ⟨g9, 0, none⟩) (k + 1) q9) (.slice (some ⟨g16, 0, none⟩) (k + 1) q16) (.slice (some ⟨g22, 0, none⟩) (k + 1) q22))
         have HF := Lib.hid (((B6.setCell (p := ⟨w.heap.size, 0, none⟩) (Nat.le_refl _) (.slice (some ⟨g9, 0, none⟩) (k + 1) q9)).setCell (p := ⟨w.heap.size, 1, none⟩) (Nat.le_refl _) (.slice (some ⟨g16, 0, none⟩) (k + 1) q16)).setCell (p := ⟨w.heap.size, 2, none⟩) (Nat.le_refl _) (.slice (some ⟨g22, 0, none⟩) (k + 1) q22))
         refine tG0 (i := 23) (v := ?_) rfl ?_ ?_
         rotate_left;(focus intro W _;go_simp;try with_reducible rfl);rotate_left;try simp only[Act.put,zq]
         refine tG0 (i := 24) (v := ?_) rfl ?_ ?_
         rotate_left;(focus intro W _;go_simp;try with_reducible rfl);rotate_left;try simp only[Act.put,zq]
         refine rdG (rs := [25]) (by kernel_rfl) (by simp) ?_
         refine cG1 rfl fun K hK => ?_
         go_simp
         refine hK.out _ _ (fun h => by cases h) ?_
         clear hK K
         try simp only[Act.put,zq]
         refine tG0 (i := 26) (v := ?_) rfl ?_ ?_
         rotate_left;(focus intro W _;go_simp;try with_reducible rfl);rotate_left;try simp only[Act.put,zq]
         refine tG0 (i := 27) (v := ?_) rfl ?_ ?_
         rotate_left;(focus intro W _;go_simp;try with_reducible rfl);rotate_left;try simp only[Act.put,zq]
         refine rdG (rs := [28]) (by kernel_rfl) (by simp) ?_
         refine cG1 rfl fun K hK => ?_
         go_simp
         refine hK.out _ _ (fun h => by cases h) ?_
         clear hK K
         try simp only[Act.put,zq]
         refine tG0 (i := 29) (v := ?_) rfl ?_ ?_
         rotate_left;(focus intro W _;go_simp;try with_reducible rfl);rotate_left;try simp only[Act.put,zq]
         refine tG0 (i := 30) (v := ?_) rfl ?_ ?_
         rotate_left;(focus intro W _;go_simp;try with_reducible rfl);rotate_left;try simp only[Act.put,zq]
         refine rdG (rs := [31]) (by kernel_rfl) (by simp) ?_
         refine cG1 rfl fun K hK => ?_
         go_simp
         refine hK.out _ _ (fun h => by cases h) ?_
         clear hK K
         try simp only[Act.put,zq]
         refine wpAnyG_done (by kernel_rfl) ?_ _
         clear e0 e1 e2 f0 f1 f2
         go_wp2
         go_roundw
         case rel => exact ⟨k + 1, _, _, _, by have := HLT.out; omega, by go_num, NF.out, HF.out, fun e => by omega⟩
         case measure => have := HLT.out; simp [ivK]; omega
        exact AllReadyG.nil
       exact AllReadyG.nil
      exact AllReadyG.nil
     exact AllReadyG.nil
    exact AllReadyG.nil
   exact AllReadyG.nil
  ·obtain rfl : k = n := by omega
   go_wp2
   go_ret
   exact ⟨vn, vw, vt, rfl, HN1.out, HB1.out, HNL.out⟩
end Go.Proofs.YthmgafcnoedmjaaGreat
