/- An entry's variable; what is appended; Within. -/
import Derived.Test.YthhnmpobkekbbaaGreatEntK
import Derived.Test.YthhnmpobkekbbaaGreatHeldL
namespace Go.Proofs.YthhnmpobkekbbaaGreat
open Go.RowKit

/-- An entry's variable, and where its bytes and lists lie. -/
structure Bz (g : Nat) (e : Ent) (s1 s2 s3 s4 s5 s6 : Value) (W : World) : Prop where
  bx : W.heap[g]? = some (.cells (entC e s1 s2 s3 s4 s5 s6) 44 (0, 0))
  s : EntS W s1 s2 s3 s4 s5 s6 e
theorem Bz.on {g : Nat} {W W' : World} {e : Ent} {s1 s2 s3 s4 s5 s6 : Value} (h : Bz g e s1 s2 s3 s4 s5 s6 W) (hb : Below W.heap.size W W') : Bz g e s1 s2 s3 s4 s5 s6 W' :=
  ⟨(hb.block _ (Array.getElem?_eq_some_iff.1 h.bx).1).trans h.bx, h.s.below hb (Nat.le_refl _)⟩
set_option maxRecDepth 100000 in
theorem app2 (W : World) {sv : Value} {l : List Int} (h : SlK .u8 W sv l) (hl : l.length ≤ 100000) (x : Int) (hx : 0 ≤ x ∧ x < 256) :
    ∃ A1 m1 c1 W1, (∀ ty, (Builtin.append_ #[36, 36] ty #[.slice (some ⟨W.heap.size, 0, none⟩) 0 0, sv]).run Tryz.prog (W.alloc (.cells #[] 5)) = .ok (.slice A1 m1 c1) W1) ∧
      ∃ A2 m2 c2 W2, (∀ ty, (Builtin.append_ #[36, 36] ty #[.slice A1 m1 c1, .slice (some ⟨W1.heap.size, 0, none⟩) 1 1]).run Tryz.prog (W1.alloc (.cells #[.int .u8 x] 5)) = .ok (.slice A2 m2 c2) W2) ∧ SlK .u8 W2 (.slice A2 m2 c2) (l ++ [x]) ∧ Below W.heap.size W W2 := by
  have b0 : Below W.heap.size W (W.alloc (.cells #[] 5)) := (Below.refl _ _).alloc (Nat.le_refl _) _
  have ho : (W.alloc (.cells #[] 5)).ownsRow W.heap.size 5 1 (.slice (some ⟨W.heap.size, 0, none⟩) 0 0) 0 (byteV []) :=
    World.ownsRow_made (e := 5) (size := 1) W #[] 0 (Nat.le_refl _) (by unfold maxLen; omega) rfl
  obtain ⟨v1, W1, hr1, ho1, hg1, hv1⟩ := run_append_sl ho (h.below b0 (Nat.le_refl _)).sw (by omega) b0.size
  obtain ⟨A1, m1, c1, rfl⟩ := own_shape ho1
  have b1 : Below W.heap.size W W1 := b0.trans ⟨hg1.os, hg1.tape, hg1.output, hg1.size, fun k hk => hg1.block k (by have := b0.size; omega) (by intro e2; simp [Value.ownBlock] at e2; omega)⟩
  have b2 : Below W1.heap.size W1 (W1.alloc (.cells #[.int .u8 x] 5)) := (Below.refl _ _).alloc (Nat.le_refl _) _
  have hone : SlK .u8 (W1.alloc (.cells #[.int .u8 x] 5)) (.slice (some ⟨W1.heap.size, 0, none⟩) 1 1) [x] := (Blk.pt (l := [x]) (blk_new W1 [x]) rfl (Nat.le_refl _)).slK (fun y hy => by simp at hy; subst hy; exact hx)
  obtain ⟨v2, W2, hr2, ho2, hg2, hv2⟩ := run_append_sl (own_bel ho1 b2) hone.sw (by simp; omega) (by have := b1.size; have := b2.size; omega)
  obtain ⟨A2, m2, c2, rfl⟩ := own_shape ho2
  refine ⟨A1, m1, c1, W1, hr1, A2, m2, c2, W2, hr2, own_slK ho2 (app_ok h.ok (fun y hy => by simp at hy; subst hy; exact hx)), b1.trans ((b2.mono b1.size).trans ⟨hg2.os, hg2.tape, hg2.output, hg2.size, fun k hk => hg2.block k (by have := b1.size; have := b2.size; omega) (fun e2 => ?_)⟩)⟩
  have := (ho1.lt k e2.symm).1
  omega
theorem below_on {w W W' : World} (h : Below w.heap.size w W) (hb : Below W.heap.size W W') : Below w.heap.size w W' := h.trans (hb.mono h.size)

end Go.Proofs.YthhnmpobkekbbaaGreat
