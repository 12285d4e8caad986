/- TrailAll, a part. -/
import Derived.Test.YthmgafcnoedmjaaGreatQ49
import Derived.Deep.RegionLaw
namespace Go.Proofs.YthmgafcnoedmjaaGreat
open Go.RowKit Go.Maps
theorem step_append_r {P : Program} {ops : Array Oper} {o : Oper} {a : Act} {w : World} {K : Act → World → Prop} {Q : Exit → Act → World → Prop} {E : Prop} (hg : o.guard = none) (d x : Operand) (dT sT : TypeId)
  (ho : o.op = .call { callee := .builtin .append, args := #[d, x], argTypes := #[dT, sT] }) (v u : Value) (hd : a.eval d = v) (hx : a.eval x = u) {v' : Value} {w' : World}
  (hr : (Builtin.append_ #[dT, sT] o.type #[v, u]).run P w = .ok v' w') (h : K (a.put o.dst v') w') : if Region.wanted o (yielded ops a.tmps) = true then Oper.wp P o a w K Q else E := by
 have hw : Region.wanted o (yielded ops a.tmps) = true := by simp [Region.wanted, hg]
 rw [if_pos hw]
 unfold Oper.wp execOp
 simp only [ho, resolve, invoke, builtin, Sem.run_bind, Sem.run_pure, Result.andThen_ok, List.map_toArray, List.map_cons, List.map_nil, hd, hx, hr]
 exact h
theorem slW_slB {w W : World} {v : Value} {l : List Int} (h : SlW w v l) (hb : Below w.heap.size w W) (hl : l.length ≤ 1000000) : ∃ g, SlB W v l g ∧ (g < w.heap.size ∨ g = W.heap.size) := by
 by_cases e : l = []
 ·subst e
  obtain ⟨p, cap, rfl, h1, h2⟩ := h.sh
  exact ⟨W.heap.size, ⟨p, 0, cap, rfl, rfl, by omega, by omega, fun _ => rfl, fun a _ hne => absurd rfl hne⟩, .inr rfl⟩
 ·obtain ⟨p, cap, rfl, h1, h2, h3, h4⟩ := h.k e
  cases p with
  | none => exact absurd (h3 rfl).1 e
  | some a =>
   obtain ⟨h5, h6, h7⟩ := h4 a rfl
   refine ⟨a.block, ⟨some a, l.length, cap, rfl, rfl, h1, hl, fun e => (by cases e), fun a' e' _ => ?_⟩, .inl h6⟩
   cases e'
   exact ⟨rfl, h5, fun j hj => (hb.cell (p := ⟨a.block, a.off + j, none⟩) h6).trans (h7 j hj)⟩
theorem src_slW {w : World} {v : Value} {l : List Int} (h : SlW w v l) : Src w v l.length (byteV l) := by
 by_cases e : l = []
 ·subst e
  obtain ⟨p, cap, rfl, h1, h2⟩ := h.sh
  cases p with
  | none => exact .inl ⟨cap, rfl, rfl, rfl⟩
  | some a => exact .inr ⟨a, cap, rfl, fun j u hu => by cases hu⟩
 ·obtain ⟨p, cap, rfl, h1, h2, h3, h4⟩ := h.k e
  cases p with
  | none => exact absurd (h3 rfl).1 e
  | some a =>
   obtain ⟨h5, h6, h7⟩ := h4 a rfl
   obtain ⟨ab, ao, asp⟩ := a
   cases h5
   refine .inr ⟨_, cap, rfl, fun j u hu => ?_⟩
   have hj : j < l.length := by
    have := (List.getElem?_eq_some_iff.1 hu).1
    simpa [byteV] using this
   rw [add_more, h7 j hj, ← hu]
   simp [byteV, hj]
theorem tile_bytes (w : World) {sv : Value} {l : List Int} (h : SlW w sv l) (hl : l.length ≤ 64) : ∃ v1 w1 v2 w2 g2, (∀ ty, (Builtin.append_ #[36, 36] ty #[.slice (some ⟨w.heap.size, 0, none⟩) 0 0, sv]).run Tryz.prog (w.alloc (.cells #[] 5)) = .ok v1 w1) ∧
  (∀ ty, (Builtin.append_ #[36, 3] ty #[v1, .int .i64 ((64 - l.length : Nat) : Int)]).run Tryz.prog w1 = .ok v2 w2) ∧ SlB w2 v2 (l ++ List.replicate (64 - l.length) 0) g2 ∧ w.heap.size ≤ g2 ∧ Below w.heap.size w w1 ∧ Below w.heap.size w w2 ∧ (∃ A c, v2 = .slice A 64 c) := by
 obtain ⟨i, hi, hz0, hz1, hz2⟩ := info_parts infoU8
 have hb2 := (Below.refl w.heap.size w).alloc (Nat.le_refl _) (.cells #[] 5)
 have ho := World.ownsRow_made (e := 5) (size := 1) w #[] 0 (Nat.le_refl w.heap.size) (by decide) rfl
 have hr := fun ty => app_srcL (P := Tryz.prog) (w.alloc (.cells #[] 5)) w.heap.size 36 ty 5 i (.int .u8 0) 1 1 Tryz.underlying36 hi hz0 hz1 hz2 rfl (by decide) _ 0 0 [] ho sv l.length (byteV l) ((src_slW h).up hb2) (by simp [byteV]) (byteV_one _) (by unfold maxLen; omega) (by omega) hb2.size l.length (by omega) (byteV l) rfl
 obtain ⟨g, c, w1, hr1, ho1, hg1, _⟩ := hr 0
 have hb3 := below_grown hb2 ho hg1 hb2.size (Nat.le_refl _)
 obtain ⟨v2, w2, hr2, ho2, hg2⟩ := zeros_own w1 w.heap.size g l.length c l (64 - l.length) ho1 (by omega) hb3.size
 have hb4 := below_grown hb3 ho1 hg2 hb3.size (Nat.le_refl _)
 have hn : l.length + (64 - l.length) = 64 := by omega
 rw [hn] at ho2
 obtain ⟨g2, c2, hv2⟩ : ∃ g2 c2, v2 = .slice (some ⟨g2, 0, none⟩) 64 c2 := by
  rcases ho2.2 with ⟨_, h2⟩ | ⟨g, cap, cur, h1, _⟩
  ·omega
  ·exact ⟨g, cap, h1⟩
 have hll : (l ++ List.replicate (64 - l.length) 0).length = 64 := by rw [List.length_append, List.length_replicate]; exact hn
 refine ⟨_, w1, v2, w2, g2, fun ty => hr1, hr2, ?_, ?_, hb3, hb4, ⟨_, _, hv2⟩⟩
 ·subst hv2
  rcases ho2.2 with ⟨h1, _⟩ | ⟨g, cap, cur, h1, h2, h3, h4, h5, h6, h7⟩
  ·cases h1
  ·cases h1
   refine ⟨_, 64, _, rfl, hll.symm, h4, by omega, ⟨fun e => (by cases e), fun a e hne => ?_⟩⟩
   cases e
   refine ⟨rfl, rfl, fun j hj => ?_⟩
   rw [Nat.zero_add, (c_o h3 _).1, ← Array.getElem?_toList]
   have h8 : (cur.toList.take (64 * 1))[j]? = (byteV (l ++ List.replicate (64 - l.length) 0))[j]? := by rw [h7]
   rw [List.getElem?_take, if_pos (by omega)] at h8
   rw [h8, byteV, List.getElem?_map, List.getElem?_eq_getElem hj]
   rfl
 ·subst hv2
  exact (ho2.lt g2 rfl).1
theorem ok_zeros {l : List Int} (h : bytesOk l) (n : Nat) : bytesOk (l ++ List.replicate n 0) := fun x hx => by
 rcases List.mem_append.1 hx with hx | hx
 ·exact h x hx
 ·obtain rfl := (List.mem_replicate.1 hx).2
  omega
theorem di_rc {B : Nat} {W : World} {pd bn bo g r gn gw gt gm : Nat} {vn vw vt : Value} {d : Dk} {f : Rf} {K : Nat} (h : DI B W pd bn bo g r gn gw gt gm vn vw vt d f K) :
  (W.setCell ⟨pd, 3, none⟩ (.bool false)).cell? ⟨r, 3, none⟩ = some (.bool f.off) ∧ (W.setCell ⟨pd, 3, none⟩ (.bool false)).frozen? ⟨r, 3, none⟩ = false := by
 have hne : r ≠ pd := fun e => h.a1 pd (.inl rfl) (.inl e.symm)
 have e1 : (W.setCell ⟨pd, 3, none⟩ (.bool false)).heap[r]? = W.heap[r]? := heap_setCell_other _ ⟨pd, 3, none⟩ r _ hne
 exact ⟨(World.cell?_of_block e1).trans h.rf.c3, (c_o (e1.trans h.rf.cells) 3).2⟩
end Go.Proofs.YthmgafcnoedmjaaGreat
