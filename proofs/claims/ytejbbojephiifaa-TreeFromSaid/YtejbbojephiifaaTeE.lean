/- tree: From's closure: a key and its place are told. -/
import Derived.Test.YtejbbojephiifaaTeD
import Derived.Test.YtejbbojephiifaaHeldF
import Derived.Deep.AppendLies
namespace Go.Proofs.Ytejbbojephiifaa
open Go.RowKit

def keyV (x : KV) : Value := .string x.k
def ridV (x : KV) : List Value := [.int .i64 x.p, .int .i64 x.c]
theorem infoStr : (Try.prog.info? 9).map (fun i => (i.zero, i.size, i.bytes)) = some (some (.string ⟨#[]⟩), 1, 16) := by kernel_rfl
theorem infoRid : (Try.prog.info? 35).map (fun i => (i.zero, i.size, i.bytes)) = some (some (.agg #[.int .i64 0, .int .i64 0]), 2, 16) := by kernel_rfl
theorem undStrs : Try.prog.underlying 27 = some (.slice 9) := by kernel_rfl
theorem undRids : Try.prog.underlying 28 = some (.slice 35) := by kernel_rfl
/-- What From's closure holds: the keys and the places that are told. -/
structure Gv (w : World) (B a b c : Nat) (most : Int) (l : List KV) : Prop where
  ha : B ≤ a ∧ B ≤ b ∧ B ≤ c
  hc : w.heap[c]? = some (.cells #[.int .i64 most] 3 (0, 0))
  ex : ∃ sk sv, w.heap[a]? = some (.cells #[sk] 27 (0, 0)) ∧ w.heap[b]? = some (.cells #[sv] 28 (0, 0)) ∧ w.ownsRow B 9 1 sk l.length (l.map keyV) ∧ w.ownsRow B 35 2 sv l.length (l.flatMap ridV)

theorem own_ty {w : World} {B k n : Nat} {e : TypeId} {v : Value} {xs : List Value} (h : w.ownsRow B e k v n xs) {g : Nat} (hg : v.ownBlock = some g) : B ≤ g ∧ ∃ cs, w.heap[g]? = some (.cells cs e (0, 0)) := by
  rcases h.2 with ⟨rfl, _⟩ | ⟨q, cap, cur, rfl, hb, hq, _⟩
  · cases hg
  · cases hg
    exact ⟨hb, cur, hq⟩
/-- A block of another type is not touched by an append. -/
theorem blk_far {w w' : World} {B k n q : Nat} {e e' : TypeId} {v : Value} {xs : List Value} {cs : Array Value} (h : w.ownsRow B e k v n xs) (hq : w.heap[q]? = some (.cells cs e' (0, 0))) (ht : e' ≠ e) (g : w.grownBy w' v.ownBlock) : w'.heap[q]? = some (.cells cs e' (0, 0)) := by
  refine (g.block q (Array.getElem?_eq_some_iff.1 hq).1 (fun he => ?_)).trans hq
  obtain ⟨_, cs', h2⟩ := own_ty h he.symm
  rw [hq] at h2
  cases h2
  exact ht rfl
theorem below_grown {w0 w w' : World} {B k n : Nat} {e : TypeId} {v : Value} {xs : List Value} (h : Below B w0 w) (ho : w.ownsRow B e k v n xs) (g : w.grownBy w' v.ownBlock) (hB : B ≤ w.heap.size) : Below B w0 w' :=
  ⟨g.os.trans h.os, g.tape.trans h.tape, g.output.trans h.output, Nat.le_trans h.size g.size, fun k hk => (g.block k (by omega) (fun e => by have := (own_ty ho e.symm).1; omega)).trans (h.block k hk)⟩

/-- Amid the appends. -/
structure GS (B a b c n : Nat) (most : Int) (sk sv : Value) (x : KV) (v1 : Value) (m1 : Nat) (l1 : List Value) (v2 : Value) (m2 : Nat) (l2 : List Value) (w0 W : World) : Prop where
  hB : B ≤ W.heap.size
  bl : Below B w0 W
  ca : W.heap[a]? = some (.cells #[sk] 27 (0, 0))
  cb : W.heap[b]? = some (.cells #[sv] 28 (0, 0))
  cc : W.heap[c]? = some (.cells #[.int .i64 most] 3 (0, 0))
  cn : W.heap[n]? = some (.cells #[.int .i64 x.p, .int .i64 x.c] 35 (0, 0))
  o1 : W.ownsRow B 9 1 v1 m1 l1
  o2 : W.ownsRow B 35 2 v2 m2 l2
  n2 : v2.ownBlock ≠ some n
section
variable {B a b c n : Nat} {most : Int} {sk sv : Value} {x : KV} {v1 : Value} {m1 : Nat} {l1 : List Value} {v2 : Value} {m2 : Nat} {l2 : List Value} {w0 W W' : World}
theorem GS.up (h : GS B a b c n most sk sv x v1 m1 l1 v2 m2 l2 w0 W) (hb : Below W.heap.size W W') : GS B a b c n most sk sv x v1 m1 l1 v2 m2 l2 w0 W' :=
  have lt : ∀ {q : Nat} {o : Obj}, W.heap[q]? = some o → W'.heap[q]? = some o := fun {q _} hq => (hb.block q (Array.getElem?_eq_some_iff.1 hq).1).trans hq
  ⟨Nat.le_trans h.hB hb.size, h.bl.trans (hb.mono h.hB), lt h.ca, lt h.cb, lt h.cc, lt h.cn, own_up h.o1 hb, own_up h.o2 hb, h.n2⟩
theorem GS.alloc (h : GS B a b c n most sk sv x v1 m1 l1 v2 m2 l2 w0 W) (o : Obj) : GS B a b c n most sk sv x v1 m1 l1 v2 m2 l2 w0 (W.alloc o) := h.up ((Below.refl _ W).alloc (Nat.le_refl _) o)
theorem GS.drew (h : GS B a b c n most sk sv x v1 m1 l1 v2 m2 l2 w0 W) : GS B a b c n most sk sv x v1 m1 l1 v2 m2 l2 w0 W.drew := h.up (Below.refl _ W).drew
theorem GS.app1 (h : GS B a b c n most sk sv x v1 m1 l1 v2 m2 l2 w0 W) {v' : Value} {m' : Nat} {l' : List Value} (ho : W'.ownsRow B 9 1 v' m' l') (g : W.grownBy W' v1.ownBlock) : GS B a b c n most sk sv x v' m' l' v2 m2 l2 w0 W' :=
  ⟨Nat.le_trans h.hB g.size, below_grown h.bl h.o1 g h.hB, blk_far h.o1 h.ca (by decide) g, blk_far h.o1 h.cb (by decide) g, blk_far h.o1 h.cc (by decide) g, blk_far h.o1 h.cn (by decide) g, ho, own_apart h.o2 h.o1 (by decide) g, h.n2⟩
theorem GS.app2 (h : GS B a b c n most sk sv x v1 m1 l1 v2 m2 l2 w0 W) {q m' cp : Nat} {l' : List Value} (ho : W'.ownsRow B 35 2 (.slice (some ⟨q, 0, none⟩) m' cp) m' l') (g : W.grownBy W' v2.ownBlock) (hq : v2.ownBlock = some q ∨ q = W.heap.size) : GS B a b c n most sk sv x v1 m1 l1 (.slice (some ⟨q, 0, none⟩) m' cp) m' l' w0 W' := by
  have hn := (Array.getElem?_eq_some_iff.1 h.cn).1
  refine ⟨Nat.le_trans h.hB g.size, below_grown h.bl h.o2 g h.hB, blk_far h.o2 h.ca (by decide) g, blk_far h.o2 h.cb (by decide) g, blk_far h.o2 h.cc (by decide) g, ?_, own_apart h.o1 h.o2 (by decide) g, ho, fun e => ?_⟩
  · exact (g.block n hn (fun e => h.n2 e.symm)).trans h.cn
  · have e2 : q = n := by simpa [Value.ownBlock] using e
    rcases hq with hq | hq
    · exact h.n2 (by rw [hq, e2])
    · omega
/-- What the loads hold on to. -/
def GvS (a b n : Nat) (sk sv : Value) (x : KV) (k : Bool) (W : World) : Prop := match k with
  | true => W.cell? ⟨a, 0, none⟩ = some sk
  | false => W.cell? ⟨b, 0, none⟩ = some sv ∧ W.heap[n]? = some (.cells #[.int .i64 x.p, .int .i64 x.c] 35 (0, 0))
def GvT (k : Bool) (i : Nat) : Bool := match k with
  | true => i == 8 || i == 9
  | false => i == 9
theorem GS.s (h : GS B a b c n most sk sv x v1 m1 l1 v2 m2 l2 w0 W) (k : Bool) : GvS a b n sk sv x k W := by
  cases k with
  | true => exact (cell_of h.ca 0).1
  | false => exact ⟨(cell_of h.cb 0).1, h.cn⟩
end

theorem szRIDz (p d : Int) : (Try.prog.info? 35).map (·.size) = some (#[.int .i64 p, .int .i64 d] : Array Value).size := (by kernel_rfl : (Try.prog.info? 35).map (·.size) = some 2)
section
variable {B a b c n : Nat} {most : Int} {sk sv : Value} {x : KV} {v1 : Value} {m1 : Nat} {l1 : List Value} {v2 : Value} {m2 : Nat} {l2 : List Value} {w0 W W' : World}
theorem ne_ty {q r : Nat} {cs cs' : Array Value} {t t' : TypeId} (hq : W.heap[q]? = some (.cells cs t (0, 0))) (hr : W.heap[r]? = some (.cells cs' t' (0, 0))) (ht : t ≠ t') : q ≠ r := by
  rintro rfl
  rw [hq] at hr
  cases hr
  exact ht rfl
theorem GS.st1 (h : GS B a b c n most sk sv x v1 m1 l1 v2 m2 l2 w0 W) (u : Value) : GvS a b n sk sv x false (W.setCell ⟨a, 0, none⟩ u) := by
  have h1 := (Below.heap_setCell W ⟨a, 0, none⟩ u b (ne_ty h.cb h.ca (by decide))).trans h.cb
  exact ⟨(cell_of h1 0).1, (Below.heap_setCell W ⟨a, 0, none⟩ u n (ne_ty h.cn h.ca (by decide))).trans h.cn⟩
theorem own_st {k m q : Nat} {e t : TypeId} {v u : Value} {xs : List Value} {cs : Array Value} (h : W.ownsRow B e k v m xs) (hq : W.heap[q]? = some (.cells cs t (0, 0))) (ht : t ≠ e) : (W.setCell ⟨q, 0, none⟩ u).ownsRow B e k v m xs :=
  own_same h fun g hg => Below.heap_setCell _ _ _ _ (fun e => by
    obtain ⟨_, cs', h2⟩ := own_ty h hg
    exact ne_ty hq h2 ht e.symm)
theorem GS.fin {l : List KV} (h : GS B a b c n most sk sv x v1 (l.length + 1) (l.map keyV ++ [.string x.k]) v2 (l.length + 1) (l.flatMap ridV ++ [.int .i64 x.p, .int .i64 x.c]) w0 W) (hb : B ≤ a ∧ B ≤ b ∧ B ≤ c) :
    Gv ((W.setCell ⟨a, 0, none⟩ v1).setCell ⟨b, 0, none⟩ v2) B a b c most (l ++ [x]) ∧ Below B w0 ((W.setCell ⟨a, 0, none⟩ v1).setCell ⟨b, 0, none⟩ v2) ∧ ((W.setCell ⟨a, 0, none⟩ v1).setCell ⟨b, 0, none⟩ v2).cell? ⟨a, 0, none⟩ = some v1 ∧ ((W.setCell ⟨a, 0, none⟩ v1).setCell ⟨b, 0, none⟩ v2).cell? ⟨c, 0, none⟩ = some (.int .i64 most) := by
  have hab := ne_ty h.ca h.cb (by decide)
  have hca := ne_ty h.cc h.ca (by decide)
  have hcb := ne_ty h.cc h.cb (by decide)
  have h1 := heap_setCell_same W a 0 _ _ v1 h.ca
  have h2 := (Below.heap_setCell W ⟨a, 0, none⟩ v1 b hab.symm).trans h.cb
  have h3 := heap_setCell_same (W.setCell ⟨a, 0, none⟩ v1) b 0 _ _ v2 h2
  have h4 := (Below.heap_setCell (W.setCell ⟨a, 0, none⟩ v1) ⟨b, 0, none⟩ v2 a hab).trans h1
  have h5 := (Below.heap_setCell (W.setCell ⟨a, 0, none⟩ v1) ⟨b, 0, none⟩ v2 c hcb).trans ((Below.heap_setCell W ⟨a, 0, none⟩ v1 c hca).trans h.cc)
  have hl : (l ++ [x]).length = l.length + 1 := by simp
  have p1 : (W.setCell ⟨a, 0, none⟩ v1).ownsRow B 9 1 v1 (l.length + 1) (l.map keyV ++ [.string x.k]) := own_st h.o1 h.ca (by decide)
  have p2 : (W.setCell ⟨a, 0, none⟩ v1).ownsRow B 35 2 v2 (l.length + 1) (l.flatMap ridV ++ [.int .i64 x.p, .int .i64 x.c]) := own_st h.o2 h.ca (by decide)
  refine ⟨⟨hb, h5, v1, v2, h4, h3, ?_, ?_⟩, ?_, (cell_of h4 0).1, (cell_of h5 0).1⟩
  · rw [hl, List.map_append]
    exact own_st p1 h2 (by decide)
  · rw [hl, List.flatMap_append]
    exact own_st p2 h2 (by decide)
  · have f : Fr B (fun _ => False) w0 W := Fr.of_below h.bl
    exact ((f.setCell (p := ⟨a, 0, none⟩) (.inr hb.1) v1).setCell (p := ⟨b, 0, none⟩) (.inr hb.2.1) v2).toBelow (Nat.le_refl _) (fun _ e => e.elim)
end

set_option maxRecDepth 100000 in
set_option maxHeartbeats 4000000 in
theorem give_any {w : World} {B a b c : Nat} {most : Int} {l : List KV} (h : Gv w B a b c most l) (x : KV) (hl : l.length ≤ 100000) (hB : B ≤ w.heap.size) :
    Calls Try.prog 32 #[.string x.k, .agg #[.int .i64 x.p, .int .i64 x.c], .pointer (some ⟨a, 0, none⟩), .pointer (some ⟨b, 0, none⟩), .pointer (some ⟨c, 0, none⟩)] w fun e w' => e = .returned (.bool (!((l.length : Int) + 1 == most))) ∧ Gv w' B a b c most (l ++ [x]) ∧ Below B w w' := by
  obtain ⟨i1, hi1, hz1, hy1, hx1⟩ := info_parts infoStr
  obtain ⟨i2, hi2, hz2, hy2, hx2⟩ := info_parts infoRid
  obtain ⟨⟨hba, hbb, hbc⟩, hc, sk, sv, ca, cb, o1, o2⟩ := h
  have hlc := (Array.getElem?_eq_some_iff.1 hc).1
  have hla := (Array.getElem?_eq_some_iff.1 ca).1
  have hlb := (Array.getElem?_eq_some_iff.1 cb).1
  have g00 : GS B a b c w.heap.size most sk sv x sk l.length (l.map keyV) sv l.length (l.flatMap ridV) w (w.alloc (.cells #[.int .i64 x.p, .int .i64 x.c] 35)) := by
    have hb := (Below.refl w.heap.size w).alloc (Nat.le_refl _) (.cells #[.int .i64 x.p, .int .i64 x.c] 35)
    exact ⟨Nat.le_trans hB hb.size, hb.mono hB, (hb.block a hla).trans ca, (hb.block b hlb).trans cb, (hb.block c hlc).trans hc, heap_alloc_new w _, own_up o1 hb, own_up o2 hb, fun e => by have := own_lt o2 e; omega⟩
  have G0 := Lib.hid g00.drew
  clear g00 o1 o2 ca cb hc hla hlb hlc
  have HBC := Lib.hid (And.intro hba (And.intro hbb hbc))
  clear hba hbb hbc
  go_enter Try.func32, Try.ntmps32
  go_wp2
  generalize w.heap.size = n at *
  generalize hW : w.alloc (.cells #[.int .i64 x.p, .int .i64 x.c] 35) = W0 at *
  clear hW
  refine wp_region_F (GvS a b n sk sv x) GvT (by kernel_rfl) ?_
  generalize W0.drew = W1 at *
  refine wpAnyF_take0 (i := 1) (oi := ⟨_, _, _, _, _, _⟩) (v := ?_) rfl (by kernel_rfl) (by kernel_rfl) (by kernel_rfl) (fun _ _ _ h => h) (Or.inl ⟨by rfl, ?_⟩) ?_
  rotate_left
  · intro W _
    go_simp
    try with_reducible rfl
  rotate_left
  try simp only [Act.put, List.setIfInBounds_toArray, List.set_cons_zero, List.set_cons_succ]
  refine wpAnyF_take true (i := 0) (oi := ⟨_, _, _, _, _, _⟩) (v := sk) rfl (by kernel_rfl) (by kernel_rfl) (by kernel_rfl) (by kernel_rfl) (fun _ _ _ h => h) (G0.out.s true) (Or.inl ⟨by rfl, fun W hSW => ?_⟩) ?_
  · have hS : W.cell? ⟨a, 0, none⟩ = some sk := hSW
    go_simp
  try simp only [Act.put, List.setIfInBounds_toArray, List.set_cons_zero, List.set_cons_succ]
  refine wpAnyF_take false (i := 4) (oi := ⟨_, _, _, _, _, _⟩) (v := sv) rfl (by kernel_rfl) (by kernel_rfl) (by kernel_rfl) (by kernel_rfl) (fun _ _ _ h => h) (G0.out.s false) (Or.inl ⟨by rfl, fun W hSW => ?_⟩) ?_
  · have hS : W.cell? ⟨b, 0, none⟩ = some sv := hSW.1
    go_simp
  try simp only [Act.put, List.setIfInBounds_toArray, List.set_cons_zero, List.set_cons_succ]
  refine wpAnyF_take false (i := 5) (oi := ⟨_, _, _, _, _, _⟩) (v := .agg #[.int .i64 x.p, .int .i64 x.c]) rfl (by kernel_rfl) (by kernel_rfl) (by kernel_rfl) (by kernel_rfl) (fun _ _ _ h => h) (G0.out.s false) (Or.inl ⟨by rfl, fun W hSW => ?_⟩) ?_
  · exact held_row 35 (.tmp 6) (by rfl) n (by rfl) 35 _ (0, 0) _ hSW.2 undRID rfl (szRIDz x.p x.c)
  try simp only [Act.put, List.setIfInBounds_toArray, List.set_cons_zero, List.set_cons_succ]
  refine wpAnyF_ready (rs := [2, 6]) (by kernel_rfl) (by simp) ?_
  refine AllReadyF.cons (o := ⟨_, _, _, _, _, _⟩) rfl (fun K hK => ?_) (AllReadyF.cons (o := ⟨_, _, _, _, _, _⟩) rfl (fun K hK => ?_) AllReadyF.nil)
  · go_simp
    refine hK.out _ _ (fun k _ _ => (G0.out.alloc _).s k) ?_
    clear hK K
    try simp only [Act.put, List.setIfInBounds_toArray, List.set_cons_zero, List.set_cons_succ]
    have G2 := Lib.hid (G0.out.alloc (.cells #[.string x.k] 9))
    have N1 := Lib.hid (heap_alloc_new W1 (.cells #[.string x.k] 9))
    generalize W1.alloc (.cells #[.string x.k] 9) = W2 at *
    generalize W1.heap.size = k1 at *
    clear G0
    refine wpAnyF_ready (rs := [3, 6]) (by kernel_rfl) (by simp) ?_
    refine AllReadyF.cons (o := ⟨_, _, _, _, _, _⟩) rfl (fun K hK => ?_) (AllReadyF.cons (o := ⟨_, _, _, _, _, _⟩) rfl (fun K hK => ?_) AllReadyF.nil)
    · refine step_append_lies _ rfl (.tmp 8) (.tmp 10) 27 rfl B 9 i1 (.string ⟨#[]⟩) 1 16 undStrs hi1 hz1 hy1 hx1 rfl (by decide) sk l.length (l.map keyV) rfl G2.out.o1 ⟨k1, 0, none⟩ 1 1 [.string x.k] rfl rfl (World.news_of_block N1.out) (by intro u hu; simp at hu; subst hu; rfl) (by decide) (by unfold maxLen; omega) (by omega) G2.out.hB _ rfl ?_
      intro g3 c3 W3 ho hg hq _
      have G3 := Lib.hid (G2.out.app1 ho hg)
      refine hK.out _ _ (fun k _ _ => G3.out.s k) ?_
      clear hK K ho hg hq G2
      try simp only [Act.put, List.setIfInBounds_toArray, List.set_cons_zero, List.set_cons_succ]
      clear N1
      refine wpAnyF_ready (rs := [6]) (by kernel_rfl) (by simp) ?_
      refine AllReadyF.cons (o := ⟨_, _, _, _, _, _⟩) rfl (fun K hK => ?_) AllReadyF.nil
      go_simp
      refine hK.out _ _ (fun k _ _ => (G3.out.alloc _).s k) ?_
      clear hK K
      try simp only [Act.put, List.setIfInBounds_toArray, List.set_cons_zero, List.set_cons_succ]
      have G4 := Lib.hid (G3.out.alloc (.cells #[.int .i64 x.p, .int .i64 x.c] 35))
      have N2 := Lib.hid (heap_alloc_new W3 (.cells #[.int .i64 x.p, .int .i64 x.c] 35))
      generalize W3.alloc (.cells #[.int .i64 x.p, .int .i64 x.c] 35) = W4 at *
      generalize W3.heap.size = k2 at *
      clear G3
      refine wpAnyF_ready (rs := [7]) (by kernel_rfl) (by simp) ?_
      refine AllReadyF.cons (o := ⟨_, _, _, _, _, _⟩) rfl (fun K hK => ?_) AllReadyF.nil
      refine step_append_lies _ rfl (.tmp 12) (.tmp 14) 28 rfl B 35 i2 (.agg #[.int .i64 0, .int .i64 0]) 2 16 undRids hi2 hz2 hy2 hx2 rfl (by decide) sv l.length (l.flatMap ridV) rfl G4.out.o2 ⟨k2, 0, none⟩ 1 1 [.int .i64 x.p, .int .i64 x.c] rfl rfl (World.news_of_block N2.out) (by intro u hu; simp at hu; rcases hu with rfl | rfl <;> rfl) (by decide) (by unfold maxLen; omega) (by omega) G4.out.hB _ rfl ?_
      intro g5 c5 W5 ho hg hq _
      have G5 := Lib.hid (G4.out.app2 ho hg hq)
      refine hK.out _ _ (fun k _ _ => G5.out.s k) ?_
      clear hK K ho hg hq G4
      try simp only [Act.put, List.setIfInBounds_toArray, List.set_cons_zero, List.set_cons_succ]
      clear N2
      refine wpAnyF_ready (rs := [8]) (by kernel_rfl) (by simp) ?_
      refine AllReadyF.cons (o := ⟨_, _, _, _, _, _⟩) rfl (fun K hK => ?_) AllReadyF.nil
      have hca := cell_of G5.out.ca 0
      have hca1 : W5.cell? ⟨a, 0, none⟩ = some sk := hca.1
      have hca2 := hca.2
      clear hca
      go_simp
      refine hK.out _ _ (fun k hT _ => by
        cases k with
        | true => cases hT
        | false => exact G5.out.st1 _) ?_
      clear hK K hca1 hca2
      try simp only [Act.put, List.setIfInBounds_toArray, List.set_cons_zero, List.set_cons_succ]
      refine wpAnyF_ready (rs := [9]) (by kernel_rfl) (by simp) ?_
      refine AllReadyF.cons (o := ⟨_, _, _, _, _, _⟩) rfl (fun K hK => ?_) AllReadyF.nil
      have hcb : (W5.setCell ⟨a, 0, none⟩ (.slice (some ⟨g3, 0, none⟩) (l.length + 1) c3)).cell? ⟨b, 0, none⟩ = some sv := (G5.out.st1 _).1
      have hcb2 : (W5.setCell ⟨a, 0, none⟩ (.slice (some ⟨g3, 0, none⟩) (l.length + 1) c3)).frozen? ⟨b, 0, none⟩ = false := (cell_of ((Below.heap_setCell W5 ⟨a, 0, none⟩ (.slice (some ⟨g3, 0, none⟩) (l.length + 1) c3) b (ne_ty G5.out.cb G5.out.ca (by decide))).trans G5.out.cb) 0).2
      go_simp
      refine hK.out _ _ (fun k hT _ => by cases k <;> cases hT) ?_
      clear hK K hcb hcb2
      try simp only [Act.put, List.setIfInBounds_toArray, List.set_cons_zero, List.set_cons_succ]
      refine wpAnyF_done (by kernel_rfl) ?_ _
      have hf := G5.out.fin HBC.out
      have HF := Lib.hid (And.intro hf.1 hf.2.1)
      have hfa := hf.2.2.1
      have hfc := hf.2.2.2
      clear hf G5
      generalize (W5.setCell ⟨a, 0, none⟩ (.slice (some ⟨g3, 0, none⟩) (l.length + 1) c3)).setCell ⟨b, 0, none⟩ (.slice (some ⟨g5, 0, none⟩) (l.length + 1) c5) = W9 at *
      go_wp2
      go_ret
      exact ⟨rfl, HF.out.1, HF.out.2⟩
    · go_simp
      refine hK.out _ _ (fun k _ _ => (G2.out.alloc _).s k) ?_
      clear hK K
      try simp only [Act.put, List.setIfInBounds_toArray, List.set_cons_zero, List.set_cons_succ]
      have G8 := Lib.hid (G2.out.alloc (.cells #[.int .i64 x.p, .int .i64 x.c] 35))
      have N2 := Lib.hid (heap_alloc_new W2 (.cells #[.int .i64 x.p, .int .i64 x.c] 35))
      have N1' := Lib.hid ((((Below.refl _ W2).alloc (Nat.le_refl _) (.cells #[.int .i64 x.p, .int .i64 x.c] 35)).block _ (Array.getElem?_eq_some_iff.1 N1.out).1).trans N1.out)
      clear N1
      have N1 := N1'
      clear N1'
      generalize W2.alloc (.cells #[.int .i64 x.p, .int .i64 x.c] 35) = W8 at *
      generalize W2.heap.size = k2 at *
      clear G2
      refine wpAnyF_ready (rs := [3]) (by kernel_rfl) (by simp) ?_
      refine AllReadyF.cons (o := ⟨_, _, _, _, _, _⟩) rfl (fun K hK => ?_) AllReadyF.nil
      refine step_append_lies _ rfl (.tmp 8) (.tmp 10) 27 rfl B 9 i1 (.string ⟨#[]⟩) 1 16 undStrs hi1 hz1 hy1 hx1 rfl (by decide) sk l.length (l.map keyV) rfl G8.out.o1 ⟨k1, 0, none⟩ 1 1 [.string x.k] rfl rfl (World.news_of_block N1.out) (by intro u hu; simp at hu; subst hu; rfl) (by decide) (by unfold maxLen; omega) (by omega) G8.out.hB _ rfl ?_
      intro g9 c9 W9 ho hg hq _
      have G9 := Lib.hid (G8.out.app1 ho hg)
      have N2' := Lib.hid (blk_far G8.out.o1 N2.out (by decide) hg)
      clear N2
      have N2 := N2'
      clear N2'
      refine hK.out _ _ (fun k _ _ => G9.out.s k) ?_
      clear hK K ho hg hq G8
      try simp only [Act.put, List.setIfInBounds_toArray, List.set_cons_zero, List.set_cons_succ]
      clear N1
      refine wpAnyF_ready (rs := [7]) (by kernel_rfl) (by simp) ?_
      refine AllReadyF.cons (o := ⟨_, _, _, _, _, _⟩) rfl (fun K hK => ?_) AllReadyF.nil
      refine step_append_lies _ rfl (.tmp 12) (.tmp 14) 28 rfl B 35 i2 (.agg #[.int .i64 0, .int .i64 0]) 2 16 undRids hi2 hz2 hy2 hx2 rfl (by decide) sv l.length (l.flatMap ridV) rfl G9.out.o2 ⟨k2, 0, none⟩ 1 1 [.int .i64 x.p, .int .i64 x.c] rfl rfl (World.news_of_block N2.out) (by intro u hu; simp at hu; rcases hu with rfl | rfl <;> rfl) (by decide) (by unfold maxLen; omega) (by omega) G9.out.hB _ rfl ?_
      intro g10 c10 W10 ho hg hq _
      have G10 := Lib.hid (G9.out.app2 ho hg hq)
      refine hK.out _ _ (fun k _ _ => G10.out.s k) ?_
      clear hK K ho hg hq G9
      try simp only [Act.put, List.setIfInBounds_toArray, List.set_cons_zero, List.set_cons_succ]
      clear N2
      refine wpAnyF_ready (rs := [8]) (by kernel_rfl) (by simp) ?_
      refine AllReadyF.cons (o := ⟨_, _, _, _, _, _⟩) rfl (fun K hK => ?_) AllReadyF.nil
      have hca := cell_of G10.out.ca 0
      have hca1 : W10.cell? ⟨a, 0, none⟩ = some sk := hca.1
      have hca2 := hca.2
      clear hca
      go_simp
      refine hK.out _ _ (fun k hT _ => by
        cases k with
        | true => cases hT
        | false => exact G10.out.st1 _) ?_
      clear hK K hca1 hca2
      try simp only [Act.put, List.setIfInBounds_toArray, List.set_cons_zero, List.set_cons_succ]
      refine wpAnyF_ready (rs := [9]) (by kernel_rfl) (by simp) ?_
      refine AllReadyF.cons (o := ⟨_, _, _, _, _, _⟩) rfl (fun K hK => ?_) AllReadyF.nil
      have hcb : (W10.setCell ⟨a, 0, none⟩ (.slice (some ⟨g9, 0, none⟩) (l.length + 1) c9)).cell? ⟨b, 0, none⟩ = some sv := (G10.out.st1 _).1
      have hcb2 : (W10.setCell ⟨a, 0, none⟩ (.slice (some ⟨g9, 0, none⟩) (l.length + 1) c9)).frozen? ⟨b, 0, none⟩ = false := (cell_of ((Below.heap_setCell W10 ⟨a, 0, none⟩ (.slice (some ⟨g9, 0, none⟩) (l.length + 1) c9) b (ne_ty G10.out.cb G10.out.ca (by decide))).trans G10.out.cb) 0).2
      go_simp
      refine hK.out _ _ (fun k hT _ => by cases k <;> cases hT) ?_
      clear hK K hcb hcb2
      try simp only [Act.put, List.setIfInBounds_toArray, List.set_cons_zero, List.set_cons_succ]
      refine wpAnyF_done (by kernel_rfl) ?_ _
      have hf := G10.out.fin HBC.out
      have HF := Lib.hid (And.intro hf.1 hf.2.1)
      have hfa := hf.2.2.1
      have hfc := hf.2.2.2
      clear hf G10
      generalize (W10.setCell ⟨a, 0, none⟩ (.slice (some ⟨g9, 0, none⟩) (l.length + 1) c9)).setCell ⟨b, 0, none⟩ (.slice (some ⟨g10, 0, none⟩) (l.length + 1) c10) = W9 at *
      go_wp2
      go_ret
      exact ⟨rfl, HF.out.1, HF.out.2⟩
  · go_simp
    refine hK.out _ _ (fun k _ _ => (G0.out.alloc _).s k) ?_
    clear hK K
    try simp only [Act.put, List.setIfInBounds_toArray, List.set_cons_zero, List.set_cons_succ]
    have G13 := Lib.hid (G0.out.alloc (.cells #[.int .i64 x.p, .int .i64 x.c] 35))
    have N2 := Lib.hid (heap_alloc_new W1 (.cells #[.int .i64 x.p, .int .i64 x.c] 35))
    generalize W1.alloc (.cells #[.int .i64 x.p, .int .i64 x.c] 35) = W13 at *
    generalize W1.heap.size = k2 at *
    clear G0
    refine wpAnyF_ready (rs := [2]) (by kernel_rfl) (by simp) ?_
    refine AllReadyF.cons (o := ⟨_, _, _, _, _, _⟩) rfl (fun K hK => ?_) AllReadyF.nil
    go_simp
    refine hK.out _ _ (fun k _ _ => (G13.out.alloc _).s k) ?_
    clear hK K
    try simp only [Act.put, List.setIfInBounds_toArray, List.set_cons_zero, List.set_cons_succ]
    have G14 := Lib.hid (G13.out.alloc (.cells #[.string x.k] 9))
    have N1 := Lib.hid (heap_alloc_new W13 (.cells #[.string x.k] 9))
    have N2' := Lib.hid ((((Below.refl _ W13).alloc (Nat.le_refl _) (.cells #[.string x.k] 9)).block _ (Array.getElem?_eq_some_iff.1 N2.out).1).trans N2.out)
    clear N2
    have N2 := N2'
    clear N2'
    generalize W13.alloc (.cells #[.string x.k] 9) = W14 at *
    generalize W13.heap.size = k1 at *
    clear G13
    refine wpAnyF_ready (rs := [3]) (by kernel_rfl) (by simp) ?_
    refine AllReadyF.cons (o := ⟨_, _, _, _, _, _⟩) rfl (fun K hK => ?_) AllReadyF.nil
    refine step_append_lies _ rfl (.tmp 8) (.tmp 10) 27 rfl B 9 i1 (.string ⟨#[]⟩) 1 16 undStrs hi1 hz1 hy1 hx1 rfl (by decide) sk l.length (l.map keyV) rfl G14.out.o1 ⟨k1, 0, none⟩ 1 1 [.string x.k] rfl rfl (World.news_of_block N1.out) (by intro u hu; simp at hu; subst hu; rfl) (by decide) (by unfold maxLen; omega) (by omega) G14.out.hB _ rfl ?_
    intro g15 c15 W15 ho hg hq _
    have G15 := Lib.hid (G14.out.app1 ho hg)
    have N2' := Lib.hid (blk_far G14.out.o1 N2.out (by decide) hg)
    clear N2
    have N2 := N2'
    clear N2'
    refine hK.out _ _ (fun k _ _ => G15.out.s k) ?_
    clear hK K ho hg hq G14
    try simp only [Act.put, List.setIfInBounds_toArray, List.set_cons_zero, List.set_cons_succ]
    clear N1
    refine wpAnyF_ready (rs := [7]) (by kernel_rfl) (by simp) ?_
    refine AllReadyF.cons (o := ⟨_, _, _, _, _, _⟩) rfl (fun K hK => ?_) AllReadyF.nil
    refine step_append_lies _ rfl (.tmp 12) (.tmp 14) 28 rfl B 35 i2 (.agg #[.int .i64 0, .int .i64 0]) 2 16 undRids hi2 hz2 hy2 hx2 rfl (by decide) sv l.length (l.flatMap ridV) rfl G15.out.o2 ⟨k2, 0, none⟩ 1 1 [.int .i64 x.p, .int .i64 x.c] rfl rfl (World.news_of_block N2.out) (by intro u hu; simp at hu; rcases hu with rfl | rfl <;> rfl) (by decide) (by unfold maxLen; omega) (by omega) G15.out.hB _ rfl ?_
    intro g16 c16 W16 ho hg hq _
    have G16 := Lib.hid (G15.out.app2 ho hg hq)
    refine hK.out _ _ (fun k _ _ => G16.out.s k) ?_
    clear hK K ho hg hq G15
    try simp only [Act.put, List.setIfInBounds_toArray, List.set_cons_zero, List.set_cons_succ]
    clear N2
    refine wpAnyF_ready (rs := [8]) (by kernel_rfl) (by simp) ?_
    refine AllReadyF.cons (o := ⟨_, _, _, _, _, _⟩) rfl (fun K hK => ?_) AllReadyF.nil
    have hca := cell_of G16.out.ca 0
    have hca1 : W16.cell? ⟨a, 0, none⟩ = some sk := hca.1
    have hca2 := hca.2
    clear hca
    go_simp
    refine hK.out _ _ (fun k hT _ => by
      cases k with
      | true => cases hT
      | false => exact G16.out.st1 _) ?_
    clear hK K hca1 hca2
    try simp only [Act.put, List.setIfInBounds_toArray, List.set_cons_zero, List.set_cons_succ]
    refine wpAnyF_ready (rs := [9]) (by kernel_rfl) (by simp) ?_
    refine AllReadyF.cons (o := ⟨_, _, _, _, _, _⟩) rfl (fun K hK => ?_) AllReadyF.nil
    have hcb : (W16.setCell ⟨a, 0, none⟩ (.slice (some ⟨g15, 0, none⟩) (l.length + 1) c15)).cell? ⟨b, 0, none⟩ = some sv := (G16.out.st1 _).1
    have hcb2 : (W16.setCell ⟨a, 0, none⟩ (.slice (some ⟨g15, 0, none⟩) (l.length + 1) c15)).frozen? ⟨b, 0, none⟩ = false := (cell_of ((Below.heap_setCell W16 ⟨a, 0, none⟩ (.slice (some ⟨g15, 0, none⟩) (l.length + 1) c15) b (ne_ty G16.out.cb G16.out.ca (by decide))).trans G16.out.cb) 0).2
    go_simp
    refine hK.out _ _ (fun k hT _ => by cases k <;> cases hT) ?_
    clear hK K hcb hcb2
    try simp only [Act.put, List.setIfInBounds_toArray, List.set_cons_zero, List.set_cons_succ]
    refine wpAnyF_done (by kernel_rfl) ?_ _
    have hf := G16.out.fin HBC.out
    have HF := Lib.hid (And.intro hf.1 hf.2.1)
    have hfa := hf.2.2.1
    have hfc := hf.2.2.2
    clear hf G16
    generalize (W16.setCell ⟨a, 0, none⟩ (.slice (some ⟨g15, 0, none⟩) (l.length + 1) c15)).setCell ⟨b, 0, none⟩ (.slice (some ⟨g16, 0, none⟩) (l.length + 1) c16) = W9 at *
    go_wp2
    go_ret
    exact ⟨rfl, HF.out.1, HF.out.2⟩
end Go.Proofs.Ytejbbojephiifaa
