/- tree: two neighbours share. -/
import Derived.Test.YtejbbojephiifaaTeQ
namespace Go.Proofs.Ytejbbojephiifaa
open Go.RowKit

theorem undPart : Try.prog.underlying 66 = some (.struct (Try.prog.fieldsOf 66)) := by kernel_rfl
theorem szPart (p q : Value) : (Try.prog.info? 66).map (·.size) = some (#[p, q] : Array Value).size := (by kernel_rfl : (Try.prog.info? 66).map (·.size) = some 2)
/-- A whole part laid over another one. -/
theorem PartAt.over {w : World} {b : Nat} {R : Rest} {p q p' q' : Value} (h : PartAt w b R p q) : PartAt (w.setRow b (putRow (p :: q :: R.2).toArray 0 [p', q'])) b R p' q' := by
  show (w.setRow b _).heap[b]? = _
  rw [setRow_heap w b _ _ _ _ h]
  show some (Obj.cells (((p :: q :: R.2).toArray.setIfInBounds 0 p').setIfInBounds 1 q') R.1 (0, 0)) = _
  rw [set0, set1]
theorem grown_same {w w' : World} {v : Option Nat} (g : w.grownBy w' v) {k : Nat} (hk : k < w.heap.size) (hne : v ≠ some k) : w'.heap[k]? = w.heap[k]? := g.block k hk (fun e => hne e.symm)

theorem PAP.put' {w w0 : World} {b : Nat} {R : Rest} {v v' : Value} {l l' : List KV} (h : PAP w0 b R v l) (hb : w.heap[b]? = w0.heap[b]?) (ho : w.ownsRow 0 78 3 v' l'.length (l'.flatMap KV.en)) (hne : v'.ownBlock ≠ some b) (u : Value) (hu : u = v') : PAP (w.setCell ⟨b, 0, none⟩ u) b R v' l' := by subst hu; exact h.put hb ho hne
/-- The other list of the part, laid anew as it was. -/
theorem PAP.other {w : World} {b : Nat} {R : Rest} {v : Value} {l : List KV} (h : PAP w b R v l) : PAP (w.setCell ⟨b, 1, none⟩ (.slice none 0 0)) b R v l :=
  ⟨h.at_.put1 _, own_same h.own (fun k hk => Below.heap_setCell _ _ _ _ (fun e => h.ne (by rw [hk]; exact congrArg some e))), h.ne⟩
/-- Two parts that have nothing in common. -/
structure TwoP (b : Nat) (v : Value) (b' : Nat) (v' : Value) : Prop where
  bb : b ≠ b'
  bv : v'.ownBlock ≠ some b
  vb : v.ownBlock ≠ some b'
  vv : ∀ k, v.ownBlock = some k → v'.ownBlock ≠ some k
abbrev BothP (b : Nat) (v : Value) (b' : Nat) (v' : Value) : Nat → Prop := fun k => MineP b v k ∨ MineP b' v' k

/-- What is behind the first statements of share: all in the left one. -/
structure ShP (w : World) (b : Nat) (R : Rest) (v : Value) (b' : Nat) (v' : Value) (l : List KV) (v1 : Value) (w' : World) : Prop where
  left : PAP w' b R v1 l
  right : PartAt w' b' R0 (.slice none 0 0) (.slice none 0 0)
  mine : ∀ k, v1.ownBlock = some k → v.ownBlock = some k ∨ w.heap.size ≤ k
  fr : Fr w.heap.size (BothP b v b' v') w w'

/-- Behind the append: the left part has all, the right one is as it was. -/
structure ShRP (w : World) (b : Nat) (R : Rest) (v : Value) (b' : Nat) (v' : Value) (l l' : List KV) (v1 : Value) (wr : World) : Prop where
  left : PAP wr b R v1 (l ++ l')
  right : PAP wr b' R0 v' l'
  mine : ∀ k, v1.ownBlock = some k → v.ownBlock = some k ∨ w.heap.size ≤ k
  fr : Fr w.heap.size (MineP b v) w wr
structure ShOP (w : World) (b : Nat) (R : Rest) (v : Value) (b' : Nat) (v' : Value) (l l' : List KV) (wr : World) : Prop where
  left : PAP wr b R v l
  right : PAP wr b' R0 v' l'
  fr : Fr w.heap.size (MineP b v) w wr
set_option maxRecDepth 100000 in
theorem run_appP (W : World) {b b' : Nat} {R : Rest} {g n c g' m c' : Nat} {l l' : List KV} (h : PAP W b R (.slice (some ⟨g, 0, none⟩) n c) l) (h' : PAP W b' R0 (.slice (some ⟨g', 0, none⟩) m c') l') (hn : n = l.length) (hm : m = l'.length) (h0 : 0 < m) (hsm : n + m ≤ 1000) :
    ∃ g1 c1 w1, (Builtin.append_ #[62, 62] 62 #[.slice (some ⟨g, 0, none⟩) n c, .slice (some ⟨g', 0, none⟩) m c']).run Try.prog W = .ok (.slice (some ⟨g1, 0, none⟩) (n + m) c1) w1 ∧ w1.ownsRow 0 78 3 (.slice (some ⟨g1, 0, none⟩) (n + m) c1) (l ++ l').length ((l ++ l').flatMap KV.en) ∧ W.grownBy w1 (some g) ∧ (g = g1 ∨ g1 = W.heap.size) := by
  obtain ⟨ii, hi, hz0, hz1, hz2⟩ := info_parts infoKV
  subst hn hm
  have hnews : ∀ j u, (l'.flatMap KV.en)[j]? = some u → W.cell? ((⟨g', 0, none⟩ : Addr).add j) = some u := h'.own.cells rfl
  have hone : ∀ u ∈ l'.flatMap KV.en, u.oneCell' = true := fun u hu => by
    obtain ⟨y, _, hy⟩ := List.mem_flatMap.1 hu
    exact y.en_one u hy
  obtain ⟨g1, c1, w1, hr, ho1, hgr, hat, hlt⟩ := run_append_lies (P := Try.prog) W 62 62 0 78 ii _ 3 32 Try.underlying62 hi hz0 hz1 hz2 rfl (by decide) (.slice (some ⟨g, 0, none⟩) l.length c) l.length (l.flatMap KV.en) h.own ⟨g', 0, none⟩ l'.length c' (l'.flatMap KV.en) (flat_len KV.en_len l') hnews hone h0 (by unfold maxLen; omega) (by omega) (Nat.zero_le _) _ rfl
  refine ⟨g1, c1, w1, hr, ?_, hgr, hat.imp_left (fun e => Option.some.inj e)⟩
  rw [List.length_append, List.flatMap_append]
  exact ho1
theorem run_noneP (W : World) : (Builtin.append_ #[62, 62] 62 #[.slice none 0 0, .slice none 0 0]).run Try.prog W = .ok (.slice none 0 0) W := by
  obtain ⟨ii, hi, hz0, hz1, hz2⟩ := info_parts infoKV
  have := run_append_owned_none (P := Try.prog) (w := W) 0 62 62 78 ii 3 Try.underlying62 hi (.slice none 0 0) 0 [] (own_none _ _ _)
  exact this

theorem PAQ.put' {w w0 : World} {b : Nat} {R : Rest} {v v' : Value} {l l' : List KN} (h : PAQ w0 b R v l) (hb : w.heap[b]? = w0.heap[b]?) (ho : w.ownsRow 0 72 2 v' l'.length (l'.flatMap KN.en)) (hne : v'.ownBlock ≠ some b) (u : Value) (hu : u = v') : PAQ (w.setCell ⟨b, 1, none⟩ u) b R v' l' := by subst hu; exact h.put hb ho hne
/-- The other list of the part, laid anew as it was. -/
theorem PAQ.other {w : World} {b : Nat} {R : Rest} {v : Value} {l : List KN} (h : PAQ w b R v l) : PAQ (w.setCell ⟨b, 0, none⟩ (.slice none 0 0)) b R v l :=
  ⟨h.at_.put0 _, own_same h.own (fun k hk => Below.heap_setCell _ _ _ _ (fun e => h.ne (by rw [hk]; exact congrArg some e))), h.ne⟩
/-- Two parts that have nothing in common. -/
structure TwoQ (b : Nat) (v : Value) (b' : Nat) (v' : Value) : Prop where
  bb : b ≠ b'
  bv : v'.ownBlock ≠ some b
  vb : v.ownBlock ≠ some b'
  vv : ∀ k, v.ownBlock = some k → v'.ownBlock ≠ some k
abbrev BothQ (b : Nat) (v : Value) (b' : Nat) (v' : Value) : Nat → Prop := fun k => MineQ b v k ∨ MineQ b' v' k

/-- What is behind the first statements of share: all in the left one. -/
structure ShQ (w : World) (b : Nat) (R : Rest) (v : Value) (b' : Nat) (v' : Value) (l : List KN) (v1 : Value) (w' : World) : Prop where
  left : PAQ w' b R v1 l
  right : PartAt w' b' R0 (.slice none 0 0) (.slice none 0 0)
  mine : ∀ k, v1.ownBlock = some k → v.ownBlock = some k ∨ w.heap.size ≤ k
  fr : Fr w.heap.size (BothQ b v b' v') w w'

/-- Behind the append: the left part has all, the right one is as it was. -/
structure ShRQ (w : World) (b : Nat) (R : Rest) (v : Value) (b' : Nat) (v' : Value) (l l' : List KN) (v1 : Value) (wr : World) : Prop where
  left : PAQ wr b R v1 (l ++ l')
  right : PAQ wr b' R0 v' l'
  mine : ∀ k, v1.ownBlock = some k → v.ownBlock = some k ∨ w.heap.size ≤ k
  fr : Fr w.heap.size (MineQ b v) w wr
structure ShOQ (w : World) (b : Nat) (R : Rest) (v : Value) (b' : Nat) (v' : Value) (l l' : List KN) (wr : World) : Prop where
  left : PAQ wr b R v l
  right : PAQ wr b' R0 v' l'
  fr : Fr w.heap.size (MineQ b v) w wr
set_option maxRecDepth 100000 in
theorem run_appQ (W : World) {b b' : Nat} {R : Rest} {g n c g' m c' : Nat} {l l' : List KN} (h : PAQ W b R (.slice (some ⟨g, 0, none⟩) n c) l) (h' : PAQ W b' R0 (.slice (some ⟨g', 0, none⟩) m c') l') (hn : n = l.length) (hm : m = l'.length) (h0 : 0 < m) (hsm : n + m ≤ 1000) :
    ∃ g1 c1 w1, (Builtin.append_ #[64, 64] 64 #[.slice (some ⟨g, 0, none⟩) n c, .slice (some ⟨g', 0, none⟩) m c']).run Try.prog W = .ok (.slice (some ⟨g1, 0, none⟩) (n + m) c1) w1 ∧ w1.ownsRow 0 72 2 (.slice (some ⟨g1, 0, none⟩) (n + m) c1) (l ++ l').length ((l ++ l').flatMap KN.en) ∧ W.grownBy w1 (some g) ∧ (g = g1 ∨ g1 = W.heap.size) := by
  obtain ⟨ii, hi, hz0, hz1, hz2⟩ := info_parts infoKN
  subst hn hm
  have hnews : ∀ j u, (l'.flatMap KN.en)[j]? = some u → W.cell? ((⟨g', 0, none⟩ : Addr).add j) = some u := h'.own.cells rfl
  have hone : ∀ u ∈ l'.flatMap KN.en, u.oneCell' = true := fun u hu => by
    obtain ⟨y, _, hy⟩ := List.mem_flatMap.1 hu
    exact y.en_one u hy
  obtain ⟨g1, c1, w1, hr, ho1, hgr, hat, hlt⟩ := run_append_lies (P := Try.prog) W 64 64 0 72 ii _ 2 24 Try.underlying64 hi hz0 hz1 hz2 rfl (by decide) (.slice (some ⟨g, 0, none⟩) l.length c) l.length (l.flatMap KN.en) h.own ⟨g', 0, none⟩ l'.length c' (l'.flatMap KN.en) (flat_len KN.en_len l') hnews hone h0 (by unfold maxLen; omega) (by omega) (Nat.zero_le _) _ rfl
  refine ⟨g1, c1, w1, hr, ?_, hgr, hat.imp_left (fun e => Option.some.inj e)⟩
  rw [List.length_append, List.flatMap_append]
  exact ho1
theorem run_noneQ (W : World) : (Builtin.append_ #[64, 64] 64 #[.slice none 0 0, .slice none 0 0]).run Try.prog W = .ok (.slice none 0 0) W := by
  obtain ⟨ii, hi, hz0, hz1, hz2⟩ := info_parts infoKN
  have := run_append_owned_none (P := Try.prog) (w := W) 0 64 64 72 ii 2 Try.underlying64 hi (.slice none 0 0) 0 [] (own_none _ _ _)
  exact this

/-- What share leaves. -/
def ShareRP (w : World) (b : Nat) (R : Rest) (g n c b' g' m c' : Nat) (l l' : List KV) (w' : World) : Prop :=
      ((n + m < 4 ∧ ∃ v1, PAP w' b R v1 (l ++ l') ∧ PartAt w' b' R0 (.slice none 0 0) (.slice none 0 0) ∧ (∀ k, v1.ownBlock = some k → g = k ∨ w.heap.size ≤ k) ∧ Fr w.heap.size (BothP b (.slice (some ⟨g, 0, none⟩) n c) b' (.slice (some ⟨g', 0, none⟩) m c')) w w') ∨
       (4 ≤ n + m ∧ ∃ v1 v2, PAP w' b R v1 ((l ++ l').take ((n + m) / 2)) ∧ PAP w' b' R0 v2 ((l ++ l').drop ((n + m) / 2)) ∧ (∀ k, v1.ownBlock = some k → g = k ∨ w.heap.size ≤ k) ∧ (∀ k, v2.ownBlock = some k → w.heap.size ≤ k ∧ v1.ownBlock ≠ some k) ∧ Fr w.heap.size (BothP b (.slice (some ⟨g, 0, none⟩) n c) b' (.slice (some ⟨g', 0, none⟩) m c')) w w'))
set_option maxRecDepth 100000 in
set_option maxHeartbeats 2000000 in
theorem shareP_any (w : World) {b b' g n c g' m c' : Nat} {R : Rest} {l l' : List KV} (h : PAP w b R (.slice (some ⟨g, 0, none⟩) n c) l) (h' : PAP w b' R0 (.slice (some ⟨g', 0, none⟩) m c') l') (ht : TwoP b (.slice (some ⟨g, 0, none⟩) n c) b' (.slice (some ⟨g', 0, none⟩) m c')) (hn : n = l.length) (hm : m = l'.length) (h0 : 0 < m) (hsm : n + m ≤ 1000) :
    Calls Try.prog 52 #[.pointer (some ⟨b, 0, none⟩), .pointer (some ⟨b', 0, none⟩)] w fun e w' => e = .returned (.tuple #[]) ∧
ShareRP w b R g n c b' g' m c' l l' w' := by
  have hgb : g ≠ b := fun e => h.ne (by rw [e]; rfl)
  have hgb' : g ≠ b' := fun e => ht.vb (by rw [e]; rfl)
  have hg'b : g' ≠ b := fun e => ht.bv (by rw [e]; rfl)
  have hgg : g' ≠ g := fun e => ht.vv g rfl (by rw [e]; rfl)
  have hbb := ht.bb
  have hbl := h.lt
  have hbl' := h'.lt
  have hgl' : g' < w.heap.size := own_lt h'.own rfl
  have HH0 := Lib.hid h
  have HH0' := Lib.hid h'
  have HT := Lib.hid ht
  have HN1 := Lib.hid hn
  have HM1 := Lib.hid hm
  go_enter Try.func52, Try.ntmps52
  go_upto_region 0 with (fail)
  go_cut [] (fun wx => ∃ v1, ShRP w b R (.slice (some ⟨g, 0, none⟩) n c) b' (.slice (some ⟨g', 0, none⟩) m c') l l' v1 wx)
  case first =>
    obtain ⟨g1, c1, w1, hr, ho1, hgr, hat⟩ := run_appP w.drew (h.same (w' := w.drew) rfl (fun _ _ => rfl)) (h'.same (w' := w.drew) rfl (fun _ _ => rfl)) hn hm h0 hsm
    have hwz : w.heap.size = w.drew.heap.size := rfl
    have hlb := h.lt
    have hlb' := h'.lt
    have hlg' : g' < w.heap.size := own_lt h'.own rfl
    have hg1b : g1 ≠ b := by
      rcases hat with e | e
      · omega
      · omega
    have e1 : w1.heap[b]? = w.heap[b]? := hgr.block b hlb (fun e => hgb (Option.some.inj e).symm)
    have e2 : w1.heap[b']? = w.heap[b']? := hgr.block b' hlb' (fun e => hgb' (Option.some.inj e).symm)
    have e3 : w1.heap[g']? = w.heap[g']? := hgr.block g' hlg' (fun e => hgg (Option.some.inj e))
    have a0 := h.at_.c0
    have a1 := h'.at_.c0
    have d0 : w1.cell? ⟨b, 0, none⟩ = some (.slice (some ⟨g, 0, none⟩) n c) := (World.cell?_of_block e1).trans a0
    have df : w1.frozen? ⟨b, 0, none⟩ = false := (World.frozen?_of_block e1).trans (h.at_.fz 0)
    have h2 : PAP (w1.setCell ⟨b, 0, none⟩ (.slice (some ⟨g1, 0, none⟩) (n + m) c1)) b R (.slice (some ⟨g1, 0, none⟩) (n + m) c1) (l ++ l') := h.put e1 ho1 (fun e => hg1b (Option.some.inj e))
    have h2' : PAP (w1.setCell ⟨b, 0, none⟩ (.slice (some ⟨g1, 0, none⟩) (n + m) c1)) b' R0 (.slice (some ⟨g', 0, none⟩) m c') l' := (h'.same e2 (fun k hk => by cases hk; exact e3) : PAP w1 b' R0 _ l').same (Below.heap_setCell _ _ _ _ hbb.symm) (fun k hk => by cases hk; exact Below.heap_setCell _ _ _ _ hg'b)
    have hfr2 : Fr w.heap.size (MineP b (.slice (some ⟨g, 0, none⟩) n c)) w (w1.setCell ⟨b, 0, none⟩ (.slice (some ⟨g1, 0, none⟩) (n + m) c1)) := ((Fr.refl w.heap.size (MineP b (.slice (some ⟨g, 0, none⟩) n c)) w).drew.grown hgr (Fr.refl w.heap.size (MineP b (.slice (some ⟨g, 0, none⟩) n c)) w).size (fun k hk => .inl (.inr hk))).setCell (p := ⟨b, 0, none⟩) (.inl (.inl rfl)) _
    have hmine : ∀ k, (Value.slice (some ⟨g1, 0, none⟩) (n + m) c1).ownBlock = some k → (Value.slice (some ⟨g, 0, none⟩) n c).ownBlock = some k ∨ w.heap.size ≤ k := fun k hk => by
      cases hk
      rcases hat with e | e
      · exact .inl (by rw [e]; rfl)
      · exact .inr (Nat.le_trans (Fr.refl w.heap.size (MineP b (.slice (some ⟨g, 0, none⟩) n c)) w).size (Nat.le_of_eq (e : g1 = w.heap.size).symm))
    have HR := Lib.hid hr
    have HS : Hid (ShRP w b R (.slice (some ⟨g, 0, none⟩) n c) b' (.slice (some ⟨g', 0, none⟩) m c') l l' (.slice (some ⟨g1, 0, none⟩) (n + m) c1) (w1.setCell ⟨b, 0, none⟩ (.slice (some ⟨g1, 0, none⟩) (n + m) c1))) := ⟨h2, h2', hmine, hfr2⟩
    clear hr h2 h2' hfr2 hmine ho1 hgr hat e1 e2 e3 hwz hn hm
    go_wp2_with fail
    go_region_law (refine step_append_r (v' := .slice (some ⟨g1, 0, none⟩) (n + m) c1) (w' := w1) rfl (.tmp 8) (.tmp 12) 62 62 rfl (.slice (some ⟨g, 0, none⟩) n c) (.slice (some ⟨g', 0, none⟩) m c') (by go_simp) (by go_simp) HR.out ?_)
    all_goals (go_wp2_with fail; go_meet; exact ⟨_, HS.out⟩)
  case rest =>
  obtain ⟨v1, hs⟩ := hcut
  have HS := Lib.hid hs
  clear hs h h' ht hn hm
  go_upto_region 1 with (fail)
  go_cut [] (fun wx => ∃ v1, ShRP w b R (.slice (some ⟨g, 0, none⟩) n c) b' (.slice (some ⟨g', 0, none⟩) m c') l l' v1 wx)
  case first =>
    have a0 := HS.out.left.at_.c1
    have a1 := HS.out.right.at_.c1
    have df := HS.out.left.at_.fz 1
    have HNN := Lib.hid (run_noneQ wc.drew)
    go_wp2_with fail
    go_region_law (refine step_append_r (v' := .slice none 0 0) (w' := wc.drew) rfl (.tmp 20) (.tmp 24) 64 64 rfl (.slice none 0 0) (.slice none 0 0) (by go_simp) (by go_simp) HNN.out ?_)
    all_goals (go_wp2_with fail; go_meet; (exact ⟨v1, ⟨HS.out.left.other.same rfl (fun _ _ => rfl), HS.out.right.same (Below.heap_setCell _ _ _ _ hbb.symm) (fun k hk => by cases hk; exact Below.heap_setCell _ _ _ _ hg'b), HS.out.mine, (HS.out.fr.setCell (p := ⟨b, 1, none⟩) (.inl (.inl rfl)) _).drew⟩⟩))
  case rest =>
  obtain ⟨v1, hs⟩ := hcut
  have HS := Lib.hid hs
  clear hs
  try clear hn hm
  generalize wc = w5 at *
  have hsz5 := HS.out.fr.size
  have H6 : Hid (PAP (w5.setRow b' (putRow (.slice (some ⟨g', 0, none⟩) m c' :: .slice none 0 0 :: R0.2).toArray 0 [.slice none 0 0, .slice none 0 0])) b R v1 (l ++ l')) := HS.out.left.same (setRow_far _ _ _ hbb) (fun k hk => setRow_far _ _ _ (fun e => by
    subst e
    rcases HS.out.mine _ hk with e | e
    · exact hgb' (Option.some.inj e)
    · omega))
  have H6' : Hid (PartAt (w5.setRow b' (putRow (.slice (some ⟨g', 0, none⟩) m c' :: .slice none 0 0 :: R0.2).toArray 0 [.slice none 0 0, .slice none 0 0])) b' R0 (.slice none 0 0) (.slice none 0 0)) := HS.out.right.at_.over
  have HF6 : Hid (Fr w.heap.size (BothP b (.slice (some ⟨g, 0, none⟩) n c) b' (.slice (some ⟨g', 0, none⟩) m c')) w (w5.setRow b' (putRow (.slice (some ⟨g', 0, none⟩) m c' :: .slice none 0 0 :: R0.2).toArray 0 [.slice none 0 0, .slice none 0 0]))) := (HS.out.fr.mono (Nat.le_refl _) (fun k _ e => .inl e)).setRow (b := b') (.inl (.inr (.inl rfl))) _
  have HMI := Lib.hid HS.out.mine
  have HRA : Hid (w5.heap[b']? = some (.cells (.slice (some ⟨g', 0, none⟩) m c' :: .slice none 0 0 :: R0.2).toArray R0.1 (0, 0))) := HS.out.right.at_
  have HSP := Lib.hid (szPart (.slice none 0 0) (.slice none 0 0))
  have HSL : Hid (0 + (#[.slice none 0 0, .slice none 0 0] : Array Value).size ≤ (.slice (some ⟨g', 0, none⟩) m c' :: .slice none 0 0 :: R0.2).toArray.size) := by show _ ≤ _; simp [R0]
  have HOO : Hid ((#[.slice none 0 0, .slice none 0 0] : Array Value).all (·.oneCell') = true) := by show _ = true; simp [Value.oneCell']
  have HLE : Hid ((l ++ l').length = n + m) := by show _ = _; rw [List.length_append, HN1.out, HM1.out]
  clear HS
  go_upto_region 3 with (with_reducible refine wpList_store_at rfl 66 (.tmp 30) (.tmp 29) rfl b' 0 #[.slice none 0 0, .slice none 0 0] rfl rfl R0.1 (.slice (some ⟨g', 0, none⟩) m c' :: .slice none 0 0 :: R0.2).toArray HRA.out HSP.out HSL.out HOO.out ?_)
  generalize w5.setRow b' (putRow (.slice (some ⟨g', 0, none⟩) m c' :: .slice none 0 0 :: R0.2).toArray 0 [.slice none 0 0, .slice none 0 0]) = w6 at *
  clear HRA HSP HSL HOO
  have HCN : Hid (Calls Try.prog 30 #[.pointer (some ⟨b, 0, none⟩)] w6 fun e w' => e = .returned (.int .i64 ((n + m : Nat) : Int)) ∧ Below w6.heap.size w6 w') := by
    have := countP_any w6 H6.out (by rw [HLE.out]; exact hsm)
    rw [HLE.out] at this
    exact this
  have hbl6 := H6'.out.lt
  obtain ⟨t, ht0⟩ : ∃ t, t = n + m := ⟨_, rfl⟩
  have HT0 := Lib.hid ht0
  rw [← ht0] at HCN HLE hsm
  have hmb : Hid (v1.ownBlock ≠ some b') := fun e => by
    rcases HMI.out _ e with e2 | e2
    · exact hgb' (Option.some.inj e2)
    · omega
  clear ht0
  by_cases h4 : t < 4
  · have h4I : ¬ (4 : Int) ≤ (t : Int) := by omega
    have H4 := Lib.hid h4
    clear h4
    go_wp2_with (go_at_call 30; refine HCN.out.mono ?_; rintro e w7 ⟨rfl, hb7⟩)
    go_end0
    exact ⟨rfl, .inl ⟨HT0.out ▸ H4.out, v1, H6.out.below hb7, H6'.out.same (hb7.block _ hbl6), (fun k hk => (HMI.out k hk).imp_left (fun e => Option.some.inj e)), HF6.out.below hb7 HF6.out.size⟩⟩
  · have h4I : (4 : Int) ≤ (t : Int) := by omega
    have H4 : Hid (4 ≤ t) := by show 4 ≤ t; omega
    have HSP := Lib.hid (fun W (hW : PAP W b R v1 (l ++ l')) => splitP_any W hW (by rw [HLE.out]; have := H4.out; omega) (by rw [HLE.out]; exact hsm))
    obtain ⟨l1, hl1⟩ : ∃ l1, l1 = (l ++ l').take (t / 2) := ⟨_, rfl⟩
    obtain ⟨l2, hl2⟩ : ∃ l2, l2 = (l ++ l').drop (t / 2) := ⟨_, rfl⟩
    have HL1 := Lib.hid hl1
    have HL2 := Lib.hid hl2
    rw [HLE.out, ← hl1, ← hl2] at HSP
    clear h4 hl1 hl2
    go_upto_region 4 with (go_at_call 30; refine HCN.out.mono ?_; rintro e w7 ⟨rfl, hb7⟩)
    have H7 := Lib.hid (H6.out.below hb7)
    have H7' : Hid (PartAt w7 b' R0 (.slice none 0 0) (.slice none 0 0)) := H6'.out.same (hb7.block _ hbl6)
    have HF7 := Lib.hid (HF6.out.below hb7 HF6.out.size)
    have hs7 : w6.heap.size ≤ w7.heap.size := hb7.size
    clear hb7
    have HSZ := Lib.hid (fun p q => szPart p q)
    have HX : Hid (∀ w8 N v1' A c2, PAP w8 b R v1' l1 → v1'.ownBlock = v1.ownBlock → PAP w8 N R0 (.slice A l2.length c2) l2 → w7.heap.size ≤ N → (∀ k, (Value.slice A l2.length c2).ownBlock = some k → w7.heap.size ≤ k) → Fr w7.heap.size (MineP b v1) w7 w8 →
        w8.heap[b']? = some (.cells (.slice none 0 0 :: .slice none 0 0 :: R0.2 : List Value).toArray R0.1 (0, 0)) ∧ (∀ j u, (#[.slice A l2.length c2, .slice none 0 0] : Array Value)[j]? = some u → w8.cell? ⟨N, 0 + j, none⟩ = some u)) := fun w8 N v1' A c2 h8 hv h8' hN hf2 hfr => by
      refine ⟨H7'.out.same (hfr.block b' (by omega) (fun e => ?_)), fun j u hu => ?_⟩
      · rcases e with e | e
        · exact hbb e.symm
        · exact hmb.out e
      · rw [Nat.zero_add, (cell_of h8'.at_ j).1]
        exact hu
    go_wp2_with (first
      | (go_at_call 35; refine (HSP.out _ H7.out).mono ?_; rintro e w8 ⟨N, v1', v2', rfl, h8, hv, h8', hN, hf2, hfr⟩; obtain ⟨A2, c2, rfl⟩ := own_shape h8'.own; have HX8 := Lib.hid (HX.out w8 N v1' A2 c2 h8 hv h8' hN hf2 hfr); have H8 := Lib.hid h8; have HV := Lib.hid hv; have H8' := Lib.hid h8'; have HNN := Lib.hid hN; have HF2 := Lib.hid hf2; have HFR := Lib.hid hfr; clear h8 hv h8' hN hf2 hfr; generalize hlen2 : l2.length = len2 at *; have HLL := Lib.hid hlen2; clear hlen2)
      | (with_reducible refine wpList_load_at rfl 66 (.tmp 37) rfl N 0 rfl #[.slice A2 len2 c2, .slice none 0 0] _ HX8.out.2 undPart rfl (HSZ.out _ _) ?_)
      | (with_reducible refine wpList_store_at rfl 66 (.tmp 39) (.tmp 38) rfl b' 0 #[.slice A2 len2 c2, .slice none 0 0] rfl rfl R0.1 (.slice none 0 0 :: .slice none 0 0 :: R0.2 : List Value).toArray HX8.out.1 (HSZ.out _ _) (by simp [R0]) (by simp [Value.oneCell']) ?_))
    go_end0
    refine ⟨rfl, .inr ⟨HT0.out ▸ H4.out, v1', .slice A2 len2 c2, ?_, ⟨?_, ?_, ?_⟩, ?_, ?_, ?_⟩⟩
    · rw [← HT0.out, ← HL1.out]
      exact H8.out.same (setRow_far _ _ _ hbb) (fun k hk => setRow_far _ _ _ (fun e => hmb.out (by rw [← HV.out, hk, e])))
    · exact (show PartAt w8 b' R0 (.slice none 0 0) (.slice none 0 0) from HX8.out.1).over
    · rw [← HT0.out, ← HL2.out]
      exact own_same H8'.out.own (fun k hk => setRow_far _ _ _ (fun e => by have := HF2.out k hk; omega))
    · exact fun e => by have := HF2.out b' e; omega
    · exact fun k hk => ((HMI.out k (HV.out ▸ hk))).imp_left (fun e => Option.some.inj e)
    · refine fun k hk => ⟨Nat.le_trans (Nat.le_trans HF6.out.size hs7) (HF2.out k hk), fun e => ?_⟩
      have h1 := own_lt H7.out.own (HV.out ▸ e)
      have h2 := HF2.out k hk
      omega
    · refine ((HF7.out.trans HFR.out HF7.out.size (fun x hx e => ?_))).setRow (b := b') (.inl (.inr (.inl rfl))) _
      rcases e with e | e
      · exact .inl (.inl e)
      · rcases HMI.out _ e with e2 | e2
        · exact .inl (.inr e2)
        · omega


/-- What share leaves. -/
def ShareRQ (w : World) (b : Nat) (R : Rest) (g n c b' g' m c' : Nat) (l l' : List KN) (w' : World) : Prop :=
      ((n + m < 4 ∧ ∃ v1, PAQ w' b R v1 (l ++ l') ∧ PartAt w' b' R0 (.slice none 0 0) (.slice none 0 0) ∧ (∀ k, v1.ownBlock = some k → g = k ∨ w.heap.size ≤ k) ∧ Fr w.heap.size (BothQ b (.slice (some ⟨g, 0, none⟩) n c) b' (.slice (some ⟨g', 0, none⟩) m c')) w w') ∨
       (4 ≤ n + m ∧ ∃ v1 v2, PAQ w' b R v1 ((l ++ l').take ((n + m) / 2)) ∧ PAQ w' b' R0 v2 ((l ++ l').drop ((n + m) / 2)) ∧ (∀ k, v1.ownBlock = some k → g = k ∨ w.heap.size ≤ k) ∧ (∀ k, v2.ownBlock = some k → w.heap.size ≤ k ∧ v1.ownBlock ≠ some k) ∧ Fr w.heap.size (BothQ b (.slice (some ⟨g, 0, none⟩) n c) b' (.slice (some ⟨g', 0, none⟩) m c')) w w'))
set_option maxRecDepth 100000 in
set_option maxHeartbeats 2000000 in
theorem shareQ_any (w : World) {b b' g n c g' m c' : Nat} {R : Rest} {l l' : List KN} (h : PAQ w b R (.slice (some ⟨g, 0, none⟩) n c) l) (h' : PAQ w b' R0 (.slice (some ⟨g', 0, none⟩) m c') l') (ht : TwoQ b (.slice (some ⟨g, 0, none⟩) n c) b' (.slice (some ⟨g', 0, none⟩) m c')) (hn : n = l.length) (hm : m = l'.length) (h0 : 0 < m) (hsm : n + m ≤ 1000) :
    Calls Try.prog 52 #[.pointer (some ⟨b, 0, none⟩), .pointer (some ⟨b', 0, none⟩)] w fun e w' => e = .returned (.tuple #[]) ∧
ShareRQ w b R g n c b' g' m c' l l' w' := by
  have hgb : g ≠ b := fun e => h.ne (by rw [e]; rfl)
  have hgb' : g ≠ b' := fun e => ht.vb (by rw [e]; rfl)
  have hg'b : g' ≠ b := fun e => ht.bv (by rw [e]; rfl)
  have hgg : g' ≠ g := fun e => ht.vv g rfl (by rw [e]; rfl)
  have hbb := ht.bb
  have hbl := h.lt
  have hbl' := h'.lt
  have hgl' : g' < w.heap.size := own_lt h'.own rfl
  have HH0 := Lib.hid h
  have HH0' := Lib.hid h'
  have HT := Lib.hid ht
  have HN1 := Lib.hid hn
  have HM1 := Lib.hid hm
  go_enter Try.func52, Try.ntmps52
  go_upto_region 0 with (fail)
  go_cut [] (fun wx => ShOQ w b R (.slice (some ⟨g, 0, none⟩) n c) b' (.slice (some ⟨g', 0, none⟩) m c') l l' wx)
  case first =>
    have a0 := HH0.out.at_.c0
    have a1 := HH0'.out.at_.c0
    have df := HH0.out.at_.fz 0
    have HNN := Lib.hid (run_noneP w.drew)
    go_wp2_with fail
    go_region_law (refine step_append_r (v' := .slice none 0 0) (w' := w.drew) rfl (.tmp 8) (.tmp 12) 62 62 rfl (.slice none 0 0) (.slice none 0 0) (by go_simp) (by go_simp) HNN.out ?_)
    all_goals (go_wp2_with fail; go_meet; (exact ⟨HH0.out.other.same rfl (fun _ _ => rfl), HH0'.out.same (Below.heap_setCell _ _ _ _ hbb.symm) (fun k hk => by cases hk; exact Below.heap_setCell _ _ _ _ hg'b), ((Fr.refl _ _ w).setCell (p := ⟨b, 0, none⟩) (.inl (.inl rfl)) _).drew⟩))
  case rest =>
  have HS := Lib.hid hcut
  clear h h' ht hcut
  go_upto_region 1 with (fail)
  go_cut [] (fun wx => ∃ v1, ShRQ w b R (.slice (some ⟨g, 0, none⟩) n c) b' (.slice (some ⟨g', 0, none⟩) m c') l l' v1 wx)
  case first =>
    obtain ⟨g1, c1, w1, hr, ho1, hgr, hat⟩ := run_appQ wc.drew (HS.out.left.same (w' := wc.drew) rfl (fun _ _ => rfl)) (HS.out.right.same (w' := wc.drew) rfl (fun _ _ => rfl)) hn hm h0 hsm
    have hwz : wc.heap.size = wc.drew.heap.size := rfl
    have hlb := HS.out.left.lt
    have hlb' := HS.out.right.lt
    have hlg' : g' < wc.heap.size := own_lt HS.out.right.own rfl
    have hg1b : g1 ≠ b := by
      rcases hat with e | e
      · omega
      · omega
    have e1 : w1.heap[b]? = wc.heap[b]? := hgr.block b hlb (fun e => hgb (Option.some.inj e).symm)
    have e2 : w1.heap[b']? = wc.heap[b']? := hgr.block b' hlb' (fun e => hgb' (Option.some.inj e).symm)
    have e3 : w1.heap[g']? = wc.heap[g']? := hgr.block g' hlg' (fun e => hgg (Option.some.inj e))
    have a0 := HS.out.left.at_.c1
    have a1 := HS.out.right.at_.c1
    have d0 : w1.cell? ⟨b, 1, none⟩ = some (.slice (some ⟨g, 0, none⟩) n c) := (World.cell?_of_block e1).trans a0
    have df : w1.frozen? ⟨b, 1, none⟩ = false := (World.frozen?_of_block e1).trans (HS.out.left.at_.fz 1)
    have h2 : PAQ (w1.setCell ⟨b, 1, none⟩ (.slice (some ⟨g1, 0, none⟩) (n + m) c1)) b R (.slice (some ⟨g1, 0, none⟩) (n + m) c1) (l ++ l') := HS.out.left.put e1 ho1 (fun e => hg1b (Option.some.inj e))
    have h2' : PAQ (w1.setCell ⟨b, 1, none⟩ (.slice (some ⟨g1, 0, none⟩) (n + m) c1)) b' R0 (.slice (some ⟨g', 0, none⟩) m c') l' := (HS.out.right.same e2 (fun k hk => by cases hk; exact e3) : PAQ w1 b' R0 _ l').same (Below.heap_setCell _ _ _ _ hbb.symm) (fun k hk => by cases hk; exact Below.heap_setCell _ _ _ _ hg'b)
    have hfr2 : Fr w.heap.size (MineQ b (.slice (some ⟨g, 0, none⟩) n c)) w (w1.setCell ⟨b, 1, none⟩ (.slice (some ⟨g1, 0, none⟩) (n + m) c1)) := ((HS.out.fr).drew.grown hgr (HS.out.fr).size (fun k hk => .inl (.inr hk))).setCell (p := ⟨b, 1, none⟩) (.inl (.inl rfl)) _
    have hmine : ∀ k, (Value.slice (some ⟨g1, 0, none⟩) (n + m) c1).ownBlock = some k → (Value.slice (some ⟨g, 0, none⟩) n c).ownBlock = some k ∨ w.heap.size ≤ k := fun k hk => by
      cases hk
      rcases hat with e | e
      · exact .inl (by rw [e]; rfl)
      · exact .inr (Nat.le_trans (HS.out.fr).size (Nat.le_of_eq (e : g1 = wc.heap.size).symm))
    have HR := Lib.hid hr
    have HS : Hid (ShRQ w b R (.slice (some ⟨g, 0, none⟩) n c) b' (.slice (some ⟨g', 0, none⟩) m c') l l' (.slice (some ⟨g1, 0, none⟩) (n + m) c1) (w1.setCell ⟨b, 1, none⟩ (.slice (some ⟨g1, 0, none⟩) (n + m) c1))) := ⟨h2, h2', hmine, hfr2⟩
    clear hr h2 h2' hfr2 hmine ho1 hgr hat e1 e2 e3 hwz hn hm
    go_wp2_with fail
    go_region_law (refine step_append_r (v' := .slice (some ⟨g1, 0, none⟩) (n + m) c1) (w' := w1) rfl (.tmp 20) (.tmp 24) 64 64 rfl (.slice (some ⟨g, 0, none⟩) n c) (.slice (some ⟨g', 0, none⟩) m c') (by go_simp) (by go_simp) HR.out ?_)
    all_goals (go_wp2_with fail; go_meet; exact ⟨_, HS.out⟩)
  case rest =>
  obtain ⟨v1, hs⟩ := hcut
  have HS := Lib.hid hs
  clear hs
  try clear hn hm
  generalize wc = w5 at *
  have hsz5 := HS.out.fr.size
  have H6 : Hid (PAQ (w5.setRow b' (putRow (.slice none 0 0 :: .slice (some ⟨g', 0, none⟩) m c' :: R0.2).toArray 0 [.slice none 0 0, .slice none 0 0])) b R v1 (l ++ l')) := HS.out.left.same (setRow_far _ _ _ hbb) (fun k hk => setRow_far _ _ _ (fun e => by
    subst e
    rcases HS.out.mine _ hk with e | e
    · exact hgb' (Option.some.inj e)
    · omega))
  have H6' : Hid (PartAt (w5.setRow b' (putRow (.slice none 0 0 :: .slice (some ⟨g', 0, none⟩) m c' :: R0.2).toArray 0 [.slice none 0 0, .slice none 0 0])) b' R0 (.slice none 0 0) (.slice none 0 0)) := HS.out.right.at_.over
  have HF6 : Hid (Fr w.heap.size (BothQ b (.slice (some ⟨g, 0, none⟩) n c) b' (.slice (some ⟨g', 0, none⟩) m c')) w (w5.setRow b' (putRow (.slice none 0 0 :: .slice (some ⟨g', 0, none⟩) m c' :: R0.2).toArray 0 [.slice none 0 0, .slice none 0 0]))) := (HS.out.fr.mono (Nat.le_refl _) (fun k _ e => .inl e)).setRow (b := b') (.inl (.inr (.inl rfl))) _
  have HMI := Lib.hid HS.out.mine
  have HRA : Hid (w5.heap[b']? = some (.cells (.slice none 0 0 :: .slice (some ⟨g', 0, none⟩) m c' :: R0.2).toArray R0.1 (0, 0))) := HS.out.right.at_
  have HSP := Lib.hid (szPart (.slice none 0 0) (.slice none 0 0))
  have HSL : Hid (0 + (#[.slice none 0 0, .slice none 0 0] : Array Value).size ≤ (.slice none 0 0 :: .slice (some ⟨g', 0, none⟩) m c' :: R0.2).toArray.size) := by show _ ≤ _; simp [R0]
  have HOO : Hid ((#[.slice none 0 0, .slice none 0 0] : Array Value).all (·.oneCell') = true) := by show _ = true; simp [Value.oneCell']
  have HLE : Hid ((l ++ l').length = n + m) := by show _ = _; rw [List.length_append, HN1.out, HM1.out]
  clear HS
  go_upto_region 3 with (with_reducible refine wpList_store_at rfl 66 (.tmp 30) (.tmp 29) rfl b' 0 #[.slice none 0 0, .slice none 0 0] rfl rfl R0.1 (.slice none 0 0 :: .slice (some ⟨g', 0, none⟩) m c' :: R0.2).toArray HRA.out HSP.out HSL.out HOO.out ?_)
  generalize w5.setRow b' (putRow (.slice none 0 0 :: .slice (some ⟨g', 0, none⟩) m c' :: R0.2).toArray 0 [.slice none 0 0, .slice none 0 0]) = w6 at *
  clear HRA HSP HSL HOO
  have HCN : Hid (Calls Try.prog 30 #[.pointer (some ⟨b, 0, none⟩)] w6 fun e w' => e = .returned (.int .i64 ((n + m : Nat) : Int)) ∧ Below w6.heap.size w6 w') := by
    have := countQ_any w6 H6.out (by rw [HLE.out]; exact hsm)
    rw [HLE.out] at this
    exact this
  have hbl6 := H6'.out.lt
  obtain ⟨t, ht0⟩ : ∃ t, t = n + m := ⟨_, rfl⟩
  have HT0 := Lib.hid ht0
  rw [← ht0] at HCN HLE hsm
  have hmb : Hid (v1.ownBlock ≠ some b') := fun e => by
    rcases HMI.out _ e with e2 | e2
    · exact hgb' (Option.some.inj e2)
    · omega
  clear ht0
  by_cases h4 : t < 4
  · have h4I : ¬ (4 : Int) ≤ (t : Int) := by omega
    have H4 := Lib.hid h4
    clear h4
    go_wp2_with (go_at_call 30; refine HCN.out.mono ?_; rintro e w7 ⟨rfl, hb7⟩)
    go_end0
    exact ⟨rfl, .inl ⟨HT0.out ▸ H4.out, v1, H6.out.below hb7, H6'.out.same (hb7.block _ hbl6), (fun k hk => (HMI.out k hk).imp_left (fun e => Option.some.inj e)), HF6.out.below hb7 HF6.out.size⟩⟩
  · have h4I : (4 : Int) ≤ (t : Int) := by omega
    have H4 : Hid (4 ≤ t) := by show 4 ≤ t; omega
    have HSP := Lib.hid (fun W (hW : PAQ W b R v1 (l ++ l')) => splitQ_any W hW (by rw [HLE.out]; have := H4.out; omega) (by rw [HLE.out]; exact hsm))
    obtain ⟨l1, hl1⟩ : ∃ l1, l1 = (l ++ l').take (t / 2) := ⟨_, rfl⟩
    obtain ⟨l2, hl2⟩ : ∃ l2, l2 = (l ++ l').drop (t / 2) := ⟨_, rfl⟩
    have HL1 := Lib.hid hl1
    have HL2 := Lib.hid hl2
    rw [HLE.out, ← hl1, ← hl2] at HSP
    clear h4 hl1 hl2
    go_upto_region 4 with (go_at_call 30; refine HCN.out.mono ?_; rintro e w7 ⟨rfl, hb7⟩)
    have H7 := Lib.hid (H6.out.below hb7)
    have H7' : Hid (PartAt w7 b' R0 (.slice none 0 0) (.slice none 0 0)) := H6'.out.same (hb7.block _ hbl6)
    have HF7 := Lib.hid (HF6.out.below hb7 HF6.out.size)
    have hs7 : w6.heap.size ≤ w7.heap.size := hb7.size
    clear hb7
    have HSZ := Lib.hid (fun p q => szPart p q)
    have HX : Hid (∀ w8 N v1' A c2, PAQ w8 b R v1' l1 → v1'.ownBlock = v1.ownBlock → PAQ w8 N R0 (.slice A l2.length c2) l2 → w7.heap.size ≤ N → (∀ k, (Value.slice A l2.length c2).ownBlock = some k → w7.heap.size ≤ k) → Fr w7.heap.size (MineQ b v1) w7 w8 →
        w8.heap[b']? = some (.cells (.slice none 0 0 :: .slice none 0 0 :: R0.2 : List Value).toArray R0.1 (0, 0)) ∧ (∀ j u, (#[.slice none 0 0, .slice A l2.length c2] : Array Value)[j]? = some u → w8.cell? ⟨N, 0 + j, none⟩ = some u)) := fun w8 N v1' A c2 h8 hv h8' hN hf2 hfr => by
      refine ⟨H7'.out.same (hfr.block b' (by omega) (fun e => ?_)), fun j u hu => ?_⟩
      · rcases e with e | e
        · exact hbb e.symm
        · exact hmb.out e
      · rw [Nat.zero_add, (cell_of h8'.at_ j).1]
        exact hu
    go_wp2_with (first
      | (go_at_call 35; refine (HSP.out _ H7.out).mono ?_; rintro e w8 ⟨N, v1', v2', rfl, h8, hv, h8', hN, hf2, hfr⟩; obtain ⟨A2, c2, rfl⟩ := own_shape h8'.own; have HX8 := Lib.hid (HX.out w8 N v1' A2 c2 h8 hv h8' hN hf2 hfr); have H8 := Lib.hid h8; have HV := Lib.hid hv; have H8' := Lib.hid h8'; have HNN := Lib.hid hN; have HF2 := Lib.hid hf2; have HFR := Lib.hid hfr; clear h8 hv h8' hN hf2 hfr; generalize hlen2 : l2.length = len2 at *; have HLL := Lib.hid hlen2; clear hlen2)
      | (with_reducible refine wpList_load_at rfl 66 (.tmp 37) rfl N 0 rfl #[.slice none 0 0, .slice A2 len2 c2] _ HX8.out.2 undPart rfl (HSZ.out _ _) ?_)
      | (with_reducible refine wpList_store_at rfl 66 (.tmp 39) (.tmp 38) rfl b' 0 #[.slice none 0 0, .slice A2 len2 c2] rfl rfl R0.1 (.slice none 0 0 :: .slice none 0 0 :: R0.2 : List Value).toArray HX8.out.1 (HSZ.out _ _) (by simp [R0]) (by simp [Value.oneCell']) ?_))
    go_end0
    refine ⟨rfl, .inr ⟨HT0.out ▸ H4.out, v1', .slice A2 len2 c2, ?_, ⟨?_, ?_, ?_⟩, ?_, ?_, ?_⟩⟩
    · rw [← HT0.out, ← HL1.out]
      exact H8.out.same (setRow_far _ _ _ hbb) (fun k hk => setRow_far _ _ _ (fun e => hmb.out (by rw [← HV.out, hk, e])))
    · exact (show PartAt w8 b' R0 (.slice none 0 0) (.slice none 0 0) from HX8.out.1).over
    · rw [← HT0.out, ← HL2.out]
      exact own_same H8'.out.own (fun k hk => setRow_far _ _ _ (fun e => by have := HF2.out k hk; omega))
    · exact fun e => by have := HF2.out b' e; omega
    · exact fun k hk => ((HMI.out k (HV.out ▸ hk))).imp_left (fun e => Option.some.inj e)
    · refine fun k hk => ⟨Nat.le_trans (Nat.le_trans HF6.out.size hs7) (HF2.out k hk), fun e => ?_⟩
      have h1 := own_lt H7.out.own (HV.out ▸ e)
      have h2 := HF2.out k hk
      omega
    · refine ((HF7.out.trans HFR.out HF7.out.size (fun x hx e => ?_))).setRow (b := b') (.inl (.inr (.inl rfl))) _
      rcases e with e | e
      · exact .inl (.inl e)
      · rcases HMI.out _ e with e2 | e2
        · exact .inl (.inr e2)
        · omega

end Go.Proofs.Ytejbbojephiifaa
