/- tree: parts in memory: halves. -/
import Derived.Test.YtejbbojephiifaaTeN
namespace Go.Proofs.Ytejbbojephiifaa
open Go.RowKit

/-- What else stands in a part's block: its type, and what comes behind. -/
abbrev Rest := TypeId × List Value
def R0 : Rest := (66, [])
def PartAt (w : World) (b : Nat) (R : Rest) (p q : Value) : Prop := w.heap[b]? = some (.cells (p :: q :: R.2).toArray R.1 (0, 0))
section
variable {w w' : World} {b : Nat} {R : Rest} {p q v : Value}
theorem PartAt.c0 (h : PartAt w b R p q) : w.cell? ⟨b, 0, none⟩ = some p := (cell_of h 0).1.trans rfl
theorem PartAt.c1 (h : PartAt w b R p q) : w.cell? ⟨b, 1, none⟩ = some q := (cell_of h 1).1.trans rfl
theorem PartAt.fz (h : PartAt w b R p q) (j : Nat) : w.frozen? ⟨b, j, none⟩ = false := (cell_of h j).2
theorem PartAt.lt (h : PartAt w b R p q) : b < w.heap.size := (Array.getElem?_eq_some_iff.1 h).1
theorem PartAt.same (h : PartAt w b R p q) (e : w'.heap[b]? = w.heap[b]?) : PartAt w' b R p q := e.trans h
theorem set0 (p q v : Value) (r : List Value) : (p :: q :: r).toArray.setIfInBounds 0 v = (v :: q :: r).toArray := by simp
theorem set1 (p q v : Value) (r : List Value) : (p :: q :: r).toArray.setIfInBounds 1 v = (p :: v :: r).toArray := by simp
theorem PartAt.put0 (h : PartAt w b R p q) (v : Value) : PartAt (w.setCell ⟨b, 0, none⟩ v) b R v q := by
  show (w.setCell ⟨b, 0, none⟩ v).heap[b]? = _
  rw [setCell_eq_setRow w b 0 _ _ (0, 0) v h, setRow_heap w b _ _ _ _ h, set0]
theorem PartAt.put1 (h : PartAt w b R p q) (v : Value) : PartAt (w.setCell ⟨b, 1, none⟩ v) b R p v := by
  show (w.setCell ⟨b, 1, none⟩ v).heap[b]? = _
  rw [setCell_eq_setRow w b 1 _ _ (0, 0) v h, setRow_heap w b _ _ _ _ h, set1]
theorem own_none (w : World) (e : TypeId) (k : Nat) : w.ownsRow 0 e k (.slice none 0 0) 0 [] := World.ownsRow_nil _ _ _ _
theorem nil_of {e : TypeId} {k : Nat} {xs : List Value} (h : w.ownsRow 0 e k (.slice none 0 0) 0 xs) : xs = [] := List.eq_nil_of_length_eq_zero (by have := h.1; simpa using this)
end

/-- A part that has such a list alone. -/
structure PAP (w : World) (b : Nat) (R : Rest) (v : Value) (l : List KV) : Prop where
  at_ : PartAt w b R v (.slice none 0 0)
  own : w.ownsRow 0 78 3 v l.length (l.flatMap KV.en)
  ne : v.ownBlock ≠ some b
section
variable {w w' : World} {b : Nat} {R : Rest} {v : Value} {l : List KV}
theorem PAP.same (h : PAP w b R v l) (e1 : w'.heap[b]? = w.heap[b]?) (e2 : ∀ k, v.ownBlock = some k → w'.heap[k]? = w.heap[k]?) : PAP w' b R v l := ⟨h.at_.same e1, own_same h.own e2, h.ne⟩
theorem PAP.fr (h : PAP w b R v l) {B : Nat} {S : Nat → Prop} (hf : Fr B S w w') (hB : w.heap.size ≤ B) (n1 : ¬ S b) (n2 : ∀ k, v.ownBlock = some k → ¬ S k) : PAP w' b R v l :=
  h.same (hf.block b (by have := h.at_.lt; omega) n1) (fun k hk => hf.block k (by have := own_lt h.own hk; omega) (n2 k hk))
theorem PAP.below (h : PAP w b R v l) (hb : Below w.heap.size w w') : PAP w' b R v l := h.same (hb.block b h.at_.lt) (fun k hk => hb.block k (own_lt h.own hk))
theorem PAP.lt (h : PAP w b R v l) : b < w.heap.size := h.at_.lt
end
/-- The blocks of a part. -/
abbrev MineP (b : Nat) (v : Value) : Nat → Prop := fun k => k = b ∨ v.ownBlock = some k

set_option maxHeartbeats 1000000 in
theorem halveP_nil (w : World) (b : Nat) (T : TypeId) (cs : Array Value) (hb : w.heap[b]? = some (.cells cs T (0, 0))) (hc : cs[0]? = some (.slice none 0 0)) :
    Calls Try.prog 44 #[.pointer (some ⟨b, 0, none⟩)] w fun e w' => e = .returned (.slice none 0 0) ∧ Below w.heap.size w w' := by
  have c0 : w.cell? ⟨b, 0, none⟩ = some (.slice none 0 0) := (cell_of hb _).1.trans hc
  have c1 : w.drew.cell? ⟨b, 0, none⟩ = some (.slice none 0 0) := c0
  have f1 : w.drew.frozen? ⟨b, 0, none⟩ = false := (cell_of hb 0).2
  have HD := Lib.hid (fun W => delP_none W (.slice none 0 0) rfl)
  have hW : w.setCell ⟨b, 0, none⟩ (.slice none 0 0) = w := by
    rw [setCell_eq_setRow w b 0 cs T (0, 0) _ hb]
    have : cs.setIfInBounds 0 (.slice none 0 0) = cs := by
      apply Array.ext_getElem?
      intro i
      rw [Array.getElem?_setIfInBounds]
      split
      · rename_i e; subst e
        split
        · exact hc.symm
        · rename_i h; rw [Array.getElem?_eq_none (by omega)]
      · rfl
    rw [this]
    exact setRow_self' _ _ _ _ _ hb
  have HW := Lib.hid hW
  clear hW hb hc
  go_enter Try.func44, Try.ntmps44
  go_wp2_with (go_at_call 56; refine (cloneP_nil _).mono ?_; rintro e w' ⟨rfl, hw⟩; obtain rfl := hw.symm; clear hw)
  go_region_with (go_at_call 41; refine (HD.out _).mono ?_; rintro e w' ⟨rfl, hw⟩; obtain rfl := hw.symm; clear hw)
  all_goals rw [HW.out]
  all_goals go_wp2
  all_goals go_ret
  all_goals exact ⟨rfl, (Below.refl _ _).drew⟩

/-- A part that has such a list alone. -/
structure PAQ (w : World) (b : Nat) (R : Rest) (v : Value) (l : List KN) : Prop where
  at_ : PartAt w b R (.slice none 0 0) v
  own : w.ownsRow 0 72 2 v l.length (l.flatMap KN.en)
  ne : v.ownBlock ≠ some b
section
variable {w w' : World} {b : Nat} {R : Rest} {v : Value} {l : List KN}
theorem PAQ.same (h : PAQ w b R v l) (e1 : w'.heap[b]? = w.heap[b]?) (e2 : ∀ k, v.ownBlock = some k → w'.heap[k]? = w.heap[k]?) : PAQ w' b R v l := ⟨h.at_.same e1, own_same h.own e2, h.ne⟩
theorem PAQ.fr (h : PAQ w b R v l) {B : Nat} {S : Nat → Prop} (hf : Fr B S w w') (hB : w.heap.size ≤ B) (n1 : ¬ S b) (n2 : ∀ k, v.ownBlock = some k → ¬ S k) : PAQ w' b R v l :=
  h.same (hf.block b (by have := h.at_.lt; omega) n1) (fun k hk => hf.block k (by have := own_lt h.own hk; omega) (n2 k hk))
theorem PAQ.below (h : PAQ w b R v l) (hb : Below w.heap.size w w') : PAQ w' b R v l := h.same (hb.block b h.at_.lt) (fun k hk => hb.block k (own_lt h.own hk))
theorem PAQ.lt (h : PAQ w b R v l) : b < w.heap.size := h.at_.lt
end
/-- The blocks of a part. -/
abbrev MineQ (b : Nat) (v : Value) : Nat → Prop := fun k => k = b ∨ v.ownBlock = some k

set_option maxHeartbeats 1000000 in
theorem halveQ_nil (w : World) (b : Nat) (T : TypeId) (cs : Array Value) (hb : w.heap[b]? = some (.cells cs T (0, 0))) (hc : cs[1]? = some (.slice none 0 0)) :
    Calls Try.prog 45 #[.pointer (some ⟨b, 1, none⟩)] w fun e w' => e = .returned (.slice none 0 0) ∧ Below w.heap.size w w' := by
  have c0 : w.cell? ⟨b, 1, none⟩ = some (.slice none 0 0) := (cell_of hb _).1.trans hc
  have c1 : w.drew.cell? ⟨b, 1, none⟩ = some (.slice none 0 0) := c0
  have f1 : w.drew.frozen? ⟨b, 1, none⟩ = false := (cell_of hb 1).2
  have HD := Lib.hid (fun W => delQ_none W (.slice none 0 0) rfl)
  have hW : w.setCell ⟨b, 1, none⟩ (.slice none 0 0) = w := by
    rw [setCell_eq_setRow w b 1 cs T (0, 0) _ hb]
    have : cs.setIfInBounds 1 (.slice none 0 0) = cs := by
      apply Array.ext_getElem?
      intro i
      rw [Array.getElem?_setIfInBounds]
      split
      · rename_i e; subst e
        split
        · exact hc.symm
        · rename_i h; rw [Array.getElem?_eq_none (by omega)]
      · rfl
    rw [this]
    exact setRow_self' _ _ _ _ _ hb
  have HW := Lib.hid hW
  clear hW hb hc
  go_enter Try.func45, Try.ntmps45
  go_wp2_with (go_at_call 57; refine (cloneQ_nil _).mono ?_; rintro e w' ⟨rfl, hw⟩; obtain rfl := hw.symm; clear hw)
  go_region_with (go_at_call 53; refine (HD.out _).mono ?_; rintro e w' ⟨rfl, hw⟩; obtain rfl := hw.symm; clear hw)
  all_goals rw [HW.out]
  all_goals go_wp2
  all_goals go_ret
  all_goals exact ⟨rfl, (Below.refl _ _).drew⟩

theorem PAP.put {w : World} {b : Nat} {R : Rest} {v v' : Value} {l l' : List KV} {w0 : World} (h : PAP w0 b R v l) (hb : w.heap[b]? = w0.heap[b]?) (ho : w.ownsRow 0 78 3 v' l'.length (l'.flatMap KV.en)) (hne : v'.ownBlock ≠ some b) : PAP (w.setCell ⟨b, 0, none⟩ v') b R v' l' := by
  refine ⟨(h.at_.same hb).put0 v', own_same ho (fun k hk => Below.heap_setCell _ _ _ _ (fun e => hne (by rw [hk]; exact congrArg some e))), hne⟩

set_option maxRecDepth 100000 in
set_option maxHeartbeats 1000000 in
theorem halveP_own (w : World) {b : Nat} {R : Rest} {v : Value} {l : List KV} (h : PAP w b R v l) (hl : 2 ≤ l.length) (hsm : l.length ≤ 1000) :
    Calls Try.prog 44 #[.pointer (some ⟨b, 0, none⟩)] w fun e w' => ∃ v1 v2, e = .returned v2 ∧ PAP w' b R v1 (l.take (l.length / 2)) ∧ v1.ownBlock = v.ownBlock ∧ w'.ownsRow 0 78 3 v2 (l.drop (l.length / 2)).length ((l.drop (l.length / 2)).flatMap KV.en) ∧ (∀ k, v2.ownBlock = some k → w.heap.size ≤ k) ∧ Fr w.heap.size (MineP b v) w w' := by
  obtain ⟨g, c, rfl, _, hgl⟩ := h.own.form (by omega)
  have c0 := h.at_.c0
  have f0 := h.at_.fz 0
  have hbl := h.at_.lt
  have hgb : g ≠ b := fun e => h.ne (by rw [e]; rfl)
  have hcells : ∀ i (hi : i < l.length) j, j < 3 → w.cell? ⟨g, i * 3 + j, none⟩ = (l[i]).en[j]? := fun i hi j hj => (own_cell KV.en_len h.own hi hj).1
  obtain ⟨n, hn⟩ : ∃ n, n = l.length := ⟨_, rfl⟩
  obtain ⟨hf, hhf⟩ : ∃ hf, hf = n / 2 := ⟨_, rfl⟩
  have hcap : n ≤ c := by
    rcases h.own.2 with ⟨e, _⟩ | ⟨g', cap, cur, e, _, _, h4, _⟩
    · cases e
    · cases e; omega
  have hsrc : ∀ j u, ((l.drop hf).flatMap KV.en)[j]? = some u → w.cell? ((⟨g, hf * 3, none⟩ : Addr).add j) = some u := fun j u hu => by
    have hj : j < (l.drop hf).length * 3 := by
      have := (List.getElem?_eq_some_iff.1 hu).1
      rwa [flat_len KV.en_len] at this
    rw [List.length_drop] at hj
    have e1 : j = j / 3 * 3 + j % 3 := by omega
    have hq : j / 3 < (l.drop hf).length := by rw [List.length_drop]; omega
    rw [e1, flat_at KV.en_len (l.drop hf) (j / 3) (j % 3) hq (by omega), List.getElem_drop] at hu
    rw [add_off, show hf * 3 + j = (hf + j / 3) * 3 + j % 3 by omega, hcells (hf + j / 3) (by omega) (j % 3) (by omega)]
    exact hu
  have HCL := Lib.hid (cloneP_any w g (l.drop hf) (hf * 3) (n - hf) (c - hf) (by omega) (by omega) (by rw [List.length_drop, hn]) hsrc)
  have hdel : ∀ W : World, W.ownsRow 0 78 3 (.slice (some ⟨g, 0, none⟩) n c) n (l.flatMap KV.en) → Calls Try.prog 41 #[.slice (some ⟨g, 0, none⟩) n c, .int .i64 hf, .int .i64 n] W fun e w' =>
      e = .returned (.slice (some ⟨g, 0, none⟩) hf c) ∧ w'.ownsRow 0 78 3 (.slice (some ⟨g, 0, none⟩) hf c) (l.take hf).length ((l.take hf).flatMap KV.en) ∧ Fr W.heap.size (fun b => b = g) W w' := fun W hW => by
    have := delP_any W g n c l hf n hn (by omega) (by omega) (Nat.le_refl _) hW
    rw [show n - (n - hf) = hf by omega, hn, List.drop_length, List.append_nil] at this
    rw [show (l.take hf).length = hf by rw [List.length_take]; omega]
    rw [← hn] at this
    exact this
  have HD := Lib.hid hdel
  have H := Lib.hid h
  have hq : (n : Int) / 2 = (hf : Int) := by omega
  have hq' : (n : Int).tdiv 2 = (hf : Int) := by rw [Int.tdiv_eq_ediv_of_nonneg (by omega)]; exact hq
  have hx1 : (hf : Int) ≤ (n : Int) := by omega
  have hx2 : ¬ c = hf := by omega
  have hx3 : hf ≤ n := by omega
  have hx4 : (hf : Int) ≤ 1000 := by omega
  have hln := Lib.hid hn
  rw [← hn] at c0 ⊢
  rw [← hhf]
  have HN : Hid (n ≤ 1000) := by show n ≤ 1000; omega
  have HG : Hid (g ≠ b) := hgb
  clear hdel hsrc hcells h hhf hl hsm hgb hcap hn
  go_enter Try.func44, Try.ntmps44
  go_upto_region 3 with (go_at_call 56; refine (HCL.out).mono ?_; rintro e w1 ⟨h2, cp, rfl, ho2, hb1⟩)
  have d0 : w1.cell? ⟨b, 0, none⟩ = some (.slice (some ⟨g, 0, none⟩) n c) := (World.cell?_of_block (hb1.block b hbl)).trans c0
  have HO : Hid (w1.ownsRow 0 78 3 (.slice (some ⟨g, 0, none⟩) n c) n (l.flatMap KV.en)) := by
    have := (H.out.below hb1).own
    rwa [← hln.out] at this
  have HOd : Hid (w1.drew.ownsRow 0 78 3 (.slice (some ⟨g, 0, none⟩) n c) n (l.flatMap KV.en)) := HO.out
  have D0 : Hid (w1.drew.cell? ⟨b, 0, none⟩ = some (.slice (some ⟨g, 0, none⟩) n c)) := d0
  have HB2 : Hid (PAP w1.drew b R (.slice (some ⟨g, 0, none⟩) l.length c) l) := (H.out.below hb1).same rfl (fun _ _ => rfl)
  have HO2 := Lib.hid ho2
  have HB1 := Lib.hid hb1
  clear ho2 hb1 c0 f0 HCL
  go_region_with (go_at_call 41; refine (HD.out w1.drew HOd.out).mono ?_; rintro e w2 ⟨rfl, ho3, hf3⟩; have e1 : w2.cell? ⟨b, 0, none⟩ = some (.slice (some ⟨g, 0, none⟩) n c) := (World.cell?_of_block (hf3.block b (Nat.lt_of_lt_of_le hbl HB1.out.size) (fun e => HG.out e.symm))).trans D0.out; have e2 : w2.frozen? ⟨b, 0, none⟩ = false := (World.frozen?_of_block (hf3.block b (Nat.lt_of_lt_of_le hbl HB1.out.size) (fun e => HG.out e.symm))).trans (HB2.out.at_.fz 0))
  all_goals go_wp2
  all_goals go_ret
  all_goals
    have hg2 : w.heap.size ≤ h2 := (HO2.out.lt h2 rfl).1
    have hl2 : h2 < w1.heap.size := (HO2.out.lt h2 rfl).2
    have hs1 : w.heap.size ≤ w1.heap.size := HB1.out.size
    have hle : (l.drop hf).length = n - hf := by rw [List.length_drop, hln.out]
    have ho4 : w2.ownsRow 0 78 3 (.slice (some ⟨h2, 0, none⟩) (n - hf) cp) (n - hf) ((l.drop hf).flatMap KV.en) := own_same (own_zero HO2.out) (fun k hk => by
      cases hk
      exact hf3.block h2 (show h2 < w1.heap.size from hl2) (show ¬ h2 = g by omega))
    refine ⟨.slice (some ⟨g, 0, none⟩) hf c, .slice (some ⟨h2, 0, none⟩) (n - hf) cp, rfl, HB2.out.put (hf3.block b (show b < w1.heap.size by omega) (fun e => HG.out e.symm)) ho3 (fun e => HG.out (Option.some.inj e)), rfl, ?_, (fun k hk => by cases hk; exact hg2), ?_⟩
    · rw [hle]
      exact own_same ho4 (fun k hk => by cases hk; exact Below.heap_setCell _ _ _ _ (show h2 ≠ b by omega))
    · exact (((Fr.of_below HB1.out).drew).trans hf3 hs1 (fun x _ e => .inr (by rw [e]; rfl))).setCell (p := ⟨b, 0, none⟩) (.inl (.inl rfl)) _

theorem PAQ.put {w : World} {b : Nat} {R : Rest} {v v' : Value} {l l' : List KN} {w0 : World} (h : PAQ w0 b R v l) (hb : w.heap[b]? = w0.heap[b]?) (ho : w.ownsRow 0 72 2 v' l'.length (l'.flatMap KN.en)) (hne : v'.ownBlock ≠ some b) : PAQ (w.setCell ⟨b, 1, none⟩ v') b R v' l' := by
  refine ⟨(h.at_.same hb).put1 v', own_same ho (fun k hk => Below.heap_setCell _ _ _ _ (fun e => hne (by rw [hk]; exact congrArg some e))), hne⟩

set_option maxRecDepth 100000 in
set_option maxHeartbeats 1000000 in
theorem halveQ_own (w : World) {b : Nat} {R : Rest} {v : Value} {l : List KN} (h : PAQ w b R v l) (hl : 2 ≤ l.length) (hsm : l.length ≤ 1000) :
    Calls Try.prog 45 #[.pointer (some ⟨b, 1, none⟩)] w fun e w' => ∃ v1 v2, e = .returned v2 ∧ PAQ w' b R v1 (l.take (l.length / 2)) ∧ v1.ownBlock = v.ownBlock ∧ w'.ownsRow 0 72 2 v2 (l.drop (l.length / 2)).length ((l.drop (l.length / 2)).flatMap KN.en) ∧ (∀ k, v2.ownBlock = some k → w.heap.size ≤ k) ∧ Fr w.heap.size (MineQ b v) w w' := by
  obtain ⟨g, c, rfl, _, hgl⟩ := h.own.form (by omega)
  have c0 := h.at_.c1
  have f0 := h.at_.fz 1
  have hbl := h.at_.lt
  have hgb : g ≠ b := fun e => h.ne (by rw [e]; rfl)
  have hcells : ∀ i (hi : i < l.length) j, j < 2 → w.cell? ⟨g, i * 2 + j, none⟩ = (l[i]).en[j]? := fun i hi j hj => (own_cell KN.en_len h.own hi hj).1
  obtain ⟨n, hn⟩ : ∃ n, n = l.length := ⟨_, rfl⟩
  obtain ⟨hf, hhf⟩ : ∃ hf, hf = n / 2 := ⟨_, rfl⟩
  have hcap : n ≤ c := by
    rcases h.own.2 with ⟨e, _⟩ | ⟨g', cap, cur, e, _, _, h4, _⟩
    · cases e
    · cases e; omega
  have hsrc : ∀ j u, ((l.drop hf).flatMap KN.en)[j]? = some u → w.cell? ((⟨g, hf * 2, none⟩ : Addr).add j) = some u := fun j u hu => by
    have hj : j < (l.drop hf).length * 2 := by
      have := (List.getElem?_eq_some_iff.1 hu).1
      rwa [flat_len KN.en_len] at this
    rw [List.length_drop] at hj
    have e1 : j = j / 2 * 2 + j % 2 := by omega
    have hq : j / 2 < (l.drop hf).length := by rw [List.length_drop]; omega
    rw [e1, flat_at KN.en_len (l.drop hf) (j / 2) (j % 2) hq (by omega), List.getElem_drop] at hu
    rw [add_off, show hf * 2 + j = (hf + j / 2) * 2 + j % 2 by omega, hcells (hf + j / 2) (by omega) (j % 2) (by omega)]
    exact hu
  have HCL := Lib.hid (cloneQ_any w g (l.drop hf) (hf * 2) (n - hf) (c - hf) (by omega) (by omega) (by rw [List.length_drop, hn]) hsrc)
  have hdel : ∀ W : World, W.ownsRow 0 72 2 (.slice (some ⟨g, 0, none⟩) n c) n (l.flatMap KN.en) → Calls Try.prog 53 #[.slice (some ⟨g, 0, none⟩) n c, .int .i64 hf, .int .i64 n] W fun e w' =>
      e = .returned (.slice (some ⟨g, 0, none⟩) hf c) ∧ w'.ownsRow 0 72 2 (.slice (some ⟨g, 0, none⟩) hf c) (l.take hf).length ((l.take hf).flatMap KN.en) ∧ Fr W.heap.size (fun b => b = g) W w' := fun W hW => by
    have := delQ_any W g n c l hf n hn (by omega) (by omega) (Nat.le_refl _) hW
    rw [show n - (n - hf) = hf by omega, hn, List.drop_length, List.append_nil] at this
    rw [show (l.take hf).length = hf by rw [List.length_take]; omega]
    rw [← hn] at this
    exact this
  have HD := Lib.hid hdel
  have H := Lib.hid h
  have hq : (n : Int) / 2 = (hf : Int) := by omega
  have hq' : (n : Int).tdiv 2 = (hf : Int) := by rw [Int.tdiv_eq_ediv_of_nonneg (by omega)]; exact hq
  have hx1 : (hf : Int) ≤ (n : Int) := by omega
  have hx2 : ¬ c = hf := by omega
  have hx3 : hf ≤ n := by omega
  have hx4 : (hf : Int) ≤ 1000 := by omega
  have hln := Lib.hid hn
  rw [← hn] at c0 ⊢
  rw [← hhf]
  have HN : Hid (n ≤ 1000) := by show n ≤ 1000; omega
  have HG : Hid (g ≠ b) := hgb
  clear hdel hsrc hcells h hhf hl hsm hgb hcap hn
  go_enter Try.func45, Try.ntmps45
  go_upto_region 3 with (go_at_call 57; refine (HCL.out).mono ?_; rintro e w1 ⟨h2, cp, rfl, ho2, hb1⟩)
  have d0 : w1.cell? ⟨b, 1, none⟩ = some (.slice (some ⟨g, 0, none⟩) n c) := (World.cell?_of_block (hb1.block b hbl)).trans c0
  have HO : Hid (w1.ownsRow 0 72 2 (.slice (some ⟨g, 0, none⟩) n c) n (l.flatMap KN.en)) := by
    have := (H.out.below hb1).own
    rwa [← hln.out] at this
  have HOd : Hid (w1.drew.ownsRow 0 72 2 (.slice (some ⟨g, 0, none⟩) n c) n (l.flatMap KN.en)) := HO.out
  have D0 : Hid (w1.drew.cell? ⟨b, 1, none⟩ = some (.slice (some ⟨g, 0, none⟩) n c)) := d0
  have HB2 : Hid (PAQ w1.drew b R (.slice (some ⟨g, 0, none⟩) l.length c) l) := (H.out.below hb1).same rfl (fun _ _ => rfl)
  have HO2 := Lib.hid ho2
  have HB1 := Lib.hid hb1
  clear ho2 hb1 c0 f0 HCL
  go_region_with (go_at_call 53; refine (HD.out w1.drew HOd.out).mono ?_; rintro e w2 ⟨rfl, ho3, hf3⟩; have e1 : w2.cell? ⟨b, 1, none⟩ = some (.slice (some ⟨g, 0, none⟩) n c) := (World.cell?_of_block (hf3.block b (Nat.lt_of_lt_of_le hbl HB1.out.size) (fun e => HG.out e.symm))).trans D0.out; have e2 : w2.frozen? ⟨b, 1, none⟩ = false := (World.frozen?_of_block (hf3.block b (Nat.lt_of_lt_of_le hbl HB1.out.size) (fun e => HG.out e.symm))).trans (HB2.out.at_.fz 1))
  all_goals go_wp2
  all_goals go_ret
  all_goals
    have hg2 : w.heap.size ≤ h2 := (HO2.out.lt h2 rfl).1
    have hl2 : h2 < w1.heap.size := (HO2.out.lt h2 rfl).2
    have hs1 : w.heap.size ≤ w1.heap.size := HB1.out.size
    have hle : (l.drop hf).length = n - hf := by rw [List.length_drop, hln.out]
    have ho4 : w2.ownsRow 0 72 2 (.slice (some ⟨h2, 0, none⟩) (n - hf) cp) (n - hf) ((l.drop hf).flatMap KN.en) := own_same (own_zero HO2.out) (fun k hk => by
      cases hk
      exact hf3.block h2 (show h2 < w1.heap.size from hl2) (show ¬ h2 = g by omega))
    refine ⟨.slice (some ⟨g, 0, none⟩) hf c, .slice (some ⟨h2, 0, none⟩) (n - hf) cp, rfl, HB2.out.put (hf3.block b (show b < w1.heap.size by omega) (fun e => HG.out e.symm)) ho3 (fun e => HG.out (Option.some.inj e)), rfl, ?_, (fun k hk => by cases hk; exact hg2), ?_⟩
    · rw [hle]
      exact own_same ho4 (fun k hk => by cases hk; exact Below.heap_setCell _ _ _ _ (show h2 ≠ b by omega))
    · exact (((Fr.of_below HB1.out).drew).trans hf3 hs1 (fun x _ e => .inr (by rw [e]; rfl))).setCell (p := ⟨b, 1, none⟩) (.inl (.inl rfl)) _
end Go.Proofs.Ytejbbojephiifaa
