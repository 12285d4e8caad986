/- deed: the reference's stack in memory: Push, Save, down, Back, All; numbers. -/
import Derived.Test.YtacidmnhbhbmhaaDdO
namespace Go.Proofs.Ytacidmnhbhbmhaa
open Go.RowKit

/-- A slice that reads as these numbers. -/
def Rd (w : World) (v : Value) (l : List Int) : Prop := (v = .slice none 0 0 ∧ l = []) ∨ ∃ g o c, v = .slice (some ⟨g, o, none⟩) l.length c ∧ g < w.heap.size ∧ ∀ j (hj : j < l.length), w.cell? ⟨g, o + j, none⟩ = some (.int .i64 l[j])
theorem Rd.on {w w' : World} {v : Value} {l : List Int} (h : Rd w v l) (hb : Below w.heap.size w w') : Rd w' v l := by
  rcases h with h | ⟨g, o, c, h1, h2, h3⟩
  · exact .inl h
  · exact .inr ⟨g, o, c, h1, Nat.lt_of_lt_of_le h2 hb.size, fun j hj => (World.cell?_of_block (hb.block g h2)).trans (h3 j hj)⟩
theorem own_rd {w : World} {B n c : Nat} {p : Option Addr} {L : List Int} (h : w.ownsRow B 3 1 (.slice p n c) n (intV L)) {l : Nat} (hl : l ≤ n) : Rd w (sliced p l n c 1) (L.drop l) := by
  have hx := h.1
  rw [intV_len] at hx
  rcases h.2 with ⟨hv, hn⟩ | ⟨g, cap, cur, hv, _, hg, hnc, _, _, hxs⟩
  · injection hv with h1 h2 h3
    subst h1 h2 h3
    obtain rfl : l = 0 := by omega
    exact .inl ⟨rfl, by rw [List.drop_zero]; exact List.eq_nil_of_length_eq_zero (by omega)⟩
  · injection hv with h1 h2 h3
    subst h1 h3
    have hcell : ∀ i (hi : i < L.length), w.cell? ⟨g, i, none⟩ = some (.int .i64 L[i]) := fun i hi => by
      have e : (cur.toList.take (n * 1))[i]? = some (.int .i64 L[i]) := by rw [hxs]; simp [intV, hi]
      rw [List.getElem?_take, if_pos (by omega), Array.getElem?_toList] at e
      rw [(cell_of hg i).1]; exact e
    refine .inr ?_
    have hd : (L.drop l).length = n - l := by rw [List.length_drop]; omega
    by_cases hc : c = l
    · refine ⟨g, 0, c - l, by unfold sliced; rw [if_pos hc, hd], lt_of hg, fun j hj => by omega⟩
    · refine ⟨g, l, c - l, by unfold sliced; rw [if_neg hc, Option.map_some, add_more, Nat.zero_add, Nat.mul_one, hd], lt_of hg, fun j hj => ?_⟩
      rw [hcell (l + j) (by omega)]
      simp
theorem own_rd0 {w : World} {B n : Nat} {v : Value} {L : List Int} (h : w.ownsRow B 3 1 v n (intV L)) : Rd w v L := by
  obtain ⟨p, c, rfl⟩ := own_sl h
  have := own_rd h (Nat.zero_le n)
  rw [sliced_zero, List.drop_zero] at this
  exact this
theorem Rd.src {w : World} {v : Value} {l : List Int} (h : Rd w v l) : Src w v l.length (intV l) := by
  rcases h with ⟨rfl, rfl⟩ | ⟨g, o, c, rfl, h2, h3⟩
  · exact .inl ⟨rfl, rfl, rfl⟩
  · refine .inr ⟨_, c, rfl, fun j u hu => ?_⟩
    obtain ⟨hj, rfl⟩ := List.getElem?_eq_some_iff.1 hu
    rw [intV_len] at hj
    rw [add_more, h3 j hj]
    simp [intV]
/-- append of whatever is read to a row of one's own. -/
theorem run_app (w : World) (base n : Nat) (v : Value) (xs : List Value) (hown : w.ownsRow base 3 1 v n xs) (sv : Value) (l : List Int) (hs : Rd w sv l) (h63 : n + l.length < 200000) (hB : base ≤ w.heap.size) :
    ∃ v' w', (∀ ty, (Builtin.append_ #[27, 27] ty #[v, sv]).run Try.prog w = .ok v' w') ∧ w'.ownsRow base 3 1 v' (n + l.length) (xs ++ intV l) ∧ w.grownBy w' v.ownBlock ∧ (v'.ownBlock = v.ownBlock ∨ v'.ownBlock = some w.heap.size) := by
  obtain ⟨ii, hii, hy0, hy1, hy2⟩ := info_of infoI64
  rcases hs.src with ⟨rfl, h2, h3⟩ | ⟨ad, c, rfl, hnews⟩
  · rw [h2, h3]
    exact ⟨v, w, fun ty => run_append_owned_none (P := Try.prog) (w := w) base 27 ty 3 ii 1 Try.underlying27 hii v n xs hown, by simpa using hown, ⟨rfl, rfl, rfl, Nat.le_refl _, fun _ _ _ => rfl⟩, .inl rfl⟩
  · have hR := fun ty => run_append_own_at (P := Try.prog) w base 27 ty 3 ii (.int .i64 0) 1 8 Try.underlying27 hii hy0 hy1 hy2 rfl (by decide) v n xs hown ad l.length c (intV l) (by rw [intV_len, Nat.mul_one]) hnews (intV_one l) (by unfold maxLen; omega) (by omega) hB
    obtain ⟨v', w', hr, h2, h3, h4, h5⟩ := hR 0
    refine ⟨v', w', fun ty => ?_, h2, h3, h5⟩
    exact hr

/-- The reference's stack in memory. -/
structure RdAt (w : World) (B p : Nat) (v : Value) (L : List Int) (S : Nat → Int) : Prop where
  hp : ∃ cur, w.heap[p]? = some (.cells cur 31 (0, 0)) ∧ cur.size = 9 ∧ cur[0]? = some v ∧ ∀ i, i < 4 → ∃ s, cur[1 + i]? = some (.int .i64 s) ∧ cur[5 + i]? = some (.bool (decide (S i ≠ -1))) ∧ (S i ≠ -1 → s = S i)
  hl : w.ownsRow B 3 1 v L.length (intV L)
  lo : B ≤ p
def Dr (p : Nat) (v : Value) : Nat → Prop := fun k => k = p ∨ v.ownBlock = some k
section
variable {w w' : World} {B p : Nat} {v v' : Value} {L L' : List Int} {S : Nat → Int}
theorem RdAt.plt (h : RdAt w B p v L S) : p < w.heap.size := by obtain ⟨cur, h1, _⟩ := h.hp; exact lt_of h1
theorem RdAt.vp (h : RdAt w B p v L S) : v.ownBlock ≠ some p := fun e => by
  obtain ⟨cur, h1, _⟩ := h.hp
  exact absurd (own_ty h.hl e h1) (by decide)
theorem RdAt.dlt (h : RdAt w B p v L S) {k : Nat} (hk : Dr p v k) : k < w.heap.size ∧ B ≤ k := by
  rcases hk with rfl | hk
  · exact ⟨h.plt, h.lo⟩
  · exact ⟨(h.hl.lt k hk).2, (h.hl.lt k hk).1⟩
theorem RdAt.kept (h : RdAt w B p v L S) {X : Nat → Prop} (hf : Fr w.heap.size X w w') (hX : ∀ k, Dr p v k → ¬ X k) : RdAt w' B p v L S := by
  obtain ⟨cur, h1, h2⟩ := h.hp
  exact ⟨⟨cur, (hf.block p (lt_of h1) (hX p (.inl rfl))).trans h1, h2⟩, own_fr h.hl hf fun k hk => hX k (.inr hk), h.lo⟩
theorem RdAt.on (h : RdAt w B p v L S) (hb : Below w.heap.size w w') : RdAt w' B p v L S := h.kept (fr_of hb) (fun _ _ e => e)
theorem RdAt.c0 (h : RdAt w B p v L S) : w.cell? ⟨p, 0, none⟩ = some v ∧ w.frozen? ⟨p, 0, none⟩ = false := by
  obtain ⟨cur, h1, h2, h3, _⟩ := h.hp
  exact ⟨(cell_of h1 0).1.trans h3, (cell_of h1 0).2⟩
theorem RdAt.ci (h : RdAt w B p v L S) {i : Nat} (hi : i < 4) : ∃ s, w.cell? ⟨p, 1 + i, none⟩ = some (.int .i64 s) ∧ w.cell? ⟨p, 5 + i, none⟩ = some (.bool (decide (S i ≠ -1))) ∧ (S i ≠ -1 → s = S i) ∧ w.frozen? ⟨p, 1 + i, none⟩ = false ∧ w.frozen? ⟨p, 5 + i, none⟩ = false := by
  obtain ⟨cur, h1, h2, _, h3⟩ := h.hp
  obtain ⟨s, h4, h5, h6⟩ := h3 i hi
  exact ⟨s, (cell_of h1 _).1.trans h4, (cell_of h1 _).1.trans h5, h6, (cell_of h1 _).2, (cell_of h1 _).2⟩
theorem RdAt.put {w3 : World} (h : RdAt w B p v L S) {X : Nat → Prop} (hf : Fr w.heap.size X w w3) (hX : ¬ X p) (ho : w3.ownsRow B 3 1 v' L'.length (intV L')) : RdAt (w3.setCell ⟨p, 0, none⟩ v') B p v' L' S := by
  obtain ⟨cur, h1, h2, h3, h4⟩ := h.hp
  have e1 := (hf.block p (lt_of h1) hX).trans h1
  refine ⟨⟨_, heap_setCell_same _ p 0 _ _ _ e1, by rw [Array.size_setIfInBounds]; exact h2, Array.getElem?_setIfInBounds_self_of_lt (by omega), fun i hi => ?_⟩, ownsRow_setCell_other ho (fun e => absurd (own_ty ho e e1) (by decide)) v', h.lo⟩
  rw [Array.getElem?_setIfInBounds_ne (by omega), Array.getElem?_setIfInBounds_ne (by omega)]
  exact h4 i hi
theorem RdAt.is (h : RdAt w B p v L S) {n : Nat} (hn : n < 4) : RdAt (w.setCell ⟨p, 5 + n, none⟩ (.bool false)) B p v L (upS S n (-1)) := by
  obtain ⟨cur, h1, h2, h3, h4⟩ := h.hp
  refine ⟨⟨_, heap_setCell_same _ p (5 + n) _ _ _ h1, by rw [Array.size_setIfInBounds]; exact h2, by rw [Array.getElem?_setIfInBounds_ne (by omega)]; exact h3, fun i hi => ?_⟩, ownsRow_setCell_other h.hl h.vp _, h.lo⟩
  obtain ⟨s, h5, h6, h7⟩ := h4 i hi
  unfold upS
  by_cases e : i = n
  · subst e
    exact ⟨s, by rw [Array.getElem?_setIfInBounds_ne (by omega)]; exact h5, by rw [Array.getElem?_setIfInBounds_self_of_lt (by omega)]; simp, by simp⟩
  · exact ⟨s, by rw [Array.getElem?_setIfInBounds_ne (by omega)]; exact h5, by rw [Array.getElem?_setIfInBounds_ne (by omega), if_neg e]; exact h6, by rw [if_neg e]; exact h7⟩
theorem RdAt.set (h : RdAt w B p v L S) {n : Nat} (hn : n < 4) {x : Int} (hx : x ≠ -1) : RdAt ((w.setCell ⟨p, 1 + n, none⟩ (.int .i64 x)).setCell ⟨p, 5 + n, none⟩ (.bool true)) B p v L (upS S n x) := by
  obtain ⟨cur, h1, h2, h3, h4⟩ := h.hp
  refine ⟨⟨_, heap_setCell_same _ p (5 + n) _ _ _ (heap_setCell_same _ p (1 + n) _ _ _ h1), by rw [Array.size_setIfInBounds, Array.size_setIfInBounds]; exact h2, by rw [Array.getElem?_setIfInBounds_ne (by omega), Array.getElem?_setIfInBounds_ne (by omega)]; exact h3, fun i hi => ?_⟩, ownsRow_setCell_other (ownsRow_setCell_other h.hl h.vp _) h.vp _, h.lo⟩
  obtain ⟨s, h5, h6, h7⟩ := h4 i hi
  unfold upS
  by_cases e : i = n
  · subst e
    exact ⟨x, by rw [Array.getElem?_setIfInBounds_ne (by omega), Array.getElem?_setIfInBounds_self_of_lt (by omega)], by rw [Array.getElem?_setIfInBounds_self_of_lt (by rw [Array.size_setIfInBounds]; omega)]; simp [hx], by simp⟩
  · exact ⟨s, by rw [Array.getElem?_setIfInBounds_ne (by omega), Array.getElem?_setIfInBounds_ne (by omega)]; exact h5, by rw [Array.getElem?_setIfInBounds_ne (by omega), Array.getElem?_setIfInBounds_ne (by omega), if_neg e]; exact h6, by rw [if_neg e]; exact h7⟩
theorem RdAt.drew (h : RdAt w B p v L S) : RdAt w.drew B p v L S := ⟨h.hp, h.hl, h.lo⟩
theorem RdAt.congr (h : RdAt w B p v L S) {S' : Nat → Int} (hS : ∀ i, i < 4 → S i = S' i) : RdAt w B p v L S' := by
  obtain ⟨cur, h1, h2, h3, h4⟩ := h.hp
  exact ⟨⟨cur, h1, h2, h3, fun i hi => by rw [← hS i hi]; exact h4 i hi⟩, h.hl, h.lo⟩
end

set_option maxRecDepth 100000 in
set_option maxHeartbeats 1000000 in
theorem rsave_any (w : World) {B p : Nat} {v : Value} {L : List Int} {S : Nat → Int} (h : RdAt w B p v L S) {n : Nat} (hn : n < 4) :
    Calls Try.prog 9 #[.pointer (some ⟨p, 0, none⟩), .int .i64 (n : Int)] w fun e w' => e = .returned (.bool true) ∧ RdAt w' B p v L (upS S n (L.length : Int)) ∧ Fr w.heap.size (fun k => k = p) w w' := by
  obtain ⟨A, c, rfl⟩ := own_sl h.hl
  obtain ⟨s, c1, c2, _, f1, f2⟩ := h.ci hn
  have c0 := h.c0.1
  have HS := Lib.hid (h.drew.set hn (x := (L.length : Int)) (by omega))
  have hn0 : 0 ≤ (n : Int) := by omega
  have hn4 : (n : Int) < 4 := by omega
  have hF : Fr w.heap.size (fun k => k = p) w ((w.drew.setCell ⟨p, 1 + n, none⟩ (.int .i64 (L.length : Int))).setCell ⟨p, 5 + n, none⟩ (.bool true)) :=
    Fr.setCell (p := ⟨p, 5 + n, none⟩) (Fr.setCell (p := ⟨p, 1 + n, none⟩) (Fr.drew (Fr.refl w.heap.size (fun k => k = p) w)) (.inl rfl) _) (.inl rfl) _
  have HF := Lib.hid hF
  have hc3 : (w.drew.setCell ⟨p, 1 + n, none⟩ (.int .i64 (L.length : Int))).cell? ⟨p, 5 + n, none⟩ = some (.bool (decide (S n ≠ -1))) ∧ (w.drew.setCell ⟨p, 1 + n, none⟩ (.int .i64 (L.length : Int))).frozen? ⟨p, 5 + n, none⟩ = false := by
    obtain ⟨cur, h1, h2, _, h4⟩ := h.hp
    obtain ⟨s, h5, h6, _⟩ := h4 n hn
    have e := heap_setCell_same w.drew p (1 + n) _ _ (.int .i64 (L.length : Int)) h1
    refine ⟨(cell_of e _).1.trans ?_, (cell_of e _).2⟩
    rw [Array.getElem?_setIfInBounds_ne (by omega)]
    exact h6
  obtain ⟨hc4, hc5⟩ := hc3
  clear h hF
  go_enter Try.func9, Try.ntmps9
  go_wp2
  go_region
  go_wp2
  go_ret
  exact ⟨rfl, HS.out, HF.out⟩
theorem rsave_no (w : World) (p : Addr) (x : Int) (hx : x < 0 ∨ 4 ≤ x) : Calls Try.prog 9 #[.pointer (some p), .int .i64 x] w fun e w' => e = .returned (.bool false) ∧ w' = w := by
  by_cases h0 : x < 0
  · clear hx
    go_enter Try.func9, Try.ntmps9
    go_wp2
    go_ret
    exact ⟨rfl, rfl⟩
  · have h4 : 4 ≤ x := by omega
    clear hx
    go_enter Try.func9, Try.ntmps9
    go_wp2
    go_ret
    exact ⟨rfl, rfl⟩
end Go.Proofs.Ytacidmnhbhbmhaa
