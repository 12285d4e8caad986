/- What is appended to a row of one's own: bytes, zeros, entries; what is read of a log behind which a tile has other bytes. -/
import Derived.Test.YtemmhligohebfaaTrSa
import Derived.Laws.AppendOwnNone
import Derived.Maps.AppendAt
namespace Go.Proofs.Ytemmhligohebfaa
open Go.RowKit Go.Maps

/-- What may be appended: so many elements, and where they lie. -/
def Src (w : World) (sv : Value) (m : Nat) (news : List Value) : Prop :=
  (sv = .slice none 0 0 ∧ m = 0 ∧ news = []) ∨ ∃ ad c, sv = .slice (some ad) m c ∧ ∀ j u, news[j]? = some u → w.cell? (ad.add j) = some u
theorem Src.up {w w' : World} {sv : Value} {m : Nat} {news : List Value} (h : Src w sv m news) (hb : Below w.heap.size w w') : Src w' sv m news := by
  rcases h with h | ⟨ad, c, h1, h2⟩
  · exact .inl h
  · exact .inr ⟨ad, c, h1, fun j u hu => (World.cell?_of_block (hb.block _ (World.block_lt_of_cell? w _ (h2 j u hu)))).trans (h2 j u hu)⟩
theorem add_more (g i j : Nat) : (⟨g, i, none⟩ : Addr).add j = ⟨g, i + j, none⟩ := by unfold Addr.add; split <;> simp_all
theorem app_src {P : Program} (w : World) (base : Nat) (t ty e : TypeId) (i : TypeInfo) (z : Value) (size bytes : Nat) (ht : P.underlying t = some (.slice e)) (hi : P.info? e = some i) (hz : i.zero = some z)
    (hsize : i.size = size) (hby : i.bytes = bytes) (hzs : z.cells.size = size) (hsz : 0 < size)
    (g0 c0 n : Nat) (xs : List Value) (hown : w.ownsRow base e size (.slice (some ⟨g0, 0, none⟩) n c0) n xs)
    (sv : Value) (m : Nat) (news : List Value) (hsrc : Src w sv m news) (hl : news.length = m * size) (h1 : ∀ u ∈ news, u.oneCell' = true)
    (h63 : n + m ≤ maxLen) (hbytes : (n + m) * bytes ≤ 140737488355328) (hbase : base ≤ w.heap.size) :
    ∃ g c w', (Builtin.append_ #[t, t] ty #[.slice (some ⟨g0, 0, none⟩) n c0, sv]).run P w = .ok (.slice (some ⟨g, 0, none⟩) (n + m) c) w' ∧ w'.ownsRow base e size (.slice (some ⟨g, 0, none⟩) (n + m) c) (n + m) (xs ++ news) ∧ w.grownBy w' (some g0) := by
  rcases hsrc with ⟨rfl, rfl, rfl⟩ | ⟨ad, c, rfl, hnews⟩
  · have hrun := run_append_owned_none (P := P) (w := w) base t ty e i size ht hi _ n xs hown
    exact ⟨g0, c0, w, by simpa using hrun, by simpa using hown, ⟨rfl, rfl, rfl, Nat.le_refl _, fun _ _ _ => rfl⟩⟩
  · obtain ⟨v', w', hr, h2, h3, h4, h5⟩ := run_append_own_at (P := P) w base t ty e i z size bytes ht hi hz hsize hby hzs hsz _ n xs hown ad m c news hl hnews h1 h63 hbytes hbase
    rcases id h2.2 with ⟨h6, _⟩ | ⟨g, cap, cur, rfl, _⟩
    · have := (h4.1 h6).1
      cases this
    · exact ⟨g, cap, w', hr, h2, h3⟩
theorem below_grown {B B0 k n : Nat} {e : TypeId} {v : Value} {xs : List Value} {w0 w w' : World} (h : Below B0 w0 w) (ho : w.ownsRow B e k v n xs) (g : w.grownBy w' v.ownBlock) (hB : B0 ≤ w.heap.size) (hBB : B0 ≤ B) : Below B0 w0 w' :=
  ⟨g.os.trans h.os, g.tape.trans h.tape, g.output.trans h.output, Nat.le_trans h.size g.size, fun k hk => (g.block k (by omega) (fun e => by have := (ho.lt k e.symm).1; omega)).trans (h.block k hk)⟩

theorem src_bytes {w : World} {sv : Value} {l : List Int} (h : SlK .u8 w sv l) : Src w sv l.length (byteV l) := by
  obtain ⟨p, cap, rfl, hc, hwf, h0, h1⟩ := h
  cases p with
  | none =>
    obtain ⟨rfl, rfl⟩ := h0 rfl
    exact .inl ⟨rfl, rfl, rfl⟩
  | some a =>
    obtain ⟨h2, h3, h4⟩ := h1 a rfl
    obtain ⟨ab, ao, asp⟩ := a
    cases h2
    refine .inr ⟨_, _, rfl, fun j u hu => ?_⟩
    have hj : j < l.length := by
      have := (List.getElem?_eq_some_iff.1 hu).1
      simpa [byteV] using this
    have h5 := h4 j hj
    rw [add_more]
    rw [h5, ← hu]
    simp [byteV, hj]
/-- A tile of raw bytes, filled up with zeros. -/
theorem tile_bytes (w : World) {sv : Value} {l : List Int} (h : SlK .u8 w sv l) (hl : l.length ≤ 64) : ∃ v1 w1 v2 w2 g2, (Builtin.append_ #[34, 34] 34 #[.slice (some ⟨w.heap.size, 0, none⟩) 0 0, sv]).run Try.prog (w.alloc (.cells #[] 5)) = .ok v1 w1 ∧
    (∀ ty, (Builtin.append_ #[34, 3] ty #[v1, .int .i64 ((64 - l.length : Nat) : Int)]).run Try.prog w1 = .ok v2 w2) ∧ SlB w2 v2 (l ++ List.replicate (64 - l.length) 0) g2 ∧ w.heap.size ≤ g2 ∧ Below w.heap.size w w2 := by
  obtain ⟨i, hi, hz0, hz1, hz2⟩ := info_parts infoU8
  have hb2 := (Below.refl w.heap.size w).alloc (Nat.le_refl _) (.cells #[] 5)
  have ho := World.ownsRow_made (e := 5) (size := 1) w #[] 0 (Nat.le_refl w.heap.size) (by decide) rfl
  obtain ⟨g, c, w1, hr1, ho1, hg1⟩ := app_src (P := Try.prog) (w.alloc (.cells #[] 5)) w.heap.size 34 34 5 i (.int .u8 0) 1 1 Try.underlying34 hi hz0 hz1 hz2 rfl (by decide) _ 0 0 [] ho sv l.length (byteV l) ((src_bytes h).up hb2) (by simp [byteV]) (byteV_one _) (by unfold maxLen; omega) (by omega) hb2.size
  rw [Nat.zero_add, List.nil_append] at ho1
  rw [Nat.zero_add] at hr1
  have hb3 := below_grown hb2 ho hg1 hb2.size (Nat.le_refl _)
  obtain ⟨v2, w2, hr2, ho2, hg2⟩ := zeros_own w1 w.heap.size g l.length c l (64 - l.length) ho1 (by omega) hb3.size
  have hb4 := below_grown hb3 ho1 hg2 hb3.size (Nat.le_refl _)
  have hn : l.length + (64 - l.length) = 64 := by omega
  rw [hn] at ho2
  obtain ⟨g2, c2, hv2⟩ : ∃ g2 c2, v2 = .slice (some ⟨g2, 0, none⟩) 64 c2 := by
    rcases ho2.2 with ⟨_, h2⟩ | ⟨g, cap, cur, h1, _⟩
    · omega
    · exact ⟨g, cap, h1⟩
  have hll : (l ++ List.replicate (64 - l.length) 0).length = 64 := by rw [List.length_append, List.length_replicate]; exact hn
  refine ⟨_, w1, v2, w2, g2, hr1, hr2, ?_, ?_, hb4⟩
  · subst hv2
    rcases ho2.2 with ⟨h1, _⟩ | ⟨g, cap, cur, h1, h2, h3, h4, h5, h6, h7⟩
    · cases h1
    · cases h1
      refine ⟨_, 64, _, rfl, hll.symm, h4, by omega, ⟨fun e => (by cases e), fun a e hne => ?_⟩⟩
      cases e
      refine ⟨rfl, rfl, fun j hj => ?_⟩
      rw [Nat.zero_add, (cell_of h3 _).1, ← Array.getElem?_toList]
      have h8 : (cur.toList.take (64 * 1))[j]? = (byteV (l ++ List.replicate (64 - l.length) 0))[j]? := by rw [h7]
      rw [List.getElem?_take, if_pos (by omega)] at h8
      rw [h8, byteV, List.getElem?_map, List.getElem?_eq_getElem hj]
      rfl
  · subst hv2
    exact (ho2.lt g2 rfl).1

/-- What is read of a log's tiles hangs on the tiles up to the first one that is not full. -/
theorem rd_cong {T : Nat → List Int} {S : List Int} (hT : ∀ j, j ≤ S.length / 63 → T j = tileL S j) : ∀ (m i : Nat), i ≤ S.length / 63 → rdL T m i = rdL (tileL S) m i
  | 0, _, _ => rfl
  | m + 1, i, hi => by
    have hh : (tileL S i).headD 0 = ((partL S i).length : Int) := rfl
    have hle := partL_le S i
    have hlen := partL_len S i
    unfold rdL
    rw [hT i hi]
    by_cases h : i < S.length / 63
    · rw [rd_cong hT m (i + 1) (by omega)]
    · have h2 : ((tileL S i).headD 0) < 63 := by
        rw [hh]
        unfold partL
        rw [List.length_take, List.length_drop]
        omega
      rw [if_neg (by omega), if_pos h2, if_neg (by omega), if_pos h2]

theorem flat16 : ∀ es : List (Ent × Value), (es.flatMap enN).length = es.length * 16
  | [] => rfl
  | x :: r => by rw [List.flatMap_cons, List.length_append, flat16 r, enN_len, List.length_cons]; omega
/-- A row of Some's entries that may be appended. -/
theorem src_lst {B g cap : Nat} {l : List Int} {es : List (Ent × Value)} {w : World} (h : trailTwice.Lst B l g cap es w) : Src w (.slice (some ⟨g, 0, none⟩) l.length cap) l.length (es.flatMap enN) := by
  refine .inr ⟨_, _, rfl, fun m u hu => ?_⟩
  have hm : m < es.length * 16 := by
    have := (List.getElem?_eq_some_iff.1 hu).1
    rwa [flat16] at this
  rw [add_more, Nat.zero_add]
  have hi : m / 16 < es.length := by omega
  have hj : m % 16 < 16 := Nat.mod_lt _ (by decide)
  have e : m = m / 16 * 16 + m % 16 := by omega
  rw [e] at hu ⊢
  rw [flat_at (f := enN) (fun x => enN_len x) es (m / 16) (m % 16) hi hj, List.getElem?_map, List.getElem?_eq_getElem hi] at hu
  exact h.cells _ hi _ u hu
theorem rowE_own {w : World} {B : Nat} {v : Value} {es : List (Ent × Value)} (h : w.ownsRow B 40 16 v es.length (es.flatMap enN)) (hS : ∀ o ∈ es, EntS w (.slice none 0 0) o.2 (.slice none 0 0) (.slice none 0 0) (.slice none 0 0) (.slice none 0 0) o.1) : RowE w v (es.map Prod.fst) := by
  refine ⟨?_, fun i hi => ?_⟩
  · rcases h.2 with ⟨rfl, h0⟩ | ⟨g, cap, cur, rfl, _⟩
    · exact ⟨none, 0, by rw [List.length_map, h0]⟩
    · exact ⟨_, _, by rw [List.length_map]⟩
  · have hie : i < es.length := by simpa using hi
    rcases h.2 with ⟨_, h0⟩ | ⟨g, cap, cur, rfl, hB, hg, hle, hm, hsz, htake⟩
    · omega
    · have e : (es.map Prod.fst)[i] = (es[i]).1 := by simp
      refine ⟨g, 0, cap, _, _, _, _, _, _, by rw [List.length_map], by rw [e]; exact hS _ (List.getElem_mem hie), fun j u hu => ?_⟩
      rw [e] at hu
      have hj : j < 16 := (Array.getElem?_eq_some_iff.1 hu).1
      have e1 : (es.flatMap enN)[i * 16 + j]? = some u := by
        rw [flat_at (f := enN) (fun x => enN_len x) es i j hie hj, List.getElem?_map, List.getElem?_eq_getElem hie]
        show (enN es[i])[j]? = some u
        unfold enN
        rw [Array.getElem?_toList]
        exact hu
      rw [← htake, List.getElem?_take] at e1
      split at e1
      · rw [Nat.zero_add, (cell_of hg _).1]
        simpa using e1
      · cases e1
theorem one_enN {es : List (Ent × Value)} (h : ∀ o ∈ es, ∃ A n c, o.2 = .slice A n c) : ∀ u ∈ es.flatMap enN, u.oneCell' = true := fun u hu => by
  rw [List.mem_flatMap] at hu
  obtain ⟨o, ho, hu⟩ := hu
  obtain ⟨A, n, c, e⟩ := h o ho
  unfold enN at hu
  rw [e] at hu
  have h1 : ((entC o.1 (.slice none 0 0) (.slice A n c) (.slice none 0 0) (.slice none 0 0) (.slice none 0 0) (.slice none 0 0)).toList).all (·.oneCell') = true := by
    simp [entC, Value.oneCell']
  exact List.all_eq_true.1 h1 u hu
theorem sm_src {w w' : World} {l : List Int} {v : Value} (h : SmRel w l l.length v w') : ∃ es : List (Ent × Value), es.map Prod.fst = ESm l l.length ∧ es.length = l.length ∧ (∀ o ∈ es, ∃ A n c, o.2 = .slice A n c) ∧ ∀ W, Kpt w.heap.size w' W → Src W v l.length (es.flatMap enN) ∧ ∀ o ∈ es, EntS W (.slice none 0 0) o.2 (.slice none 0 0) (.slice none 0 0) (.slice none 0 0) (.slice none 0 0) o.1 := by
  by_cases hl : l = []
  · subst hl
    obtain ⟨es, hes, hel, ho, hin, hb⟩ := h
    refine ⟨[], rfl, rfl, ⟨fun o ho => (by cases ho), fun W _ => ⟨?_, fun o ho => (by cases ho)⟩⟩⟩
    rcases ho.2 with ⟨rfl, _⟩ | ⟨g, cap, cur, rfl, _⟩
    · exact .inl ⟨rfl, rfl, rfl⟩
    · exact .inr ⟨_, _, rfl, fun j u hu => by cases hu⟩
  · obtain ⟨g, cap, es, rfl, hlst, _⟩ := trailTwice.lst_of hl h
    refine ⟨es, lst_esm hlst, hlst.len, fun o ho => ?_, fun W hk => ⟨src_lst (hlst.at hk), fun o ho => ?_⟩⟩
    · obtain ⟨A, c, e, _⟩ := (hlst.inn o ho).1.form
      exact ⟨A, _, c, e⟩
    · obtain ⟨i, hi, rfl⟩ := List.getElem_of_mem ho
      have hel := hlst.el i hi
      have hin := ((hlst.at hk).inn _ ho).1
      rw [hel] at hin ⊢
      exact trailTwice.someE_S hin
/-- Two rows of entries, one behind the other, in a row of one's own. -/
theorem cat_rows (W : World) {v1 v2 : Value} {n1 n2 : Nat} {es1 es2 : List (Ent × Value)} (h1 : Src W v1 n1 (es1.flatMap enN)) (h2 : Src W v2 n2 (es2.flatMap enN)) (l1 : es1.length = n1) (l2 : es2.length = n2) (hn1 : n1 ≤ 100) (hn2 : n2 ≤ 100)
    (o1 : ∀ o ∈ es1, ∃ A n c, o.2 = .slice A n c) (o2 : ∀ o ∈ es2, ∃ A n c, o.2 = .slice A n c)
    (s1 : ∀ o ∈ es1, EntS W (.slice none 0 0) o.2 (.slice none 0 0) (.slice none 0 0) (.slice none 0 0) (.slice none 0 0) o.1) (s2 : ∀ o ∈ es2, EntS W (.slice none 0 0) o.2 (.slice none 0 0) (.slice none 0 0) (.slice none 0 0) (.slice none 0 0) o.1) :
    ∃ x1 W1 x2 W2, (∀ ty, (Builtin.append_ #[26, 26] ty #[.slice (some ⟨W.heap.size, 0, none⟩) 0 0, v1]).run Try.prog (W.alloc (.cells #[] 40)) = .ok x1 W1) ∧
      (∀ ty, (Builtin.append_ #[26, 26] ty #[x1, v2]).run Try.prog W1 = .ok x2 W2) ∧ RowE W2 x2 (es1.map Prod.fst ++ es2.map Prod.fst) ∧ Below W.heap.size W W2 := by
  obtain ⟨i, hi, hz0, hz1, hz2⟩ := info_parts infoEntA
  have hb2 := (Below.refl W.heap.size W).alloc (Nat.le_refl _) (.cells #[] 40)
  have ho := World.ownsRow_made (e := 40) (size := 16) W #[] 0 (Nat.le_refl W.heap.size) (by decide) rfl
  obtain ⟨g, c, W1, hr1, ho1, hg1⟩ := app_src (P := Try.prog) (W.alloc (.cells #[] 40)) W.heap.size 26 26 40 i _ 16 224 Try.underlying26 hi hz0 hz1 hz2 rfl (by decide) _ 0 0 [] ho v1 n1 (es1.flatMap enN) (h1.up hb2) (by rw [flat16, l1]) (one_enN o1) (by unfold maxLen; omega) (by omega) hb2.size
  rw [Nat.zero_add, List.nil_append] at ho1
  rw [Nat.zero_add] at hr1
  have hb3 := below_grown hb2 ho hg1 hb2.size (Nat.le_refl _)
  obtain ⟨g', c', W2, hr2, ho2, hg2⟩ := app_src (P := Try.prog) W1 W.heap.size 26 26 40 i _ 16 224 Try.underlying26 hi hz0 hz1 hz2 rfl (by decide) g c n1 (es1.flatMap enN) ho1 v2 n2 (es2.flatMap enN) (h2.up hb3) (by rw [flat16, l2]) (one_enN o2) (by unfold maxLen; omega) (by omega) hb3.size
  have hb4 := below_grown hb3 ho1 hg2 hb3.size (Nat.le_refl _)
  refine ⟨_, W1, _, W2, fun ty => hr1, fun ty => hr2, ?_, hb4⟩
  rw [← List.map_append]
  refine rowE_own (B := W.heap.size) ?_ fun o ho => ?_
  · rw [List.flatMap_append, List.length_append, l1, l2]
    exact ho2
  · rcases List.mem_append.1 ho with h | h
    · exact (s1 o h).below hb4 (Nat.le_refl _)
    · exact (s2 o h).below hb4 (Nat.le_refl _)
theorem wpList_append_runG {P : Program} (w : World) {ops : Array Oper} {rest : List Oper} {o : Oper} {a : Act} {Q : Exit → Act → World → Prop} (hw : Region.wanted o (yielded ops a.tmps) = true) (s x : Operand) (t tn : TypeId)
    (ho : o.op = .call { callee := .builtin .append, args := #[s, x], argTypes := #[t, tn] }) (vs vx : Value) (hs : a.eval s = vs) (hx : a.eval x = vx)
    (v' : Value) (w' : World) (hr : (Builtin.append_ #[t, tn] o.type #[vs, vx]).run P w = .ok v' w') (h : wpList P ops Q rest (a.put o.dst v') w') : wpList P ops Q (o :: rest) a w :=
  wpList_step fun _ hK => by
    rw [if_pos hw]
    exact Lib.wp_append_run w s x t tn ho vs vx hs hx v' w' hr (hK _ _ h)
end Go.Proofs.Ytemmhligohebfaa
