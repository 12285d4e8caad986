/- Some's entries as rows; two rows one behind the other. -/
import Derived.Test.YthhnmpobkekbbaaGreatTrKp
import Derived.Test.YthhnmpobkekbbaaGreatTrSm
import Derived.Test.YthhnmpobkekbbaaGreatTrRe
import Derived.Laws.AppendOwnNone
import Derived.Maps.AppendAt
namespace Go.Proofs.YthhnmpobkekbbaaGreat.trailTwice
open Go.RowKit Go.Maps

def SS (l : List Int) : Nat → List Int
  | 0 => []
  | j + 1 => SS l j ++ frL (someE j (l.getD j 0))
theorem getD_bd {l : List Int} (h : bytesOk l) (j : Nat) : 0 ≤ l.getD j 0 ∧ l.getD j 0 < 256 := by
  by_cases hj : j < l.length
  · have := h l[j] (List.getElem_mem hj)
    simpa [List.getD_eq_getElem?_getD, hj] using this
  · rw [List.getD_eq_getElem?_getD, List.getElem?_eq_none (by omega)]
    decide
theorem frL_some (j : Nat) (hj : j < 100) (x : Int) (hx : 0 ≤ x ∧ x < 256) : (frL (someE j x)).length = 51 := by
  rw [frL_yes (someE_B j hj x hx), frB_len, someE_len j x hx]
theorem SS_len {l : List Int} (h : bytesOk l) : ∀ j, j ≤ 50 → (SS l j).length = 51 * j
  | 0, _ => rfl
  | j + 1, hj => by rw [SS, List.length_append, SS_len h j (by omega), frL_some j (by omega) _ (getD_bd h j)]; omega
theorem app_some {t : Tr} {j : Nat} (hj : j < 100) {x : Int} (hx : 0 ≤ x ∧ x < 256) (h : ((t.S.length + 51 : Nat) : Int) ≤ 63 * t.tiles) : apE t (someE j x) = 0 ∧ apN t (someE j x) = t.count + 1 ∧ apT t (someE j x) = { t with S := t.S ++ frL (someE j x), count := t.count + 1 } := by
  have e1 : apE t (someE j x) = 0 := by
    unfold apE
    rw [if_neg (by rw [someE_B j hj x hx]; decide), if_neg (by rw [frL_some j hj x hx]; omega)]
  exact ⟨e1, by unfold apN; rw [e1]; rfl, by unfold apT; rw [e1]; rfl⟩
theorem someE_I (j : Nat) (hj : j < 100) (x : Int) (_ : 0 ≤ x ∧ x < 256) : EntI (someE j x) := by
  have z : I64 0 := ⟨by decide, by decide⟩
  exact ⟨⟨by show _ ≤ 1 + x % 9; omega, by show 1 + x % 9 ≤ _; omega⟩, ⟨by show _ ≤ x % 7; omega, by show x % 7 ≤ _; omega⟩, z, z, ⟨by show _ ≤ (j : Int); omega, by show (j : Int) ≤ _; omega⟩, z, ⟨by show _ ≤ x % 32; omega, by show x % 32 ≤ _; omega⟩, ⟨by show _ ≤ x % 4; omega, by show x % 4 ≤ _; omega⟩, z, z, (fun m hm => by cases hm), (fun m hm => by cases hm), (fun m hm => by cases hm), (fun m hm => by cases hm)⟩
theorem someE_S {w : World} {j : Nat} {x : Int} {v : Value} (h : SlK .u8 w v (someK x)) : EntS w (.slice none 0 0) v (.slice none 0 0) (.slice none 0 0) (.slice none 0 0) (.slice none 0 0) (someE j x) := by
  have h0 := (ent0_F w 0).entS
  exact ⟨h0.old, h.sw, h0.moves, h0.lives, h0.dirty, h0.opens⟩

/-- The entries of Some, in any world that keeps what lies from block B on. -/
structure Lst (B : Nat) (l : List Int) (g cap : Nat) (es : List (Ent × Value)) (w : World) : Prop where
  len : es.length = l.length
  el : ∀ k (h : k < es.length), (es[k]).1 = someE k (l.getD k 0)
  cells : ∀ i (h : i < es.length) j v, (enN es[i])[j]? = some v → w.cell? ⟨g, i * 16 + j, none⟩ = some v
  inn : ∀ o ∈ es, SlF w B o.2 o.1.new
  gB : B ≤ g
theorem Lst.at {B g cap : Nat} {l : List Int} {es : List (Ent × Value)} {w w' : World} (h : Lst B l g cap es w) (hk : Kpt B w w') : Lst B l g cap es w' := by
  refine ⟨h.len, h.el, fun i hi j v hv => ?_, fun o ho => (h.inn o ho).at hk, h.gB⟩
  have hc := h.cells i hi j v hv
  exact (World.cell?_of_block (hk.block g h.gB (block_lt_of_cell hc))).trans hc
theorem lst_of {w w' : World} {l : List Int} {v : Value} (hl : l ≠ []) (h : SmRel w l l.length v w') : ∃ g cap es, v = .slice (some ⟨g, 0, none⟩) l.length cap ∧ Lst w.heap.size l g cap es w' ∧ Below w.heap.size w w' := by
  obtain ⟨es, hes, hel, ho, hin, hb⟩ := h
  have hpos : 0 < l.length := List.length_pos_iff.2 hl
  obtain ⟨h1, ⟨_, h0⟩ | ⟨g, cap, cur, rfl, hB, hg, hle, hm, hsz, htake⟩⟩ := ho
  · omega
  · refine ⟨g, cap, es, rfl, ⟨hes, hel, fun i hi j u hu => ?_, fun o ho => ⟨(hin o ho).1, fun b hb => ((hin o ho).2 b hb).1⟩, hB⟩, hb⟩
    have hj : j < 16 := by
      have := (List.getElem?_eq_some_iff.1 hu).1
      rwa [enN_len] at this
    have e1 : (es.flatMap enN)[i * 16 + j]? = some u := by
      rw [flat_at (f := enN) (fun x => enN_len x) es i j hi hj, List.getElem?_map, List.getElem?_eq_getElem hi]
      exact hu
    rw [← htake, List.getElem?_take] at e1
    split at e1
    · rw [(cell_of hg _).1]
      simpa using e1
    · cases e1

end Go.Proofs.YthhnmpobkekbbaaGreat.trailTwice
namespace Go.Proofs.YthhnmpobkekbbaaGreat
open Go.RowKit Go.Maps

theorem rowE_lst {B g cap : Nat} {l : List Int} {es : List (Ent × Value)} {w : World} (h : trailTwice.Lst B l g cap es w) : RowE w (.slice (some ⟨g, 0, none⟩) l.length cap) (es.map Prod.fst) := by
  refine ⟨⟨_, _, by rw [List.length_map, h.len]⟩, fun i hi => ?_⟩
  have hie : i < es.length := by simpa using hi
  have hel := h.el i hie
  have hin := (h.inn es[i] (List.getElem_mem hie)).1
  have e : (es.map Prod.fst)[i] = (es[i]).1 := by simp
  refine ⟨g, 0, cap, .slice none 0 0, (es[i]).2, .slice none 0 0, .slice none 0 0, .slice none 0 0, .slice none 0 0, by rw [List.length_map, h.len], ?_, fun j u hu => ?_⟩
  · rw [e, hel]
    rw [hel] at hin
    exact trailTwice.someE_S hin
  · rw [Nat.zero_add]
    refine h.cells i hie j u ?_
    rw [e] at hu
    unfold enN
    simpa using hu
/-- The entries of Some, plainly, and their bytes. -/
def ESm (l : List Int) (n : Nat) : List Ent := (List.range n).map fun j => someE j (l.getD j 0)
def BSm (l : List Int) (n : Nat) : List (List Int) := (ESm l n).map entL
theorem ESm_succ (l : List Int) (n : Nat) : ESm l (n + 1) = ESm l n ++ [someE n (l.getD n 0)] := by simp [ESm, List.range_succ]
theorem ESm_len (l : List Int) (n : Nat) : (ESm l n).length = n := by simp [ESm]
theorem ESm_in {l : List Int} {n : Nat} {e : Ent} (h : e ∈ ESm l n) : ∃ j, j < n ∧ e = someE j (l.getD j 0) := by
  simp only [ESm, List.mem_map, List.mem_range] at h
  obtain ⟨j, hj, e⟩ := h
  exact ⟨j, hj, e.symm⟩
theorem SS_bsm {l : List Int} (hl : bytesOk l) : ∀ n, n ≤ 50 → trailTwice.SS l n = (BSm l n).flatMap frB
  | 0, _ => rfl
  | n + 1, h => by
    rw [trailTwice.SS, SS_bsm hl n (by omega), frL_yes (someE_B n (by omega) _ (trailTwice.getD_bd hl n))]
    unfold BSm
    rw [ESm_succ, List.map_append, List.flatMap_append]
    simp
theorem BSm_ok {l : List Int} (hl : bytesOk l) {n : Nat} (hn : n ≤ 50) : ∀ b ∈ BSm l n, b.length < 65536 ∧ tkB b = true := fun b hb => by
  unfold BSm at hb
  rw [List.mem_map] at hb
  obtain ⟨e, he, rfl⟩ := hb
  obtain ⟨j, hj, rfl⟩ := ESm_in he
  have hx := trailTwice.getD_bd hl j
  exact ⟨by rw [someE_len j _ hx]; decide, (t_tkB_entL (someE_B j (by omega) _ hx)).1⟩
theorem BSm_tk {l : List Int} (hl : bytesOk l) {n : Nat} (hn : n ≤ 50) : (BSm l n).map tkE = ESm l n := by
  unfold BSm
  rw [List.map_map]
  conv => rhs; rw [← List.map_id (ESm l n)]
  refine List.map_congr_left fun e he => ?_
  obtain ⟨j, hj, rfl⟩ := ESm_in he
  exact (t_tkB_entL (someE_B j (by omega) _ (trailTwice.getD_bd hl j))).2.1
theorem lst_esm {B g cap : Nat} {l : List Int} {es : List (Ent × Value)} {w : World} (h : trailTwice.Lst B l g cap es w) : es.map Prod.fst = ESm l l.length := by
  apply List.ext_getElem
  · rw [List.length_map, h.len, ESm_len]
  · intro i h1 h2
    have hie : i < es.length := by simpa using h1
    have := h.el i hie
    simp only [List.getElem_map, ESm, List.getElem_range]
    exact this
theorem someE_L (j : Nat) (x : Int) : EntLen (someE j x) := ⟨by simp [someE], by simp [someE], by simp [someE], by simp [someE], fun o ho => by simp [someE] at ho⟩
theorem ESm_L {l : List Int} {n : Nat} : ∀ e ∈ ESm l n, EntLen e := fun e he => by
  obtain ⟨j, _, rfl⟩ := ESm_in he
  exact someE_L j _
theorem app_nil0 {P : Program} (w : World) (base : Nat) (t ty e : TypeId) (i : TypeInfo) (size : Nat) (ht : P.underlying t = some (.slice e)) (hi : P.info? e = some i)
    (v : Value) (n : Nat) (xs : List Value) (hown : w.ownsRow base e size v n xs) (c : Nat) : (Builtin.append_ #[t, t] ty #[v, .slice none 0 c]).run P w = .ok v w := by
  rcases hown.2 with ⟨rfl, rfl⟩ | ⟨g, cap, cur, rfl, _, _, hnc, _⟩
  · simp [Builtin.append_, run_underlying ht, sizeOf, typeInfo, hi, Builtin.lenOf, Builtin.firstCells]
  · simp [Builtin.append_, run_underlying ht, sizeOf, typeInfo, hi, Builtin.lenOf, Builtin.firstCells, hnc, storeCells]
/-- What may be appended: so many elements, and where they lie. -/
def Src (w : World) (sv : Value) (m : Nat) (news : List Value) : Prop :=
  (∃ c, sv = .slice none 0 c ∧ m = 0 ∧ news = []) ∨ ∃ ad c, sv = .slice (some ad) m c ∧ ∀ j u, news[j]? = some u → w.cell? (ad.add j) = some u
theorem Src.up {w w' : World} {sv : Value} {m : Nat} {news : List Value} (h : Src w sv m news) (hb : Below w.heap.size w w') : Src w' sv m news := by
  rcases h with h | ⟨ad, c, h1, h2⟩
  · exact .inl h
  · exact .inr ⟨ad, c, h1, fun j u hu => (World.cell?_of_block (hb.block _ (World.block_lt_of_cell? w _ (h2 j u hu)))).trans (h2 j u hu)⟩
theorem add_more (g i j : Nat) : (⟨g, i, none⟩ : Addr).add j = ⟨g, i + j, none⟩ := by unfold Addr.add; split <;> simp_all
theorem app_src {P : Program} (w : World) (base : Nat) (t ty e : TypeId) (i : TypeInfo) (z : Value) (size bytes : Nat) (ht : P.underlying t = some (.slice e)) (hi : P.info? e = some i) (hz : i.zero = some z)
    (hsize : i.size = size) (hby : i.bytes = bytes) (hzs : z.cells.size = size) (hsz : 0 < size)
    (g0 c0 n : Nat) (xs : List Value) (hown : w.ownsRow base e size (.slice (some ⟨g0, 0, none⟩) n c0) n xs)
    (sv : Value) (m : Nat) (news : List Value) (hsrc : Src w sv m news) (hl : news.length = m * size) (h1 : ∀ u ∈ news, u.oneCell' = true)
    (h63 : n + m ≤ maxLen) (hbytes : (n + m) * bytes ≤ 140737488355328) (hbase : base ≤ w.heap.size) :
    ∃ g c w', (Builtin.append_ #[t, t] ty #[.slice (some ⟨g0, 0, none⟩) n c0, sv]).run P w = .ok (.slice (some ⟨g, 0, none⟩) (n + m) c) w' ∧ w'.ownsRow base e size (.slice (some ⟨g, 0, none⟩) (n + m) c) (n + m) (xs ++ news) ∧ w.grownBy w' (some g0) := by
  rcases hsrc with ⟨c, rfl, rfl, rfl⟩ | ⟨ad, c, rfl, hnews⟩
  · have hrun := app_nil0 (P := P) w base t ty e i size ht hi _ n xs hown c
    exact ⟨g0, c0, w, by simpa using hrun, by simpa using hown, ⟨rfl, rfl, rfl, Nat.le_refl _, fun _ _ _ => rfl⟩⟩
  · obtain ⟨v', w', hr, h2, h3, h4, h5⟩ := run_append_own_at (P := P) w base t ty e i z size bytes ht hi hz hsize hby hzs hsz _ n xs hown ad m c news hl hnews h1 h63 hbytes hbase
    rcases id h2.2 with ⟨h6, _⟩ | ⟨g, cap, cur, rfl, _⟩
    · have := (h4.1 h6).1
      cases this
    · exact ⟨g, cap, w', hr, h2, h3⟩
theorem below_grown {B B0 k n : Nat} {e : TypeId} {v : Value} {xs : List Value} {w0 w w' : World} (h : Below B0 w0 w) (ho : w.ownsRow B e k v n xs) (g : w.grownBy w' v.ownBlock) (hB : B0 ≤ w.heap.size) (hBB : B0 ≤ B) : Below B0 w0 w' :=
  ⟨g.os.trans h.os, g.tape.trans h.tape, g.output.trans h.output, Nat.le_trans h.size g.size, fun k hk => (g.block k (by omega) (fun e => by have := (ho.lt k e.symm).1; omega)).trans (h.block k hk)⟩

theorem flat16 : ∀ es : List (Ent × Value), (es.flatMap enN).length = es.length * 16
  | [] => rfl
  | x :: r => by rw [List.flatMap_cons, List.length_append, flat16 r, enN_len, List.length_cons]; omega
/-- A row of Some's entries that may be appended. -/
theorem src_lst {B g cap : Nat} {l : List Int} {es : List (Ent × Value)} {w : World} (h : trailTwice.Lst B l g cap es w) : Src w (.slice (some ⟨g, 0, none⟩) l.length cap) l.length (es.flatMap enN) := by
  refine .inr ⟨_, _, rfl, fun m u hu => ?_⟩
  have hm : m < es.length * 16 := by
    have := (List.getElem?_eq_some_iff.1 hu).1
    rwa [flat16] at this
  rw [add_more, Nat.zero_add]
  have hi : m / 16 < es.length := by omega
  have hj : m % 16 < 16 := Nat.mod_lt _ (by decide)
  have e : m = m / 16 * 16 + m % 16 := by omega
  rw [e] at hu ⊢
  rw [flat_at (f := enN) (fun x => enN_len x) es (m / 16) (m % 16) hi hj, List.getElem?_map, List.getElem?_eq_getElem hi] at hu
  exact h.cells _ hi _ u hu
theorem one_enN {es : List (Ent × Value)} (h : ∀ o ∈ es, ∃ A n c, o.2 = .slice A n c) : ∀ u ∈ es.flatMap enN, u.oneCell' = true := fun u hu => by
  rw [List.mem_flatMap] at hu
  obtain ⟨o, ho, hu⟩ := hu
  obtain ⟨A, n, c, e⟩ := h o ho
  unfold enN at hu
  rw [e] at hu
  have h1 : ((entC o.1 (.slice none 0 0) (.slice A n c) (.slice none 0 0) (.slice none 0 0) (.slice none 0 0) (.slice none 0 0)).toList).all (·.oneCell') = true := by
    simp [entC, Value.oneCell']
  exact List.all_eq_true.1 h1 u hu
theorem sm_src {w w' : World} {l : List Int} {v : Value} (h : SmRel w l l.length v w') : ∃ es : List (Ent × Value), es.map Prod.fst = ESm l l.length ∧ es.length = l.length ∧ (∀ o ∈ es, ∃ A n c, o.2 = .slice A n c) ∧ ∀ W, Kpt w.heap.size w' W → Src W v l.length (es.flatMap enN) ∧ ∀ o ∈ es, EntS W (.slice none 0 0) o.2 (.slice none 0 0) (.slice none 0 0) (.slice none 0 0) (.slice none 0 0) o.1 := by
  by_cases hl : l = []
  · subst hl
    obtain ⟨es, hes, hel, ho, hin, hb⟩ := h
    refine ⟨[], rfl, rfl, ⟨fun o ho => (by cases ho), fun W _ => ⟨?_, fun o ho => (by cases ho)⟩⟩⟩
    rcases ho.2 with ⟨rfl, _⟩ | ⟨g, cap, cur, rfl, _⟩
    · exact .inl ⟨_, rfl, rfl, rfl⟩
    · exact .inr ⟨_, _, rfl, fun j u hu => by cases hu⟩
  · obtain ⟨g, cap, es, rfl, hlst, _⟩ := trailTwice.lst_of hl h
    refine ⟨es, lst_esm hlst, hlst.len, fun o ho => ?_, fun W hk => ⟨src_lst (hlst.at hk), fun o ho => ?_⟩⟩
    · obtain ⟨A, c, e, _⟩ := (hlst.inn o ho).1.form
      exact ⟨A, _, c, e⟩
    · obtain ⟨i, hi, rfl⟩ := List.getElem_of_mem ho
      have hel := hlst.el i hi
      have hin := ((hlst.at hk).inn _ ho).1
      rw [hel] at hin ⊢
      exact trailTwice.someE_S hin
theorem wpList_append_runG {P : Program} (w : World) {ops : Array Oper} {rest : List Oper} {o : Oper} {a : Act} {Q : Exit → Act → World → Prop} (hw : Region.wanted o (yielded ops a.tmps) = true) (s x : Operand) (t tn : TypeId)
    (ho : o.op = .call { callee := .builtin .append, args := #[s, x], argTypes := #[t, tn] }) (vs vx : Value) (hs : a.eval s = vs) (hx : a.eval x = vx)
    (v' : Value) (w' : World) (hr : (Builtin.append_ #[t, tn] o.type #[vs, vx]).run P w = .ok v' w') (h : wpList P ops Q rest (a.put o.dst v') w') : wpList P ops Q (o :: rest) a w :=
  wpList_step fun _ hK => by
    rw [if_pos hw]
    exact Lib.wp_append_run w s x t tn ho vs vx hs hx v' w' hr (hK _ _ h)

def enS (o : Ent × Value) : Ent × S6 := (o.1, (.slice none 0 0, o.2, .slice none 0 0, .slice none 0 0, .slice none 0 0, .slice none 0 0))
theorem enS_en (es : List (Ent × Value)) : (es.map enS).flatMap enV = es.flatMap enN := by
  induction es with
  | nil => rfl
  | cons x r ih => rw [List.map_cons, List.flatMap_cons, List.flatMap_cons, ih]; rfl
theorem flat6 : ∀ es : List (Ent × S6), (es.flatMap enV).length = es.length * 16
  | [] => rfl
  | x :: r => by rw [List.flatMap_cons, List.length_append, flat6 r, enV_len, List.length_cons]; omega
/-- A row of entries that may be appended: where it lies, and its entries. -/
def Sr6 (w : World) (v : Value) (n : Nat) (es : List (Ent × S6)) : Prop := es.length = n ∧ Src w v n (es.flatMap enV) ∧ ∀ o ∈ es, EntS w o.2.1 o.2.2.1 o.2.2.2.1 o.2.2.2.2.1 o.2.2.2.2.2.1 o.2.2.2.2.2.2 o.1
theorem Sr6.up {w w' : World} {v : Value} {n : Nat} {es : List (Ent × S6)} (h : Sr6 w v n es) (hb : Below w.heap.size w w') : Sr6 w' v n es := ⟨h.1, h.2.1.up hb, fun o ho => (h.2.2 o ho).below hb (Nat.le_refl _)⟩
theorem sr6_els {w : World} {A : Option Addr} {n c : Nat} {es : List (Ent × S6)} {G : Nat → Prop} (h : Els w (.slice A n c) 16 (es.map enV)) (hG : ∀ o ∈ es, EnG w G o) : Sr6 w (.slice A n c) n es := by
  obtain ⟨A', c', hv, _, hnn, hc⟩ := h
  injection hv with h1 h2 h3
  subst h1 h3
  have hn : n = es.length := by rw [h2, List.length_map]
  refine ⟨hn.symm, ?_, fun o ho => (hG o ho).entS⟩
  cases A with
  | none =>
    have he : es = [] := by simpa using hnn rfl
    subst he
    exact .inl ⟨c, by rw [hn]; rfl, hn, rfl⟩
  | some a =>
    refine .inr ⟨a, c, rfl, fun m u hu => ?_⟩
    have hm : m < es.length * 16 := by
      have := (List.getElem?_eq_some_iff.1 hu).1
      rwa [flat6] at this
    have hne : es.map enV ≠ [] := fun e => by
      have := congrArg List.length e
      simp at this
      subst this
      simp at hm
    obtain ⟨h4, h5, h6⟩ := hc a rfl hne
    obtain ⟨ab, ao, asp⟩ := a
    cases h4
    have hi : m / 16 < es.length := by omega
    have hj : m % 16 < 16 := Nat.mod_lt _ (by decide)
    have e : m = m / 16 * 16 + m % 16 := by omega
    rw [add_more]
    rw [e] at hu ⊢
    rw [flat_at (f := enV) (fun x => enV_len x) es (m / 16) (m % 16) hi hj] at hu
    have h7 := h6 (m / 16) (m % 16) (by simpa using hi) hj
    rw [← hu, ← h7]
    rw [Nat.add_assoc]
theorem one6 {w : World} {es : List (Ent × S6)} (h : ∀ o ∈ es, EntS w o.2.1 o.2.2.1 o.2.2.2.1 o.2.2.2.2.1 o.2.2.2.2.2.1 o.2.2.2.2.2.2 o.1) : ∀ u ∈ es.flatMap enV, u.oneCell' = true := fun u hu => by
  rw [List.mem_flatMap] at hu
  obtain ⟨o, ho, hu⟩ := hu
  obtain ⟨e, s1, s2, s3, s4, s5, s6⟩ := o
  obtain ⟨A1, c1, A2, c2, A3, c3, A4, c4, A5, c5, A6, c6, h1, h2, h3, h4, h5, h6⟩ := (h _ ho).form
  simp only at h1 h2 h3 h4 h5 h6
  subst h1 h2 h3 h4 h5 h6
  have h1 : ((entC e (.slice A1 e.old.length c1) (.slice A2 e.new.length c2) (.slice A3 e.moves.length c3) (.slice A4 e.lives.length c4) (.slice A5 e.dirty.length c5) (.slice A6 e.opens.length c6)).toList).all (·.oneCell') = true := by
    simp [entC, Value.oneCell']
  exact List.all_eq_true.1 h1 u hu
theorem row6 {w : World} {B : Nat} {v : Value} {es : List (Ent × S6)} (h : w.ownsRow B 44 16 v es.length (es.flatMap enV)) (hS : ∀ o ∈ es, EntS w o.2.1 o.2.2.1 o.2.2.2.1 o.2.2.2.2.1 o.2.2.2.2.2.1 o.2.2.2.2.2.2 o.1) : RowE w v (es.map Prod.fst) := by
  refine ⟨?_, fun i hi => ?_⟩
  · rcases h.2 with ⟨rfl, h0⟩ | ⟨g, cap, cur, rfl, _⟩
    · exact ⟨none, 0, by rw [List.length_map, h0]⟩
    · exact ⟨_, _, by rw [List.length_map]⟩
  · have hie : i < es.length := by simpa using hi
    rcases h.2 with ⟨_, h0⟩ | ⟨g, cap, cur, rfl, hB, hg, hle, hm, hsz, htake⟩
    · omega
    · have e : (es.map Prod.fst)[i] = (es[i]).1 := by simp
      refine ⟨g, 0, cap, _, _, _, _, _, _, by rw [List.length_map], by rw [e]; exact hS _ (List.getElem_mem hie), fun j u hu => ?_⟩
      rw [e] at hu
      have hj : j < 16 := (Array.getElem?_eq_some_iff.1 hu).1
      have e1 : (es.flatMap enV)[i * 16 + j]? = some u := by
        rw [flat_at (f := enV) (fun x => enV_len x) es i j hie hj, List.getElem?_map, List.getElem?_eq_getElem hie]
        show (enV es[i])[j]? = some u
        unfold enV
        rw [Array.getElem?_toList]
        exact hu
      rw [← htake, List.getElem?_take] at e1
      split at e1
      · rw [Nat.zero_add, (cell_of hg _).1]
        simpa using e1
      · cases e1
/-- Two rows of entries, one behind the other, in a row of one's own. -/
theorem cat6 (W : World) {v1 v2 : Value} {n1 n2 : Nat} {es1 es2 : List (Ent × S6)} (h1 : Sr6 W v1 n1 es1) (h2 : Sr6 W v2 n2 es2) (hn1 : n1 ≤ 100) (hn2 : n2 ≤ 100) :
    ∃ x1 W1 x2 W2, (∀ ty, (Builtin.append_ #[29, 29] ty #[.slice (some ⟨W.heap.size, 0, none⟩) 0 0, v1]).run Tryz.prog (W.alloc (.cells #[] 44)) = .ok x1 W1) ∧
      (∀ ty, (Builtin.append_ #[29, 29] ty #[x1, v2]).run Tryz.prog W1 = .ok x2 W2) ∧ RowE W2 x2 (es1.map Prod.fst ++ es2.map Prod.fst) ∧ Below W.heap.size W W2 := by
  obtain ⟨l1, h1, s1⟩ := h1
  obtain ⟨l2, h2, s2⟩ := h2
  obtain ⟨i, hi, hz0, hz1, hz2⟩ := info_parts infoEntA
  have hb2 := (Below.refl W.heap.size W).alloc (Nat.le_refl _) (.cells #[] 44)
  have ho := World.ownsRow_made (e := 44) (size := 16) W #[] 0 (Nat.le_refl W.heap.size) (by decide) rfl
  obtain ⟨g, c, W1, hr1, ho1, hg1⟩ := app_src (P := Tryz.prog) (W.alloc (.cells #[] 44)) W.heap.size 29 29 44 i _ 16 224 Tryz.underlying29 hi hz0 hz1 hz2 rfl (by decide) _ 0 0 [] ho v1 n1 (es1.flatMap enV) (h1.up hb2) (by rw [flat6, l1]) (one6 s1) (by unfold maxLen; omega) (by omega) hb2.size
  rw [Nat.zero_add, List.nil_append] at ho1
  rw [Nat.zero_add] at hr1
  have hb3 := below_grown hb2 ho hg1 hb2.size (Nat.le_refl _)
  obtain ⟨g', c', W2, hr2, ho2, hg2⟩ := app_src (P := Tryz.prog) W1 W.heap.size 29 29 44 i _ 16 224 Tryz.underlying29 hi hz0 hz1 hz2 rfl (by decide) g c n1 (es1.flatMap enV) ho1 v2 n2 (es2.flatMap enV) (h2.up hb3) (by rw [flat6, l2]) (one6 s2) (by unfold maxLen; omega) (by omega) hb3.size
  have hb4 := below_grown hb3 ho1 hg2 hb3.size (Nat.le_refl _)
  refine ⟨_, W1, _, W2, fun ty => hr1, fun ty => hr2, ?_, hb4⟩
  rw [← List.map_append]
  refine row6 (B := W.heap.size) ?_ fun o ho => ?_
  · rw [List.flatMap_append, List.length_append, l1, l2]
    exact ho2
  · rcases List.mem_append.1 ho with h | h
    · exact (s1 o h).below hb4 (Nat.le_refl _)
    · exact (s2 o h).below hb4 (Nat.le_refl _)
/-- Some's entries, as a row that may be appended, in any world that keeps them. -/
theorem sm6 {w w' : World} {l : List Int} {v : Value} (h : SmRel w l l.length v w') : ∃ es : List (Ent × S6), es.map Prod.fst = ESm l l.length ∧ ∀ W, Kpt w.heap.size w' W → Sr6 W v l.length es := by
  obtain ⟨es, h1, h2, h3, h4⟩ := sm_src h
  refine ⟨es.map enS, by rw [List.map_map]; exact h1, fun W hk => ⟨by rw [List.length_map, h2], by rw [enS_en]; exact (h4 W hk).1, fun o ho => ?_⟩⟩
  obtain ⟨o', ho', rfl⟩ := List.mem_map.1 ho
  exact (h4 W hk).2 o' ho'
/-- The first n of Some's entries as a row. -/
theorem rowE_pre {B g cap : Nat} {l : List Int} {es : List (Ent × Value)} {w : World} (h : trailTwice.Lst B l g cap es w) {n : Nat} (hn : n ≤ l.length) : RowE w (.slice (some ⟨g, 0, none⟩) n cap) (ESm l n) := by
  refine ⟨⟨_, _, by rw [ESm_len]⟩, fun i hi => ?_⟩
  have hin : i < n := by simpa [ESm_len] using hi
  have hie : i < es.length := by rw [h.len]; omega
  have hel := h.el i hie
  have hSl := (h.inn es[i] (List.getElem_mem hie)).1
  have e : (ESm l n)[i] = (es[i]).1 := by rw [hel]; simp [ESm]
  refine ⟨g, 0, cap, .slice none 0 0, (es[i]).2, .slice none 0 0, .slice none 0 0, .slice none 0 0, .slice none 0 0, by rw [ESm_len], ?_, fun j u hu => ?_⟩
  · rw [e, hel]
    rw [hel] at hSl
    exact trailTwice.someE_S hSl
  · rw [Nat.zero_add]
    refine h.cells i hie j u ?_
    rw [e] at hu
    unfold enN
    simpa using hu
/-- What is left of Some's entries when the stream is cut. -/
theorem ESm_take (l : List Int) {n q : Nat} (h : q ≤ n) : (ESm l n).take q = ESm l q := by
  unfold ESm
  rw [← List.map_take, List.take_range, Nat.min_eq_left h]
theorem BSm_take (l : List Int) {n q : Nat} (h : q ≤ n) : (BSm l n).take q = BSm l q := by
  unfold BSm
  rw [← List.map_take, ESm_take l h]
theorem SS_pre (l : List Int) {q : Nat} : ∀ {n : Nat}, q ≤ n → trailTwice.SS l q <+: trailTwice.SS l n
  | 0, h => by
    obtain rfl : q = 0 := by omega
    exact List.prefix_refl _
  | n + 1, h => by
    by_cases e : q = n + 1
    · subst e; exact List.prefix_refl _
    · exact (SS_pre l (n := n) (by omega)).trans ⟨_, rfl⟩
/-- What Open finds of tiles that are mixed. -/
theorem found {l : List Int} (hl : bytesOk l) {st n : Nat} (h1 : st ≤ n) (hn : n ≤ 20) {T : Nat → List Int} (hT : ∀ k, k < 60 → T k = tileL (trailTwice.SS l n) k ∨ T k = tileL (trailTwice.SS l st) k) : ∃ q, st ≤ q ∧ q ≤ n ∧ scan (rdL T 60 0) = BSm l q ∧ frsN (scan (rdL T 60 0)) = 51 * q ∧ (rdL T 60 0).take (51 * q) = trailTwice.SS l q := by
  have hlen := trailTwice.SS_len hl n (by omega)
  have hlst := trailTwice.SS_len hl st (by omega)
  obtain ⟨r, e1, e2, e3⟩ := rd_mix (SS_pre l h1) hT (by rw [hlen]; omega) 60 0 (by omega) (by omega)
  rw [Nat.mul_zero, List.drop_zero] at e1
  rw [SS_bsm hl n (by omega)] at e1
  obtain ⟨q, q1, q2, q3⟩ := scan_cut (BSm l n) r (BSm_ok hl (by omega))
  have hbn : (BSm l n).length = n := by unfold BSm; rw [List.length_map, ESm_len]
  rw [hbn] at q1
  have hfr : ∀ j, j ≤ n → frsN ((BSm l n).take j) = 51 * j := fun j hj => by
    rw [BSm_take l hj, frsN_len, ← SS_bsm hl j (by omega), trailTwice.SS_len hl j (by omega)]
  have hst := q3 st (by rw [hbn]; exact h1) (by rw [hfr st h1]; omega)
  rw [← e1] at q2
  have hle := (scan_le (rdL T 60 0)).1
  rw [q2, hfr q q1] at hle
  refine ⟨q, hst, q1, by rw [q2, BSm_take l q1], by rw [q2, hfr q q1], ?_⟩
  rw [e1] at hle ⊢
  rw [List.length_take] at hle
  rw [List.take_take, Nat.min_eq_left (by omega), ← SS_bsm hl n (by omega)]
  have := List.prefix_iff_eq_take.1 (SS_pre l q1)
  rw [trailTwice.SS_len hl q (by omega)] at this
  exact this.symm
end Go.Proofs.YthhnmpobkekbbaaGreat
