/- PoolRec, a part. -/
import Derived.Test.YtljbhdldfffpfaaGreatQx1
namespace Go.Proofs.YtljbhdldfffpfaaGreat.Hp
open Go.RowKit Go.Proofs.YtljbhdldfffpfaaGreat Go.Proofs.YtljbhdldfffpfaaGreat.Lf Go.Maps

/-- What a page in memory has. -/
def CsP (w : World) (y : Pg) (m : Int) : Prop := ∃ c, Cs w y.P y.N y.K c ∧ okC c = true ∧ 0 ≤ y.l ∧ y.l ≤ m
/-- A pool of three pages and three places, the first f of which are used; the pages that are not in memory are zeros on the disk. -/
structure Rp (w : World) (p : Nat) (x : Po) (q bl bn bo g : Nat) (t : Tr) (d : Dk) (m : Int) (f : Nat) : Prop where
  px : PoAt w p x
  lg : x.lg = some q
  log : LogAt w q bl t bn bo g d
  dp : t.dp = x.dk
  ap : ∀ k, Five q bl x.dk bn bo k → k ≠ p ∧ k ≠ x.bm
  first : x.first = 0
  pages : x.pages = 3
  n : x.s.n = 3
  m0 : 0 ≤ m
  hf : f ≤ 3
  used : ∀ i, i < f → (x.s.P i).u = true ∧ 0 ≤ (x.s.P i).k ∧ (x.s.P i).k < 3
  free : ∀ i, f ≤ i → i < 3 → (x.s.P i).u = false
  inj : ∀ i j, i < f → j < f → (x.s.P i).k = (x.s.P j).k → i = j
  cs : ∀ i, i < f → CsP w (x.s.P i).v m
  zero : ∀ k : Nat, k < 3 → (∀ i, i < f → (x.s.P i).k ≠ (k : Int)) → d.has (2 * (k : Int)) zt ∧ d.has (2 * (k : Int) + 1) zt
  tl : 6 ≤ d.tiles
  tf : 6 ≤ t.first
  rc : Rec1 x.recs
  mem : ∀ k, (x.recs k).isSome = true → ∃ i, i < f ∧ (x.s.P i).k = k

theorem cs_turn {w w' : World} {S : Nat → Prop} (hs : w.heap.size ≤ w'.heap.size) (hb : ∀ k, k < w.heap.size → ¬ S k → w'.heap[k]? = w.heap[k]?) (hn : ∀ k, S k → ∀ j z, w.cell? ⟨k, j, none⟩ ≠ some (.int .u8 z)) {P : Nat → Option Addr} {N K : Nat → Nat} {c : Nat → List Int} (h : Cs w P N K c) : Cs w' P N K c := fun i hi => ⟨(h i hi).1, slk_S hs hb hn (h i hi).2⟩
theorem CsP.turn {w w' : World} {S : Nat → Prop} (hs : w.heap.size ≤ w'.heap.size) (hb : ∀ k, k < w.heap.size → ¬ S k → w'.heap[k]? = w.heap[k]?) (hn : ∀ k, S k → ∀ j z, w.cell? ⟨k, j, none⟩ ≠ some (.int .u8 z)) {y : Pg} {m m' : Int} (hm : m ≤ m') (h : CsP w y m) : CsP w' y m' := by
  obtain ⟨c, h1, h2, h3, h4⟩ := h
  exact ⟨c, cs_turn hs hb hn h1, h2, h3, Int.le_trans h4 hm⟩
theorem two2_nou8 {w : World} {p : Nat} {x : Po} (h : PoAt w p x) : ∀ k, Two2 p x.bm k → ∀ j z, w.cell? ⟨k, j, none⟩ ≠ some (.int .u8 z) := by
  rintro k (rfl | rfl)
  · exact po_nou8 h
  · exact fm_nou8 h.map

section
variable {w : World} {p : Nat} {x : Po} {q bl bn bo g : Nat} {t : Tr} {d : Dk} {m : Int} {f : Nat}

/-- Where a page is in memory. -/
theorem Rp.at_ (h : Rp w p x q bl bn bo g t d m f) {i : Nat} {n : Nat} (hi : i < f) (hk : (x.s.P i).k = (n : Int)) : First x.s.n (hit x.s n) i ∧ i < x.s.n := by
  have h3 := h.n
  have hf := h.hf
  refine ⟨⟨by omega, fun j hj => ?_, fun _ => ?_⟩, by omega⟩
  · show ((x.s.P j).u && decide ((x.s.P j).k = (n : Int))) = false
    rw [decide_eq_false (fun e => absurd (h.inj j i (by omega) hi (e.trans hk.symm)) (by omega)), Bool.and_false]
  · show ((x.s.P i).u && decide ((x.s.P i).k = (n : Int))) = true
    rw [(h.used i hi).1, decide_eq_true hk, Bool.and_self]
/-- A page that is not in memory: there is room. -/
theorem Rp.out_ (h : Rp w p x q bl bn bo g t d m f) {n : Nat} (hn : n < 3) (hk : ∀ i, i < f → (x.s.P i).k ≠ (n : Int)) : First x.s.n (hit x.s n) x.s.n ∧ First x.s.n (vac x.s) f ∧ f < x.s.n := by
  have h3 := h.n
  have hf := h.hf
  have hlt : f < 3 := by
    by_cases e : f < 3
    · exact e
    · exfalso
      obtain rfl : f = 3 := by omega
      have u0 := (h.used 0 (by omega)).2
      have u1 := (h.used 1 (by omega)).2
      have u2 := (h.used 2 (by omega)).2
      have k0 := hk 0 (by omega)
      have k1 := hk 1 (by omega)
      have k2 := hk 2 (by omega)
      have i1 : (x.s.P 0).k ≠ (x.s.P 1).k := fun e => absurd (h.inj 0 1 (by omega) (by omega) e) (by omega)
      have i2 : (x.s.P 0).k ≠ (x.s.P 2).k := fun e => absurd (h.inj 0 2 (by omega) (by omega) e) (by omega)
      have i3 : (x.s.P 1).k ≠ (x.s.P 2).k := fun e => absurd (h.inj 1 2 (by omega) (by omega) e) (by omega)
      omega
  refine ⟨⟨Nat.le_refl _, fun j hj => ?_, fun e => absurd e (Nat.lt_irrefl _)⟩, ⟨by omega, fun j hj => ?_, fun _ => ?_⟩, by omega⟩
  · show ((x.s.P j).u && decide ((x.s.P j).k = (n : Int))) = false
    by_cases e : j < f
    · rw [decide_eq_false (hk j e), Bool.and_false]
    · rw [h.free j (by omega) (by omega), Bool.false_and]
  · show (!(x.s.P j).u) = false
    rw [(h.used j hj).1]
    rfl
  · show (!(x.s.P f).u) = true
    rw [h.free f (Nat.le_refl _) hlt]
    rfl
/-- What is there behind a Set: place i has page n, with y in it. -/
theorem Rp.put (h : Rp w p x q bl bn bo g t d m f) {w' : World} {n i f' : Nat} {lsn : Int} {x' : Po} {y : Pg} {c : Nat → List Int} (hx : PoAt w' p x') (hn : n < 3) (hi : (i < f ∧ f' = f ∧ (x.s.P i).k = (n : Int)) ∨ (i = f ∧ f < 3 ∧ f' = f + 1 ∧ ∀ j, j < f → (x.s.P j).k ≠ (n : Int)))
    (hm : m ≤ lsn) (e1 : x'.dk = x.dk) (e2 : x'.lg = x.lg) (e3 : x'.first = x.first) (e4 : x'.pages = x.pages) (e5 : x'.bm = x.bm) (e6 : x'.s.n = x.s.n) (e7 : x'.recs = recsS x.recs n lsn) (hu : (x'.s.P i).u = true) (hk : (x'.s.P i).k = (n : Int)) (hv : (x'.s.P i).v = y) (ho : ∀ j, j ≠ i → x'.s.P j = x.s.P j)
    (hc : Cs w' y.P y.N y.K c) (hok : okC c = true) (hl : y.l = lsn) (hfr : Fr w.heap.size (Two2 p x.bm) w w') : Rp w' p x' q bl bn bo g t d lsn f' := by
  have hm0 := h.m0
  have hf := h.hf
  have keep : ∀ k, Five q bl x.dk bn bo k → w'.heap[k]? = w.heap[k]? := fun k hk => hfr.block k (five_lt h.log k (by rw [h.dp]; exact hk)) (fun e => by
    have := h.ap k hk
    rcases e with e | e
    · exact this.1 e
    · exact this.2 e)
  refine ⟨hx, e2.trans h.lg, logAt_five h.log (fun k hk => keep k (by rw [← h.dp]; exact hk)), h.dp.trans e1.symm, by rw [e1, e5]; exact h.ap, e3.trans h.first, e4.trans h.pages, e6.trans h.n, by omega, by omega, fun j hj => ?_, fun j hj hj3 => ?_, fun a b ha hb e => ?_, fun j hj => ?_, fun k hk3 hno => ?_, h.tl, h.tf, ?_, fun k hk0 => ?_⟩
  · by_cases e : j = i
    · subst e
      exact ⟨hu, by rw [hk]; omega, by rw [hk]; omega⟩
    · rw [ho j e]
      exact h.used j (by omega)
  · rw [ho j (by omega)]
    exact h.free j (by omega) hj3
  · by_cases ea : a = i
    · by_cases eb : b = i
      · omega
      · exfalso
        rw [ea, hk, ho b eb] at e
        rcases hi with ⟨h1, h2, h3⟩ | ⟨h1, h2, h3, h4⟩
        · exact eb (h.inj b i (by omega) h1 (e.symm.trans h3.symm))
        · exact h4 b (by omega) e.symm
    · by_cases eb : b = i
      · exfalso
        rw [eb, hk, ho a ea] at e
        rcases hi with ⟨h1, h2, h3⟩ | ⟨h1, h2, h3, h4⟩
        · exact ea (h.inj a i (by omega) h1 (e.trans h3.symm))
        · exact h4 a (by omega) e
      · rw [ho a ea, ho b eb] at e
        exact h.inj a b (by omega) (by omega) e
  · by_cases e : j = i
    · subst e
      rw [hv]
      exact ⟨c, hc, hok, by omega, by omega⟩
    · rw [ho j e]
      exact (h.cs j (by omega)).turn hfr.size hfr.block (two2_nou8 h.px) hm
  · refine h.zero k hk3 fun j hj e => ?_
    by_cases ej : j = i
    · subst ej
      refine hno j (by omega) ?_
      rcases hi with ⟨h1, h2, h3⟩ | ⟨h1, h2, h3, h4⟩
      · rw [hk, ← e, h3]
      · omega
    · exact hno j (by omega) (by rw [ho j ej]; exact e)
  · rw [e7]
    intro k v hkv
    unfold recsS at hkv
    split at hkv
    · exact h.rc k v hkv
    · unfold Go.Proofs.YtljbhdldfffpfaaGreat.upd at hkv
      split at hkv
      · rename_i e
        subst e
        injection hkv with e
        subst e
        exact ⟨⟨by omega, by omega⟩, lsn, rfl⟩
      · exact h.rc k v hkv
  · by_cases e : k = (n : Int)
    · exact ⟨i, by omega, by rw [hk, e]⟩
    · have hk1 : (x.recs k).isSome = true := by
        rw [e7] at hk0
        unfold recsS at hk0
        split at hk0
        · exact hk0
        · unfold Go.Proofs.YtljbhdldfffpfaaGreat.upd at hk0
          rw [if_neg e] at hk0
          exact hk0
      obtain ⟨j, hj, hjk⟩ := h.mem k hk1
      by_cases ej : j = i
      · subst ej
        exact absurd (by
          rcases hi with ⟨h1, h2, h3⟩ | ⟨h1, h2, h3, h4⟩
          · rw [← hjk, h3]
          · omega) e
      · exact ⟨j, by omega, by rw [ho j ej]; exact hjk⟩

theorem setC_ok {c : Nat → List Int} (h : okC c = true) {n i lsn : Int} {b : List Int} (hb : b.length = 0 ∨ b.length = 26) : okC (setC c n i lsn b) = true := by
  unfold setC
  split
  · refine okC_iff.2 fun j hj => ?_
    unfold Lf.upd
    split
    · unfold okL
      exact decide_eq_true hb
    · exact okC_iff.1 h j hj
  · exact h
theorem okC_len {c : Nat → List Int} (h : okC c = true) : ∀ i, i < 4 → (c i).length ≤ 100000 := fun j hj => by
  have := okC_iff.1 h j hj
  unfold okL at this
  rw [decide_eq_true_eq] at this
  omega
theorem setN_new {l lsn : Int} {a : Nat} (ha : a < 4) (h : l < lsn) : setN l a lsn = lsn := by
  unfold setN setQ
  rw [if_pos]
  simp only [Bool.and_eq_true, decide_eq_true_eq]
  omega
theorem same_new {c c' : Nat → List Int} {l lsn : Int} {a : Nat} (ha : a < 4) (h : l < lsn) : pgSame c c' (setN l a lsn) l = false := by
  unfold pgSame
  rw [setN_new ha h, decide_eq_false (by omega), Bool.and_false]
theorem okC_cz : okC cz = true := okC_iff.2 fun j hj => by
  unfold okL
  rw [cz_nil j hj]
  rfl

/-- Set of a later number than all. -/
theorem rp_set (h : Rp w p x q bl bn bo g t d m f) (n a : Nat) (hn : n < 3) (ha : a < 4) {b : List Int} {A0 : Option Addr} {q0 : Nat} (hb : SlK .u8 w (.slice A0 b.length q0) b) (hbl : b.length = 0 ∨ b.length = 26) {lsn : Int} (hm : m < lsn) :
    Calls Tryz.prog 17 #[.pointer (some ⟨p, 0, none⟩), .int .i64 (n : Int), .int .i64 (a : Int), .slice A0 b.length q0, .int .i64 lsn] w fun e w' => e = .returned (.int .i64 0) ∧ ∃ x' f', Rp w' p x' q bl bn bo g t d lsn f' ∧ x'.recs = recsS x.recs n lsn ∧ x'.bm = x.bm ∧ Fr w.heap.size (Two2 p x.bm) w w' := by
  have hm0 := h.m0
  by_cases hin : ∃ i, i < f ∧ (x.s.P i).k = (n : Int)
  · obtain ⟨i, hi, hk⟩ := hin
    obtain ⟨hF, hI⟩ := h.at_ hi hk
    obtain ⟨c, hcs, hok, hl0, hlm⟩ := h.cs i hi
    have hU : Calls Tryz.prog 42 #[.pointer (some ⟨p, 0, none⟩), .int .i64 (n : Int)] w fun e w1 => ∃ x1, x1 = { x with s := { x.s with P := up x.s.P i { x.s.P i with b := true } } } ∧ UsOk w p c (x.s.P i).v.l 0 (fun w1 => PoAt w1 p x1) e w1 := by
      refine (use_hit w h.px n (by rw [h.pages]; exact hn) hF hI).mono ?_
      rintro e w1 ⟨rfl, hx1, hf1⟩
      exact ⟨_, rfl, (x.s.P i).v.P, (x.s.P i).v.N, (x.s.P i).v.K, rfl, cs_turn hf1.size hf1.block (by rintro k rfl; exact po_nou8 h.px) hcs, hx1, hf1⟩
    refine (set_new w h.px n a (by omega) ha hb hbl (okC_len hok) (i := i) (S := fun x1 => x1 = { x with s := { x.s with P := up x.s.P i { x.s.P i with b := true } } }) (fun x1 e => ?_) h.rc hU (same_new ha (by omega))).mono ?_
    · subst e
      refine ⟨rfl, rfl, ⟨hF.le, fun j hj => ?_, fun _ => ?_⟩, hI⟩
      · have h1 := hF.no j hj
        show ((up x.s.P i _ j).u && decide ((up x.s.P i _ j).k = (n : Int))) = false
        rw [up_other _ (by omega)]
        exact h1
      · have h1 := hF.yes hI
        show ((up x.s.P i _ i).u && decide ((up x.s.P i _ i).k = (n : Int))) = true
        rw [up_same]
        exact h1
    · rintro e w' ⟨x1, rfl, y, hyl, rfl, hx', hc', hf'⟩
      refine ⟨rfl, _, f, h.put hx' hn (i := i) (f' := f) (y := y) (.inl ⟨hi, rfl, hk⟩) (by omega) rfl rfl rfl rfl rfl rfl rfl ?_ ?_ ?_ ?_ hc' (setC_ok hok hbl) (hyl.trans (setN_new ha (by omega))) hf', rfl, rfl, hf'⟩
      · show (up _ i _ i).u = true
        rw [up_same]
        show (up _ i _ i).u = true
        rw [up_same]
        exact (h.used i hi).1
      · show (up _ i _ i).k = _
        rw [up_same]
        show (up _ i _ i).k = _
        rw [up_same]
        exact hk
      · show (up _ i _ i).v = _
        rw [up_same]
      · intro j hj
        show up _ i _ j = _
        rw [up_other _ hj]
        show up _ i _ j = _
        rw [up_other _ hj]
  · have hno : ∀ i, i < f → (x.s.P i).k ≠ (n : Int) := fun i hi e => hin ⟨i, hi, e⟩
    obtain ⟨hF, hV, hI⟩ := h.out_ hn hno
    obtain ⟨hz1, hz2⟩ := h.zero n hn hno
    have htl := h.tl
    have hdk : DkAt w x.dk bn bo g d := by have := h.log.dk; rw [h.dp] at this; exact this
    have hU := use_z w h.px hdk n (by rw [h.pages]; exact hn) (by rw [h.first]; show (0 : Int) + 2 * n + 1 < d.tiles; omega) (by rw [h.first]; show d.has ((0 : Int) + 2 * n) zt; rw [Int.zero_add]; exact hz1) (by rw [h.first]; show d.has ((0 : Int) + 2 * n + 1) zt; rw [Int.zero_add]; exact hz2) hF hV hI
    refine (set_new w h.px n a (by omega) ha hb hbl cz_len (i := f) (S := Came x n f) (fun x1 e => came_S e hI hF) h.rc hU (same_new ha (by omega))).mono ?_
    rintro e w' ⟨x1, ⟨y1, rfl⟩, y, hyl, rfl, hx', hc', hf'⟩
    refine ⟨rfl, _, f + 1, h.put hx' hn (i := f) (f' := f + 1) (y := y) (.inr ⟨rfl, by have := h.n; omega, rfl, hno⟩) (by omega) rfl rfl rfl rfl rfl rfl rfl ?_ ?_ ?_ ?_ hc' (setC_ok okC_cz hbl) (hyl.trans (setN_new ha (by omega))) hf', rfl, rfl, hf'⟩
    · show (up _ f _ f).u = true
      rw [up_same]
      show (up _ f _ f).u = true
      rw [up_same]
    · show (up _ f _ f).k = _
      rw [up_same]
      show (up _ f _ f).k = _
      rw [up_same]
    · show (up _ f _ f).v = _
      rw [up_same]
    · intro j hj
      show up _ f _ j = _
      rw [up_other _ hj]
      show up _ f _ j = _
      rw [up_other _ hj]
end
end Go.Proofs.YtljbhdldfffpfaaGreat.Hp
namespace Go.Proofs.YtljbhdldfffpfaaGreat.Hp
open Go.RowKit Go.Proofs.YtljbhdldfffpfaaGreat Go.Proofs.YtljbhdldfffpfaaGreat.Lf Go.Maps

theorem has_far {d : Dk} {i j : Int} {v : Value} {l : List Int} (h : j ≠ i) (hh : d.has j l) : (d.store i v).has j l := by
  unfold Dk.has Dk.store
  show ((Go.Proofs.YtljbhdldfffpfaaGreat.upd d.now i (some v) j).getD zb) = _ ∧ _
  rw [Go.Proofs.YtljbhdldfffpfaaGreat.upd_other _ h]
  exact hh
theorem wrD_far {d : Dk} {a j : Int} {la lb l : List Int} (h1 : j ≠ a) (h2 : j ≠ a + 1) (hh : d.has j l) : (wrD d a la lb).has j l :=
  show ((d.store a (blkOf la)).store (a + 1) (blkOf lb)).has j l from has_far h2 (has_far h1 hh)

section
variable {w : World} {p : Nat} {x : Po} {q bl bn bo g : Nat} {t : Tr} {d : Dk} {m : Int} {f : Nat}

theorem Rp.turn (h : Rp w p x q bl bn bo g t d m f) {w' : World} {S : Nat → Prop} (hs : w.heap.size ≤ w'.heap.size) (hb : ∀ k, k < w.heap.size → ¬ S k → w'.heap[k]? = w.heap[k]?) (hn : ∀ k, S k → ∀ j z, w.cell? ⟨k, j, none⟩ ≠ some (.int .u8 z)) (hS : ∀ k, S k → k ≠ p ∧ k ≠ x.bm ∧ ¬ Five q bl x.dk bn bo k) : Rp w' p x q bl bn bo g t d m f :=
  ⟨h.px.keep (hb _ h.px.lp fun e => (hS _ e).1 rfl) (hb _ h.px.lm fun e => (hS _ e).2.1 rfl), h.lg, logAt_five h.log (fun k hk => hb k (five_lt h.log k hk) fun e => (hS k e).2.2 (by rw [← h.dp]; exact hk)), h.dp, h.ap, h.first, h.pages, h.n, h.m0, h.hf, h.used, h.free, h.inj, fun i hi => (h.cs i hi).turn hs hb hn (Int.le_refl _), h.zero, h.tl, h.tf, h.rc, h.mem⟩
theorem Rp.on (h : Rp w p x q bl bn bo g t d m f) {w' : World} (hb : Below w.heap.size w w') : Rp w' p x q bl bn bo g t d m f :=
  h.turn (S := fun _ => False) hb.size (fun k hk _ => hb.block k hk) (fun _ e => e.elim) (fun _ e => e.elim)

/-- Flush of any page. -/
theorem rp_flush (h : Rp w p x q bl bn bo g t d m f) (n : Nat) (hn : n < 3) (hm : m ≤ 2147483647) :
    Calls Tryz.prog 21 #[.pointer (some ⟨p, 0, none⟩), .int .i64 (n : Int)] w fun e w' => e = .returned (.int .i64 0) ∧ ∃ x' t' d', Rp w' p x' q bl bn bo g t' d' m f ∧ x'.recs = Go.Proofs.YtljbhdldfffpfaaGreat.upd x.recs n none ∧ x'.bm = x.bm ∧ x'.dk = x.dk ∧ Fr w.heap.size (fun k => Five q bl x.dk bn bo k ∨ k = x.bm) w w' := by
  have hn' : n < x.pages := by rw [h.pages]; exact hn
  cases hr : x.recs n with
  | none =>
    refine (flush_clean w h.px n hn' hr).mono ?_
    rintro e w' ⟨rfl, rfl⟩
    refine ⟨rfl, x, t, d, h, ?_, rfl, rfl, Fr.refl _ _ _⟩
    funext k
    unfold Go.Proofs.YtljbhdldfffpfaaGreat.upd
    split
    · rename_i e
      rw [e, hr]
    · rfl
  | some v =>
    obtain ⟨i, hi, hk⟩ := h.mem n (by rw [hr]; rfl)
    obtain ⟨hF, hI⟩ := h.at_ hi hk
    obtain ⟨c, hcs, hok, hl0, hlm⟩ := h.cs i hi
    obtain ⟨h1, h2, h3⟩ := put_ok hok hl0 (Int.le_trans hlm hm)
    have htl := h.tl
    have hfi := h.first
    refine (flush_dirty w h.px h.lg h.log h.dp h.ap n hn' hr hF hI hcs h1 h2 h3 (by rw [hfi]; show (0 : Int) + 2 * n + 1 < d.tiles; omega)).mono ?_
    rintro e w' ⟨rfl, t1, d1, hfo, hx', hl', hfr⟩
    rw [hfi] at hl'
    have ht1 : t1.dp = t.dp ∧ t1.first = t.first := by
      rcases hfo with ⟨_, e, _⟩ | ⟨_, e, _⟩
      · rw [e]; exact ⟨rfl, rfl⟩
      · rw [e]; exact ⟨rfl, rfl⟩
    have hd1 : d1.tiles = d.tiles ∧ ∀ j l, j < 6 → d.has j l → d1.has j l := by
      rcases hfo with ⟨_, _, e⟩ | ⟨_, _, hfo⟩
      · rw [e]; exact ⟨rfl, fun _ _ _ h => h⟩
      · rcases hfo with ⟨_, e⟩ | hd
        · rw [e]; exact ⟨rfl, fun _ _ _ h => h⟩
        · exact ⟨hd.tiles, fun j l hj hl => hd.far j l (fun k _ => by have := h.tf; omega) hl⟩
    have hnou : ∀ k, (Five q bl x.dk bn bo k ∨ k = x.bm) → ∀ j z, w.cell? ⟨k, j, none⟩ ≠ some (.int .u8 z) := by
      rintro k (e | rfl)
      · exact five_nou8 h.log k (by rw [h.dp]; exact e)
      · exact fm_nou8 h.px.map
    refine ⟨rfl, _, t1, _, ⟨hx', h.lg, hl', ht1.1.trans h.dp, h.ap, h.first, h.pages, h.n, h.m0, h.hf, h.used, h.free, h.inj, fun j hj => (h.cs j hj).turn hfr.size hfr.block hnou (Int.le_refl _), fun k hk3 hno => ?_, ?_, by rw [ht1.2]; exact h.tf, ?_, fun k hk0 => ?_⟩, rfl, rfl, rfl, hfr⟩
    · obtain ⟨z1, z2⟩ := h.zero k hk3 hno
      have hne : k ≠ n := fun e => hno i hi (by rw [e]; exact hk)
      refine ⟨wrD_far ?_ ?_ (hd1.2 _ _ (by omega) z1), wrD_far ?_ ?_ (hd1.2 _ _ (by omega) z2)⟩
      all_goals omega
    · show 6 ≤ d1.tiles
      rw [hd1.1]
      exact htl
    · intro k v hkv
      have hkv : Go.Proofs.YtljbhdldfffpfaaGreat.upd x.recs n none k = some v := hkv
      unfold Go.Proofs.YtljbhdldfffpfaaGreat.upd at hkv
      split at hkv
      · cases hkv
      · exact h.rc k v hkv
    · have hkv : (Go.Proofs.YtljbhdldfffpfaaGreat.upd x.recs n none k).isSome = true := hk0
      unfold Go.Proofs.YtljbhdldfffpfaaGreat.upd at hkv
      split at hkv
      · cases hkv
      · exact h.mem k hkv

/-- The log appends an entry. -/
theorem rp_app (h : Rp w p x q bl bn bo g t d m f) {s1 s2 s3 s4 s5 s6 : Value} (hs : EntS w s1 s2 s3 s4 s5 s6 (eEnd 0)) :
    Calls Tryz.prog 16 #[.pointer (some ⟨q, 0, none⟩), .agg (entC (eEnd 0) s1 s2 s3 s4 s5 s6)] w fun e w' => (∃ a b, e = .returned (.tuple #[.int .i64 a, .int .i64 b])) ∧ Rp w' p x q bl bn bo g (apT t (eEnd 0)) d m f ∧ Fr w.heap.size (Two q bl) w w' := by
  refine (append_any w h.log.tr (eEnd 0) hs (eEnd_I ⟨by decide, by decide⟩)).mono ?_
  rintro e w' ⟨rfl, ht', hf'⟩
  have hap : (apT t (eEnd 0)).dp = t.dp ∧ (apT t (eEnd 0)).first = t.first ∧ (apT t (eEnd 0)).tiles = t.tiles := by
    unfold apT
    split <;> exact ⟨rfl, rfl, rfl⟩
  have hkeep : ∀ k, k < w.heap.size → k = p ∨ k = x.bm → w'.heap[k]? = w.heap[k]? := fun k hk e => hf'.block k hk (fun e2 => by
    have := h.ap k (Or.inl e2)
    rcases e with e | e
    · exact this.1 e
    · exact this.2 e)
  refine ⟨⟨_, _, rfl⟩, ⟨h.px.keep (hkeep _ h.px.lp (Or.inl rfl)) (hkeep _ h.px.lm (Or.inr rfl)), h.lg, h.log.app ht' hf' hap.1 hap.2.1 hap.2.2, hap.1.trans h.dp, h.ap, h.first, h.pages, h.n, h.m0, h.hf, h.used, h.free, h.inj, fun i hi => (h.cs i hi).turn hf'.size hf'.block (fun k hk => five_nou8 h.log k (Or.inl hk)) (Int.le_refl _), h.zero, h.tl, by rw [hap.2.1]; exact h.tf, h.rc, h.mem⟩, hf'⟩
end
end Go.Proofs.YtljbhdldfffpfaaGreat.Hp
namespace Go.Proofs.YtljbhdldfffpfaaGreat.Hp
open Go.RowKit Go.Proofs.YtljbhdldfffpfaaGreat Go.Proofs.YtljbhdldfffpfaaGreat.Lf Go.Maps

theorem cell_lt {w : World} {a : Addr} {v : Value} (h : w.cell? a = some v) : a.block < w.heap.size := by
  unfold World.cell? at h
  by_cases e : a.block < w.heap.size
  · exact e
  · exfalso
    simp [Array.getElem?_eq_none (Nat.le_of_not_lt e)] at h
/-- The array's variable. -/
structure Ar (w : World) (o : Nat) (R : Nat → Int) : Prop where
  lt : o < w.heap.size
  at_ : ∀ k, k < 3 → w.cell? ⟨o, k, none⟩ = some (.int .i64 (R k)) ∧ w.frozen? ⟨o, k, none⟩ = false
  ou : ∀ j z, w.cell? ⟨o, j, none⟩ ≠ some (.int .u8 z)
theorem Ar.kept {w w' : World} {o : Nat} {R : Nat → Int} (h : Ar w o R) (hs : w.heap.size ≤ w'.heap.size) (hb : w'.heap[o]? = w.heap[o]?) : Ar w' o R :=
  ⟨Nat.lt_of_lt_of_le h.lt hs, fun k hk => ⟨(World.cell?_of_block (a := ⟨o, k, none⟩) hb).trans (h.at_ k hk).1, (World.frozen?_of_block (a := ⟨o, k, none⟩) hb).trans (h.at_ k hk).2⟩, fun j z e => h.ou j z ((World.cell?_of_block (a := ⟨o, j, none⟩) hb).symm.trans e)⟩
def upR (R : Nat → Int) (k : Nat) (v : Int) : Nat → Int := fun j => if j = k then v else R j
theorem Ar.set {w : World} {o k : Nat} {R : Nat → Int} (h : Ar w o R) (hk : k < 3) (v : Int) : Ar (w.setCell ⟨o, k, none⟩ (.int .i64 v)) o (upR R k v) := by
  have same : (w.setCell ⟨o, k, none⟩ (.int .i64 v)).cell? ⟨o, k, none⟩ = some (.int .i64 v) := World.cell?_setCell_same' _ _ _ (by rw [(h.at_ k hk).1]; rfl)
  have other : ∀ j, j ≠ k → (w.setCell ⟨o, k, none⟩ (.int .i64 v)).cell? ⟨o, j, none⟩ = w.cell? ⟨o, j, none⟩ := fun j e => by
    apply World.cell?_setCell_other; intro e2; exact e (by simpa using e2.symm)
  refine ⟨by simpa using h.lt, fun j hj => ⟨?_, by rw [World.frozen?_setCell]; exact (h.at_ j hj).2⟩, fun j z => ?_⟩
  · by_cases e : j = k
    · subst e
      rw [same]
      simp [upR]
    · rw [other j e]
      simp [upR, e, (h.at_ j hj).1]
  · by_cases e : j = k
    · subst e
      rw [same]
      simp
    · rw [other j e]
      exact h.ou j z

/-- Pool, log, disk and the array, apart from one another, all behind w. -/
structure RG (w wr : World) (p q bl bn bo pd bm o : Nat) (R : Nat → Int) (x : Po) (t : Tr) (d : Dk) (m : Int) (f : Nat) : Prop where
  rp : Rp wr p x q bl bn bo 0 t d m f
  ebm : x.bm = bm
  edk : x.dk = pd
  ar : Ar wr o R
  be : Below w.heap.size w wr
  lo : ∀ k, (Five q bl pd bn bo k ∨ k = p ∨ k = bm ∨ k = o) → w.heap.size ≤ k
  no : o ≠ p ∧ o ≠ bm ∧ ¬ Five q bl pd bn bo o
section
variable {w wr : World} {p q bl bn bo pd bm o : Nat} {R : Nat → Int} {x : Po} {t : Tr} {d : Dk} {m : Int} {f : Nat}
theorem RG.on (h : RG w wr p q bl bn bo pd bm o R x t d m f) {w' : World} (hb : Below wr.heap.size wr w') : RG w w' p q bl bn bo pd bm o R x t d m f :=
  ⟨h.rp.on hb, h.ebm, h.edk, h.ar.kept hb.size (hb.block _ h.ar.lt), h.be.trans (hb.mono h.be.size), h.lo, h.no⟩
theorem RG.next (h : RG w wr p q bl bn bo pd bm o R x t d m f) {w' : World} {x' : Po} {t' : Tr} {d' : Dk} {m' : Int} {f' : Nat} {S : Nat → Prop} (h' : Rp w' p x' q bl bn bo 0 t' d' m' f') (e1 : x'.bm = x.bm) (e2 : x'.dk = x.dk) (hf : Fr wr.heap.size S wr w') (hS : ∀ k, S k → Five q bl pd bn bo k ∨ k = p ∨ k = bm) : RG w w' p q bl bn bo pd bm o R x' t' d' m' f' :=
  ⟨h', e1.trans h.ebm, e2.trans h.edk, h.ar.kept hf.size (hf.block _ h.ar.lt fun e => by
    rcases hS _ e with e | e | e
    · exact h.no.2.2 e
    · exact h.no.1 e
    · exact h.no.2.1 e), bel_fr h.be hf (fun k hk => h.lo k (by
    rcases hS k hk with e | e | e
    · exact Or.inl e
    · exact Or.inr (Or.inl e)
    · exact Or.inr (Or.inr (Or.inl e)))), h.lo, h.no⟩
theorem RG.set (h : RG w wr p q bl bn bo pd bm o R x t d m f) {k : Nat} (hk : k < 3) (v : Int) : RG w (wr.setCell ⟨o, k, none⟩ (.int .i64 v)) p q bl bn bo pd bm o (upR R k v) x t d m f := by
  refine ⟨h.rp.turn (S := fun j => j = o) (by simp) (fun j _ hj => Below.heap_setCell _ _ _ _ hj) (fun j hj => by rw [hj]; exact h.ar.ou) (fun j hj => by rw [hj, h.ebm, h.edk]; exact h.no), h.ebm, h.edk, h.ar.set hk v, h.be.setCell (h.lo o (Or.inr (Or.inr (Or.inr rfl)))) _, h.lo, h.no⟩
end

/-- What the array says of the map. -/
def RR (recs : Int → Option Value) (R : Nat → Int) : Prop := ∀ k : Nat, k < 3 → (0 ≤ R k ∧ R k ≤ 20) ∧ recs (k : Int) = if R k = 0 then none else some (.int .i64 (R k))
theorem RR.set {recs : Int → Option Value} {R : Nat → Int} (h : RR recs R) {n : Nat} (hn : n < 3) {lsn : Int} (h0 : 0 < lsn) (h1 : lsn ≤ 20) : (R n = 0 → RR (recsS recs n lsn) (upR R n lsn)) ∧ (R n ≠ 0 → RR (recsS recs n lsn) R) := by
  have hR := (h n hn).2
  refine ⟨fun e k hk => ?_, fun e k hk => ?_⟩
  · rw [if_pos e] at hR
    unfold recsS upR
    rw [hR]
    simp only [Option.isSome_none, Bool.false_eq_true, if_false]
    by_cases ek : k = n
    · subst ek
      simp only [if_true]
      rw [Go.Proofs.YtljbhdldfffpfaaGreat.upd_same]
      exact ⟨⟨by omega, h1⟩, by rw [if_neg (by omega)]⟩
    · rw [if_neg ek, Go.Proofs.YtljbhdldfffpfaaGreat.upd_other _ (by omega)]
      exact h k hk
  · rw [if_neg e] at hR
    unfold recsS
    rw [hR]
    simp only [Option.isSome_some, if_true]
    exact h k hk
theorem RR.drop {recs : Int → Option Value} {R : Nat → Int} (h : RR recs R) {n : Nat} : RR (Go.Proofs.YtljbhdldfffpfaaGreat.upd recs n none) (upR R n 0) := fun k hk => by
  unfold upR
  by_cases ek : k = n
  · subst ek
    simp only [if_true]
    rw [Go.Proofs.YtljbhdldfffpfaaGreat.upd_same]
    exact ⟨⟨by omega, by omega⟩, rfl⟩
  · rw [if_neg ek, Go.Proofs.YtljbhdldfffpfaaGreat.upd_other _ (by omega)]
    exact h k hk

/-- The numbers that are dirty, and how many of them lie ahead of one. -/
def lsR (R : Nat → Int) : List Int := (if R 0 = 0 then [] else [0]) ++ ((if R 1 = 0 then [] else [1]) ++ (if R 2 = 0 then [] else [2]))
def mR (R : Nat → Int) : Nat → Nat
  | 0 => 0
  | k + 1 => mR R k + (if R k = 0 then 0 else 1)
theorem mR_skip {R : Nat → Int} {k : Nat} (h : R k = 0) : mR R (k + 1) = mR R k := by
  show mR R k + (if R k = 0 then 0 else 1) = mR R k
  rw [if_pos h]
  rfl
theorem mR_step {R : Nat → Int} {k : Nat} (h : R k ≠ 0) : mR R (k + 1) = mR R k + 1 := by
  show mR R k + (if R k = 0 then 0 else 1) = mR R k + 1
  rw [if_neg h]
theorem mR_le (R : Nat → Int) : ∀ k, mR R k ≤ k
  | 0 => Nat.le_refl _
  | k + 1 => by
    have h := mR_le R k
    show mR R k + (if R k = 0 then 0 else 1) ≤ k + 1
    split <;> omega
theorem sorted_ext : ∀ {a b : List Int}, a.Pairwise (· < ·) → b.Pairwise (· < ·) → (∀ x, x ∈ a ↔ x ∈ b) → a = b
  | [], [], _, _, _ => rfl
  | [], y :: b, _, _, h => absurd ((h y).2 (List.mem_cons_self ..)) (by simp)
  | x :: a, [], _, _, h => absurd ((h x).1 (List.mem_cons_self ..)) (by simp)
  | x :: a, y :: b, ha, hb, h => by
    have hx := fun z hz => List.rel_of_pairwise_cons ha (a' := z) hz
    have hy := fun z hz => List.rel_of_pairwise_cons hb (a' := z) hz
    have exy : x = y := by
      have h1 := (h x).1 (List.mem_cons_self ..)
      have h2 := (h y).2 (List.mem_cons_self ..)
      rw [List.mem_cons] at h1 h2
      rcases h1 with h1 | h1
      · exact h1
      · rcases h2 with h2 | h2
        · exact h2.symm
        · have := hx y h2; have := hy x h1; omega
    subst exy
    rw [sorted_ext (List.Pairwise.of_cons ha) (List.Pairwise.of_cons hb) (fun z => ?_)]
    have hz := h z
    rw [List.mem_cons, List.mem_cons] at hz
    constructor
    · intro e
      rcases hz.1 (Or.inr e) with e2 | e2
      · have := hx z e; omega
      · exact e2
    · intro e
      rcases hz.2 (Or.inr e) with e2 | e2
      · have := hy z e; omega
      · exact e2
theorem lsR_sorted (R : Nat → Int) : (lsR R).Pairwise (· < ·) := by
  unfold lsR
  by_cases h0 : R 0 = 0 <;> by_cases h1 : R 1 = 0 <;> by_cases h2 : R 2 = 0 <;> simp [h0, h1, h2]
theorem lsR_mem (R : Nat → Int) (z : Int) : z ∈ lsR R ↔ ∃ k : Nat, k < 3 ∧ z = (k : Int) ∧ R k ≠ 0 := by
  unfold lsR
  constructor
  · intro h
    rw [List.mem_append, List.mem_append] at h
    rcases h with h | h | h
    · split at h
      · cases h
      · rw [List.mem_singleton] at h; exact ⟨0, by omega, h, by assumption⟩
    · split at h
      · cases h
      · rw [List.mem_singleton] at h; exact ⟨1, by omega, h, by assumption⟩
    · split at h
      · cases h
      · rw [List.mem_singleton] at h; exact ⟨2, by omega, h, by assumption⟩
  · rintro ⟨k, hk, rfl, hR⟩
    rw [List.mem_append, List.mem_append]
    match k, hk with
    | 0, _ => left; rw [if_neg hR]; simp
    | 1, _ => right; left; rw [if_neg hR]; simp
    | 2, _ => right; right; rw [if_neg hR]; simp
theorem lsR_at (R : Nat → Int) : (lsR R).length = mR R 3 ∧ ∀ k : Nat, k < 3 → R k ≠ 0 → (lsR R)[mR R k]? = some (k : Int) := by
  unfold lsR
  refine ⟨?_, fun k hk hR => ?_⟩
  · unfold mR mR mR mR
    by_cases h0 : R 0 = 0 <;> by_cases h1 : R 1 = 0 <;> by_cases h2 : R 2 = 0 <;> simp [h0, h1, h2]
  · match k, hk with
    | 0, _ => simp [mR, hR]
    | 1, _ => by_cases h0 : R 0 = 0 <;> simp [mR, h0, hR]
    | 2, _ => by_cases h0 : R 0 = 0 <;> by_cases h1 : R 1 = 0 <;> simp [mR, h0, h1, hR]

theorem flat2 (r : Int → Option Value) : ∀ (ls : List Int) (j : Nat) (h : j < ls.length), (ls.flatMap (dtC r))[2 * j]? = some (.int .i64 ls[j]) ∧ (ls.flatMap (dtC r))[2 * j + 1]? = some (.int .i64 (rcOf r ls[j]))
  | [], j, h => absurd h (Nat.not_lt_zero j)
  | a :: ls, 0, _ => by rw [List.flatMap_cons]; exact ⟨rfl, rfl⟩
  | a :: ls, j + 1, h => by
    have ih := flat2 r ls j (Nat.lt_of_succ_lt_succ h)
    rw [List.flatMap_cons]
    have hl : (dtC r a).length = 2 := rfl
    rw [List.getElem?_append_right (by rw [hl]; omega), List.getElem?_append_right (by rw [hl]; omega), hl, show 2 * (j + 1) - 2 = 2 * j by omega, show 2 * (j + 1) + 1 - 2 = 2 * j + 1 by omega]
    exact ih
/-- The cells of what Dirty answers. -/
theorem dirty_cells {w : World} {B n cp : Nat} {A : Option Addr} {r : Int → Option Value} {ls : List Int} (hn : ls.length = n) (h : w.ownsRow B 74 2 (.slice A n cp) n (ls.flatMap (dtC r))) (h0 : 0 < n) :
    ∃ gd, A = some ⟨gd, 0, none⟩ ∧ ∀ j (hj : j < ls.length), w.cell? ⟨gd, 2 * j, none⟩ = some (.int .i64 ls[j]) ∧ w.cell? ⟨gd, 2 * j + 1, none⟩ = some (.int .i64 (rcOf r ls[j])) := by
  rcases h.2 with ⟨_, e⟩ | ⟨g', cap, cur, h2, -, hg, -, -, -, h7⟩
  · omega
  · injection h2 with h2 h3 h4
    subst h2
    have hc : ∀ i, i < n * 2 → cur[i]? = (ls.flatMap (dtC r))[i]? := fun i hi => by
      have e1 : (cur.toList.take (n * 2))[i]? = (ls.flatMap (dtC r))[i]? := by rw [h7]
      rw [List.getElem?_take, if_pos hi] at e1
      simpa using e1
    refine ⟨g', rfl, fun j hj => ?_⟩
    obtain ⟨f1, f2⟩ := flat2 r ls j hj
    exact ⟨(cell_of hg _).1.trans ((hc _ (by omega)).trans f1), (cell_of hg _).1.trans ((hc _ (by omega)).trans f2)⟩
/-- What Dirty answers says what the array says. -/
theorem dirty_says {recs : Int → Option Value} {R : Nat → Int} {ls : List Int} (hl : LsOf recs ls) (hr : RR recs R) (hm : ∀ k, (recs k).isSome = true → 0 ≤ k ∧ k < 3) : ls.length = mR R 3 ∧ ∀ k : Nat, k < 3 → R k ≠ 0 → ∃ h : mR R k < ls.length, ls[mR R k] = (k : Int) ∧ rcOf recs ls[mR R k] = R k := by
  obtain rfl : ls = lsR R := sorted_ext hl.1 (lsR_sorted R) fun z => by
    rw [hl.2 z, lsR_mem]
    constructor
    · intro e
      obtain ⟨a, b⟩ := hm z e
      refine ⟨z.toNat, by omega, by omega, fun e2 => ?_⟩
      have h2 := (hr z.toNat (by omega)).2
      rw [if_pos e2, show ((z.toNat : Nat) : Int) = z by omega] at h2
      rw [h2] at e
      cases e
    · rintro ⟨k, hk, rfl, h0⟩
      rw [(hr k hk).2, if_neg h0]
      rfl
  obtain ⟨h1, h2⟩ := lsR_at R
  refine ⟨h1, fun k hk h0 => ?_⟩
  have h3 := h2 k hk h0
  obtain ⟨hlt, he⟩ := List.getElem?_eq_some_iff.1 h3
  refine ⟨hlt, he, ?_⟩
  rw [he]
  unfold rcOf
  rw [(hr k hk).2, if_neg h0]
end Go.Proofs.YtljbhdldfffpfaaGreat.Hp
