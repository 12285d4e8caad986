/- give. -/
import Derived.Test.YtmijdjlpfjfjoaaRdT
import Derived.Sort.CutIn
namespace Go.Proofs.Ytmijdjlpfjfjoaa.Rx
open Go.RowKit Go.Shelf
attribute [local go_sem] Oper.semAt_some

theorem slK_kept {X Y : World} {v : Value} {l : List Int} (h : SlK .u8 X v l) {row : Option Nat} (hg : X.grownBy Y row) (hr : ∀ r, row = some r → ∃ o : Obj, X.heap[r]? = some o ∧ o.isCells = false) : SlK .u8 Y v l := by
  obtain ⟨p, cap, rfl, h1, h2, h3, h4⟩ := h
  refine ⟨p, cap, rfl, h1, h2, h3, fun a ha => ?_⟩
  obtain ⟨q1, q2, q3⟩ := h4 a ha
  exact ⟨q1, Nat.lt_of_lt_of_le q2 hg.size, fun j hj => cell_kept (q3 j hj) hg hr⟩
/-- Only one block below has turned. -/
structure Tn (g : Nat) (w w' : World) : Prop where
  b : Below g w w'
  o : ∀ k, k ≠ g → k < w.heap.size → w'.heap[k]? = w.heap[k]?
theorem Tn.refl (g : Nat) (w : World) : Tn g w w := ⟨Below.refl _ _, fun _ _ _ => rfl⟩
theorem Tn.trans {g : Nat} {a b c : World} (h : Tn g a b) (k : Tn g b c) : Tn g a c := ⟨h.b.trans k.b, fun i hi hl => (k.o i hi (Nat.lt_of_lt_of_le hl h.b.size)).trans (h.o i hi hl)⟩
theorem Tn.of_below {g : Nat} {w w' : World} (h : Below w.heap.size w w') (hg : g ≤ w.heap.size) : Tn g w w' := ⟨h.mono hg, fun _ _ hl => h.block _ hl⟩
theorem Tn.set {g : Nat} (w : World) (i : Nat) (v : Value) : Tn g w (w.setCell ⟨g, i, none⟩ v) := ⟨(Below.refl g w).setCell (p := ⟨g, i, none⟩) (Nat.le_refl _) v, fun _ hk _ => Below.heap_setCell _ _ _ _ hk⟩
theorem Tn.own {β : Type} {g B : Nat} {w0 : World} (hg : g ≤ w0.heap.size) (hB : w0.heap.size ≤ B) : OwnFrom B (fun (_ : β) W => Tn g w0 W) := fun s X Y row hs hgr hr =>
  ⟨ownFrom_below (β := β) hg (Nat.le_trans hg hB) s X Y row hs.b hgr hr, fun k hk hl => (hgr.block k (Nat.lt_of_lt_of_le hl hs.b.size) (fun e => by have := (hr k e.symm).1; omega)).trans (hs.o k hk hl)⟩
theorem SlK.tn {g : Nat} {w w' : World} {v : Value} {l : List Int} (h : SlK .u8 w v l) (k : Tn g w w') (hne : ∀ a n c, v = .slice (some a) n c → l ≠ [] → a.block ≠ g) : SlK .u8 w' v l := by
  obtain ⟨p, cap, rfl, h1, h2, h3, h4⟩ := h
  refine ⟨p, cap, rfl, h1, h2, h3, fun a ha => ?_⟩
  obtain ⟨q1, q2, q3⟩ := h4 a ha
  refine ⟨q1, Nat.lt_of_lt_of_le q2 k.b.size, fun j hj => ?_⟩
  rw [← q3 j hj]
  exact World.cell?_of_block (k.o _ (hne a _ _ (by rw [ha]) (fun e => by rw [e] at hj; cases hj)) q2)
/-- What a page's block holds is no bytes. -/
theorem slK_off {w : World} {g : Nat} {P : Nat → Option Addr} {N K : Nat → Nat} {n : Int} (hp : w.heap[g]? = some (pgO P N K n)) {v : Value} {l : List Int} (h : SlK .u8 w v l) : ∀ a m c, v = .slice (some a) m c → l ≠ [] → a.block ≠ g := by
  intro a m c e hne hb
  obtain ⟨p, cap, e2, h1, h2, h3, h4⟩ := h
  rw [e] at e2
  injection e2 with e3 e4 e5
  obtain ⟨q1, q2, q3⟩ := h4 a e3.symm
  have h0 := q3 0 (List.length_pos_iff.2 hne)
  obtain ⟨ab, ao, asp⟩ := a
  cases q1
  have hb' : ab = g := hb
  subst hb'
  have hc := (cell_of (cs := pgC P N K n) hp (ao + 0)).1
  rw [show w.cell? ⟨ab, ao + 0, none⟩ = _ from h0] at hc
  unfold pgC at hc
  match hq : ao + 0 with
  | 0 => rw [hq] at hc; cases hc
  | 1 => rw [hq] at hc; cases hc
  | 2 => rw [hq] at hc; cases hc
  | 3 => rw [hq] at hc; cases hc
  | 4 => rw [hq] at hc; injection hc with hc; injection hc with hc; cases hc
  | k + 5 => rw [hq] at hc; cases hc
/-- The page at g, and what its cells read. -/
def PgAt (W : World) (g : Nat) (lsn : Int) (c : Nat → List Int) : Prop := ∃ P N K, W.heap[g]? = some (pgO P N K lsn) ∧ Cs W P N K c
theorem PgAt.set {W : World} {g : Nat} {lsn : Int} {c : Nat → List Int} (h : PgAt W g lsn c) {A : Option Addr} {k : Nat} {l : List Int} (hs : SlK .u8 W (.slice A l.length k) l) {i : Nat} (hi : i < 4) : PgAt (W.setCell ⟨g, i, none⟩ (.slice A l.length k)) g lsn (fun j => if j = i then l else c j) := by
  obtain ⟨P, N, K, h1, h2⟩ := h
  refine ⟨_, _, _, pg_set h1 hi A _ k, fun j hj => ?_⟩
  by_cases e : j = i
  · subst e
    refine ⟨by simp only [upd, if_true], ?_⟩
    simp only [upd, if_true]
    exact SlK.tn hs (Tn.set _ _ _) (slK_off h1 hs)
  · simp only [upd, if_neg e]
    exact ⟨(h2 j hj).1, SlK.tn (h2 j hj).2 (Tn.set _ _ _) (slK_off h1 (h2 j hj).2)⟩
theorem PgAt.own {β : Type} (g : Nat) (lsn : Int) (c : β → Nat → List Int) : Own (fun s W => PgAt W g lsn (c s)) := fun s X Y row hs hg hr => by
  obtain ⟨P, N, K, h1, h2⟩ := hs
  exact ⟨P, N, K, obj_own g (fun (_ : Unit) => pgC P N K lsn) 35 () X Y row h1 hg hr, fun i hi => ⟨(h2 i hi).1, slK_kept (h2 i hi).2 hg hr⟩⟩
theorem PgAt.below {W W' : World} {g : Nat} {lsn : Int} {c : Nat → List Int} (h : PgAt W g lsn c) (hb : Below W.heap.size W W') : PgAt W' g lsn c := by
  obtain ⟨P, N, K, h1, h2⟩ := h
  exact ⟨P, N, K, (hb.block _ (Array.getElem?_eq_some_iff.1 h1).1).trans h1, h2.below hb (Nat.le_refl _)⟩

set_option maxRecDepth 100000 in
set_option maxHeartbeats 4000000 in
theorem give_in (w w0 : World) (g : Nat) (e : En) (x : Ex) (n lsn : Int) (c : Nat → List Int) (hE : EnIn w0 e x) (hw : Below w0.heap.size w0 w) (hg : w0.heap.size ≤ g) (hp : PgAt w g lsn c) :
    CallsIn Fence.wide 8 Try.prog 19 #[.pointer (some ⟨g, 0, none⟩), .int .i64 n, .agg (enC e x)] w fun r w' => r = .returned (.tuple #[]) ∧ PgAt w' g lsn (giv n c (tl e)) ∧ Tn g w w' := by
  have HE := Lib.hid hE
  have HP := Lib.hid hp
  have HW := Lib.hid hw
  have hgl : g < w.heap.size := by obtain ⟨P, N, K, h1, _⟩ := hp; exact (Array.getElem?_eq_some_iff.1 h1).1
  clear hE hp hw
  refine callsIn_of_wp_marks Try.func19 rfl trivial ?_ rfl
  simp only [Try.ntmps19, List.size_toArray, List.length_cons, List.length_nil, Nat.reduceAdd, Nat.reduceSub, Array.replicate_succ, Array.replicate_zero, List.push_toArray, List.append_toArray, List.nil_append, List.cons_append]
  have s1 : (w.alloc (.cells #[.pointer (some ⟨g, 0, none⟩)] 62)).heap.size = w.heap.size + 1 := by simp
  have s2 : ((w.alloc (.cells #[.pointer (some ⟨g, 0, none⟩)] 62)).alloc (.cells #[.int .i64 n] 3)).heap.size = w.heap.size + 2 := by simp
  have hB1 : Below w.heap.size w (w.alloc (.cells #[.pointer (some ⟨g, 0, none⟩)] 62)) := (Below.refl _ _).alloc (Nat.le_refl _) _
  have hB2 := hB1.alloc (by omega) (.cells #[.int .i64 n] 3)
  have hB3 := hB2.alloc (by omega) (.cells (enC e x) 31)
  have hX : (((w.alloc (.cells #[.pointer (some ⟨g, 0, none⟩)] 62)).alloc (.cells #[.int .i64 n] 3)).alloc (.cells (enC e x) 31)).heap[w.heap.size + 1 + 1]? = some (.cells (enC e x) 31 (0, 0)) := by
    have := heap_alloc_new ((w.alloc (.cells #[.pointer (some ⟨g, 0, none⟩)] 62)).alloc (.cells #[.int .i64 n] 3)) (.cells (enC e x) 31)
    rwa [s2] at this
  have bP : Boxed (((w.alloc (.cells #[.pointer (some ⟨g, 0, none⟩)] 62)).alloc (.cells #[.int .i64 n] 3)).alloc (.cells (enC e x) 31)) w.heap.size 62 (.pointer (some ⟨g, 0, none⟩)) :=
    ((Boxed.new w 62 (.pointer (some ⟨g, 0, none⟩))).alloc (.cells #[.int .i64 n] 3)).alloc (.cells (enC e x) 31)
  have bN : Boxed (((w.alloc (.cells #[.pointer (some ⟨g, 0, none⟩)] 62)).alloc (.cells #[.int .i64 n] 3)).alloc (.cells (enC e x) 31)) (w.heap.size + 1) 3 (.int .i64 n) := by
    have := (Boxed.new (w.alloc (.cells #[.pointer (some ⟨g, 0, none⟩)] 62)) 3 (.int .i64 n)).alloc (.cells (enC e x) 31)
    rwa [s1] at this
  have hS3 : (((w.alloc (.cells #[.pointer (some ⟨g, 0, none⟩)] 62)).alloc (.cells #[.int .i64 n] 3)).alloc (.cells (enC e x) 31)).heap.size = w.heap.size + 3 := by simp
  have HX := Lib.hid hX
  have H3 := Lib.hid (And.intro hB3 (And.intro bP (And.intro bN hS3)))
  have HI := Lib.hid (infoE2 e x)
  clear hB1 hB2 hB3 hX bP bN s1 s2 hS3
  gi_wp2_with (first
    | (with_reducible refine wpListIn_load_row rfl 31 (.tmp 5) rfl (w.heap.size + 1 + 1) rfl 31 _ (0, 0) _ HX.out Try.underlying31 rfl HI.out ?_)
    | (refine ⟨trivial, ?_⟩; gi_at_call 23; refine (touched_in _ _ _ _).mono ?_; rintro r w1 ⟨rfl, rfl⟩))
  obtain ⟨hB3, bP, bN, hS3⟩ := H3.out
  generalize ((w.alloc (.cells #[.pointer (some ⟨g, 0, none⟩)] 62)).alloc (.cells #[.int .i64 n] 3)).alloc (.cells (enC e x) 31) = w3 at *
  clear H3 HX HI
  have hXb : Bx (w3.alloc (enO e x)) w3.heap.size e x := ⟨heap_alloc_new w3 _⟩
  have hB4 : Below w.heap.size w (w3.alloc (enO e x)) := hB3.alloc (by omega) _
  have hS4 : (w3.alloc (enO e x)).heap.size = w.heap.size + 4 := by simp [hS3]
  have bP4 := bP.alloc (enO e x)
  have bN4 := bN.alloc (enO e x)
  rw [show clo (w.heap.size + 1 + 1 + 1) = .func (.func 29) #[] #[.pointer (some ⟨w3.heap.size, 0, none⟩)] from by rw [hS3]; rfl]
  generalize w3.alloc (enO e x) = w4 at *
  generalize w3.heap.size = b at *
  clear hB3 bP bN
  have HS := Lib.hid (And.intro hS3 (And.intro hS4 (And.intro hg hgl)))
  clear hS3 hS4 hg hgl
  refine wpIn_range_tells rfl (by omega) (gf := 29) (lb := #[.pointer (some ⟨b, 0, none⟩)]) rfl trivial (enters_of Try.func29 (by kernel_rfl) rfl)
    (touched_tells _ (by omega) b e x w0 w4 HE.out (HW.out.trans (hB4.mono HW.out.size)) hXb) Kp.trans (fun W l o' hl => Kp.book (by have := HS.out; have := HW.out.size; omega) (by have := HS.out; omega) hl) (fun _ => rfl)
    (fun pre W => (Boxed W w.heap.size 62 (.pointer (some ⟨g, 0, none⟩)) ∧ Boxed W (w.heap.size + 1) 3 (.int .i64 n)) ∧ (Tn g w W ∧ w.heap.size + 4 ≤ W.heap.size) ∧ PgAt W g lsn (giv n c (tls pre)))
    (fun _ _ _ => False)
    (OwnFrom.and (OwnFrom.and (Own.from (boxed_own _ _ _) _) (Own.from (boxed_own _ _ _) _)) (OwnFrom.and (OwnFrom.and (Tn.own (by have := HS.out; omega) (by have := HS.out; omega)) (own_size _ _)) (Own.from (PgAt.own _ _ _) _)))
    (fun c => fun _ _ _ _ h _ _ => h)
    ⟨⟨bP4, bN4⟩, ⟨Tn.of_below hB4 (by have := HS.out; omega), by have := HS.out; omega⟩, HP.out.below hB4⟩
    (fun t a' W => ∃ Bv, w.heap.size + 3 < Bv ∧ BoxR W Bv t.p t.c ∧ Gd t W ∧ a' = { tmps := #[.pointer (some ⟨g, 0, none⟩), .int .i64 n, .agg (enC e x), .pointer (some ⟨w.heap.size, 0, none⟩), .pointer (some ⟨w.heap.size + 1, 0, none⟩), .pointer (some ⟨w.heap.size + 1 + 1, 0, none⟩), .pointer (some ⟨Bv, 0, none⟩), .slice t.A t.l.length t.k, .agg (enC e x), .func (.func 29) #[] #[.pointer (some ⟨b, 0, none⟩)], .agg #[.int .i64 t.p, .int .i64 t.c], .slice t.A t.l.length t.k, undef, undef, undef, undef, undef, undef, undef, undef, undef, undef, undef, undef, undef, undef, undef, undef, undef, undef, undef, undef, undef], defers := [] })
    (fun t a' _ X Y row hs hg hr => by obtain ⟨Bv, h1, h2, h3, h4⟩ := hs; exact ⟨Bv, h1, obj_own Bv (fun (_ : Unit) => #[.int .i64 t.p, .int .i64 t.c]) 25 () X Y row h2 hg (fun r e => (hr r e).2), slK_kept h3 hg (fun r e => (hr r e).2), h4⟩)
    ?assign ?body ?done ?stop
  case assign =>
    rintro l pre t W K ⟨⟨bP2, bN2⟩, ⟨hB2, hZ2⟩, hT⟩ hGd hK
    have HGd := Lib.hid hGd
    clear hGd
    unfold encT
    gi_wp2
    have hal := fun o => (Below.refl W.heap.size W).alloc (Nat.le_refl _) o
    exact hK _ _ ((KeepsOthers.alloc _ _).from _) (Kp.of_below (hal _) (by have := HS.out; have := HW.out.size; omega) (by have := HS.out; omega)) ⟨⟨bP2.alloc _, bN2.alloc _⟩, ⟨hB2.trans (Tn.of_below (hal _) (by have := HS.out; omega)), by simp; omega⟩, hT.below (hal _)⟩ ⟨W.heap.size, by omega, heap_alloc_new _ _, HGd.out.below (hal _) (Nat.le_refl _), rfl⟩
  case body =>
    rintro l pre t a' W hl ⟨⟨bP2, bN2⟩, ⟨hB2, hZ2⟩, hT⟩ ⟨Bv, hBv, bX, hGd, rfl⟩
    obtain ⟨p, hp⟩ : ∃ p : Int, p = t.p := ⟨_, rfl⟩
    obtain ⟨q, hq⟩ : ∃ q : Int, q = t.c := ⟨_, rfl⟩
    rw [← hp, ← hq] at bX ⊢
    have x0 := (cell_of bX 0).1
    have x1 := (cell_of bX 1).1
    have x2 := bN2.cell
    have x3 := bP2.cell
    have H2 := Lib.hid (And.intro bP2 (And.intro bN2 (And.intro hB2 (And.intro hZ2 hGd))))
    have HX := Lib.hid bX
    have HQ := Lib.hid (And.intro hp hq)
    have HT := Lib.hid hT
    have HG := Lib.hid (giv_snoc n c (tls pre) t.t)
    rw [← tls_snoc] at HG
    clear hp hq bP2 bN2 hB2 hZ2 bX hGd hT hBv
    by_cases hpn : p = n
    · by_cases h0 : 0 ≤ q
      · by_cases h4 : q < 4
        · obtain ⟨i, rfl⟩ : ∃ i : Nat, q = (i : Int) := ⟨q.toNat, by omega⟩
          have hi : i < 4 := by omega
          have hW4 : ∃ u, W.cell? ⟨g, i, none⟩ = some u ∧ W.frozen? ⟨g, i, none⟩ = false := by
            obtain ⟨P, N, K, h1, _⟩ := HT.out
            exact ⟨_, (pg_cell h1).1 i hi, (pg_cell h1).2.2 i⟩
          obtain ⟨u, x4, f4⟩ := hW4
          have HN : Hid (giv n c (tls (pre ++ [t])) = fun j => if j = i then t.l else giv n c (tls pre) j) := by
            show giv n c (tls (pre ++ [t])) = _
            rw [HG.out, giv1, if_pos ⟨by show t.p = n; rw [← HQ.out.1, hpn], by show inC t.c = true; rw [← HQ.out.2]; simp [inC]; omega⟩]
            show (fun j => if j = t.c.toNat then t.l else _) = _
            rw [← HQ.out.2, Int.toNat_natCast]
          subst hpn
          have x0' : W.cell? ⟨Bv, 0, none⟩ = some (.int .i64 p) := x0
          have x1' : W.cell? ⟨Bv, 1, none⟩ = some (.int .i64 (i : Int)) := x1
          have HF : Hid (∀ W5, W5 = (W.setCell ⟨g, i, none⟩ (.slice t.A t.l.length t.k)).drew → KeepsFrom w4.heap.size W W5 ∧ Kp w0.heap.size b W W5 ∧ (Boxed W5 w.heap.size 62 (.pointer (some ⟨g, 0, none⟩)) ∧ Boxed W5 (w.heap.size + 1) 3 (.int .i64 p)) ∧ (Tn g w W5 ∧ w.heap.size + 4 ≤ W5.heap.size) ∧ PgAt W5 g lsn (giv p c (tls (pre ++ [t])))) := by
            rintro W5 rfl
            obtain ⟨bP2, bN2, hB2, hZ2, hGd⟩ := H2.out
            have hS1 := HS.out
            have hS2 := HW.out.size
            refine ⟨KeepsFrom.trans ((KeepsOthers.setCell _ _ _).from _) (KeepsFrom.of_below ((Below.refl _ _).drew)), ⟨((Below.refl _ W).setCell (p := ⟨g, i, none⟩) hS1.2.2.1 _).drew, Below.heap_setCell _ _ _ _ (by show b ≠ g; omega)⟩, ⟨(Below.heap_setCell _ _ _ _ (show w.heap.size ≠ g by omega)).trans bP2, (Below.heap_setCell _ _ _ _ (show w.heap.size + 1 ≠ g by omega)).trans bN2⟩, ⟨hB2.trans ((Tn.set _ _ _).trans (Tn.of_below ((Below.refl _ _).drew) (by simp; omega))), by simp; omega⟩, ?_⟩
            rw [HN.out]
            exact (HT.out.set hGd (by omega)).below ((Below.refl _ _).drew)
          clear x0 x1 hXb hB4 bP4 bN4 hi
          gi_wp2
          clear x2 x0' h0
          gi_region
          all_goals exact HF.out _ rfl
        · have HN : Hid (giv n c (tls (pre ++ [t])) = giv n c (tls pre)) := by
            show giv n c (tls (pre ++ [t])) = _
            rw [HG.out, giv1, if_neg (fun h => h4 (by have := h.2; change inC t.c = true at this; rw [← HQ.out.2] at this; simp [inC] at this; omega))]
          subst hpn
          gi_wp2
          obtain ⟨bP2, bN2, hB2, hZ2, hGd⟩ := H2.out
          exact ⟨KeepsFrom.of_below (Below.refl _ _), Kp.refl _ _ _, ⟨bP2, bN2⟩, ⟨hB2, hZ2⟩, by rw [HN.out]; exact HT.out⟩
      · have HN : Hid (giv n c (tls (pre ++ [t])) = giv n c (tls pre)) := by
          show giv n c (tls (pre ++ [t])) = _
          rw [HG.out, giv1, if_neg (fun h => h0 (by have := h.2; change inC t.c = true at this; rw [← HQ.out.2] at this; simp [inC] at this; omega))]
        subst hpn
        gi_wp2
        obtain ⟨bP2, bN2, hB2, hZ2, hGd⟩ := H2.out
        exact ⟨KeepsFrom.of_below (Below.refl _ _), Kp.refl _ _ _, ⟨bP2, bN2⟩, ⟨hB2, hZ2⟩, by rw [HN.out]; exact HT.out⟩
    · have HN : Hid (giv n c (tls (pre ++ [t])) = giv n c (tls pre)) := by
        show giv n c (tls (pre ++ [t])) = _
        rw [HG.out, giv1, if_neg (fun h => hpn (by have := h.1; change t.p = n at this; rw [HQ.out.1]; exact this))]
      gi_wp2
      obtain ⟨bP2, bN2, hB2, hZ2, hGd⟩ := H2.out
      exact ⟨KeepsFrom.of_below (Below.refl _ _), Kp.refl _ _ _, ⟨bP2, bN2⟩, ⟨hB2, hZ2⟩, by rw [HN.out]; exact HT.out⟩
  case done =>
    rintro D ys W hD hys ⟨⟨bP2, bN2⟩, ⟨hB2, hZ2⟩, hT⟩ hK
    rw [hys] at hT
    have H2 := Lib.hid (And.intro hB2 (And.intro hT hK))
    have HD := Lib.hid hD
    clear hB2 hT hK bP2 bN2 hys hD
    gi_wp2
    obtain ⟨hB2, hT, hK⟩ := H2.out
    have hgr := grownBy_putObj' W D (.deferred none)
    have hrow : ∀ r, some D = some r → ∃ o : Obj, W.heap[r]? = some o ∧ o.isCells = false := fun r e => by cases e; exact ⟨_, hK, rfl⟩
    refine ⟨by simp, .inl ⟨_, _, rfl, run_takeDeferred hK, ?_⟩⟩
    exact ⟨_, results_none rfl _ _ _, rfl, PgAt.own g lsn (fun (_ : Unit) => giv n c (tl e)) () _ _ _ hT hgr hrow, Tn.own (β := Unit) (by have := HS.out; omega) (Nat.le_refl _) () _ _ _ hB2 hgr (fun r e => by cases e; exact ⟨by have := HS.out; have := HD.out; omega, _, hK, rfl⟩)⟩
  case stop =>
    rintro D c pre W hD hSp hF hK
    exact hF.elim
end Go.Proofs.Ytmijdjlpfjfjoaa.Rx
