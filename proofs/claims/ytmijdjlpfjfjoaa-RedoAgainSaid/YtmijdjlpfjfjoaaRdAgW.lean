/- RedoAgain's walk. -/
import Derived.Test.YtmijdjlpfjfjoaaRdSm
import Derived.Test.YtmijdjlpfjfjoaaRdAllW
import Derived.Deep.DeepCutAuto
namespace Go.Proofs.Ytmijdjlpfjfjoaa.Rx
open Go.RowKit

/-! ### plainly: pages behind entries -/
abbrev Pg := (Nat → List Int) × Int
/-- A page behind an entry. -/
def ap1 (p : Int) (s : Pg) (e : En) (now : Int) : Pg := (apC s.1 s.2 p e now, apN s.2 p e now)
/-- A page behind some entries, the first of which has the number a + 1. -/
def aps (p : Int) (s : Pg) : List En → Int → Pg
  | [], _ => s
  | e :: l, a => aps p (ap1 p s e (a + 1)) l (a + 1)
theorem aps_snoc (p : Int) (l : List En) (e : En) : ∀ (s : Pg) (a : Int), aps p s (l ++ [e]) a = ap1 p (aps p s l a) e (a + l.length + 1) := by
  induction l with
  | nil => intro s a; show aps p (ap1 p s e (a + 1)) [] (a + 1) = ap1 p s e (a + (0 : Nat) + 1); simp [aps]
  | cons x l ih =>
    intro s a
    show aps p (ap1 p s x (a + 1)) (l ++ [e]) (a + 1) = ap1 p (aps p (ap1 p s x (a + 1)) l (a + 1)) e _
    rw [ih]
    congr 1
    rw [List.length_cons]
    push_cast
    omega
/-- What a page has stays if the number isn't above its own. -/
theorem ap1_old (p : Int) (s : Pg) (e : En) (now : Int) (h : now ≤ s.2) : ap1 p s e now = s := by
  have : apc s.2 p e now = false := by unfold apc; rw [decide_eq_false (by omega)]; rfl
  unfold ap1 apC apN
  rw [this]
  simp
/-- A page's number isn't above that of the last entry. -/
theorem aps_le (p : Int) (l : List En) : ∀ (s : Pg) (a : Int), s.2 ≤ a → (aps p s l a).2 ≤ a + l.length := by
  induction l with
  | nil => intro s a h; show s.2 ≤ a + (0 : Nat); omega
  | cons x l ih =>
    intro s a h
    have h1 : (ap1 p s x (a + 1)).2 ≤ a + 1 := by
      show apN s.2 p x (a + 1) ≤ a + 1
      unfold apN
      split <;> omega
    have := ih (ap1 p s x (a + 1)) (a + 1) h1
    show (aps p (ap1 p s x (a + 1)) l (a + 1)).2 ≤ _
    rw [List.length_cons]
    push_cast
    omega
theorem aps_app (p : Int) (l m : List En) : ∀ (s : Pg) (a : Int), aps p s (l ++ m) a = aps p (aps p s l a) m (a + l.length) := by
  induction l with
  | nil => intro s a; show aps p s m a = aps p s m (a + (0 : Nat)); simp
  | cons x l ih =>
    intro s a
    show aps p (ap1 p s x (a + 1)) (l ++ m) (a + 1) = aps p (aps p (ap1 p s x (a + 1)) l (a + 1)) m _
    rw [ih]
    congr 1
    rw [List.length_cons]
    push_cast
    omega
/-- Whatever a page doesn't have of these entries doesn't touch it. -/
def DoneP (p : Int) (t : Pg) (l : List En) (a : Int) : Prop := ∀ i (h : i < l.length), a + (i : Nat) + 1 ≤ t.2 ∨ tch (tl l[i]) p = false
theorem done_aps (p : Int) (l : List En) : ∀ (t : Pg) (a : Int), DoneP p t l a → aps p t l a = t := by
  induction l with
  | nil => intro t a _; rfl
  | cons x l ih =>
    intro t a h
    have h1 : ap1 p t x (a + 1) = t := by
      rcases h 0 (by simp) with h0 | h0
      · exact ap1_old _ _ _ _ (by simpa using h0)
      · have : apc t.2 p x (a + 1) = false := by unfold apc; rw [show tch (tl x) p = false from h0, Bool.and_false]
        unfold ap1 apC apN
        rw [this]
        simp
    show aps p (ap1 p t x (a + 1)) l (a + 1) = t
    rw [h1]
    refine ih t (a + 1) fun i hi => ?_
    have := h (i + 1) (by simpa using hi)
    push_cast at this
    rcases this with h2 | h2
    · exact .inl (by omega)
    · exact .inr h2
theorem aps_done (p : Int) (l : List En) (s : Pg) (a : Int) (hs : s.2 ≤ a) : DoneP p (aps p s l a) l a := by
  have key : ∀ (n : Nat) (l : List En), l.length = n → DoneP p (aps p s l a) l a := by
    intro n
    induction n with
    | zero => intro l hl i h; omega
    | succ n ihn =>
    intro l0 hl0
    have hne : l0 ≠ [] := fun e => by rw [e] at hl0; cases hl0
    obtain ⟨l, x, rfl⟩ : ∃ l x, l0 = l ++ [x] := ⟨_, _, (List.dropLast_concat_getLast hne).symm⟩
    have ih := ihn l (by simpa using hl0)
    clear ihn hl0 hne
    intro i hi
    rw [aps_snoc]
    rw [List.length_append, List.length_singleton] at hi
    have hle := aps_le p l s a hs
    by_cases hc : apc (aps p s l a).2 p x (a + l.length + 1) = true
    · left
      show _ ≤ apN _ _ _ _
      unfold apN
      rw [if_pos hc]
      omega
    · have e1 : ap1 p (aps p s l a) x (a + l.length + 1) = aps p s l a := by unfold ap1 apC apN; rw [if_neg hc, if_neg hc]
      rw [e1]
      by_cases hlt : i < l.length
      · rcases ih i hlt with h | h
        · exact .inl h
        · right
          rw [List.getElem_append_left hlt]
          exact h
      · have hi' : i = l.length := by omega
        subst hi'
        simp only [apc, Bool.and_eq_true, decide_eq_true_eq, not_and, Bool.not_eq_true] at hc
        by_cases h2 : (aps p s l a).2 < a + l.length + 1
        · right
          rw [List.getElem_append_right (Nat.le_refl _)]
          simpa using hc h2
        · left
          omega
  exact key _ l rfl
/-- Who does all again, over whatever was there of it, is where one was. -/
theorem aps_again (p : Int) (s : Pg) (l : List En) (K : Nat) (hs : s.2 ≤ 0) : aps p (aps p s (l.take K) 0) l 0 = aps p s l 0 := by
  have h := aps_app p (l.take K) (l.drop K) (aps p s (l.take K) 0) 0
  have h2 := aps_app p (l.take K) (l.drop K) s 0
  rw [List.take_append_drop] at h h2
  rw [h, h2, done_aps p _ _ _ (aps_done p _ s 0 hs)]

/-! ### pages in memory -/
theorem PgAt.fin_same {W : World} {g : Nat} {P' N' K'} {n' : Int} {P : Nat → Option Addr} {N K : Nat → Nat} {n : Int} {c : Nat → List Int} (hr : W.heap[g]? = some (pgO P' N' K' n')) (hc : Cs W P N K c) : PgAt (finP W g P N K n) g n c :=
  ⟨P, N, K, finP_heap hr, cs_fin hr hc⟩
theorem fin_other (W : World) (g h : Nat) (hne : h ≠ g) (P : Nat → Option Addr) (N K : Nat → Nat) (n : Int) : (finP W g P N K n).heap[h]? = W.heap[h]? := by
  unfold finP
  exact (Below.heap_setCell _ _ _ _ hne).trans ((Below.heap_setCell _ _ _ _ hne).trans ((Below.heap_setCell _ _ _ _ hne).trans ((Below.heap_setCell _ _ _ _ hne).trans (Below.heap_setCell _ _ _ _ hne))))
theorem PgAt.fin_other {W : World} {g h : Nat} (hne : h ≠ g) {P' N' K'} {n' : Int} (hr : W.heap[g]? = some (pgO P' N' K' n')) {m : Int} {c : Nat → List Int} (hp : PgAt W h m c) (P : Nat → Option Addr) (N K : Nat → Nat) (n : Int) : PgAt (finP W g P N K n) h m c := by
  obtain ⟨P2, N2, K2, h1, h2⟩ := hp
  exact ⟨P2, N2, K2, (Rx.fin_other W g h hne P N K n).trans h1, cs_fin hr h2⟩
theorem fin_size (W : World) (g : Nat) (P : Nat → Option Addr) (N K : Nat → Nat) (n : Int) : (finP W g P N K n).heap.size = W.heap.size := by unfold finP; simp
theorem infoP : (Try.prog.info? 35).map (·.size) = some 5 := by kernel_rfl
theorem infoP2 (P : Nat → Option Addr) (N K : Nat → Nat) (n : Int) : (Try.prog.info? 35).map (·.size) = some (pgC P N K n).size := infoP
theorem held_at {P : Program} {a : Act} {o : Oper} {W : World} (ty : TypeId) (x : Operand) (ho : o.op = .load ty x) (g off : Nat) (hx : a.eval x = .pointer (some ⟨g, off, none⟩)) (cs : Array Value) (d : TypeDesc)
    (hc : ∀ j v, cs[j]? = some v → W.cell? ⟨g, off + j, none⟩ = some v) (hu : P.underlying ty = some d) (hd : (match d with | .struct _ | .array _ _ => true | _ => false) = true) (hi : (P.info? ty).map (·.size) = some cs.size) :
    (execOp a.eval o).run P W = .ok (.value (.agg cs)) W := by
  unfold execOp
  simp only [ho, hx, Instr.loadAt, Instr.sureAddr, Sem.run_bind, Sem.run_pure, Result.andThen_ok, run_loadVar_at W g off ty cs d hc hu hd hi]
theorem en_row {w : World} {A : Option Addr} {n c : Nat} {es : List EX} (h : Els w (.slice A n c) 16 (es.map enV)) {i : Nat} (hi : i < es.length) : ∃ b off, A = some ⟨b, off, none⟩ ∧ b < w.heap.size ∧ ∀ j v, (enC es[i].1 es[i].2)[j]? = some v → w.cell? ⟨b, off + i * 16 + j, none⟩ = some v := by
  obtain ⟨b, off, h1, h2, h3⟩ := h.one (i := i) (by simpa using hi)
  refine ⟨b, off, h1, h2, fun j v hv => ?_⟩
  have hj : j < 16 := (Array.getElem?_eq_some_iff.1 hv).1
  rw [h3 j hj, ← hv, List.getElem_map]
  show (enC es[i].1 es[i].2).toList[j]? = _
  rw [Array.getElem?_toList]
/-WALK-/
def s0 : Pg := (fun _ => [], 0)
theorem aps_lens (p : Int) (l : List En) (hl : ∀ e ∈ l, e.new.length ≤ 100000) : ∀ (s : Pg) (a : Int), (∀ i, i < 4 → (s.1 i).length ≤ 100000) → ∀ i, i < 4 → ((aps p s l a).1 i).length ≤ 100000 := by
  induction l with
  | nil => intro s a h; exact h
  | cons x l ih =>
    intro s a h
    refine ih (fun e he => hl e (List.mem_cons_of_mem _ he)) _ _ ?_
    intro i hi
    show (apC s.1 s.2 p x (a + 1) i).length ≤ _
    unfold apC
    split
    · exact giv_len (tl_len (hl x (List.mem_cons_self ..))) h i hi
    · exact h i hi
theorem some_new {l : List Int} : ∀ e ∈ l.map someE, e.new.length ≤ 100000 := fun e he => by
  obtain ⟨n, _, rfl⟩ := List.mem_map.1 he
  have := newS_len n
  show (newS n).length ≤ _
  omega

set_option maxRecDepth 100000 in
set_option maxHeartbeats 4000000 in
theorem redoAgain_any (w : World) (v : Value) (l : List Int) (k n : Int) (hl : SlK .u16 w v l) (hk : 0 ≤ k ∧ k ≤ 255) (hn : 0 ≤ n ∧ n ≤ 255) :
    Calls Try.prog 4 #[v, .int .u8 k, .int .u8 n] w fun r w' => r = .returned (.bool true) ∧ Below w.heap.size w w' := by
  obtain ⟨A, cap, rfl, -⟩ := id hl
  have HL := Lib.hid hl
  clear hl
  go_enter Try.func4, Try.ntmps4
  go_upto_region 3 with (go_at_call 7; refine (begun16 _).mono ?_; rintro r w2 ⟨rfl, hb2⟩)
  have HB2 := Lib.hid hb2
  clear hb2
  by_cases hl12 : 12 < l.length
  · go_wp2
    go_ret
    exact ⟨rfl, HB2.out⟩
  have hn4 : n.tmod 4 = n % 4 := Int.tmod_eq_emod_of_nonneg hn.1
  have hw1 : IntKind.i64.wrap (n % 4) = n % 4 := IntWalk.i64_in _ (by omega)
  have hw2 : IntKind.u8.wrap (n % 4) = n % 4 := IntWalk.u8_in _ (by omega)
  have HSo := Lib.hid (some_any w2 (.slice A l.length cap) l (HL.out.below HB2.out (Nat.le_refl _)) (by omega))
  go_upto_region 7 with (go_at_call 14; refine HSo.out.mono ?_; rintro r w4 ⟨v4, es, rfl, he4, hE4, hI4, hb4⟩; clear HSo; obtain ⟨A4, c4, rfl, -⟩ := id hE4)
  obtain ⟨p, hp⟩ : ∃ p, p = n % 4 := ⟨_, rfl⟩
  rw [← hp]
  clear hn4 hw1 hw2 hp
  obtain ⟨L, hLd⟩ : ∃ L, L = l.map someE := ⟨_, rfl⟩
  have hlen : es.length = L.length := by rw [hLd, ← he4]; simp
  rw [List.length_map, hlen] at hE4
  rw [hlen]
  have HLn : Hid (∀ e ∈ L, e.new.length ≤ 100000) := by rw [hLd]; exact some_new
  have hL12 : L.length ≤ 12 := by rw [hLd]; simp; omega
  rw [← hLd] at he4
  have HE4 := Lib.hid hE4
  have HI4 := Lib.hid hI4
  have HEs := Lib.hid he4
  have HLe := Lib.hid hlen
  have HB4 := Lib.hid (HB2.out.trans (hb4.mono HB2.out.size))
  clear hE4 hI4 he4 hlen hb4 hLd
  go_upto_region 8 with (fail)
  have hs1 : (w4.alloc (pgO P0 N0 N0 0)).heap.size = w4.heap.size + 1 := by simp
  have hb5 := ((Below.refl w4.heap.size w4).alloc (Nat.le_refl _) (pgO P0 N0 N0 0)).alloc (by omega) (pgO P0 N0 N0 0)
  have hk1 : ((w4.alloc (pgO P0 N0 N0 0)).alloc (pgO P0 N0 N0 0)).heap[w4.heap.size]? = some (pgO P0 N0 N0 0) := (Below.heap_alloc _ _ _ (by omega)).trans (heap_alloc_new w4 _)
  have hk2 : ((w4.alloc (pgO P0 N0 N0 0)).alloc (pgO P0 N0 N0 0)).heap[w4.heap.size + 1]? = some (pgO P0 N0 N0 0) := by
    have := heap_alloc_new (w4.alloc (pgO P0 N0 N0 0)) (pgO P0 N0 N0 0)
    rwa [hs1] at this
  show Code.wp _ _ _ _ ((w4.alloc (pgO P0 N0 N0 0)).alloc (pgO P0 N0 N0 0))
  have H5 : Hid (PgAt ((w4.alloc (pgO P0 N0 N0 0)).alloc (pgO P0 N0 N0 0)) w4.heap.size (aps p s0 (L.take 0) 0).2 (aps p s0 (L.take 0) 0).1 ∧ PgAt ((w4.alloc (pgO P0 N0 N0 0)).alloc (pgO P0 N0 N0 0)) (w4.heap.size + 1) (aps p s0 (L.take 0) 0).2 (aps p s0 (L.take 0) 0).1) := ⟨⟨_, _, _, hk1, cs_nil _⟩, ⟨_, _, _, hk2, cs_nil _⟩⟩
  have HB45 := Lib.hid hb5
  clear hs1 hb5 hk1 hk2
  generalize (w4.alloc (pgO P0 N0 N0 0)).alloc (pgO P0 N0 N0 0) = w5 at *
  obtain ⟨g, hg⟩ : ∃ g, g = w4.heap.size := ⟨_, rfl⟩
  rw [show w4.heap.size + 1 = g + 1 by rw [hg]]
  rw [← hg]
  rw [← hg] at H5
  have HG : Hid (w4.heap.size ≤ g) := Nat.le_of_eq hg.symm
  clear hg
  obtain ⟨M, hM⟩ : ∃ M : Nat, k.tmod ((L.length : Int) + 1) = (M : Int) := ⟨(k % ((L.length : Int) + 1)).toNat, by rw [Int.tmod_eq_emod_of_nonneg hk.1]; have := Int.emod_nonneg k (show ((L.length : Int) + 1) ≠ 0 by omega); omega⟩
  have hM13 : M ≤ L.length := by
    have := Int.tmod_lt_of_pos k (show (0 : Int) < (L.length : Int) + 1 by omega)
    omega
  go_wp2
  go_loopw [11] (fun iv wr => Hid (∃ i : Nat, i ≤ L.length ∧ iv = .int .i64 (i : Int) ∧ PgAt wr g (aps p s0 (L.take i) 0).2 (aps p s0 (L.take i) 0).1 ∧ PgAt wr (g + 1) (aps p s0 (L.take (min i M)) 0).2 (aps p s0 (L.take (min i M)) 0).1 ∧ Below w4.heap.size w4 wr)) (fun iv _ => L.length - (RowKit.intOf iv).toNat)
  case atStart => exact ⟨0, Nat.zero_le _, rfl, by rw [Nat.zero_min]; exact ⟨H5.out.1, H5.out.2, HB45.out⟩⟩
  case round =>
    obtain ⟨i, hi, rfl, hp1, hp2, hbw⟩ := hrel.out
    clear hrel H5
    by_cases hlt : i < L.length
    · obtain ⟨e, he⟩ : ∃ e, e = (es[i]'(by rw [HLe.out]; exact hlt)).1 := ⟨_, rfl⟩
      obtain ⟨x, hx⟩ : ∃ x, x = (es[i]'(by rw [HLe.out]; exact hlt)).2 := ⟨_, rfl⟩
      have hLe : L[i] = e := by rw [he]; simp only [← HEs.out, List.getElem_map]
      have HEi := Lib.hid ((HI4.out _ (List.getElem_mem (by rw [HLe.out]; exact hlt))).1.below hbw (Nat.le_refl _))
      rw [← he, ← hx] at HEi
      obtain ⟨eb, eo, rfl, _, hec⟩ := en_row (HE4.out.below hbw (Nat.le_refl _)) (i := i) (by rw [HLe.out]; exact hlt)
      rw [← he, ← hx] at hec
      obtain ⟨s, hs⟩ : ∃ s, s = aps p s0 (L.take i) 0 := ⟨_, rfl⟩
      have HSt : Hid (aps p s0 (L.take (i + 1)) 0 = ap1 p s e ((i : Int) + 1)) := by
        show aps p s0 (L.take (i + 1)) 0 = _
        rw [List.take_succ_eq_append_getElem hlt, aps_snoc, hLe, ← hs]
        congr 1
        rw [List.length_take]
        push_cast
        omega
      rw [← hs] at hp1
      have HLs : Hid (∀ i, i < 4 → (s.1 i).length ≤ 100000) := by rw [hs]; exact aps_lens p _ (fun e he => HLn.out e (List.mem_of_mem_take he)) s0 0 (fun _ _ => Nat.zero_le _)
      have HPq := Lib.hid (And.intro hp1 (And.intro hp2 hbw))
      obtain ⟨P5, N5, K5, h5, hc5⟩ := hp1
      have HCs := Lib.hid hc5
      have HNe : Hid (g + 1 ≠ g) := by show g + 1 ≠ g; omega
      have HGb : Hid (w4.heap.size ≤ g) := HG.out
      have HLT := Lib.hid hlt
      clear he hx hLe hs hp2 hbw
      go_upto_region 11 with (fail)
      have hS0 : (fun Z : World => Z.heap[g]? = some (pgO P5 N5 K5 s.2) ∧ ∀ j v, (enC e x)[j]? = some v → Z.cell? ⟨eb, eo + i * 16 + j, none⟩ = some v) wr.drew := ⟨h5, hec⟩
      have HSn : Hid (∀ Z, Below wr.heap.size wr Z → (Z.heap[g]? = some (pgO P5 N5 K5 s.2) ∧ ∀ j v, (enC e x)[j]? = some v → Z.cell? ⟨eb, eo + i * 16 + j, none⟩ = some v)) := fun Z hZ => ⟨(hZ.block _ (Array.getElem?_eq_some_iff.1 h5).1).trans h5, fun j v h => (hZ.cell (p := ⟨eb, eo + i * 16 + j, none⟩) (World.block_lt_of_cell? wr _ (hec j v h))).trans (hec j v h)⟩
      have HBz0 : Hid (Below wr.heap.size wr wr.drew) := (Below.refl _ _).drew
      have HIx := Lib.hid (infoE2 e x)
      have hwr : IntKind.i64.wrap ((i : Int) + 1) = (i : Int) + 1 := IntWalk.i64_in _ (by omega)
      have HIp := Lib.hid (infoP2 P5 N5 K5 s.2)
      refine wp_region_G (fun Z : World => Z.heap[g]? = some (pgO P5 N5 K5 s.2) ∧ ∀ j v, (enC e x)[j]? = some v → Z.cell? ⟨eb, eo + i * 16 + j, none⟩ = some v) (fun j => j == 12) (by kernel_rfl) ?_
      clear h5 hc5 hec
      generalize wr.drew = z0 at *
      refine wpAnyG_take (i := 0) (oi := ⟨_, _, _, _, _, _⟩) (v := .agg #[.slice (P5 0) (N5 0) (K5 0), .slice (P5 1) (N5 1) (K5 1), .slice (P5 2) (N5 2) (K5 2), .slice (P5 3) (N5 3) (K5 3), .int .i64 s.2]) rfl (by kernel_rfl) (by kernel_rfl) (by kernel_rfl) (by kernel_rfl) (fun _ _ _ h => h) hS0 (Or.inl ⟨by rfl, fun W hW => held_row 35 (.tmp 9) rfl g rfl 35 _ (0, 0) _ hW.1 Try.underlying35 rfl HIp.out⟩) ?_
      try simp only [Act.put, List.setIfInBounds_toArray, List.set_cons_zero, List.set_cons_succ]
      refine wpAnyG_take0 (i := 1) (oi := ⟨_, _, _, _, _, _⟩) (v := ?_) rfl (by kernel_rfl) (by kernel_rfl) (by kernel_rfl) (fun _ _ _ h => h) (Or.inl ⟨by rfl, ?_⟩) ?_
      rotate_left
      · intro W _
        go_simp
        try with_reducible rfl
      rotate_left
      try simp only [Act.put, List.setIfInBounds_toArray, List.set_cons_zero, List.set_cons_succ]
      refine wpAnyG_take0 (i := 2) (oi := ⟨_, _, _, _, _, _⟩) (v := ?_) rfl (by kernel_rfl) (by kernel_rfl) (by kernel_rfl) (fun _ _ _ h => h) (Or.inl ⟨by rfl, ?_⟩) ?_
      rotate_left
      · intro W _
        go_simp
        try with_reducible rfl
      rotate_left
      try simp only [Act.put, List.setIfInBounds_toArray, List.set_cons_zero, List.set_cons_succ]
      refine wpAnyG_take0 (i := 3) (oi := ⟨_, _, _, _, _, _⟩) (v := ?_) rfl (by kernel_rfl) (by kernel_rfl) (by kernel_rfl) (fun _ _ _ h => h) (Or.inl ⟨by rfl, ?_⟩) ?_
      rotate_left
      · intro W _
        go_simp
        try with_reducible rfl
      rotate_left
      try simp only [Act.put, List.setIfInBounds_toArray, List.set_cons_zero, List.set_cons_succ]
      refine wpAnyG_take0 (i := 4) (oi := ⟨_, _, _, _, _, _⟩) (v := ?_) rfl (by kernel_rfl) (by kernel_rfl) (by kernel_rfl) (fun _ _ _ h => h) (Or.inl ⟨by rfl, ?_⟩) ?_
      rotate_left
      · intro W _
        go_simp
        try with_reducible rfl
      rotate_left
      try simp only [Act.put, List.setIfInBounds_toArray, List.set_cons_zero, List.set_cons_succ]
      refine wpAnyG_take (i := 5) (oi := ⟨_, _, _, _, _, _⟩) (v := .agg (enC e x)) rfl (by kernel_rfl) (by kernel_rfl) (by kernel_rfl) (by kernel_rfl) (fun _ _ _ h => h) hS0 (Or.inl ⟨by rfl, fun W hW => held_at 31 (.tmp 34) rfl eb (eo + i * 16) rfl (enC e x) _ hW.2 Try.underlying31 rfl HIx.out⟩) ?_
      try simp only [Act.put, List.setIfInBounds_toArray, List.set_cons_zero, List.set_cons_succ]
      refine wpAnyG_take0 (i := 6) (oi := ⟨_, _, _, _, _, _⟩) (v := ?_) rfl (by kernel_rfl) (by kernel_rfl) (by kernel_rfl) (fun _ _ _ h => h) (Or.inl ⟨by rfl, ?_⟩) ?_
      rotate_left
      · intro W _
        go_simp
        try with_reducible rfl
      rotate_left
      try simp only [Act.put, List.setIfInBounds_toArray, List.set_cons_zero, List.set_cons_succ]
      refine wpAnyG_take0 (i := 7) (oi := ⟨_, _, _, _, _, _⟩) (v := .int .i64 ((i : Int) + 1)) rfl (by kernel_rfl) (by kernel_rfl) (by kernel_rfl) (fun _ _ _ h => h) (Or.inl ⟨by rfl, fun W _ => ?_⟩) ?_
      · go_simp
        try rw [hwr]
      try simp only [Act.put, List.setIfInBounds_toArray, List.set_cons_zero, List.set_cons_succ]
      clear hS0
      refine wpAnyG_ready (rs := [8]) (by kernel_rfl) (by simp) ?_
      refine AllReadyG.cons (o := ⟨_, _, _, _, _, _⟩) rfl (fun K hK => ?_) AllReadyG.nil
      go_simp
      go_at_call 9
      have HA := Lib.hid (apply_any z0 P5 N5 K5 s.2 s.1 p e x ((i : Int) + 1) (HCs.out.below HBz0.out (Nat.le_refl _)) HLs.out (HEi.out.below HBz0.out (Nat.le_refl _)))
      unfold pgV at HA
      refine HA.out.mono ?_
      rintro r z1 ⟨P7, N7, K7, rfl, hc7, hb7⟩
      clear HA
      unfold pgV
      have HB1 := Lib.hid (HBz0.out.trans (hb7.mono HBz0.out.size))
      have HC7 := Lib.hid hc7
      clear hb7 hc7
      go_wp2_with fail
      refine hK.out _ _ (fun _ _ => HSn.out _ HB1.out) ?_
      clear hK K
      try simp only [Act.put, List.setIfInBounds_toArray, List.set_cons_zero, List.set_cons_succ]
      refine wpAnyG_take0 (i := 9) (oi := ⟨_, _, _, _, _, _⟩) (v := ?_) rfl (by kernel_rfl) (by kernel_rfl) (by kernel_rfl) (fun _ _ _ h => h) (Or.inl ⟨by rfl, ?_⟩) ?_
      rotate_left
      · intro W _
        go_simp
        try with_reducible rfl
      rotate_left
      try simp only [Act.put, List.setIfInBounds_toArray, List.set_cons_zero, List.set_cons_succ]
      refine wpAnyG_take0 (i := 10) (oi := ⟨_, _, _, _, _, _⟩) (v := ?_) rfl (by kernel_rfl) (by kernel_rfl) (by kernel_rfl) (fun _ _ _ h => h) (Or.inl ⟨by rfl, ?_⟩) ?_
      rotate_left
      · intro W _
        go_simp
        try with_reducible rfl
      rotate_left
      try simp only [Act.put, List.setIfInBounds_toArray, List.set_cons_zero, List.set_cons_succ]
      refine wpAnyG_take0 (i := 11) (oi := ⟨_, _, _, _, _, _⟩) (v := ?_) rfl (by kernel_rfl) (by kernel_rfl) (by kernel_rfl) (fun _ _ _ h => h) (Or.inl ⟨by rfl, ?_⟩) ?_
      rotate_left
      · intro W _
        go_simp
        try with_reducible rfl
      rotate_left
      try simp only [Act.put, List.setIfInBounds_toArray, List.set_cons_zero, List.set_cons_succ]
      obtain ⟨h8, -⟩ := HSn.out _ HB1.out
      have f8 := (pg_cell h8).2.2
      have f80 := f8 0
      have f81 := f8 1
      have f82 := f8 2
      have f83 := f8 3
      have f84 := f8 4
      obtain ⟨d0, d1, d2, d3, d4⟩ := pg5 h8
      have HFin : Hid (PgAt (finP z1 g P7 N7 K7 (apN s.2 p e ((i : Int) + 1))) g (aps p s0 (L.take (i + 1)) 0).2 (aps p s0 (L.take (i + 1)) 0).1 ∧ PgAt (finP z1 g P7 N7 K7 (apN s.2 p e ((i : Int) + 1))) (g + 1) (aps p s0 (L.take (min i M)) 0).2 (aps p s0 (L.take (min i M)) 0).1 ∧ Below w4.heap.size w4 (finP z1 g P7 N7 K7 (apN s.2 p e ((i : Int) + 1)))) := by
        obtain ⟨hp1, hp2, hbw⟩ := HPq.out
        have h8' := (HSn.out _ HB1.out).1
        refine ⟨?_, ?_, finP_below (hbw.trans (HB1.out.mono hbw.size)) HGb.out⟩
        · rw [HSt.out]
          exact PgAt.fin_same h8' HC7.out
        · exact PgAt.fin_other HNe.out h8' (hp2.below HB1.out) _ _ _ _
      clear h8 f8
      refine wpAnyG_ready (rs := [12]) (by kernel_rfl) (by simp) ?_
      refine AllReadyG.cons (o := ⟨_, _, _, _, _, _⟩) rfl (fun K hK => ?_) AllReadyG.nil
      go_simp
      refine hK.out _ (finP z1 g P7 N7 K7 (apN s.2 p e ((i : Int) + 1))) (fun h => by cases h) ?_
      clear hK K d0 d1 d2 d3 d4 f80 f81 f82 f83 f84
      try simp only [Act.put, List.setIfInBounds_toArray, List.set_cons_zero, List.set_cons_succ]
      refine wpAnyG_done (by kernel_rfl) ?_ _
      generalize finP z1 g P7 N7 K7 (apN s.2 p e ((i : Int) + 1)) = w9 at *
      clear HSn HPq HCs HBz0 HB1 HC7 HIx HIp HEi HLs HSt hwr
      by_cases hiM : i < M
      · have hm1 : min (i + 1) M = i + 1 := by omega
        obtain ⟨hp1, hp2, hbw⟩ := HFin.out
        have HF2 := Lib.hid (And.intro hp1 hbw)
        obtain ⟨P9, N9, K9, h9, hc9⟩ := hp1
        obtain ⟨Pa, Na, Ka, ha, hca⟩ := hp2
        obtain ⟨c0, c1, c2, c3, c4'⟩ := pg5 h9
        obtain ⟨d0, d1, d2, d3, d4⟩ := pg5 ha
        have f0 := (pg_cell ha).2.2 0
        have f1 := (pg_cell ha).2.2 1
        have f2 := (pg_cell ha).2.2 2
        have f3 := (pg_cell ha).2.2 3
        have f4 := (pg_cell ha).2.2 4
        obtain ⟨ln, hln⟩ : ∃ ln, ln = (aps p s0 (L.take (i + 1)) 0).2 := ⟨_, rfl⟩
        have HX : Hid (PgAt (finP w9 (g + 1) P9 N9 K9 ln) g (aps p s0 (L.take (i + 1)) 0).2 (aps p s0 (L.take (i + 1)) 0).1 ∧ PgAt (finP w9 (g + 1) P9 N9 K9 ln) (g + 1) (aps p s0 (L.take (min (i + 1) M)) 0).2 (aps p s0 (L.take (min (i + 1) M)) 0).1 ∧ Below w4.heap.size w4 (finP w9 (g + 1) P9 N9 K9 ln)) := by
          refine ⟨PgAt.fin_other (by omega) ha HF2.out.1 _ _ _ _, ?_, finP_below HF2.out.2 (by have := HGb.out; omega)⟩
          rw [hm1, hln]
          exact PgAt.fin_same ha hc9
        rw [← hln] at c4'
        clear hln
        clear h9 hc9 ha hca hm1 hbw
        go_wp2
        go_roundw
        case rel => exact ⟨i + 1, HLT.out, by go_num, HX.out⟩
        case measure => have := HLT.out; simp [RowKit.intOf]; omega
      · have HX : Hid (PgAt w9 g (aps p s0 (L.take (i + 1)) 0).2 (aps p s0 (L.take (i + 1)) 0).1 ∧ PgAt w9 (g + 1) (aps p s0 (L.take (min (i + 1) M)) 0).2 (aps p s0 (L.take (min (i + 1) M)) 0).1 ∧ Below w4.heap.size w4 w9) := by
          rw [show min (i + 1) M = min i M by omega]; exact HFin.out
        go_wp2
        go_roundw
        case rel => exact ⟨i + 1, HLT.out, by go_num, HX.out⟩
        case measure => have := HLT.out; simp [RowKit.intOf]; omega
    · obtain rfl : i = L.length := by omega
      rw [List.take_length, Nat.min_eq_right hM13] at *
      obtain ⟨sw, hsw⟩ : ∃ sw, sw = aps p s0 L 0 := ⟨_, rfl⟩
      obtain ⟨t0, ht0⟩ : ∃ t0, t0 = aps p s0 (L.take M) 0 := ⟨_, rfl⟩
      rw [← hsw] at hp1
      rw [← ht0] at hp2
      have HAg : Hid (aps p t0 L 0 = sw) := by show aps p t0 L 0 = sw; rw [hsw, ht0]; exact aps_again p s0 L M (by simp [s0])
      have HT0 : Hid (∀ i, i < 4 → (t0.1 i).length ≤ 100000) := by rw [ht0]; exact aps_lens p _ (fun e he => HLn.out e (List.mem_of_mem_take he)) s0 0 (fun _ _ => Nat.zero_le _)
      have H6 := Lib.hid (And.intro hp2 (And.intro hp1 hbw))
      clear hsw ht0 hp1 hp2 hbw hi hlt hM hM13
      go_wp2
      go_loopw [12] (fun iv wr => Hid (∃ i : Nat, i ≤ L.length ∧ iv = .int .i64 (i : Int) ∧ PgAt wr (g + 1) (aps p t0 (L.take i) 0).2 (aps p t0 (L.take i) 0).1 ∧ PgAt wr g sw.2 sw.1 ∧ Below w4.heap.size w4 wr)) (fun iv _ => L.length - (RowKit.intOf iv).toNat)
      case atStart => exact ⟨0, Nat.zero_le _, rfl, H6.out⟩
      case round =>
        obtain ⟨i, hi, rfl, hp1, hp2, hbw⟩ := hrel.out
        clear hrel H6
        by_cases hlt : i < L.length
        · obtain ⟨e, he⟩ : ∃ e, e = (es[i]'(by rw [HLe.out]; exact hlt)).1 := ⟨_, rfl⟩
          obtain ⟨x, hx⟩ : ∃ x, x = (es[i]'(by rw [HLe.out]; exact hlt)).2 := ⟨_, rfl⟩
          have hLe : L[i] = e := by rw [he]; simp only [← HEs.out, List.getElem_map]
          have HEi := Lib.hid ((HI4.out _ (List.getElem_mem (by rw [HLe.out]; exact hlt))).1.below hbw (Nat.le_refl _))
          rw [← he, ← hx] at HEi
          obtain ⟨eb, eo, rfl, _, hec⟩ := en_row (HE4.out.below hbw (Nat.le_refl _)) (i := i) (by rw [HLe.out]; exact hlt)
          rw [← he, ← hx] at hec
          obtain ⟨s, hs⟩ : ∃ s, s = aps p t0 (L.take i) 0 := ⟨_, rfl⟩
          have HSt : Hid (aps p t0 (L.take (i + 1)) 0 = ap1 p s e ((i : Int) + 1)) := by
            show aps p t0 (L.take (i + 1)) 0 = _
            rw [List.take_succ_eq_append_getElem hlt, aps_snoc, hLe, ← hs]
            congr 1
            rw [List.length_take]
            push_cast
            omega
          rw [← hs] at hp1
          have HLs : Hid (∀ i, i < 4 → (s.1 i).length ≤ 100000) := by rw [hs]; exact aps_lens p _ (fun e he => HLn.out e (List.mem_of_mem_take he)) t0 0 HT0.out
          have HPq := Lib.hid (And.intro hp1 (And.intro hp2 hbw))
          obtain ⟨P5, N5, K5, h5, hc5⟩ := hp1
          have HCs := Lib.hid hc5
          have HNe : Hid (g ≠ g + 1) := by show g ≠ g + 1; omega
          have HGb : Hid (w4.heap.size ≤ g + 1) := Nat.le_succ_of_le HG.out
          have HLT := Lib.hid hlt
          clear he hx hLe hs hp2 hbw
          go_upto_region 17 with (fail)
          have hS0 : (fun Z : World => Z.heap[(g + 1)]? = some (pgO P5 N5 K5 s.2) ∧ ∀ j v, (enC e x)[j]? = some v → Z.cell? ⟨eb, eo + i * 16 + j, none⟩ = some v) wr.drew := ⟨h5, hec⟩
          have HSn : Hid (∀ Z, Below wr.heap.size wr Z → (Z.heap[(g + 1)]? = some (pgO P5 N5 K5 s.2) ∧ ∀ j v, (enC e x)[j]? = some v → Z.cell? ⟨eb, eo + i * 16 + j, none⟩ = some v)) := fun Z hZ => ⟨(hZ.block _ (Array.getElem?_eq_some_iff.1 h5).1).trans h5, fun j v h => (hZ.cell (p := ⟨eb, eo + i * 16 + j, none⟩) (World.block_lt_of_cell? wr _ (hec j v h))).trans (hec j v h)⟩
          have HBz0 : Hid (Below wr.heap.size wr wr.drew) := (Below.refl _ _).drew
          have HIx := Lib.hid (infoE2 e x)
          have hwr : IntKind.i64.wrap ((i : Int) + 1) = (i : Int) + 1 := IntWalk.i64_in _ (by omega)
          have HIp := Lib.hid (infoP2 P5 N5 K5 s.2)
          refine wp_region_G (fun Z : World => Z.heap[(g + 1)]? = some (pgO P5 N5 K5 s.2) ∧ ∀ j v, (enC e x)[j]? = some v → Z.cell? ⟨eb, eo + i * 16 + j, none⟩ = some v) (fun j => j == 12) (by kernel_rfl) ?_
          clear h5 hc5 hec
          generalize wr.drew = z0 at *
          refine wpAnyG_take (i := 0) (oi := ⟨_, _, _, _, _, _⟩) (v := .agg #[.slice (P5 0) (N5 0) (K5 0), .slice (P5 1) (N5 1) (K5 1), .slice (P5 2) (N5 2) (K5 2), .slice (P5 3) (N5 3) (K5 3), .int .i64 s.2]) rfl (by kernel_rfl) (by kernel_rfl) (by kernel_rfl) (by kernel_rfl) (fun _ _ _ h => h) hS0 (Or.inl ⟨by rfl, fun W hW => held_row 35 (.tmp 10) rfl (g + 1) rfl 35 _ (0, 0) _ hW.1 Try.underlying35 rfl HIp.out⟩) ?_
          try simp only [Act.put, List.setIfInBounds_toArray, List.set_cons_zero, List.set_cons_succ]
          refine wpAnyG_take0 (i := 1) (oi := ⟨_, _, _, _, _, _⟩) (v := ?_) rfl (by kernel_rfl) (by kernel_rfl) (by kernel_rfl) (fun _ _ _ h => h) (Or.inl ⟨by rfl, ?_⟩) ?_
          rotate_left
          · intro W _
            go_simp
            try with_reducible rfl
          rotate_left
          try simp only [Act.put, List.setIfInBounds_toArray, List.set_cons_zero, List.set_cons_succ]
          refine wpAnyG_take0 (i := 2) (oi := ⟨_, _, _, _, _, _⟩) (v := ?_) rfl (by kernel_rfl) (by kernel_rfl) (by kernel_rfl) (fun _ _ _ h => h) (Or.inl ⟨by rfl, ?_⟩) ?_
          rotate_left
          · intro W _
            go_simp
            try with_reducible rfl
          rotate_left
          try simp only [Act.put, List.setIfInBounds_toArray, List.set_cons_zero, List.set_cons_succ]
          refine wpAnyG_take0 (i := 3) (oi := ⟨_, _, _, _, _, _⟩) (v := ?_) rfl (by kernel_rfl) (by kernel_rfl) (by kernel_rfl) (fun _ _ _ h => h) (Or.inl ⟨by rfl, ?_⟩) ?_
          rotate_left
          · intro W _
            go_simp
            try with_reducible rfl
          rotate_left
          try simp only [Act.put, List.setIfInBounds_toArray, List.set_cons_zero, List.set_cons_succ]
          refine wpAnyG_take0 (i := 4) (oi := ⟨_, _, _, _, _, _⟩) (v := ?_) rfl (by kernel_rfl) (by kernel_rfl) (by kernel_rfl) (fun _ _ _ h => h) (Or.inl ⟨by rfl, ?_⟩) ?_
          rotate_left
          · intro W _
            go_simp
            try with_reducible rfl
          rotate_left
          try simp only [Act.put, List.setIfInBounds_toArray, List.set_cons_zero, List.set_cons_succ]
          refine wpAnyG_take (i := 5) (oi := ⟨_, _, _, _, _, _⟩) (v := .agg (enC e x)) rfl (by kernel_rfl) (by kernel_rfl) (by kernel_rfl) (by kernel_rfl) (fun _ _ _ h => h) hS0 (Or.inl ⟨by rfl, fun W hW => held_at 31 (.tmp 61) rfl eb (eo + i * 16) rfl (enC e x) _ hW.2 Try.underlying31 rfl HIx.out⟩) ?_
          try simp only [Act.put, List.setIfInBounds_toArray, List.set_cons_zero, List.set_cons_succ]
          refine wpAnyG_take0 (i := 6) (oi := ⟨_, _, _, _, _, _⟩) (v := ?_) rfl (by kernel_rfl) (by kernel_rfl) (by kernel_rfl) (fun _ _ _ h => h) (Or.inl ⟨by rfl, ?_⟩) ?_
          rotate_left
          · intro W _
            go_simp
            try with_reducible rfl
          rotate_left
          try simp only [Act.put, List.setIfInBounds_toArray, List.set_cons_zero, List.set_cons_succ]
          refine wpAnyG_take0 (i := 7) (oi := ⟨_, _, _, _, _, _⟩) (v := .int .i64 ((i : Int) + 1)) rfl (by kernel_rfl) (by kernel_rfl) (by kernel_rfl) (fun _ _ _ h => h) (Or.inl ⟨by rfl, fun W _ => ?_⟩) ?_
          · go_simp
            try rw [hwr]
          try simp only [Act.put, List.setIfInBounds_toArray, List.set_cons_zero, List.set_cons_succ]
          clear hS0
          refine wpAnyG_ready (rs := [8]) (by kernel_rfl) (by simp) ?_
          refine AllReadyG.cons (o := ⟨_, _, _, _, _, _⟩) rfl (fun K hK => ?_) AllReadyG.nil
          go_simp
          go_at_call 9
          have HA := Lib.hid (apply_any z0 P5 N5 K5 s.2 s.1 p e x ((i : Int) + 1) (HCs.out.below HBz0.out (Nat.le_refl _)) HLs.out (HEi.out.below HBz0.out (Nat.le_refl _)))
          unfold pgV at HA
          refine HA.out.mono ?_
          rintro r z1 ⟨P7, N7, K7, rfl, hc7, hb7⟩
          clear HA
          unfold pgV
          have HB1 := Lib.hid (HBz0.out.trans (hb7.mono HBz0.out.size))
          have HC7 := Lib.hid hc7
          clear hb7 hc7
          go_wp2_with fail
          refine hK.out _ _ (fun _ _ => HSn.out _ HB1.out) ?_
          clear hK K
          try simp only [Act.put, List.setIfInBounds_toArray, List.set_cons_zero, List.set_cons_succ]
          refine wpAnyG_take0 (i := 9) (oi := ⟨_, _, _, _, _, _⟩) (v := ?_) rfl (by kernel_rfl) (by kernel_rfl) (by kernel_rfl) (fun _ _ _ h => h) (Or.inl ⟨by rfl, ?_⟩) ?_
          rotate_left
          · intro W _
            go_simp
            try with_reducible rfl
          rotate_left
          try simp only [Act.put, List.setIfInBounds_toArray, List.set_cons_zero, List.set_cons_succ]
          refine wpAnyG_take0 (i := 10) (oi := ⟨_, _, _, _, _, _⟩) (v := ?_) rfl (by kernel_rfl) (by kernel_rfl) (by kernel_rfl) (fun _ _ _ h => h) (Or.inl ⟨by rfl, ?_⟩) ?_
          rotate_left
          · intro W _
            go_simp
            try with_reducible rfl
          rotate_left
          try simp only [Act.put, List.setIfInBounds_toArray, List.set_cons_zero, List.set_cons_succ]
          refine wpAnyG_take0 (i := 11) (oi := ⟨_, _, _, _, _, _⟩) (v := ?_) rfl (by kernel_rfl) (by kernel_rfl) (by kernel_rfl) (fun _ _ _ h => h) (Or.inl ⟨by rfl, ?_⟩) ?_
          rotate_left
          · intro W _
            go_simp
            try with_reducible rfl
          rotate_left
          try simp only [Act.put, List.setIfInBounds_toArray, List.set_cons_zero, List.set_cons_succ]
          obtain ⟨h8, -⟩ := HSn.out _ HB1.out
          have f8 := (pg_cell h8).2.2
          have f80 := f8 0
          have f81 := f8 1
          have f82 := f8 2
          have f83 := f8 3
          have f84 := f8 4
          obtain ⟨d0, d1, d2, d3, d4⟩ := pg5 h8
          have HFin : Hid (PgAt (finP z1 (g + 1) P7 N7 K7 (apN s.2 p e ((i : Int) + 1))) (g + 1) (aps p t0 (L.take (i + 1)) 0).2 (aps p t0 (L.take (i + 1)) 0).1 ∧ PgAt (finP z1 (g + 1) P7 N7 K7 (apN s.2 p e ((i : Int) + 1))) g sw.2 sw.1 ∧ Below w4.heap.size w4 (finP z1 (g + 1) P7 N7 K7 (apN s.2 p e ((i : Int) + 1)))) := by
            obtain ⟨hp1, hp2, hbw⟩ := HPq.out
            have h8' := (HSn.out _ HB1.out).1
            refine ⟨?_, ?_, finP_below (hbw.trans (HB1.out.mono hbw.size)) HGb.out⟩
            · rw [HSt.out]
              exact PgAt.fin_same h8' HC7.out
            · exact PgAt.fin_other HNe.out h8' (hp2.below HB1.out) _ _ _ _
          clear h8 f8
          refine wpAnyG_ready (rs := [12]) (by kernel_rfl) (by simp) ?_
          refine AllReadyG.cons (o := ⟨_, _, _, _, _, _⟩) rfl (fun K hK => ?_) AllReadyG.nil
          go_simp
          refine hK.out _ (finP z1 (g + 1) P7 N7 K7 (apN s.2 p e ((i : Int) + 1))) (fun h => by cases h) ?_
          clear hK K d0 d1 d2 d3 d4 f80 f81 f82 f83 f84
          try simp only [Act.put, List.setIfInBounds_toArray, List.set_cons_zero, List.set_cons_succ]
          refine wpAnyG_done (by kernel_rfl) ?_ _
          generalize finP z1 (g + 1) P7 N7 K7 (apN s.2 p e ((i : Int) + 1)) = w9 at *
          clear HSn HPq HCs HBz0 HB1 HC7 HIx HIp HEi HLs HSt hwr
          go_wp2
          go_roundw
          case rel => exact ⟨i + 1, HLT.out, by go_num, HFin.out⟩
          case measure => have := HLT.out; simp [RowKit.intOf]; omega
        · obtain rfl : i = L.length := by omega
          rw [List.take_length, HAg.out] at hp1
          have HBw := Lib.hid (HB4.out.trans (hbw.mono HB4.out.size))
          obtain ⟨P5, N5, K5, h5, hc5⟩ := hp1
          obtain ⟨P7, N7, K7, h7, hc7⟩ := hp2
          obtain ⟨c0, c1, c2, c3, c4'⟩ := pg5 h5
          obtain ⟨d0, d1, d2, d3, d4⟩ := pg5 h7
          have HSm := Lib.hid (samePage_any wr P7 N7 K7 sw.2 sw.1 P5 N5 K5 sw.2 sw.1 hc7 hc5)
          rw [pgSame_refl] at HSm
          unfold pgV at HSm
          clear h5 hc5 h7 hc7 hbw
          go_wp2_with (go_at_call 11; refine HSm.out.mono ?_; rintro r w9 ⟨rfl, hb9⟩)
          go_ret
          exact ⟨rfl, HBw.out.trans (hb9.mono HBw.out.size)⟩
end Go.Proofs.Ytmijdjlpfjfjoaa.Rx
