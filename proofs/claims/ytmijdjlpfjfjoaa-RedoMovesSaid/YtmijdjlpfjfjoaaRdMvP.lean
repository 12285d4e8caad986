/- RedoMoves, plainly; three pages in a row. -/
import Derived.Test.YtmijdjlpfjfjoaaRdAp
import Derived.Test.YtmijdjlpfjfjoaaPlA
namespace Go.Proofs.Ytmijdjlpfjfjoaa.Rx
open Go.RowKit

theorem ap1_giv (n : Int) (s : Pg) (e : En) (now : Int) (h : s.2 < now) : (ap1 n s e now).1 = giv n s.1 (tl e) ∧ (ap1 n s e now).2 ≤ now := by
  have hc : apc s.2 n e now = tch (tl e) n := by unfold apc; rw [decide_eq_true h]; rfl
  constructor
  · show apC s.1 s.2 n e now = _
    unfold apC
    rw [hc]
    cases ht : tch (tl e) n with
    | true => rw [if_pos rfl]
    | false => rw [if_neg (by simp), giv_no _ _ _ ht]
  · show apN s.2 n e now ≤ now
    unfold apN
    split <;> omega
theorem aps_giv (n : Int) (l : List En) : ∀ (s : Pg) (a : Int), s.2 ≤ a → (aps n s l a).1 = giv n s.1 (l.flatMap tl) := by
  induction l with
  | nil => intro s a _; rfl
  | cons e l ih =>
    intro s a h
    obtain ⟨h1, h2⟩ := ap1_giv n s e (a + 1) (by omega)
    show (aps n (ap1 n s e (a + 1)) l (a + 1)).1 = _
    rw [ih _ _ h2, h1, List.flatMap_cons]
    simp [giv, List.foldl_append]
theorem giv1_at (n : Int) (c : Nat → List Int) (t : Gv) (i : Nat) (hi : i < 4) : giv1 n c t i = if t.1 = n ∧ t.2.1 = (i : Int) then t.2.2 else c i := by
  unfold giv1
  by_cases h : t.1 = n ∧ inC t.2.1 = true
  · have h2 : 0 ≤ t.2.1 ∧ t.2.1 < 4 := of_decide_eq_true h.2
    rw [if_pos h]
    show (if i = t.2.1.toNat then t.2.2 else c i) = _
    by_cases h3 : t.2.1 = (i : Int)
    · rw [if_pos (show i = t.2.1.toNat by omega), if_pos ⟨h.1, h3⟩]
    · rw [if_neg (show ¬ i = t.2.1.toNat by omega), if_neg (fun q => h3 q.2)]
  · rw [if_neg h, if_neg]
    rintro ⟨h1, h2⟩
    exact h ⟨h1, by rw [h2]; simp [inC]; omega⟩
/-- The three entries. -/
def mE1 (a1 a2 : Int) (row : List Int) : En := ⟨1, a1, a2, 0, 0, row, []⟩
def mE2 (a1 a2 b1 b2 : Int) (row : List Int) : En := ⟨7, a1, a2, b1, b2, row, []⟩
def mE3 (a1 a2 b1 b2 : Int) : En := ⟨8, 0, 0, 0, 0, [], [(a1, a2, b1, b2)]⟩
def mL (a1 a2 b1 b2 : Int) (row : List Int) : List En := [mE1 a1 a2 row, mE2 a1 a2 b1 b2 row, mE3 a1 a2 b1 b2]
/-- Where a row is, and what is whence it came. -/
theorem moves_at (a1 b1 : Int) (a2 b2 : Nat) (ha : a2 < 4) (hb : b2 < 4) (hp : placeB b1 (b2 : Int) = true) (hne : ¬ (a1 = b1 ∧ a2 = b2)) (row : List Int) :
    (aps a1 s0 ((mL a1 a2 b1 b2 row).take 1) 0).1 a2 = row ∧ (aps b1 s0 ((mL a1 a2 b1 b2 row).take 1) 0).1 b2 = [] ∧
    (aps a1 s0 ((mL a1 a2 b1 b2 row).take 2) 0).1 a2 = stubL b1 b2 ∧ (aps b1 s0 ((mL a1 a2 b1 b2 row).take 2) 0).1 b2 = row ∧
    (aps a1 s0 ((mL a1 a2 b1 b2 row).take 3) 0).1 a2 = [] ∧ (aps b1 s0 ((mL a1 a2 b1 b2 row).take 3) 0).1 b2 = row := by
  have e1 : tl (mE1 a1 a2 row) = [(a1, (a2 : Int), row)] := tl_set (.inl rfl)
  have e2 : tl (mE2 a1 a2 b1 b2 row) = [(a1, (a2 : Int), stubL b1 b2), (b1, (b2 : Int), row)] := by
    rw [tl_move (e := mE2 a1 a2 b1 b2 row) rfl]
    show [(a1, (a2 : Int), stubE b1 b2), (b1, (b2 : Int), row)] = _
    unfold stubE
    rw [if_pos hp]
  have e3 : tl (mE3 a1 a2 b1 b2) = [(a1, (a2 : Int), [])] := tl_done rfl
  have hs : s0.2 ≤ (0 : Int) := Int.le_refl _
  have hne2 : ¬ (b1 = a1 ∧ (b2 : Int) = (a2 : Int)) := fun h => hne ⟨h.1.symm, by omega⟩
  have hne3 : ¬ (a1 = b1 ∧ (a2 : Int) = (b2 : Int)) := fun h => hne ⟨h.1, by omega⟩
  have g1 : ∀ n, (aps n s0 ((mL a1 a2 b1 b2 row).take 1) 0).1 = giv n (fun _ => []) [(a1, (a2 : Int), row)] := fun n => by
    rw [aps_giv n _ s0 0 hs]; simp [mL, e1, s0]
  have g2 : ∀ n, (aps n s0 ((mL a1 a2 b1 b2 row).take 2) 0).1 = giv n (fun _ => []) [(a1, (a2 : Int), row), (a1, (a2 : Int), stubL b1 b2), (b1, (b2 : Int), row)] := fun n => by
    rw [aps_giv n _ s0 0 hs]; simp [mL, e1, e2, s0]
  have g3 : ∀ n, (aps n s0 ((mL a1 a2 b1 b2 row).take 3) 0).1 = giv n (fun _ => []) [(a1, (a2 : Int), row), (a1, (a2 : Int), stubL b1 b2), (b1, (b2 : Int), row), (a1, (a2 : Int), [])] := fun n => by
    rw [aps_giv n _ s0 0 hs]; simp [mL, e1, e2, e3, s0]
  rw [g1, g1, g2, g2, g3, g3]
  refine ⟨?_, ?_, ?_, ?_, ?_, ?_⟩ <;> simp only [giv, List.foldl_cons, List.foldl_nil, giv1_at _ _ _ _ ha, giv1_at _ _ _ _ hb]
  · rw [if_pos ⟨trivial, trivial⟩]
  · rw [if_neg hne3]
  · rw [if_neg hne2, if_pos ⟨trivial, trivial⟩]
  · rw [if_pos ⟨trivial, trivial⟩]
  · rw [if_pos ⟨trivial, trivial⟩]
  · rw [if_neg hne3, if_pos ⟨trivial, trivial⟩]

/-! ### three pages in a row -/
def rowP (P : Nat → Nat → Option Addr) (N K : Nat → Nat → Nat) (S : Nat → Pg) : Array Value := Hp.rowV 3 5 fun n => pgC (P n) (N n) (K n) (S n).2
def P3 (W : World) (g : Nat) (S : Nat → Pg) : Prop := ∃ (P : Nat → Nat → Option Addr) (N K : Nat → Nat → Nat), W.heap[g]? = some (.cells (rowP P N K S) 55 (0, 0)) ∧ ∀ n, n < 3 → Cs W (P n) (N n) (K n) (S n).1
theorem rowP_at (P : Nat → Nat → Option Addr) (N K : Nat → Nat → Nat) (S : Nat → Pg) {n j : Nat} (hn : n < 3) (hj : j < 5) : (rowP P N K S)[n * 5 + j]? = (pgC (P n) (N n) (K n) (S n).2)[j]? := Hp.rowV_at (n := 3) (k := 5) (V := fun n => pgC (P n) (N n) (K n) (S n).2) (fun _ => rfl) hn hj
theorem rowP_no8 (P : Nat → Nat → Option Addr) (N K : Nat → Nat → Nat) (S : Nat → Pg) (x : Nat) (y : Int) : (rowP P N K S)[x]? ≠ some (.int .u8 y) := by
  intro h
  have hlt : x < 15 := by have := (Array.getElem?_eq_some_iff.1 h).1; rw [rowP, Hp.rowV_size] at this; exact this
  have e : x / 5 * 5 + x % 5 = x := by omega
  rw [← e, rowP_at P N K S (by omega) (by omega)] at h
  match hq : x % 5 with
  | 0 => rw [hq] at h; cases h
  | 1 => rw [hq] at h; cases h
  | 2 => rw [hq] at h; cases h
  | 3 => rw [hq] at h; cases h
  | 4 => rw [hq] at h; injection h with h; injection h with h; cases h
  | k + 5 => omega
theorem slK_off3 {w : World} {g : Nat} {cs : Array Value} {t : TypeId} (hp : w.heap[g]? = some (.cells cs t (0, 0))) (h8 : ∀ (x : Nat) (y : Int), cs[x]? ≠ some (Value.int .u8 y)) {v : Value} {l : List Int} (h : SlK .u8 w v l) : ∀ a m c, v = .slice (some a) m c → l ≠ [] → a.block ≠ g := by
  intro a m c e hne hb
  obtain ⟨p, cap, e2, h1, h2, h3, h4⟩ := h
  rw [e] at e2
  injection e2 with e3 e4 e5
  obtain ⟨q1, q2, q3⟩ := h4 a e3.symm
  have h0 := q3 0 (List.length_pos_iff.2 hne)
  obtain ⟨ab, ao, asp⟩ := a
  cases q1
  have hb' : ab = g := hb
  subst hb'
  have hc := (cell_of hp (ao + 0)).1
  rw [show w.cell? ⟨ab, ao + 0, none⟩ = _ from h0] at hc
  exact h8 _ _ hc.symm
theorem Tn.row (w : World) (g : Nat) (cs : Array Value) : Tn g w (w.setRow g cs) :=
  ⟨⟨rfl, rfl, rfl, by simp, fun k hk => setRow_other w g k cs (by omega)⟩, fun k hk _ => setRow_other w g k cs hk⟩
theorem P3.below {W W' : World} {g : Nat} {S : Nat → Pg} (h : P3 W g S) (hb : Below W.heap.size W W') : P3 W' g S := by
  obtain ⟨P, N, K, h1, h2⟩ := h
  exact ⟨P, N, K, (hb.block _ (Array.getElem?_eq_some_iff.1 h1).1).trans h1, fun n hn => (h2 n hn).below hb (Nat.le_refl _)⟩
def updS (S : Nat → Pg) (n : Nat) (s : Pg) : Nat → Pg := fun m => if m = n then s else S m
theorem P3.put {W : World} {g : Nat} {S : Nat → Pg} {P : Nat → Nat → Option Addr} {N K : Nat → Nat → Nat} (h1 : W.heap[g]? = some (.cells (rowP P N K S) 55 (0, 0))) (h2 : ∀ n, n < 3 → Cs W (P n) (N n) (K n) (S n).1)
    {n : Nat} (hn : n < 3) (P' : Nat → Option Addr) (N' K' : Nat → Nat) (s : Pg) (hc : Cs W P' N' K' s.1) : P3 (W.setRow g (Hp.putRow (rowP P N K S) (n * 5) (pgC P' N' K' s.2).toList)) g (updS S n s) := by
  have off := fun (v : Value) (l : List Int) (h : SlK .u8 W v l) => SlK.tn h (Tn.row W g (Hp.putRow (rowP P N K S) (n * 5) (pgC P' N' K' s.2).toList)) (slK_off3 h1 (rowP_no8 P N K S) h)
  refine ⟨fun m => if m = n then P' else P m, fun m => if m = n then N' else N m, fun m => if m = n then K' else K m, ?_, fun m hm i hi => ?_⟩
  · rw [setRow_heap W g _ _ _ _ h1, rowP, Hp.rowV_put (n := 3) (k := 5) (V := fun n => pgC (P n) (N n) (K n) (S n).2) (fun _ => rfl) (by omega) hn (c := pgC P' N' K' s.2) rfl]
    congr 2
    unfold rowP
    congr 1
    funext m
    unfold Hp.updV updS
    by_cases e : m = n
    · simp only [if_pos e]
    · simp only [if_neg e]
  · unfold updS
    by_cases e : m = n
    · simp only [if_pos e]
      exact ⟨(hc i hi).1, off _ _ (hc i hi).2⟩
    · simp only [if_neg e]
      exact ⟨(h2 m hm i hi).1, off _ _ (h2 m hm i hi).2⟩
theorem rowP_zero : rowP (fun _ => P0) (fun _ => N0) (fun _ => N0) (fun _ => s0) = #[.slice none 0 0, .slice none 0 0, .slice none 0 0, .slice none 0 0, .int .i64 0, .slice none 0 0, .slice none 0 0, .slice none 0 0, .slice none 0 0, .int .i64 0, .slice none 0 0, .slice none 0 0, .slice none 0 0, .slice none 0 0, .int .i64 0] := by
  refine (Hp.rowV_ext (n := 3) (k := 5) (V := fun _ => pgC P0 N0 N0 0) (fun _ => rfl) (by omega) rfl fun i j hi hj => ?_).symm
  match i, hi, j, hj with
  | 0, _, 0, _ | 0, _, 1, _ | 0, _, 2, _ | 0, _, 3, _ | 0, _, 4, _ => rfl
  | 1, _, 0, _ | 1, _, 1, _ | 1, _, 2, _ | 1, _, 3, _ | 1, _, 4, _ => rfl
  | 2, _, 0, _ | 2, _, 1, _ | 2, _, 2, _ | 2, _, 3, _ | 2, _, 4, _ => rfl
end Go.Proofs.Ytmijdjlpfjfjoaa.Rx
