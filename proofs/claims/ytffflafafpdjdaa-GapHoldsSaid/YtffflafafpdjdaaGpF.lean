/- GapFills' walk: who takes what is told gets each cell once, in order. -/
import Derived.Test.YtffflafafpdjdaaGpZ
namespace Go.Proofs.Ytffflafafpdjdaa
open Go.RowKit

/-- A slice of bytes that comes in. -/
def Byt (w : World) (b off len : Nat) : Prop := ∀ i, i < len → ∃ x : Nat, x < 256 ∧ w.cell? ⟨b, off + i, none⟩ = some (.int .u8 (x : Int))
theorem sl_byt {w : World} {v : Value} {l : List Int} (h : SlK .u8 w v l) : ∃ A len cap b off, v = .slice A len cap ∧ (0 < len → A = some ⟨b, off, none⟩) ∧ (0 < len → b < w.heap.size) ∧ Byt w b off len := by
  obtain ⟨p, cap, rfl, h1, h2, h3, h4⟩ := h
  cases p with
  | none =>
    have := (h3 rfl).1
    subst this
    exact ⟨none, 0, cap, 0, 0, rfl, fun e => absurd e (Nat.lt_irrefl 0), fun e => absurd e (Nat.lt_irrefl 0), fun i hi => absurd hi (Nat.not_lt_zero i)⟩
  | some a =>
    obtain ⟨h5, h6, h7⟩ := h4 a rfl
    obtain ⟨ab, ao, asp⟩ := a
    cases h5
    refine ⟨_, l.length, cap, ab, ao, rfl, fun _ => rfl, fun _ => h6, fun i hi => ?_⟩
    have hw := h2 l[i] (List.getElem_mem hi)
    simp only [Lit.wf, Bool.and_eq_true, decide_eq_true_eq] at hw
    have hmin : IntKind.u8.min = 0 := rfl
    have hmax : IntKind.u8.max = 255 := rfl
    refine ⟨l[i].toNat, by omega, ?_⟩
    have e := h7 i hi
    rw [e]
    congr 2
    omega
/-- An array's variable of n cells. -/
def OA (w : World) (o n : Nat) (f : Nat → Value) : Prop := o < w.heap.size ∧ ∀ k, k < n → w.cell? ⟨o, k, none⟩ = some (f k) ∧ w.frozen? ⟨o, k, none⟩ = false
theorem OA.kept {w w' : World} {o n : Nat} {f : Nat → Value} (h : OA w o n f) (hs : w.heap.size ≤ w'.heap.size) (hb : w'.heap[o]? = w.heap[o]?) : OA w' o n f :=
  ⟨Nat.lt_of_lt_of_le h.1 hs, fun k hk => ⟨(World.cell?_of_block (a := ⟨o, k, none⟩) hb).trans (h.2 k hk).1, (World.frozen?_of_block (a := ⟨o, k, none⟩) hb).trans (h.2 k hk).2⟩⟩
theorem OA.on {w w' : World} {o n : Nat} {f : Nat → Value} (h : OA w o n f) (hb : Below w.heap.size w w') : OA w' o n f := h.kept hb.size (hb.block _ h.1)
def upF (f : Nat → Value) (k : Nat) (v : Value) : Nat → Value := fun j => if j = k then v else f j
theorem OA.set {w : World} {o n k : Nat} {f : Nat → Value} (h : OA w o n f) (hk : k < n) (v : Value) : OA (w.setCell ⟨o, k, none⟩ v) o n (upF f k v) := by
  refine ⟨by simpa using h.1, fun j hj => ⟨?_, by rw [World.frozen?_setCell]; exact (h.2 j hj).2⟩⟩
  by_cases e : j = k
  · subst e
    rw [World.cell?_setCell_same' _ _ _ (by rw [(h.2 j hj).1]; rfl)]
    simp [upF]
  · have e3 : (w.setCell ⟨o, k, none⟩ v).cell? ⟨o, j, none⟩ = w.cell? ⟨o, j, none⟩ := by apply World.cell?_setCell_other; intro e2; exact e (by simpa using e2.symm)
    rw [e3]
    simp [upF, e, (h.2 j hj).1]
/-- The map, and an array apart from it, both behind w0. -/
structure GO (w0 w : World) (g b1 b2 n o m : Nat) (s : St) (f : Nat → Value) : Prop where
  a : GA w g b1 b2 n s
  o_ : OA w o m f
  be : Below w0.heap.size w0 w
  la : ∀ k, Bk g b1 b2 k → w0.heap.size ≤ k
  lo : w0.heap.size ≤ o
  ne : ¬ Bk g b1 b2 o
section
variable {w0 w w' : World} {g b1 b2 n o m : Nat} {s s1 : St} {f : Nat → Value}
theorem GO.on (h : GO w0 w g b1 b2 n o m s f) (hb : Below w.heap.size w w') : GO w0 w' g b1 b2 n o m s f := ⟨h.a.on_ hb, h.o_.on hb, h.be.trans (hb.mono h.be.size), h.la, h.lo, h.ne⟩
theorem GO.step (h : GO w0 w g b1 b2 n o m s f) {n' : Nat} (hG : GA w' g b1 b2 n' s1) (hf : Fr w.heap.size (Bk g b1 b2) w w') : GO w0 w' g b1 b2 n' o m s1 f :=
  ⟨hG, h.o_.kept hf.size (hf.block _ h.o_.1 h.ne), h.be.trans (hf.below h.be.size h.la), h.la, h.lo, h.ne⟩
theorem GO.set (h : GO w0 w g b1 b2 n o m s f) {k : Nat} (hk : k < m) (v : Value) : GO w0 (w.setCell ⟨o, k, none⟩ v) g b1 b2 n o m s (upF f k v) :=
  ⟨h.a.kept fun j hj => Below.heap_setCell _ _ _ _ (fun e => h.ne (by have e' : j = o := e; rw [← e']; exact hj)), h.o_.set hk v, h.be.setCell (p := ⟨o, k, none⟩) h.lo v, h.la, h.lo, h.ne⟩
theorem GO.mono (h : GO w0 w g b1 b2 n o m s f) {n' : Nat} (hn : n ≤ n') : GO w0 w g b1 b2 n' o m s f := ⟨h.a.mono hn, h.o_, h.be, h.la, h.lo, h.ne⟩
end
theorem pgs_nat {n : Nat} (h : n ≤ 32) : pgs (n : Int) = n := by unfold pgs; omega
/-- Arrays of zero values. -/
theorem OA_new (w : World) (cs : Array Value) (t : TypeId) (v : Value) (n : Nat) (h : ∀ k, k < n → cs[k]? = some v) : OA (w.alloc (.cells cs t)) w.heap.size n (fun _ => v) :=
  ⟨by simp, fun k hk => ⟨(al_new w cs t k).1.trans (h k hk), (al_new w cs t k).2⟩⟩

/-! ### GapFills -/
/-- What may be given to 1 is what is not off. -/
structure Ffl (s : St) (n : Nat) (off : Nat → Bool) : Prop where
  N : s.N = n
  fr : ∀ k, k < 32 → k / 4 < n → s.free' 1 ((k / 4 : Nat) : Int) ((k % 4 : Nat) : Int) = !off k
  h7 : ∀ p c v, s.h p c = some v → v = 7
theorem free_use {s : St} {p c x y : Int} : (s.useS p c true).free' 1 x y = (if x = p ∧ y = c then false else s.free' 1 x y) := by
  unfold St.free' St.useS oth
  show (!(upR s.u p c true x y) && _) = _
  by_cases e : x = p ∧ y = c
  · obtain ⟨rfl, rfl⟩ := e; rw [upR_same]; simp
  · rw [upR_other _ e, if_neg e]
theorem free_hold {s : St} {p c x y : Int} : (s.holdS 7 p c).free' 1 x y = (if x = p ∧ y = c then false else s.free' 1 x y) := by
  unfold St.free' St.holdS oth
  show (!(s.u x y) && !(match upR s.h p c (some 7) x y with | some v => decide (v ≠ 1) | none => false)) = _
  by_cases e : x = p ∧ y = c
  · obtain ⟨rfl, rfl⟩ := e; rw [upR_same]; simp
  · rw [upR_other _ e, if_neg e]; rfl
theorem Ffl.in_ {s : St} {n : Nat} {off : Nat → Bool} (h : Ffl s n off) {k : Nat} (hk : k / 4 < n) : inB s.N ((k / 4 : Nat) : Int) ((k % 4 : Nat) : Int) = true := inB_yes (by rw [h.N]; omega)
theorem Ffl.out_ {s : St} {n : Nat} {off : Nat → Bool} (h : Ffl s n off) {k : Nat} (hk : ¬ k / 4 < n) : inB s.N ((k / 4 : Nat) : Int) ((k % 4 : Nat) : Int) = false := inB_no (by rw [h.N]; omega)
theorem Ffl.same {s : St} {n : Nat} {off : Nat → Bool} (h : Ffl s n off) {k : Nat} (hk : ¬ k / 4 < n) (v : Bool) : Ffl s n (fun j => if j = k then v else off j) :=
  ⟨h.N, fun j hj hn => by rw [if_neg (by rintro rfl; exact hk hn)]; exact h.fr j hj hn, h.h7⟩
theorem Ffl.use {s : St} {n : Nat} {off : Nat → Bool} (h : Ffl s n off) {k : Nat} (_hk : k / 4 < n) : Ffl (s.useS ((k / 4 : Nat) : Int) ((k % 4 : Nat) : Int) true) n (fun j => if j = k then true else off j) :=
  ⟨h.N, fun j hj hn => by
    rw [free_use]
    by_cases e : j = k
    · subst e; simp
    · rw [if_neg (by omega), if_neg e]; exact h.fr j hj hn, h.h7⟩
theorem Ffl.hold {s : St} {n : Nat} {off : Nat → Bool} (h : Ffl s n off) {k : Nat} (_hk : k / 4 < n) : Ffl (s.holdS 7 ((k / 4 : Nat) : Int) ((k % 4 : Nat) : Int)) n (fun j => if j = k then true else off j) :=
  ⟨h.N, fun j hj hn => by
    rw [free_hold]
    by_cases e : j = k
    · subst e; simp
    · rw [if_neg (by omega), if_neg e]; exact h.fr j hj hn, fun p c v hv => by
    have hv' : upR s.h ((k / 4 : Nat) : Int) ((k % 4 : Nat) : Int) (some 7) p c = some v := hv
    by_cases e : p = ((k / 4 : Nat) : Int) ∧ c = ((k % 4 : Nat) : Int)
    · obtain ⟨rfl, rfl⟩ := e; rw [upR_same] at hv'; exact (Option.some.inj hv').symm
    · rw [upR_other _ e] at hv'; exact h.h7 p c v hv'⟩
theorem Ffl.can {s : St} {n : Nat} {off : Nat → Bool} (h : Ffl s n off) {k : Nat} (hk : k / 4 < n) : canHold s 7 ((k / 4 : Nat) : Int) ((k % 4 : Nat) : Int) = true := by
  unfold canHold oth
  rw [h.in_ hk]
  cases e : s.h ((k / 4 : Nat) : Int) ((k % 4 : Nat) : Int) with
  | none => rfl
  | some v => rw [h.h7 _ _ v e]; rfl
theorem Ffl.can_no {s : St} {n : Nat} {off : Nat → Bool} (h : Ffl s n off) {k : Nat} (hk : ¬ k / 4 < n) : canHold s 7 ((k / 4 : Nat) : Int) ((k % 4 : Nat) : Int) = false := by
  unfold canHold
  rw [h.out_ hk]; rfl
/-- While the cells are taken: those ahead of k are not free any more. -/
structure Tak (s : St) (n c : Nat) (off : Nat → Bool) (k : Nat) : Prop where
  N : s.N = n
  fr : ∀ j, j < 32 → j / 4 < n → j % 4 < c → s.free' 1 ((j / 4 : Nat) : Int) ((j % 4 : Nat) : Int) = (decide (k ≤ j) && !off j)
theorem Ffl.tak {s : St} {n : Nat} {off : Nat → Bool} (h : Ffl s n off) (c : Nat) : Tak s n c off 0 := ⟨h.N, fun j hj hn _ => by rw [h.fr j hj hn]; simp⟩
theorem Tak.skip {s : St} {n c k : Nat} {off : Nat → Bool} (h : Tak s n c off k) (hk : ¬ k / 4 < n ∨ ¬ k % 4 < c ∨ off k = true) : Tak s n c off (k + 1) := ⟨h.N, fun j hj hn hc => by
  rw [h.fr j hj hn hc]
  by_cases e : j = k
  · subst e
    rcases hk with hk | hk | hk
    · exact absurd hn hk
    · exact absurd hc hk
    · rw [hk, decide_eq_false (show ¬ j + 1 ≤ j by omega)]; simp
  · congr 1
    by_cases e1 : k ≤ j
    · rw [decide_eq_true e1, decide_eq_true (by omega)]
    · rw [decide_eq_false e1, decide_eq_false (by omega)]⟩
theorem Tak.take {s : St} {n c k : Nat} {off : Nat → Bool} (h : Tak s n c off k) : Tak (s.useS ((k / 4 : Nat) : Int) ((k % 4 : Nat) : Int) true) n c off (k + 1) := ⟨h.N, fun j hj hn hc => by
  rw [free_use]
  by_cases e : j = k
  · subst e
    rw [decide_eq_false (show ¬ j + 1 ≤ j by omega)]; simp
  · rw [if_neg (by omega), h.fr j hj hn hc]
    congr 1
    by_cases e1 : k ≤ j
    · rw [decide_eq_true e1, decide_eq_true (by omega)]
    · rw [decide_eq_false e1, decide_eq_false (by omega)]⟩
theorem mem_Lp {a k i j : Nat} {x : Nat × Nat} (h : x ∈ Lp a k i j) : (a ≤ x.1 ∧ x.1 < a + i ∧ x.2 < k) ∨ (x.1 = a + i ∧ x.2 < j) := by
  rcases List.mem_append.1 h with h | h
  · exact Or.inl (mem_rows h)
  · simp only [row, List.mem_map, List.mem_range] at h
    obtain ⟨c, hc, rfl⟩ := h
    exact Or.inr ⟨rfl, hc⟩
theorem all_0 (n c : Nat) (hc : c ≤ 4) : All n 0 (n : Int) (c : Int) = rows 0 n c := by
  unfold All
  rw [show pA 0 = 0 from rfl, show pM n 0 (n : Int) = n by unfold pM; omega, show pK (c : Int) = c by unfold pK; omega]
theorem okX_j {s : St} {p c : Nat} (hp : p < 8) (hc : c < 4) (who : Int) : okX s who (p, c) = s.free' who (p : Int) (c : Int) := by
  unfold okX
  rw [show (p, c).1 % 32 = p from Nat.mod_eq_of_lt (by show p < 32; omega), show (p, c).2 % 4 = c from Nat.mod_eq_of_lt hc]
theorem Tak.next {s : St} {n c k : Nat} {off : Nat → Bool} (h : Tak s n c off k) (hn8 : n < 8) (hc4 : c ≤ 4) (hk : k < 32) (hn : k / 4 < n) (hc : k % 4 < c) (ho : off k = false) :
    nxV ((All s.N 0 (n : Int) (c : Int)).find? (okX s 1)) = .tuple #[.agg #[.int .i64 ((k / 4 : Nat) : Int), .int .i64 ((k % 4 : Nat) : Int)], .bool true] := by
  rw [h.N, all_0 n c hc4, find_pre (pre := Lp 0 c (k / 4) (k % 4)) (x := (k / 4, k % 4))]
  · show Value.tuple #[.agg #[.int .i64 ((k / 4 % 32 : Nat) : Int), .int .i64 ((k % 4 % 4 : Nat) : Int)], .bool true] = _
    rw [show k / 4 % 32 = k / 4 by omega, show k % 4 % 4 = k % 4 by omega]
  · rintro ⟨p, q⟩ hy
    have hm : (0 ≤ p ∧ p < 0 + k / 4 ∧ q < c) ∨ (p = 0 + k / 4 ∧ q < k % 4) := mem_Lp hy
    have hfr := h.fr (4 * p + q) (by omega) (by omega) (by omega)
    rw [show (4 * p + q) / 4 = p by omega, show (4 * p + q) % 4 = q by omega] at hfr
    rw [okX_j (by omega) (by omega), hfr, decide_eq_false (by omega)]; rfl
  · rw [okX_j (by omega) (by omega), h.fr k hk hn hc, ho]; simp
  · rw [show (k / 4, k % 4) = (0 + k / 4, k % 4) by simp, ← Lp_succ]
    exact Lp_pre 0 hn hc
theorem Tak.none {s : St} {n c : Nat} {off : Nat → Bool} (h : Tak s n c off 32) (hn8 : n < 8) (hc4 : c ≤ 4) : nxV ((All s.N 0 (n : Int) (c : Int)).find? (okX s 1)) = .tuple #[.agg #[.int .i64 0, .int .i64 0], .bool false] := by
  rw [h.N, all_0 n c hc4, find_none']
  · rfl
  · rintro ⟨p, q⟩ hy
    have hm := mem_rows hy
    have hm' : 0 ≤ p ∧ p < 0 + n ∧ q < c := hm
    have hfr := h.fr (4 * p + q) (by omega) (by omega) (by omega)
    rw [show (4 * p + q) / 4 = p by omega, show (4 * p + q) % 4 = q by omega] at hfr
    rw [okX_j (by omega) (by omega), hfr, decide_eq_false (by omega)]; rfl
end Go.Proofs.Ytffflafafpdjdaa
