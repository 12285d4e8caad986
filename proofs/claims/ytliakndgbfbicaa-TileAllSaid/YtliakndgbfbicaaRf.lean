/- The reference's disk: what its block and its rows hold; its small methods. -/
import Derived.Test.YtliakndgbfbicaaOps
import Derived.Laws.BytesString
import Derived.Laws.IdiomStrings
import Derived.Lib.ConvBytes
import Derived.StillTailTactics
namespace Go.Proofs.Ytliakndgbfbicaa
open Go.RowKit Go.Maps

/-- The reference's disk, plainly. -/
structure Rf where
  k : Nat
  now : Nat → ByteArray
  was : Nat → ByteArray
  wet : Nat → Bool
  off : Bool
  on : Bool
  at_ : Int
  mv : Value
  mask : List Int

/-- Block g is a row whose first k cells are f. -/
def RowF (w : World) (g : Nat) (t : TypeId) (k : Nat) (f : Nat → Value) : Prop := ∃ cur, w.heap[g]? = some (.cells cur t (0, 0)) ∧ ∀ i, i < k → cur[i]? = some (f i)
def SlF (v : Value) (g k : Nat) : Prop := ∃ p c, v = .slice p k c ∧ k ≤ c ∧ (p = none → k = 0) ∧ ∀ a, p = some a → a = ⟨g, 0, none⟩

theorem RowF.cell {w : World} {g k : Nat} {t : TypeId} {f : Nat → Value} (h : RowF w g t k f) {i : Nat} (hi : i < k) : w.cell? ⟨g, i, none⟩ = some (f i) ∧ w.frozen? ⟨g, i, none⟩ = false := by
  obtain ⟨cur, h1, h2⟩ := h
  exact ⟨(cell_of h1 i).1.trans (h2 i hi), (cell_of h1 i).2⟩
theorem RowF.of_block {w w' : World} {g k : Nat} {t : TypeId} {f : Nat → Value} (h : RowF w g t k f) (hb : w'.heap[g]? = w.heap[g]?) : RowF w' g t k f := by
  obtain ⟨cur, h1, h2⟩ := h
  exact ⟨cur, hb.trans h1, h2⟩
def updN {α : Type} (f : Nat → α) (i : Nat) (v : α) : Nat → α := fun j => if j = i then v else f j
theorem RowF.set {w : World} {g k : Nat} {t : TypeId} {f : Nat → Value} (h : RowF w g t k f) (i : Nat) (v : Value) : RowF (w.setCell ⟨g, i, none⟩ v) g t k (updN f i v) := by
  obtain ⟨cur, h1, h2⟩ := h
  refine ⟨cur.setIfInBounds i v, heap_setCell_same w g i _ _ _ h1, fun j hj => ?_⟩
  unfold updN
  have h3 := h2 j hj
  rw [Array.getElem?_setIfInBounds]
  by_cases e : j = i
  · subst e
    have : j < cur.size := (Array.getElem?_eq_some_iff.1 h3).1
    simp [this]
  · rw [if_neg e, if_neg (fun e' => e e'.symm)]; exact h3
theorem SlF.some {v : Value} {g k : Nat} (h : SlF v g k) (hk : 0 < k) : ∃ c, v = .slice (some ⟨g, 0, none⟩) k c ∧ k ≤ c := by
  obtain ⟨p, c, rfl, h1, h2, h3⟩ := h
  cases p with
  | none => have := h2 rfl; omega
  | some a => obtain rfl := h3 a rfl; exact ⟨c, rfl, h1⟩

structure RfAt (w : World) (r gn gw gt gm : Nat) (vn vw vt : Value) (d : Rf) : Prop where
  cells : w.heap[r]? = some (.cells #[vn, vw, vt, .bool d.off, .bool d.on, .int .i64 d.at_, d.mv] 39 (0, 0))
  sn : SlF vn gn d.k
  sw : SlF vw gw d.k
  st : SlF vt gt d.k
  now : 0 < d.k → RowF w gn 9 d.k (fun i => .string (d.now i))
  was : 0 < d.k → RowF w gw 9 d.k (fun i => .string (d.was i))
  wet : 0 < d.k → RowF w gt 4 d.k (fun i => .bool (d.wet i))
  mask : SlB w d.mv d.mask gm
  ne : r ≠ gn ∧ r ≠ gw ∧ r ≠ gt ∧ gn ≠ gw ∧ gn ≠ gt ∧ gw ≠ gt ∧ gm ≠ r ∧ gm ≠ gn ∧ gm ≠ gw ∧ gm ≠ gt
  kle : d.k ≤ 2000
  ok : d.on = true → -1 ≤ d.at_ ∧ d.at_ ≤ 9223372036854775807
  mok : bytesOk d.mask
  nil0 : d.k = 0 → ∀ g, SlF vn g d.k ∧ SlF vw g d.k ∧ SlF vt g d.k

section
variable {w : World} {r gn gw gt gm : Nat} {vn vw vt : Value} {d : Rf}
theorem RfAt.c0 (h : RfAt w r gn gw gt gm vn vw vt d) : w.cell? ⟨r, 0, none⟩ = some vn := (cell_of h.cells 0).1
theorem RfAt.c1 (h : RfAt w r gn gw gt gm vn vw vt d) : w.cell? ⟨r, 1, none⟩ = some vw := (cell_of h.cells 1).1
theorem RfAt.c2 (h : RfAt w r gn gw gt gm vn vw vt d) : w.cell? ⟨r, 2, none⟩ = some vt := (cell_of h.cells 2).1
theorem RfAt.c3 (h : RfAt w r gn gw gt gm vn vw vt d) : w.cell? ⟨r, 3, none⟩ = some (.bool d.off) := (cell_of h.cells 3).1
theorem RfAt.c4 (h : RfAt w r gn gw gt gm vn vw vt d) : w.cell? ⟨r, 4, none⟩ = some (.bool d.on) := (cell_of h.cells 4).1
theorem RfAt.c5 (h : RfAt w r gn gw gt gm vn vw vt d) : w.cell? ⟨r, 5, none⟩ = some (.int .i64 d.at_) := (cell_of h.cells 5).1
theorem RfAt.c6 (h : RfAt w r gn gw gt gm vn vw vt d) : w.cell? ⟨r, 6, none⟩ = some d.mv := (cell_of h.cells 6).1
theorem RfAt.fz (h : RfAt w r gn gw gt gm vn vw vt d) (i : Nat) : w.frozen? ⟨r, i, none⟩ = false := (cell_of h.cells i).2

theorem SlB.keep {w w' : World} {v : Value} {l : List Int} {g : Nat} (h : SlB w v l g) (hb : w'.heap[g]? = w.heap[g]?) : SlB w' v l g := by
  obtain ⟨p0, len, cap, e, e2, hle, hcap, hn, ha⟩ := h
  refine ⟨p0, len, cap, e, e2, hle, hcap, hn, fun a hpa hne => ?_⟩
  obtain ⟨h1, h2, h3⟩ := ha a hpa hne
  exact ⟨h1, h2, fun j hj => (World.cell?_of_block hb).trans (h3 j hj)⟩

/-- What leaves its blocks leaves the disk. -/
theorem RfAt.kept {w' : World} (h : RfAt w r gn gw gt gm vn vw vt d) (hb : ∀ g, g = r ∨ g = gn ∨ g = gw ∨ g = gt ∨ g = gm → w'.heap[g]? = w.heap[g]?) : RfAt w' r gn gw gt gm vn vw vt d :=
  ⟨(hb r (by simp)).trans h.cells, h.sn, h.sw, h.st, fun k => (h.now k).of_block (hb _ (by simp)), fun k => (h.was k).of_block (hb _ (by simp)), fun k => (h.wet k).of_block (hb _ (by simp)), h.mask.keep (hb _ (by simp)), h.ne, h.kle, h.ok, h.mok, h.nil0⟩

theorem rcut_off (h : RfAt w r gn gw gt gm vn vw vt d) (ho : d.on = false) : Calls Try.prog 26 #[.pointer (some ⟨r, 0, none⟩)] w fun e w' => e = .returned (.bool false) ∧ w' = w := by
  have c4 := h.c4
  rw [ho] at c4
  go_enter Try.func26, Try.ntmps26
  go_wp2
  go_ret
  exact ⟨rfl, rfl⟩

theorem rcut_on (h : RfAt w r gn gw gt gm vn vw vt d) (ho : d.on = true) (b0 : 0 ≤ d.at_) : Calls Try.prog 26 #[.pointer (some ⟨r, 0, none⟩)] w fun e w' => e = .returned (.bool (decide (d.at_ = 0))) ∧ w' = w.setCell ⟨r, 5, none⟩ (.int .i64 (d.at_ - 1)) := by
  have c4 := h.c4
  rw [ho] at c4
  have c5 := h.c5
  have f5 := h.fz 5
  obtain ⟨-, b1⟩ := h.ok ho
  go_enter Try.func26, Try.ntmps26
  go_wp2
  go_ret
  refine ⟨?_, rfl⟩
  by_cases e : d.at_ = 0
  · simp [e]
  · have e2 : ¬ d.at_ - 1 < 0 := by omega
    simp [e, e2]

theorem rread_off (h : RfAt w r gn gw gt gm vn vw vt d) (ho : d.off = true) (i : Int) : Calls Try.prog 32 #[.pointer (some ⟨r, 0, none⟩), .int .i64 i] w fun e w' => e = .returned (.tuple #[.slice none 0 0, .int .i64 2]) ∧ w' = w := by
  have c3 := h.c3
  rw [ho] at c3
  go_enter Try.func32, Try.ntmps32
  go_wp2
  go_ret2
  exact ⟨rfl, rfl⟩

theorem rread_bad (h : RfAt w r gn gw gt gm vn vw vt d) (ho : d.off = false) (i : Int) (hi : ¬ (0 ≤ i ∧ i < d.k)) : Calls Try.prog 32 #[.pointer (some ⟨r, 0, none⟩), .int .i64 i] w fun e w' => e = .returned (.tuple #[.slice none 0 0, .int .i64 1]) ∧ w' = w := by
  have c3 := h.c3
  rw [ho] at c3
  have c0 := h.c0
  obtain ⟨p, c, rfl, _, _, _⟩ := h.sn
  go_enter Try.func32, Try.ntmps32
  by_cases a : i < 0
  · go_wp2
    go_ret2
    exact ⟨rfl, rfl⟩
  · have d1 : decide (i < 0) = false := by simpa using a
    have d2 : (d.k : Int) ≤ i := by omega
    go_wp2
    go_ret2
    exact ⟨rfl, rfl⟩

theorem below_bytes {B : Nat} {w : World} (hB : B ≤ w.heap.size) (e : TypeId) (s : ByteArray) : Below B w (Lib.bytesWorld w e s) :=
  ⟨rfl, rfl, rfl, by rw [Lib.bytesWorld_size]; omega, fun k hk => Lib.bytesWorld_at_old w e s k (by omega)⟩

theorem back_conv (w : World) (s : ByteArray) (cap : Nat) : (convert 28 9 (.slice (some ⟨w.heap.size, 0, none⟩) s.size cap)).run Try.prog (Lib.bytesWorld w 5 s) = .ok (.string s) (Lib.bytesWorld w 5 s) := by
  have h := run_convert_bytes_back (P := Try.prog) (Lib.bytesWorld w 5 s) 28 9 5 ⟨w.heap.size, 0, none⟩ cap s.data.toList Try.underlying28 Try.underlying5 Try.underlying9 (fun j hj => by
    have h2 : (⟨w.heap.size, 0, none⟩ : Addr).add j = ⟨w.heap.size, j, none⟩ := by unfold Addr.add; split <;> simp_all
    have hs : s.data.toList.length = s.size := Array.length_toList
    rw [h2, Lib.bytesWorld_cell w 5 s j (by omega)]
    simp [List.getD_eq_getElem?_getD, List.getElem?_eq_getElem hj])
  rw [show s.data.toList.length = s.size from Array.length_toList, show (⟨s.data.toList.toArray⟩ : ByteArray) = s by simp] at h
  exact h

theorem rread_ok (h : RfAt w r gn gw gt gm vn vw vt d) (ho : d.off = false) (i : Nat) (hi : i < d.k) : Calls Try.prog 32 #[.pointer (some ⟨r, 0, none⟩), .int .i64 i] w fun e w' => ∃ v, e = .returned (.tuple #[v, .int .i64 0]) ∧ (convert 28 9 v).run Try.prog w' = .ok (.string (d.now i)) w' ∧ Below w.heap.size w w' := by
  have c3 := h.c3
  rw [ho] at c3
  have c0 := h.c0
  have hkle := h.kle
  obtain ⟨c, rfl, _⟩ := h.sn.some (by omega)
  have cn : w.cell? ⟨gn, i, none⟩ = some (.string (d.now i)) := ((h.now (by omega)).cell hi).1
  generalize d.now i = s at cn ⊢
  have hcv : ∀ W, (convert 9 28 (.string s)).run Try.prog W = .ok (.slice (some ⟨W.heap.size, 0, none⟩) s.size (grownCap W s.size 0 5)) (Lib.bytesWorld W 5 s) := fun W => Lib.run_convert_string_bytes W 9 28 5 s Try.underlying9 Try.underlying28 Try.underlying5
  have d1 : decide ((i : Int) < 0) = false := by simp
  have d2 : ¬ (d.k : Int) ≤ i := by omega
  have d3 : decide ((d.k : Int) ≤ i) = false := by simpa using d2
  go_enter Try.func32, Try.ntmps32
  go_wp2
  go_ret2
  exact ⟨_, rfl, back_conv w s _, below_bytes (Nat.le_refl _) _ _⟩
end
end Go.Proofs.Ytliakndgbfbicaa
