/- Made slices of zeros, and a new entry's variable. -/
import Derived.Test.YtkfebibnpincpaaEApP
import Derived.Test.YtkfebibnpincpaaMakers
import Derived.Laws.OwnMore
namespace Go.Proofs.Ytkfebibnpincpaa
open Go.RowKit

theorem made_flat {α : Type} (f : α → List Value) (x : α) (z : Array Value) (hf : f x = z.toList) (hk : ∀ y, (f y).length = z.size) (h0 : 0 < z.size) (n : Nat) : (madeCells z (n * z.size)).toList = (List.replicate n x).flatMap f := by
  have hlen : ((List.replicate n x).flatMap f).length = n * z.size := by
    induction n with
    | zero => simp
    | succ n ih => rw [List.replicate_succ, List.flatMap_cons, List.length_append, ih, hk, Nat.succ_mul]; omega
  apply List.ext_getElem?
  intro j
  by_cases hj : j < n * z.size
  · have hq : j / z.size < n := (Nat.div_lt_iff_lt_mul h0).2 hj
    have hr : j % z.size < z.size := Nat.mod_lt _ h0
    have e := flat_at (f := f) (k := z.size) hk (List.replicate n x) (j / z.size) (j % z.size) (by rw [List.length_replicate]; exact hq) hr
    rw [show j / z.size * z.size + j % z.size = j by rw [Nat.mul_comm]; exact Nat.div_add_mod ..] at e
    rw [e, Array.getElem?_toList]
    simp only [madeCells, Array.getElem?_map, List.map_replicate, List.getElem?_replicate, if_pos hq, Option.bind_some, hf]
    rw [show (Array.range (n * z.size))[j]? = some j by rw [Array.getElem?_range, if_pos hj]]
    simp [hr]
  · rw [List.getElem?_eq_none (l := (madeCells z (n * z.size)).toList) (by rw [Array.length_toList, size_madeCells]; omega), List.getElem?_eq_none (by rw [hlen]; omega)]

theorem mk_zero {α : Type} (f : α → List Value) (x : α) (z : Array Value) (t e : TypeId) (bytes : Nat) (ht : Try.prog.underlying t = some (.slice e)) (hinf : (Try.prog.info? e).map (fun i => (i.zero, i.size, i.bytes)) = some (some (.agg z), z.size, bytes))
    (hf : f x = z.toList) (hk : ∀ y, (f y).length = z.size) (h0 : 0 < z.size) (hz : z.size ≤ 100) (hb : bytes ≤ 1000) (kl : IntKind) (n : Nat) (hn : n ≤ 1000) (W : World) :
    ∃ w', (Instr.makeSlice t (.int kl (n : Int)) (.int kl (n : Int))).run Try.prog W = .ok (.slice (some ⟨W.heap.size, 0, none⟩) n n) w' ∧ w'.ownsRow W.heap.size e z.size (.slice (some ⟨W.heap.size, 0, none⟩) n n) n ((List.replicate n x).flatMap f) ∧ Below W.heap.size W w' := by
  obtain ⟨i, hi, hz0, hz1, hz2⟩ := info_parts hinf
  have hm : n * z.size ≤ 1000 * 100 := Nat.mul_le_mul hn hz
  have hm2 : bytes * n ≤ 1000 * 1000 := Nat.mul_le_mul hb hn
  obtain ⟨w', h1, h2, h3⟩ := run_makeSlice_full (P := Try.prog) W W.heap.size t e i (.agg z) z.size ht hi hz0 hz1 kl kl n (by omega) (by rw [hz2]; omega) (by unfold maxLen; omega) (Nat.le_refl _)
  refine ⟨w', h1, ?_, ⟨h3.os, h3.tape, h3.output, h3.size, fun k hk => h3.block k hk (fun e => by cases e)⟩⟩
  rw [← made_flat f x z hf hk h0 n]
  exact h2

theorem alloc_ent (W : World) : (Instr.alloc 30 true (.tuple #[])).run Try.prog W = .ok (.pointer (some ⟨W.heap.size, 0, none⟩)) (W.alloc (.cells ent0 30)) := by
  unfold ent0
  go_simp
def lv0 : Lv := (0, 0, 0, false)
def dt0 : Dt := (0, 0)
def op0 : Opn × Value := ((0, 0, []), .slice none 0 0)
theorem infoOpZ : (Try.prog.info? 50).map (fun i => (i.zero, i.size, i.bytes)) = some (some (.agg #[.int .i64 0, .slice none 0 0, .int .i64 0]), 3, 40) := by kernel_rfl
theorem mk_moves (kl : IntKind) (n : Nat) (hn : n ≤ 1000) (W : World) : ∃ w', (Instr.makeSlice 25 (.int kl (n : Int)) (.int kl (n : Int))).run Try.prog W = .ok (.slice (some ⟨W.heap.size, 0, none⟩) n n) w' ∧ w'.ownsRow W.heap.size 52 4 (.slice (some ⟨W.heap.size, 0, none⟩) n n) n ((List.replicate n mv0).flatMap mvV) ∧ Below W.heap.size W w' :=
  mk_zero mvV mv0 #[.int .i64 0, .int .i64 0, .int .i64 0, .int .i64 0] 25 52 32 Try.underlying25 informoves_any rfl (fun _ => rfl) (by decide) (by decide) (by decide) kl n hn W
theorem mk_lives (kl : IntKind) (n : Nat) (hn : n ≤ 1000) (W : World) : ∃ w', (Instr.makeSlice 26 (.int kl (n : Int)) (.int kl (n : Int))).run Try.prog W = .ok (.slice (some ⟨W.heap.size, 0, none⟩) n n) w' ∧ w'.ownsRow W.heap.size 46 4 (.slice (some ⟨W.heap.size, 0, none⟩) n n) n ((List.replicate n lv0).flatMap lvV) ∧ Below W.heap.size W w' :=
  mk_zero lvV lv0 #[.int .i64 0, .int .i64 0, .int .i64 0, .bool false] 26 46 32 Try.underlying26 inforlives_any rfl (fun _ => rfl) (by decide) (by decide) (by decide) kl n hn W
theorem mk_dirty (kl : IntKind) (n : Nat) (hn : n ≤ 1000) (W : World) : ∃ w', (Instr.makeSlice 27 (.int kl (n : Int)) (.int kl (n : Int))).run Try.prog W = .ok (.slice (some ⟨W.heap.size, 0, none⟩) n n) w' ∧ w'.ownsRow W.heap.size 48 2 (.slice (some ⟨W.heap.size, 0, none⟩) n n) n ((List.replicate n dt0).flatMap dtV) ∧ Below W.heap.size W w' :=
  mk_zero dtV dt0 #[.int .i64 0, .int .i64 0] 27 48 16 Try.underlying27 infordirtys_any rfl (fun _ => rfl) (by decide) (by decide) (by decide) kl n hn W
theorem mk_opens (kl : IntKind) (n : Nat) (hn : n ≤ 1000) (W : World) : ∃ w', (Instr.makeSlice 28 (.int kl (n : Int)) (.int kl (n : Int))).run Try.prog W = .ok (.slice (some ⟨W.heap.size, 0, none⟩) n n) w' ∧ w'.ownsRow W.heap.size 50 3 (.slice (some ⟨W.heap.size, 0, none⟩) n n) n ((List.replicate n op0).flatMap opV) ∧ Below W.heap.size W w' :=
  mk_zero opV op0 #[.int .i64 0, .slice none 0 0, .int .i64 0] 28 50 40 Try.underlying28 infoOpZ rfl (fun _ => rfl) (by decide) (by decide) (by decide) kl n hn W

/-- Lists of zeros. -/
theorem z_opens {W : World} {B n : Nat} {v : Value} (h : W.ownsRow B 50 3 v n ((List.replicate n op0).flatMap opV)) : OpAt W v (List.replicate n (0, 0, [])) := by
  refine ⟨List.replicate n op0, by rw [List.map_replicate]; rfl, (own_els (f := opV) (fun _ => rfl) h List.length_replicate).1, fun o ho => ?_⟩
  obtain rfl := List.eq_of_mem_replicate ho
  exact ⟨none, 0, rfl, Nat.le_refl _, fun _ => rfl, fun a e => by cases e⟩
def zE (k : Int) (m l d o : Nat) (old new : List Int) : Ent := ⟨k, 0, 0, 0, 0, 0, 0, 0, 0, 0, old, new, List.replicate m mv0, List.replicate l lv0, List.replicate d dt0, List.replicate o (0, 0, [])⟩
theorem zero_I : I64 0 := ⟨by decide, by decide⟩
theorem zE_I {k : Int} (hk : I64 k) (m l d o : Nat) (old new : List Int) : EntI (zE k m l d o old new) :=
  ⟨hk, zero_I, zero_I, zero_I, zero_I, zero_I, zero_I, zero_I, zero_I, zero_I,
    fun x hx => by obtain rfl := List.eq_of_mem_replicate hx; exact ⟨zero_I, zero_I, zero_I, zero_I⟩,
    fun x hx => by obtain rfl := List.eq_of_mem_replicate hx; exact ⟨zero_I, zero_I, zero_I⟩,
    fun x hx => by obtain rfl := List.eq_of_mem_replicate hx; exact ⟨zero_I, zero_I⟩,
    fun x hx => by obtain rfl := List.eq_of_mem_replicate hx; exact ⟨zero_I, zero_I, fun _ h => by cases h⟩⟩
theorem rep_B {α : Type} {f : α → Bool} {x : α} (h : f x = true) {n : Nat} (hn : n ≤ 40) : lstB f (List.replicate n x) = true := by
  simp only [lstB, Bool.and_eq_true, decide_eq_true_eq, List.all_eq_true, List.length_replicate]
  exact ⟨hn, fun y hy => by rw [List.eq_of_mem_replicate hy]; exact h⟩
theorem rep_len {α : Type} {f : α → List Int} {x : α} {k : Nat} (h : (f x).length = k) {n : Nat} (hn : n ≤ 40) : (lstL f (List.replicate n x)).length = 1 + n * k := by
  unfold lstL
  rw [List.length_replicate, if_pos hn, List.length_append, numL_len]
  congr 1
  clear hn
  induction n with
  | zero => simp
  | succ n ih => rw [List.replicate_succ, List.flatMap_cons, List.length_append, ih, h, Nat.succ_mul]; omega
theorem zE_B {k : Int} (hk : kindB k = true) (hk1 : fitB k 1 = true) {m l d o : Nat} (hm : m ≤ 40) (hl : l ≤ 40) (hd : d ≤ 40) (ho : o ≤ 40) {old new : List Int} (h1 : celOk old = true) (h2 : celOk new = true) : entB (zE k m l d o old new) = true := by
  unfold entB zE
  simp only [hk, hk1, h1, h2, rep_B (f := mvB) (x := mv0) rfl hm, rep_B (f := lvB) (x := lv0) rfl hl, rep_B (f := dtB) (x := dt0) rfl hd, rep_B (f := opB) (x := (0, 0, [])) rfl ho]
  rfl
theorem zE_len {k : Int} {m l d o : Nat} (hm : m ≤ 40) (hl : l ≤ 40) (hd : d ≤ 40) (ho : o ≤ 40) {old new : List Int} (h1 : celOk old = true) (h2 : celOk new = true) : (entL (zE k m l d o old new)).length = 21 + m * 4 + l * 8 + d * 4 + o * 4 + old.length + new.length := by
  have c1 : ∀ {c : List Int}, celOk c = true → (celL c).length = 1 + c.length := fun hb => by
    unfold celL
    rw [if_pos hb, List.length_append, numL_len]
  unfold entL zE plL
  simp only [List.length_append, numL_len, c1 h1, c1 h2, rep_len (f := mvL) (x := mv0) (k := 4) rfl hm, rep_len (f := lvL) (x := lv0) (k := 8) rfl hl, rep_len (f := dtL) (x := dt0) (k := 4) rfl hd, rep_len (f := opL) (x := (0, 0, [])) (k := 4) rfl ho]
  omega
end Go.Proofs.Ytkfebibnpincpaa
