/- The lock table in memory; New, Held, wanted, put, give. -/
import Derived.Test.YtlphbnjoopaboaaDoorLkM
import Derived.Test.YtlphbnjoopaboaaDoorMdT
import Derived.Test.YtlphbnjoopaboaaDoorShelf
import Derived.Deep.QuietTactic
import Derived.BigQuiet
import Derived.Lib.Hide
namespace Go.Proofs.YtlphbnjoopaboaaDoor
open Go.RowKit Go.Maps Go.WideMaps

theorem kI : Keyed Tryd.prog 3 := int_keyed Tryd.underlying3
theorem kS : Keyed Tryd.prog 9 := string_keyed Tryd.underlying9
def iL (i : Int) : Lit := .int .i64 i
def sL (s : ByteArray) : Lit := .string s.data.toList
theorem keyI {i : Int} (h : (Lit.int .i64 i).wf = true) : keyOf Tryd.prog 3 (.int .i64 i) = some (iL i) := keyOf_int_mk Tryd.underlying3 h
theorem keyS {s : ByteArray} (h : s.size ≤ maxLen) : keyOf Tryd.prog 9 (.string s) = some (sL s) := keyOf_string_mk Tryd.underlying9 h
theorem zI (w : World) : (zeroValue 3).run Tryd.prog w = .ok (.int .i64 0) w := by kernel_rfl
theorem zM1 (w : World) : (zeroValue 45).run Tryd.prog w = .ok (.map none) w := by kernel_rfl
theorem zM2 (w : World) : (zeroValue 50).run Tryd.prog w = .ok (.map none) w := by kernel_rfl
theorem zU (w : World) : (zeroValue 51).run Tryd.prog w = .ok (.agg #[]) w := by kernel_rfl

theorem eqS (T : TypeId) (hT : T = 45 ∨ T = 50 ∨ T = 33) (c : Nat) (w : World) : (binOp BinOp.eql T (.map (some c)) (.map none)).run Tryd.prog w = .ok (.bool false) w := by
  rcases hT with rfl | rfl | rfl <;> kernel_rfl
theorem eqN (T : TypeId) (hT : T = 45 ∨ T = 50) (w : World) : (binOp BinOp.eql T (.map none) (.map none)).run Tryd.prog w = .ok (.bool true) w := by
  rcases hT with rfl | rfl <;> kernel_rfl

theorem cell_of {w : World} {p : Nat} {cs : Array Value} {t : TypeId} (h : w.heap[p]? = some (.cells cs t (0, 0))) (i : Nat) : w.cell? ⟨p, i, none⟩ = cs[i]? ∧ w.frozen? ⟨p, i, none⟩ = false := by
  simp [World.cell?, World.frozen?, h]

set_option maxRecDepth 100000 in
/-- put into the map of the modes. -/
theorem putM_any (w : World) {B b n : Nat} {F : Lit → Lit → Option Value} {ob : Lit → Option Nat} (h : MM w Tryd.prog 9 3 b n F ob) (hB : ∀ c, MMb b ob c → B ≤ c) (hBw : B ≤ w.heap.size) (hn : n < 1000) {s : ByteArray} (hs : s.size ≤ maxLen) {i v : Int} (hi : (Lit.int .i64 i).wf = true) :
    Calls Tryd.prog 22 #[.map (some b), .string s, .int .i64 i, .int .i64 v] w fun e w' => e = .returned (.tuple #[]) ∧ ∃ ob', MM w' Tryd.prog 9 3 b (n + 2) (upd2 F (sL s) (iL i) (.int .i64 v)) ob' ∧ (∀ c, MMb b ob' c → B ≤ c) ∧ Fr w.heap.size (MMb b ob) w w' ∧ (∀ c, MMb b ob' c → MMb b ob c ∨ w.heap.size ≤ c) := by
  have k1 := h.out.look kS Tryd.underlying33 (zM1 w) (keyS hs)
  have hmx : n < maxLen := by unfold maxLen; omega
  have q1 := eqS 45 (Or.inl rfl)
  have q2 := eqN 45 (Or.inl rfl)
  cases ho : ob (sL s) with
  | some c =>
    rw [ho] at k1
    simp only [Option.map_some, Option.getD_some] at k1
    obtain ⟨w1, r1, g1, t1⟩ := (h.inn _ _ ho).store kI Tryd.underlying45 hmx (keyI hi) (.int .i64 v)
    have H1 := h.put_in ho t1 g1
    have HF : Fr w.heap.size (MMb b ob) w w1 := (Fr.refl _ _ _).turned (Or.inl (Or.inr ⟨_, ho⟩)) t1
    have HM : Hid (MM w1 Tryd.prog 9 3 b (n + 1) (upd2 F (sL s) (iL i) (.int .i64 v)) ob) := H1
    have HF' := Lib.hid HF
    have HB := Lib.hid hB
    have HO := Lib.hid ho
    clear H1 HF g1 t1 h hmx hB ho hBw hn hs hi
    go_enter Tryd.func22, Tryd.ntmps22
    go_wp2
    go_end0
    have H2 := HM.out
    exact ⟨rfl, ob, ⟨H2.out.mono (by omega), fun l c e => (H2.inn l c e).mono (by omega), H2.non, H2.inj, H2.ne⟩, HB.out, HF'.out, fun c hc => Or.inl hc⟩
  | none =>
    rw [ho] at k1
    simp only [Option.map_none, Option.getD_none] at k1
    have hmk := @run_makeMap Tryd.prog
    have A1 : gm (w.alloc (.map #[] 0)) Tryd.prog 9 b n (fun l => (ob l).map fun c => .map (some c)) := h.out.of_block (Below.heap_alloc _ _ _ h.out.lt)
    obtain ⟨w1, r1, g1, t1⟩ := A1.store kS Tryd.underlying33 hmx (keyS hs) (.map (some w.heap.size))
    have hne : w.heap.size ≠ b := by have := h.out.lt; omega
    have I1 : gm w1 Tryd.prog 3 w.heap.size 0 (fun _ => none) := (gm_made w Tryd.prog 3).of_block (block_turned t1 hne)
    have z1 := turned_size t1
    have hbk : ∀ d, d < w.heap.size → d ≠ b → w1.heap[d]? = w.heap[d]? := fun d hd hn => (block_turned t1 hn).trans (Below.heap_alloc _ _ _ hd)
    have H1 := h.put_new ho (Nat.le_refl _) hbk g1 I1
    have k2 := H1.out.look kS Tryd.underlying33 (zM1 w1) (keyS hs)
    rw [updL_same] at k2
    simp only [Option.map_some, Option.getD_some] at k2
    have ho1 : updL ob (sL s) (some w.heap.size) (sL s) = some w.heap.size := updL_same ..
    obtain ⟨w2, r2, g2, t2⟩ := (H1.inn _ _ ho1).store kI Tryd.underlying45 (by unfold maxLen; omega) (keyI hi) (.int .i64 v)
    have H2 := H1.put_in ho1 t2 g2
    have HF : Fr w.heap.size (MMb b ob) w w2 := (((Fr.refl _ _ _).alloc (Nat.le_refl _) _).turned (Or.inl (Or.inl rfl)) t1).turned (Or.inr (Nat.le_refl _)) t2
    have HM := Lib.hid H2
    have HF' := Lib.hid HF
    have HB := Lib.hid hB
    have HO := Lib.hid ho
    have HBW := Lib.hid hBw
    clear H1 H2 HF g1 g2 I1 A1 t1 t2 z1 hbk ho1 hne h hmx hB ho hBw hn hs hi
    go_enter Tryd.func22, Tryd.ntmps22
    go_wp2
    go_end0
    have mem : ∀ c, MMb b (updL ob (sL s) (some w.heap.size)) c → MMb b ob c ∨ w.heap.size ≤ c := by
      rintro c (rfl | ⟨l, hl⟩)
      · exact Or.inl (Or.inl rfl)
      · by_cases e : l = sL s
        · subst e; rw [updL_same] at hl; exact Or.inr (Nat.le_of_eq (Option.some.inj hl))
        · rw [updL_other _ e] at hl; exact Or.inl (Or.inr ⟨l, hl⟩)
    exact ⟨rfl, _, HM.out, fun c hc => (mem c hc).elim (HB.out c) (fun h => Nat.le_trans HBW.out h), HF'.out, mem⟩
set_option maxRecDepth 100000 in
/-- put into the map of the names. -/
theorem putN_any (w : World) {B b n : Nat} {F : Lit → Lit → Option Value} {ob : Lit → Option Nat} (h : MM w Tryd.prog 3 9 b n F ob) (hB : ∀ c, MMb b ob c → B ≤ c) (hBw : B ≤ w.heap.size) (hn : n < 1000) {s : ByteArray} (hs : s.size ≤ maxLen) {i : Int} (hi : (Lit.int .i64 i).wf = true) :
    Calls Tryd.prog 23 #[.map (some b), .int .i64 i, .string s, .agg #[]] w fun e w' => e = .returned (.tuple #[]) ∧ ∃ ob', MM w' Tryd.prog 3 9 b (n + 2) (upd2 F (iL i) (sL s) (.agg #[])) ob' ∧ (∀ c, MMb b ob' c → B ≤ c) ∧ Fr w.heap.size (MMb b ob) w w' ∧ (∀ c, MMb b ob' c → MMb b ob c ∨ w.heap.size ≤ c) := by
  go_enter Tryd.func23, Tryd.ntmps23
  go_upto_region 1 with fail
  have h0 := h.on ((Below.refl _ _).alloc (Nat.le_refl _) (.cells #[] 51))
  have HF0 : Fr w.heap.size (MMb b ob) w (w.alloc (.cells #[] 51)) := (Fr.refl _ _ _).alloc (Nat.le_refl _) _
  generalize w.alloc (.cells #[] 51) = w0 at h0 HF0 ⊢
  clear h
  have k1 := h0.out.look kI Tryd.underlying34 (zM2 w0) (keyI hi)
  have hmx : n < maxLen := by unfold maxLen; omega
  have q1 := eqS 50 (Or.inr (Or.inl rfl))
  have q2 := eqN 50 (Or.inr rfl)
  cases ho : ob (iL i) with
  | some c =>
    rw [ho] at k1
    simp only [Option.map_some, Option.getD_some] at k1
    obtain ⟨w1, r1, g1, t1⟩ := (h0.inn _ _ ho).store kS Tryd.underlying50 hmx (keyS hs) (.agg #[])
    have H1 := h0.put_in ho t1 g1
    have HF : Fr w.heap.size (MMb b ob) w w1 := HF0.turned (Or.inl (Or.inr ⟨_, ho⟩)) t1
    have HM : Hid (MM w1 Tryd.prog 3 9 b (n + 1) (upd2 F (iL i) (sL s) (.agg #[])) ob) := H1
    have HF' := Lib.hid HF
    have HB := Lib.hid hB
    have HO := Lib.hid ho
    clear H1 HF g1 t1 h0 HF0 hmx hB ho hn hs hi
    go_wp2
    go_end0
    have H2 := HM.out
    exact ⟨rfl, ob, ⟨H2.out.mono (by omega), fun l c e => (H2.inn l c e).mono (by omega), H2.non, H2.inj, H2.ne⟩, HB.out, HF'.out, fun c hc => Or.inl hc⟩
  | none =>
    rw [ho] at k1
    simp only [Option.map_none, Option.getD_none] at k1
    have hmk := @run_makeMap Tryd.prog
    have A1 : gm (w0.alloc (.map #[] 0)) Tryd.prog 3 b n (fun l => (ob l).map fun c => .map (some c)) := h0.out.of_block (Below.heap_alloc _ _ _ h0.out.lt)
    obtain ⟨w1, r1, g1, t1⟩ := A1.store kI Tryd.underlying34 hmx (keyI hi) (.map (some w0.heap.size))
    have hne : w0.heap.size ≠ b := by have := h0.out.lt; omega
    have I1 : gm w1 Tryd.prog 9 w0.heap.size 0 (fun _ => none) := (gm_made w0 Tryd.prog 9).of_block (block_turned t1 hne)
    have z1 := turned_size t1
    have hbk : ∀ d, d < w0.heap.size → d ≠ b → w1.heap[d]? = w0.heap[d]? := fun d hd hn => (block_turned t1 hn).trans (Below.heap_alloc _ _ _ hd)
    have H1 := h0.put_new ho (Nat.le_refl _) hbk g1 I1
    have k2 := H1.out.look kI Tryd.underlying34 (zM2 w1) (keyI hi)
    rw [updL_same] at k2
    simp only [Option.map_some, Option.getD_some] at k2
    have ho1 : updL ob (iL i) (some w0.heap.size) (iL i) = some w0.heap.size := updL_same ..
    obtain ⟨w2, r2, g2, t2⟩ := (H1.inn _ _ ho1).store kS Tryd.underlying50 (by unfold maxLen; omega) (keyS hs) (.agg #[])
    have H2 := H1.put_in ho1 t2 g2
    have HF : Fr w.heap.size (MMb b ob) w w2 := ((HF0.alloc HF0.size _).turned (Or.inl (Or.inl rfl)) t1).turned (Or.inr HF0.size) t2
    have HM := Lib.hid H2
    have HF' := Lib.hid HF
    have HB := Lib.hid hB
    have HO := Lib.hid ho
    have HBW : Hid (w.heap.size ≤ w0.heap.size ∧ B ≤ w0.heap.size) := ⟨HF0.size, Nat.le_trans hBw HF0.size⟩
    clear H1 H2 HF g1 g2 I1 A1 t1 t2 z1 hbk ho1 hne h0 HF0 hmx hB ho hn hs hi
    go_wp2
    go_end0
    have HBW' := hBw
    have mem : ∀ c, MMb b (updL ob (iL i) (some w0.heap.size)) c → MMb b ob c ∨ w.heap.size ≤ c := by
      rintro c (rfl | ⟨l, hl⟩)
      · exact Or.inl (Or.inl rfl)
      · by_cases e : l = iL i
        · subst e; rw [updL_same] at hl; exact Or.inr (Option.some.inj hl ▸ HBW.out.1)
        · rw [updL_other _ e] at hl; exact Or.inl (Or.inr ⟨l, hl⟩)
    exact ⟨rfl, _, HM.out, fun c hc => (mem c hc).elim (HB.out c) (fun h => Nat.le_trans HBW' h), HF'.out, mem⟩
end Go.Proofs.YtlphbnjoopaboaaDoor
