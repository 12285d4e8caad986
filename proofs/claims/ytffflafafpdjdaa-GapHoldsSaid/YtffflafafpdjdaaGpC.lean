/- Free cells in memory: what only reads. -/
import Derived.Test.YtffflafafpdjdaaGpB
namespace Go.Proofs.Ytffflafafpdjdaa
open Go.RowKit Go.Maps Go.WideMaps

set_option maxRecDepth 100000 in
theorem isUsed_g (w : World) {g b1 b2 n : Nat} {s : St} (h : GA w g b1 b2 n s) {p c : Int} (hp : Wf p) (hc : Wf c) :
    Calls Try.prog 26 #[.pointer (some ⟨g, 0, none⟩), .agg #[.int .i64 p, .int .i64 c]] w fun e w' => e = .returned (.bool (s.u p c)) ∧ Below w.heap.size w w' := by
  go_enter Try.func26, Try.ntmps26
  go_upto_region 1 with fail
  have HB := (Below.refl w.heap.size w).alloc (Nat.le_refl _) (.cells #[.int .i64 p, .int .i64 c] 29)
  have h1 := h.on_ HB
  obtain ⟨_, c1, _⟩ := h1.c
  have c2 := (al_new w #[.int .i64 p, .int .i64 c] 29 0).1
  have c3 := (al_new w #[.int .i64 p, .int .i64 c] 29 1).1
  have hsz : w.heap.size < (w.alloc (.cells #[.int .i64 p, .int .i64 c] 29)).heap.size := by simp
  have hg := h1.glt
  have HBH := Lib.hid HB
  generalize (w.alloc (.cells #[.int .i64 p, .int .i64 c] 29)) = w1 at *
  have kk : ∀ W : World, Below w1.heap.size w1 W → (Instr.lookup 46 (.map (some b1)) (.agg #[.int .i64 p, .int .i64 c]) true).run Try.prog W = .ok (.tuple #[.agg #[], .bool (s.u p c)]) W := by
    intro W hW
    have k := (h1.on_ hW).u.look_ok Try.underlying46 (zU _) hp hc
    have e1 : (uG s.u p c).getD (.agg #[]) = .agg #[] := by unfold uG; split <;> rfl
    have e2 : (uG s.u p c).isSome = s.u p c := by unfold uG; split <;> simp_all
    rw [e1, e2] at k
    exact k
  have k1 := kk w1.drew ((Below.refl _ _).drew)
  have k2 := kk (w1.alloc (.cells #[] 54)).drew ((Below.refl _ _).drew.alloc (Nat.le_refl _) (.cells #[] 54))
  have HD := Lib.hid (((Below.refl w1.heap.size w1).drew.alloc (Nat.le_refl _) (.cells #[] 54)).mono (Nat.le_of_lt hsz))
  obtain ⟨r, hr⟩ : ∃ r, s.u p c = r := ⟨_, rfl⟩
  rw [hr] at k1 k2
  have HR := Lib.hid hr
  clear h h1 HB hp hc kk hr
  go_region
  all_goals go_wp2
  all_goals go_ret
  all_goals exact ⟨by rw [HR.out]; rfl, HBH.out.trans HD.out⟩

set_option maxRecDepth 100000 in
theorem isHeld_g (w : World) {g b1 b2 n : Nat} {s : St} (h : GA w g b1 b2 n s) {p c : Int} (hp : Wf p) (hc : Wf c) :
    Calls Try.prog 27 #[.pointer (some ⟨g, 0, none⟩), .agg #[.int .i64 p, .int .i64 c]] w fun e w' => e = .returned (.bool ((s.h p c).isSome)) ∧ Below w.heap.size w w' := by
  go_enter Try.func27, Try.ntmps27
  go_upto_region 1 with fail
  have HB := (Below.refl w.heap.size w).alloc (Nat.le_refl _) (.cells #[.int .i64 p, .int .i64 c] 29)
  have h1 := h.on_ HB
  obtain ⟨_, c1, c1'⟩ := h1.c
  have c2 := (al_new w #[.int .i64 p, .int .i64 c] 29 0).1
  have c3 := (al_new w #[.int .i64 p, .int .i64 c] 29 1).1
  have HBH := Lib.hid HB
  generalize (w.alloc (.cells #[.int .i64 p, .int .i64 c] 29)) = w1 at *
  obtain ⟨v, hv⟩ : ∃ v, (hG s.h p c).getD (.int .i64 0) = .int .i64 v := by
    unfold hG
    cases s.h p c with
    | none => exact ⟨0, rfl⟩
    | some v => exact ⟨v, rfl⟩
  have k : ∀ m : Nat, (Instr.lookup 47 (.map (some b2)) (.agg #[.int .i64 p, .int .i64 c]) true).run Try.prog (w1.drewN m) = .ok (.tuple #[.int .i64 v, .bool (s.h p c).isSome]) (w1.drewN m) := by
    intro m
    have k := (h1.on_ (below_drewN (Below.refl _ _) m)).h.look_ok Try.underlying47 (zI _) hp hc
    have e2 : (hG s.h p c).isSome = (s.h p c).isSome := by unfold hG; simp
    rw [hv, e2] at k
    exact k
  obtain ⟨r, hr⟩ : ∃ r, (s.h p c).isSome = r := ⟨_, rfl⟩
  rw [hr] at k
  have HR := Lib.hid hr
  clear h h1 HB hp hc hv c1 hr
  go_quiet (fail)
  go_wp2
  go_ret
  exact ⟨by rw [HR.out]; rfl, below_drewN HBH.out _⟩

/-- Does somebody else hold a cell? -/
def oth (s : St) (who p c : Int) : Bool := match s.h p c with | some v => decide (v ≠ who) | none => false
theorem hG_look {w : World} {b n : Nat} {h : Int → Int → Option Int} (H : RM w b n (hG h)) {p c : Int} (hp : Wf p) (hc : Wf c) :
    (∃ v, h p c = some v ∧ (Instr.lookup 47 (.map (some b)) (.agg #[.int .i64 p, .int .i64 c]) true).run Try.prog w = .ok (.tuple #[.int .i64 v, .bool true]) w) ∨
    (h p c = none ∧ (Instr.lookup 47 (.map (some b)) (.agg #[.int .i64 p, .int .i64 c]) true).run Try.prog w = .ok (.tuple #[.int .i64 0, .bool false]) w) := by
  have k := H.look_ok Try.underlying47 (zI _) hp hc
  unfold hG at k
  cases e : h p c with
  | some v => rw [e] at k; exact Or.inl ⟨v, rfl, k⟩
  | none => rw [e] at k; exact Or.inr ⟨rfl, k⟩

set_option maxRecDepth 100000 in
theorem oth_g (w : World) {g b1 b2 n : Nat} {s : St} (h : GA w g b1 b2 n s) {p c : Int} (hp : Wf p) (hc : Wf c) (who : Int) :
    Calls Try.prog 22 #[.pointer (some ⟨g, 0, none⟩), .int .i64 who, .agg #[.int .i64 p, .int .i64 c]] w fun e w' => e = .returned (.bool (oth s who p c)) ∧ Below w.heap.size w w' := by
  go_enter Try.func22, Try.ntmps22
  go_upto_region 1 with fail
  have HB := (Below.refl w.heap.size w).alloc (Nat.le_refl _) (.cells #[.int .i64 p, .int .i64 c] 29)
  have h1 := h.on_ HB
  obtain ⟨_, c1, c1'⟩ := h1.c
  have c2 := (al_new w #[.int .i64 p, .int .i64 c] 29 0).1
  have c3 := (al_new w #[.int .i64 p, .int .i64 c] 29 1).1
  have HBH := Lib.hid HB
  generalize (w.alloc (.cells #[.int .i64 p, .int .i64 c] 29)) = w1 at *
  cases e : s.h p c with
  | none =>
    have k : ∀ m : Nat, (Instr.lookup 47 (.map (some b2)) (.agg #[.int .i64 p, .int .i64 c]) true).run Try.prog (w1.drewN m) = .ok (.tuple #[.int .i64 0, .bool false]) (w1.drewN m) := by
      intro m
      rcases hG_look (h1.on_ (below_drewN (Below.refl _ _) m)).h hp hc with ⟨v, e2, _⟩ | ⟨_, k⟩
      · rw [e] at e2; cases e2
      · exact k
    have HO : Hid (oth s who p c = false) := by show oth s who p c = false; unfold oth; rw [e]
    clear h h1 HB hp hc c1 e
    go_quiet (fail)
    go_wp2
    go_ret
    exact ⟨by rw [HO.out]; rfl, below_drewN HBH.out _⟩
  | some v =>
    have k : ∀ m : Nat, (Instr.lookup 47 (.map (some b2)) (.agg #[.int .i64 p, .int .i64 c]) true).run Try.prog (w1.drewN m) = .ok (.tuple #[.int .i64 v, .bool true]) (w1.drewN m) := by
      intro m
      rcases hG_look (h1.on_ (below_drewN (Below.refl _ _) m)).h hp hc with ⟨v', e2, k⟩ | ⟨e2, _⟩
      · rw [e] at e2; cases e2; exact k
      · rw [e] at e2; cases e2
    have HO : Hid (oth s who p c = decide (v ≠ who)) := by show oth s who p c = decide (v ≠ who); unfold oth; rw [e]
    clear h h1 HB hp hc c1 e
    go_quiet (fail)
    by_cases hv : v = who
    · subst hv
      go_wp2
      go_ret
      exact ⟨by rw [HO.out]; simp, below_drewN HBH.out _⟩
    · go_wp2
      go_ret
      exact ⟨by rw [HO.out]; simp [hv], below_drewN HBH.out _⟩
end Go.Proofs.Ytffflafafpdjdaa
