/- The reference's Crash, walked. -/
import Derived.Test.YtliakndgbfbicaaRc
namespace Go.Proofs.Ytliakndgbfbicaa
open Go.RowKit Go.Maps

section
variable {w : World} {r gn gw gt gm : Nat} {vn vw vt : Value} {d : Rf}
theorem RfAt.drew (h : RfAt w r gn gw gt gm vn vw vt d) : RfAt w.drew r gn gw gt gm vn vw vt d := h.kept fun _ _ => rfl

/-- What the loop knows when i tiles have been gone through. -/
def CrR (w : World) (r gn gw gt gm gx : Nat) (vn vw vt mv : Value) (ms : List Int) (d : Rf) (i : Nat) (wr : World) : Prop :=
  RfAt wr r gn gw gt gm vn vw vt (d.cr ms i) ∧ SlB wr mv ms gx ∧ Fr w.heap.size (Four r gn gw gt) w wr

theorem CrR.skip {gx : Nat} {mv : Value} {ms : List Int} {i : Nat} {wr : World} (h : CrR w r gn gw gt gm gx vn vw vt mv ms d i wr) (hf : d.wet i = false) : CrR w r gn gw gt gm gx vn vw vt mv ms d (i + 1) wr := by
  refine ⟨h.1.of_fields rfl ?_ ?_ ?_ rfl rfl rfl rfl rfl, h.2.1, h.2.2⟩
  all_goals intro j _; simp only [Rf.cr]; by_cases e : j = i
  · subst e; simp [hf]
  · simp only [show j < i + 1 ↔ j < i by omega]
  · subst e; simp [hf]
  · simp only [show j < i + 1 ↔ j < i by omega]
  · subst e; simp [hf]
  · simp only [show j < i + 1 ↔ j < i by omega]

theorem SlB.off {wr : World} {mv : Value} {ms : List Int} {gx g i : Nat} {v : Value} (h : SlB wr mv ms gx) (hg : gx ≠ g) : SlB (wr.setCell ⟨g, i, none⟩ v) mv ms gx := h.keep (Below.heap_setCell _ _ _ _ hg)

/-- A wet tile that goes back. -/
theorem CrR.back {gx : Nat} {mv : Value} {ms : List Int} {i : Nat} {wr : World} (h : CrR w r gn gw gt gm gx vn vw vt mv ms d i wr) (hx : ¬ Four r gn gw gt gx) (ht : d.wet i = true) (hb : bitR ms (wetK d.wet i) = false) :
    CrR w r gn gw gt gm gx vn vw vt mv ms d (i + 1) ((((wr.drew.setCell ⟨gn, i, none⟩ (.string (d.was i))).drew.setCell ⟨gw, i, none⟩ (.string (d.was i)))).setCell ⟨gt, i, none⟩ (.bool false)) := by
  refine ⟨(((((h.1.drew.putNow (i := i) (d.was i)).drew).putWas (i := i) (d.was i)).putWet (i := i) false)).of_fields rfl ?_ ?_ ?_ rfl rfl rfl rfl rfl, ?_, ?_⟩
  · intro j _; simp only [Rf.cr, updN]; by_cases e : j = i
    · subst e; simp [ht, hb]
    · have e1 : j < i + 1 ↔ j < i := by omega
      simp only [e1, if_neg e]
  · intro j _; simp only [Rf.cr, updN]; by_cases e : j = i
    · subst e; simp [ht, hb]
    · have e1 : j < i + 1 ↔ j < i := by omega
      simp only [e1, if_neg e]
  · intro j _; simp only [Rf.cr, updN]; by_cases e : j = i
    · subst e; simp
    · have e1 : j < i + 1 ↔ j < i := by omega
      simp only [e1, if_neg e]
  · have h1 : SlB wr.drew mv ms gx := h.2.1
    have h2 : SlB (wr.drew.setCell ⟨gn, i, none⟩ (.string (d.was i))).drew mv ms gx := h1.off (fun e => hx (Or.inr (Or.inl e)))
    exact (h2.off (fun e => hx (Or.inr (Or.inr (Or.inl e))))).off (fun e => hx (Or.inr (Or.inr (Or.inr e))))
  · exact (((h.2.2.drew.setCell (Or.inl (Or.inr (Or.inl rfl))) _).drew).setCell (Or.inl (Or.inr (Or.inr (Or.inl rfl)))) _).setCell (Or.inl (Or.inr (Or.inr (Or.inr rfl)))) _

/-- A wet tile that stays. -/
theorem CrR.keep {gx : Nat} {mv : Value} {ms : List Int} {i : Nat} {wr : World} (h : CrR w r gn gw gt gm gx vn vw vt mv ms d i wr) (hx : ¬ Four r gn gw gt gx) (ht : d.wet i = true) (hb : bitR ms (wetK d.wet i) = true) :
    CrR w r gn gw gt gm gx vn vw vt mv ms d (i + 1) (((wr.drew.setCell ⟨gw, i, none⟩ (.string (d.now i)))).setCell ⟨gt, i, none⟩ (.bool false)) := by
  refine ⟨((((h.1.drew).putWas (i := i) (d.now i)).putWet (i := i) false)).of_fields rfl ?_ ?_ ?_ rfl rfl rfl rfl rfl, ?_, ?_⟩
  · intro j _; simp only [Rf.cr]; by_cases e : j = i
    · subst e; simp [hb]
    · simp only [show j < i + 1 ↔ j < i by omega]
  · intro j _; simp only [Rf.cr, updN]; by_cases e : j = i
    · subst e; simp [ht, hb]
    · have e1 : j < i + 1 ↔ j < i := by omega
      simp only [e1, if_neg e]
  · intro j _; simp only [Rf.cr, updN]; by_cases e : j = i
    · subst e; simp
    · have e1 : j < i + 1 ↔ j < i := by omega
      simp only [e1, if_neg e]
  · have h1 : SlB wr.drew mv ms gx := h.2.1
    exact (h1.off (fun e => hx (Or.inr (Or.inr (Or.inl e))))).off (fun e => hx (Or.inr (Or.inr (Or.inr e))))
  · exact ((h.2.2.drew).setCell (Or.inl (Or.inr (Or.inr (Or.inl rfl)))) _).setCell (Or.inl (Or.inr (Or.inr (Or.inr rfl)))) _

theorem cr_now (d : Rf) (ms : List Int) (i : Nat) : (d.cr ms i).now i = d.now i ∧ (d.cr ms i).was i = d.was i ∧ (d.cr ms i).wet i = d.wet i := by
  simp [Rf.cr]
end
end Go.Proofs.Ytliakndgbfbicaa
