/- The reference's Write that stores; Sync. -/
import Derived.Test.YtliakndgbfbicaaRw
import Derived.Deep.RegionLaw
namespace Go.Proofs.Ytliakndgbfbicaa
open Go.RowKit Go.Maps

section
variable {w : World} {r gn gw gt gm : Nat} {vn vw vt : Value} {d : Rf}

theorem SlB.drew {W : World} {v : Value} {l : List Int} {g : Nat} (h : SlB W v l g) : SlB W.drew v l g := h

set_option maxRecDepth 100000 in
set_option maxHeartbeats 2000000 in
theorem rwrite_gen (h : RfAt w r gn gw gt gm vn vw vt d) (ho : d.off = false) (i : Nat) (hi : i < d.k) {sv : Value} {l : List Int} {gs : Nat} {c : Bool} {w1 : World} {d1 : Rf} {post : Ending → World → Prop}
    (hcut : Calls Try.prog 26 #[.pointer (some ⟨r, 0, none⟩)] w fun e w' => e = .returned (.bool c) ∧ w' = w1)
    (h1 : RfAt w1 r gn gw gt gm vn vw vt d1) (hk : d1.k = d.k) (hs1 : SlB w1 sv l gs) (hl : l.length = 64)
    (hdone : ∀ W, RfAt W r gn gw gt gm vn vw vt (d1.put i (bstr l)) → Fr w1.heap.size (Four r gn gw gt) w1 W → Calls Try.prog 27 #[.pointer (some ⟨r, 0, none⟩), .bool c] W fun e w' => ∃ v, e = .returned v ∧ post e w') :
    Calls Try.prog 8 #[.pointer (some ⟨r, 0, none⟩), .int .i64 i, sv] w fun e w' => post e w' ∧ True := by
  have c3 := h.c3
  rw [ho] at c3
  have c0 := h.c0
  have hkle := h.kle
  obtain ⟨cn, rfl, _⟩ := h.sn.some (by omega)
  obtain ⟨ct, rfl, _⟩ := h.st.some (by omega)
  have v1 := conv_slB hs1
  have v2 := conv_slB hs1.drew
  obtain ⟨p, len, cap, rfl, rfl, _, _, _⟩ := hs1
  rw [hl] at v1 v2 ⊢
  have d1' : decide ((i : Int) < 0) = false := by simp
  have d2 : decide ((d.k : Int) ≤ (i : Int)) = false := by simp; omega
  have e0 := h1.c0
  have e2 := h1.c2
  have hk0 : 0 < d1.k := by omega
  obtain ⟨vv, x1⟩ : ∃ vv, w1.cell? ⟨gn, i, none⟩ = some vv := ⟨_, ((h1.now hk0).cell (by omega : i < d1.k)).1⟩
  have x2 := ((h1.now hk0).cell (by omega : i < d1.k)).2
  have n5 : gt ≠ gn := h1.ne.2.2.2.2.1.symm
  obtain ⟨vt, x3⟩ : ∃ vt, (w1.setCell ⟨gn, i, none⟩ (.string (bstr l))).cell? ⟨gt, i, none⟩ = some vt := ⟨_, (World.cell?_of_block (w := w1) (Below.heap_setCell _ _ _ _ n5)).trans ((h1.wet hk0).cell (by omega : i < d1.k)).1⟩
  have x4 : (w1.setCell ⟨gn, i, none⟩ (.string (bstr l))).frozen? ⟨gt, i, none⟩ = false := (World.frozen?_of_block (w := w1) (Below.heap_setCell _ _ _ _ n5)).trans ((h1.wet hk0).cell (by omega : i < d1.k)).2
  have HP := Lib.hid ((h1.puts i (bstr l)).drew)
  have HF : Hid (Fr w1.heap.size (Four r gn gw gt) w1 ((w1.setCell ⟨gn, i, none⟩ (.string (bstr l))).setCell ⟨gt, i, none⟩ (.bool true)).drew) := (((Fr.refl _ _ _).setCell (Or.inl (Or.inr (Or.inl rfl))) _).setCell (Or.inl (Or.inr (Or.inr (Or.inr rfl)))) _).drew
  have HD := Lib.hid hdone
  have HC := Lib.hid hcut
  generalize bstr l = s at *
  clear hdone hcut h1 h hk0 n5 hl
  go_enter Try.func8, Try.ntmps8
  go_wp2_with fail
  refine HC.out.mono ?_
  rintro e w2 ⟨rfl, rfl⟩
  clear c0 c3 d1' d2
  go_wp2
  go_region
  all_goals go_wp2_with fail
  all_goals (refine (HD.out _ HP.out HF.out).mono ?_; rintro e w3 ⟨v, rfl, hp⟩; go_wp2; go_ret; exact ⟨hp, trivial⟩)

def Rf.sy (d : Rf) (i : Nat) : Rf := { d with was := fun j => if j < i then d.now j else d.was j, wet := fun j => if j < i then false else d.wet j }
theorem sy_next {W : World} {i : Nat} (h : RfAt W r gn gw gt gm vn vw vt (d.sy i)) : RfAt ((W.setCell ⟨gw, i, none⟩ (.string (d.now i))).setCell ⟨gt, i, none⟩ (.bool false)) r gn gw gt gm vn vw vt (d.sy (i + 1)) := by
  refine ((h.putWas (i := i) (d.now i)).putWet (i := i) false).of_fields rfl (fun _ _ => rfl) ?_ ?_ rfl rfl rfl rfl rfl
  all_goals intro j _; simp only [Rf.sy, updN]; by_cases e : j = i
  · subst e; simp
  · have e1 : j < i + 1 ↔ j < i := by omega
    simp only [e1, if_neg e]
  · subst e; simp
  · have e1 : j < i + 1 ↔ j < i := by omega
    simp only [e1, if_neg e]

theorem rsync_off (h : RfAt w r gn gw gt gm vn vw vt d) (ho : d.off = true) : Calls Try.prog 10 #[.pointer (some ⟨r, 0, none⟩)] w fun e w' => e = .returned (.int .i64 2) ∧ w' = w := by
  have c3 := h.c3
  rw [ho] at c3
  clear h
  go_enter Try.func10, Try.ntmps10
  go_wp2
  go_ret
  exact ⟨rfl, rfl⟩

theorem rsync_cut (h : RfAt w r gn gw gt gm vn vw vt d) (ho : d.off = false) {w1 : World} {d1 : Rf}
    (hcut : Calls Try.prog 26 #[.pointer (some ⟨r, 0, none⟩)] w fun e w' => e = .returned (.bool true) ∧ w' = w1)
    (h1 : RfAt w1 r gn gw gt gm vn vw vt d1) : Calls Try.prog 10 #[.pointer (some ⟨r, 0, none⟩)] w fun e w' => e = .returned (.int .i64 2) ∧ RfAt w' r gn gw gt gm vn vw vt (d1.crashed d1.mask) ∧ Fr w1.heap.size (Four r gn gw gt) w1 w' := by
  have c3 := h.c3
  rw [ho] at c3
  have HC := Lib.hid hcut
  have HD := Lib.hid (rdone_yes h1)
  clear h h1 hcut
  go_enter Try.func10, Try.ntmps10
  go_wp2_with fail
  refine HC.out.mono ?_
  rintro e w2 ⟨rfl, rfl⟩
  go_wp2_with fail
  refine HD.out.mono ?_
  rintro e w3 ⟨rfl, q1, q2⟩
  go_wp2
  go_ret
  exact ⟨rfl, q1, q2⟩

set_option maxRecDepth 100000 in
set_option maxHeartbeats 2000000 in
theorem rsync_go (h : RfAt w r gn gw gt gm vn vw vt d) (ho : d.off = false) {w1 : World} {d1 : Rf}
    (hcut : Calls Try.prog 26 #[.pointer (some ⟨r, 0, none⟩)] w fun e w' => e = .returned (.bool false) ∧ w' = w1)
    (h1 : RfAt w1 r gn gw gt gm vn vw vt d1) : Calls Try.prog 10 #[.pointer (some ⟨r, 0, none⟩)] w fun e w' => e = .returned (.int .i64 0) ∧ RfAt w' r gn gw gt gm vn vw vt (d1.sy d1.k) ∧ Fr w1.heap.size (Four r gn gw gt) w1 w' := by
  have c3 := h.c3
  rw [ho] at c3
  have HC := Lib.hid hcut
  have h0 : RfAt w1 r gn gw gt gm vn vw vt (d1.sy 0) := h1.of_fields rfl (fun _ _ => rfl) (fun _ _ => by simp [Rf.sy]) (fun _ _ => by simp [Rf.sy]) rfl rfl rfl rfl rfl
  have H0 := Lib.hid h0
  have hkle := h1.kle
  have SN := Lib.hid h1.sn
  have SW := Lib.hid h1.sw
  have ST := Lib.hid h1.st
  have HNE := Lib.hid h1.ne
  obtain ⟨pn, cn, rfl, _, _, _⟩ := h1.sn
  obtain ⟨pw, cw, rfl, _, _, _⟩ := h1.sw
  obtain ⟨pt, ct, rfl, _, _, _⟩ := h1.st
  clear h h1 hcut h0
  go_enter Try.func10, Try.ntmps10
  go_wp2_with fail
  refine HC.out.mono ?_
  rintro e w2 ⟨rfl, rfl⟩
  clear c3
  go_wp2
  go_loopw [3] (fun iv wr => ∃ i : Nat, i ≤ d1.k ∧ iv = .int .i64 i ∧ RfAt wr r gn gw gt gm (.slice pn d1.k cn) (.slice pw d1.k cw) (.slice pt d1.k ct) (d1.sy i) ∧ Fr w2.heap.size (Four r gn gw gt) w2 wr) (fun iv _ => d1.k - ivN iv)
  case atStart => exact ⟨0, Nat.zero_le _, rfl, H0.out, Fr.refl _ _ _⟩
  case round =>
    obtain ⟨i, hi, rfl, hR, hF⟩ := hrel
    have HR := Lib.hid hR
    have HF := Lib.hid hF
    have c0 := hR.c0
    clear hF
    by_cases hlt : i < d1.k
    · obtain ⟨c1, e1, _⟩ := SN.out.some (by omega)
      obtain ⟨c2, e2, _⟩ := SW.out.some (by omega)
      obtain ⟨c3, e3, _⟩ := ST.out.some (by omega)
      cases e1
      cases e2
      cases e3
      have hk0 : 0 < (d1.sy i).k := show 0 < d1.k by omega
      have k1 := hR.c1
      have k2 := hR.c2
      have x1 : wr.cell? ⟨gn, i, none⟩ = some (.string (d1.now i)) := ((hR.now hk0).cell hlt).1
      obtain ⟨vv, x2⟩ : ∃ vv, wr.cell? ⟨gw, i, none⟩ = some vv := ⟨_, ((hR.was hk0).cell hlt).1⟩
      have x3 := ((hR.was hk0).cell hlt).2
      have n6 : gt ≠ gw := HNE.out.2.2.2.2.2.1.symm
      obtain ⟨vt, x4⟩ : ∃ vt, (wr.setCell ⟨gw, i, none⟩ (.string (d1.now i))).cell? ⟨gt, i, none⟩ = some vt := ⟨_, (World.cell?_of_block (w := wr) (Below.heap_setCell _ _ _ _ n6)).trans ((hR.wet hk0).cell hlt).1⟩
      have x5 : (wr.setCell ⟨gw, i, none⟩ (.string (d1.now i))).frozen? ⟨gt, i, none⟩ = false := (World.frozen?_of_block (w := wr) (Below.heap_setCell _ _ _ _ n6)).trans ((hR.wet hk0).cell hlt).2
      have HS := Lib.hid (sy_next hR).drew
      have HG := Lib.hid ((HF.out.setCell (p := ⟨gw, i, none⟩) (Or.inl (Or.inr (Or.inr (Or.inl rfl)))) (.string (d1.now i))).setCell (p := ⟨gt, i, none⟩) (Or.inl (Or.inr (Or.inr (Or.inr rfl)))) (.bool false)).drew
      generalize d1.now i = s at *
      clear hR hk0 n6
      go_wp2
      go_region
      all_goals go_wp2
      go_roundw
      case rel => exact ⟨i + 1, by omega, by go_num, HS.out, HG.out⟩
      case measure => simp [ivN]; omega
    · obtain rfl : i = d1.k := by omega
      clear hR
      go_wp2
      go_ret
      exact ⟨rfl, HR.out, HF.out⟩
end
end Go.Proofs.Ytliakndgbfbicaa
