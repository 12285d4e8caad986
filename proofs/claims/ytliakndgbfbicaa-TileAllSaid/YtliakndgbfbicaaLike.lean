/- The disk and the reference's disk are alike: same answers true. -/
import Derived.Test.YtliakndgbfbicaaRa
import Derived.Test.YtliakndgbfbicaaBegun
namespace Go.Proofs.Ytliakndgbfbicaa
open Go.RowKit Go.Maps

def Like (d : Dk) (f : Rf) : Prop :=
  d.tiles = f.k ∧ d.dead = f.off ∧ d.set = f.on ∧ (d.set = true → d.left = f.at_ ∧ d.mask = f.mask) ∧
  ∀ i : Nat, i < f.k → (∃ l : List Int, l.length = 64 ∧ bytesOk l ∧ (d.now i).getD zb = blkOf l ∧ f.now i = bstr l) ∧ (d.old (i : Int)).isSome = f.wet i ∧
    (f.wet i = true → ∃ l : List Int, l.length = 64 ∧ bytesOk l ∧ d.old (i : Int) = some (blkOf l) ∧ f.was i = bstr l) ∧ (f.wet i = false → f.was i = f.now i)

theorem like_loose {d : Dk} {f : Rf} (h : Like d f) (hok : d.Ok) {ls : List Int} (hl : IsLoose d ls) : ls = wetL f.wet f.k := by
  obtain ⟨h1, _, _, _, h5⟩ := h
  refine sorted_ext hl.1 (wetL_sorted _ _) fun x => ?_
  rw [hl.2 x, wetL_mem]
  constructor
  · intro hx
    obtain ⟨v, hv⟩ := Option.isSome_iff_exists.1 hx
    obtain ⟨x0, x1, _⟩ := hok.old x v hv
    obtain ⟨j, rfl⟩ := Int.eq_ofNat_of_zero_le x0
    exact ⟨j, by omega, by rw [← (h5 j (by omega)).2.1]; exact hx, rfl⟩
  · rintro ⟨j, hj, hw, rfl⟩
    rw [(h5 j hj).2.1]; exact hw

section
variable {w : World} {p bn bo g r gn gw gt gm : Nat} {vn vw vt : Value} {d : Dk} {f : Rf}

theorem int_at {W : World} {B n : Nat} {v : Value} {l : List Int} (h : W.ownsRow B 3 1 v n (intV l)) : l.length = n ∧ ((v = .slice none 0 0 ∧ n = 0) ∨ ∃ q c, v = .slice (some ⟨q, 0, none⟩) n c ∧ B ≤ q ∧ ∀ j (hj : j < l.length), W.cell? ⟨q, j, none⟩ = some (.int .i64 l[j])) := by
  obtain ⟨h1, h2⟩ := h
  have hl : l.length = n := by simpa [intV] using h1
  refine ⟨hl, ?_⟩
  rcases h2 with h2 | ⟨q, c, cur, rfl, hB, hg, hle, _, _, htake⟩
  · exact Or.inl h2
  · refine Or.inr ⟨q, c, rfl, hB, fun j hj => ?_⟩
    rw [(cell_of hg j).1]
    have e1 : (cur.toList.take (n * 1))[j]? = some (.int .i64 l[j]) := by rw [htake]; simp [intV, hj]
    rw [List.getElem?_take, if_pos (by omega)] at e1
    simpa using e1

def mlN (K : Nat) : Value → Nat | .int _ q => ((K : Int) + 1 - q).toNat | _ => 0

/-- What a read says, and its error. -/
def rsay (f : Rf) (j : Int) : ByteArray := if f.off = true then ByteArray.empty else if 0 ≤ j ∧ j < f.k then f.now j.toNat else ByteArray.empty
def rerr (f : Rf) (j : Int) : Int := if f.off = true then 2 else if 0 ≤ j ∧ j < f.k then 0 else 1

theorem read_T (hD : DiskAt w p bn bo g d) (hL : Like d f) (j : Int) : Calls Try.prog 21 #[.pointer (some ⟨p, 0, none⟩), .int .i64 j] w fun e w' => ∃ v l gx, e = .returned (.tuple #[v, .int .i64 (rerr f j)]) ∧ SlB w' v l gx ∧ bstr l = rsay f j ∧ Below w.heap.size w w' := by
  obtain ⟨h1, h2, _, _, h5⟩ := hL
  unfold rsay rerr
  cases ho : f.off with
  | true =>
    refine (read_dead w hD (by rw [h2, ho]) j).mono ?_
    rintro e w' ⟨rfl, rfl⟩
    exact ⟨.slice none 0 0, [], 0, by simp, nil_SlB _ _, by simp [bstr], Below.refl _ _⟩
  | false =>
    simp only [Bool.false_eq_true, if_false]
    by_cases hj : 0 ≤ j ∧ j < f.k
    · rw [if_pos hj, if_pos hj]
      obtain ⟨i, rfl⟩ := Int.eq_ofNat_of_zero_le hj.1
      obtain ⟨l, l1, l2, l3, l4⟩ := (h5 i (by omega)).1
      refine (read_ok w hD (by rw [h2, ho]) (i : Int) (by omega) (by omega) l l3 l1).mono ?_
      rintro e w' ⟨rfl, rfl⟩
      have hs := slB_new w l 57 (by omega)
      rw [l1] at hs
      exact ⟨_, l, w.heap.size, rfl, hs, by rw [← l4]; rfl, (Below.refl _ _).alloc (Nat.le_refl _) _⟩
    · rw [if_neg hj, if_neg hj]
      refine (read_bad w hD (by rw [h2, ho]) j (by rw [h1]; exact hj)).mono ?_
      rintro e w' ⟨rfl, rfl⟩
      exact ⟨_, [], 0, rfl, nil_SlB _ _, by simp [bstr], Below.refl _ _⟩

theorem rread_T (hR : RfAt w r gn gw gt gm vn vw vt f) (j : Int) : Calls Try.prog 32 #[.pointer (some ⟨r, 0, none⟩), .int .i64 j] w fun e w' => ∃ v, e = .returned (.tuple #[v, .int .i64 (rerr f j)]) ∧ (convert 28 9 v).run Try.prog w' = .ok (.string (rsay f j)) w' ∧ Below w.heap.size w w' := by
  have hnil : ∀ W : World, (convert 28 9 (.slice none 0 0)).run Try.prog W = .ok (.string ByteArray.empty) W := fun W => conv_slB (nil_SlB W 0)
  unfold rsay rerr
  cases ho : f.off with
  | true =>
    refine (rread_off hR ho j).mono ?_
    rintro e w' ⟨rfl, rfl⟩
    exact ⟨.slice none 0 0, by simp, by simpa using hnil _, Below.refl _ _⟩
  | false =>
    simp only [Bool.false_eq_true, if_false]
    by_cases hj : 0 ≤ j ∧ j < f.k
    · rw [if_pos hj, if_pos hj]
      obtain ⟨i, rfl⟩ := Int.eq_ofNat_of_zero_le hj.1
      exact rread_ok hR ho i (by omega)
    · rw [if_neg hj, if_neg hj]
      refine (rread_bad hR ho j hj).mono ?_
      rintro e w' ⟨rfl, rfl⟩
      exact ⟨_, rfl, hnil _, Below.refl _ _⟩

set_option maxRecDepth 100000 in
set_option maxHeartbeats 4000000 in
theorem same_true (hD : DiskAt w p bn bo g d) (hR : RfAt w r gn gw gt gm vn vw vt f) (hL : Like d f) : Calls Try.prog 17 #[.pointer (some ⟨p, 0, none⟩), .pointer (some ⟨r, 0, none⟩)] w fun e w' => e = .returned (.bool true) ∧ Below w.heap.size w w' := by
  have HL := Lib.hid hL
  have HD := Lib.hid hD
  have HR := Lib.hid hR
  have hok := Lib.hid hD.ok
  clear hL hD hR
  go_enter Try.func17, Try.ntmps17
  go_wp2_with fail
  refine (loose_any w HD.out).mono ?_
  rintro e w1 ⟨v1, ls, rfl, hls, hle, hsl, hb1⟩
  have hD1 := Lib.hid (HD.out.kept hb1.block)
  have hR1 := Lib.hid (HR.out.grow hb1.block)
  have hq := like_loose HL.out hok.out hls
  subst hq
  have HS := Lib.hid hsl
  have HB1 := Lib.hid hb1
  clear hsl hls hb1
  go_wp2_with fail
  refine (rloose hR1.out).mono ?_
  rintro e w2 ⟨v2, rfl, ho, hb2⟩
  have hD2 := Lib.hid (hD1.out.kept hb2.block)
  have hR2 := Lib.hid (hR1.out.grow hb2.block)
  obtain ⟨_, hv2⟩ := int_at ho
  obtain ⟨p1, c1, rfl, hp1, hp2⟩ : ∃ p1 c1, v1 = .slice p1 (wetL f.wet f.k).length c1 ∧ ((wetL f.wet f.k).length ≠ 0 → ∃ q, p1 = some ⟨q, 0, none⟩ ∧ ∀ j (h : j < (wetL f.wet f.k).length), w2.cell? ⟨q, j, none⟩ = some (.int .i64 (wetL f.wet f.k)[j])) ∧ True := by
    rcases HS.out with ⟨rfl, e⟩ | ⟨gl, cap, rfl, hB, hc⟩
    · exact ⟨none, 0, by rw [e]; rfl, fun h => absurd (by rw [e]; rfl) h, trivial⟩
    · exact ⟨_, cap, rfl, fun h => ⟨gl, rfl, fun j hj => (hb2.cell (p := ⟨gl, j, none⟩) (block_lt_of_cell (hc j hj))).trans (hc j hj)⟩, trivial⟩
  obtain ⟨p2, c2, rfl, hp3⟩ : ∃ p2 c2, v2 = .slice p2 (wetL f.wet f.k).length c2 ∧ ((wetL f.wet f.k).length ≠ 0 → ∃ q, p2 = some ⟨q, 0, none⟩ ∧ ∀ j (h : j < (wetL f.wet f.k).length), w2.cell? ⟨q, j, none⟩ = some (.int .i64 (wetL f.wet f.k)[j])) := by
    rcases hv2 with ⟨rfl, e⟩ | ⟨q, c, rfl, hB, hc⟩
    · exact ⟨none, 0, by rw [e], fun h => absurd e h⟩
    · exact ⟨_, c, rfl, fun h => ⟨q, rfl, hc⟩⟩
  have HP1 := Lib.hid hp1
  have HP3 := Lib.hid hp3
  have HB2 := Lib.hid (HB1.out.trans (hb2.mono HB1.out.size))
  have hsml : (wetL f.wet f.k).length ≤ 2000 := hle
  clear hp1 hp2 hp3 hv2 ho hb2 HS HB1 hD1 hR1 HD HR hle
  have x3 := hR2.out.c3
  have x0 := hR2.out.c0
  have hkle := hR2.out.kle
  obtain ⟨qn, cn, rfl, -, -, -⟩ := hR2.out.sn
  have t1 : d.dead = f.off := HL.out.2.1
  have t2 : d.tiles = f.k := HL.out.1
  have HDE := Lib.hid (fun n => (dead_any (w2.drewN n) (hD2.out.kept (fun _ _ => rfl))))
  have HTI := Lib.hid (fun n => (tiles_any (w2.drewN n) (hD2.out.kept (fun _ _ => rfl))))
  rw [t1] at HDE
  rw [t2] at HTI
  clear t1 t2
  go_wp2
  go_quiet ((first | (go_at_call 20; exact Calls.quiet_of_same (HDE.out _)) | (go_at_call 18; exact Calls.quiet_of_same (HTI.out _))))
  go_wp2
  clear HDE HTI x3 x0
  go_loopw [7] (fun iv wr => ∃ i : Nat, i ≤ (wetL f.wet f.k).length ∧ iv = .int .i64 i ∧ wr.heap = w2.heap ∧ Below w2.heap.size w2 wr) (fun iv _ => (wetL f.wet f.k).length - ivN iv)
  case atStart => exact ⟨0, Nat.zero_le _, rfl, rfl, ⟨rfl, rfl, rfl, Nat.le_refl _, fun _ _ => rfl⟩⟩
  case round =>
    obtain ⟨i, hi, rfl, hh, hbw⟩ := hrel
    have HW := Lib.hid hbw
    have HH := Lib.hid hh
    by_cases hlt : i < (wetL f.wet f.k).length
    · obtain ⟨q, rfl, hq⟩ := HP1.out (by omega)
      obtain ⟨q', rfl, hq'⟩ := HP3.out (by omega)
      have y1 := (World.cell?_of_block (w' := wr) (a := ⟨q, i, none⟩) (by rw [hh])).trans (hq i hlt)
      have y2 := (World.cell?_of_block (w' := wr) (a := ⟨q', i, none⟩) (by rw [hh])).trans (hq' i hlt)
      generalize (wetL f.wet f.k)[i] = x at y1 y2
      clear hq hq' HP1 HP3
      generalize (wetL f.wet f.k).length = n at *
      have z1 : (i : Int) < n := by omega
      have z2 : (0 : Int) ≤ i := by omega
      clear hh hbw
      go_wp2
      go_quiet (fail)
      go_wp2
      go_roundw
      case rel => exact ⟨i + 1, by omega, by go_num, HH.out, HW.out.trans ⟨rfl, rfl, rfl, Nat.le_refl _, fun _ _ => rfl⟩⟩
      case measure => simp [ivN]; omega
    · obtain hin : i = (wetL f.wet f.k).length := by omega
      have HB3 := Lib.hid (HB2.out.trans (hbw.mono HB2.out.size))
      have hD3 := Lib.hid (hD2.out.kept hbw.block)
      have hR3 := Lib.hid (hR2.out.grow hbw.block)
      clear HP1 HP3 HW HH hh hbw hD2 hR2 HB2
      generalize (wetL f.wet f.k).length = n at *
      subst hin
      go_wp2
      go_loopw [8] (fun iv wx => ∃ j : Int, -1 ≤ j ∧ j ≤ f.k + 1 ∧ iv = .int .i64 j ∧ Below wr.heap.size wr wx) (fun iv _ => mlN f.k iv)
      case atStart => exact ⟨-1, by omega, by omega, rfl, Below.refl _ _⟩
      case round =>
        obtain ⟨j, hj1, hj2, rfl, hbx⟩ := hrel
        have HX := Lib.hid hbx
        have hR4 := Lib.hid (hR3.out.grow hbx.block)
        have hD4 := Lib.hid (hD3.out.kept hbx.block)
        have x0 := hR4.out.c0
        have HB4 := Lib.hid (HB3.out.trans (hbx.mono HB3.out.size))
        clear hbx
        by_cases hlt : j ≤ f.k
        · go_wp2_with fail
          refine (read_T hD4.out HL.out j).mono ?_
          rintro e wa ⟨va, la, ga, rfl, hsa, hea, hba⟩
          have hR5 := Lib.hid (hR4.out.grow hba.block)
          have HSA := Lib.hid hsa
          have HBA := Lib.hid hba
          clear hsa hba x0
          go_wp2_with fail
          refine (rread_T hR5.out j).mono ?_
          rintro e wb ⟨vb, rfl, v2, hbb⟩
          have v1 := conv_slB (HSA.out.kept hbb.block)
          rw [hea] at v1
          have HBB := Lib.hid (HX.out.trans ((HBA.out.trans (hbb.mono HBA.out.size)).mono HX.out.size))
          generalize rsay f j = tx at v1 v2
          clear hea hbb
          go_wp2
          go_roundw
          case rel => exact ⟨j + 1, by omega, by omega, by go_num, HBB.out⟩
          case measure => simp [mlN]; omega
        · go_wp2
          go_ret
          exact ⟨rfl, HB4.out⟩
end
end Go.Proofs.Ytliakndgbfbicaa
