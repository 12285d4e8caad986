/- The reference's Crash, walked. -/
import Derived.Test.YtliakndgbfbicaaRcr
namespace Go.Proofs.Ytliakndgbfbicaa
open Go.RowKit Go.Maps

def ivN : Value → Nat | .int _ q => q.toNat | _ => 0

theorem bitR_out {ms : List Int} {i : Nat} (h : ms.length ≤ i / 8) : bitR ms i = false := by
  unfold bitR; rw [List.getElem?_eq_none h]
theorem bitR_in {ms : List Int} {i : Nat} (h : i / 8 < ms.length) : bitR ms i = (bits BinOp.and IntKind.u8 (ms[i / 8] / 2 ^ (i % 8)) 1 == 1) := by
  unfold bitR; rw [List.getElem?_eq_getElem h]

section
variable {w : World} {r gn gw gt gm : Nat} {vn vw vt : Value} {d : Rf}

theorem SlB.parts {wr : World} {a : Addr} {n c gx : Nat} {ms : List Int} (h : SlB wr (.slice (some a) n c) ms gx) (hne : ms ≠ []) : a.block = gx ∧ a.spot = none ∧ ∀ j (h : j < ms.length), wr.cell? ⟨gx, a.off + j, none⟩ = some (.int .u8 ms[j]) := by
  obtain ⟨p0, len, cap, e, e2, hle, hcap, hn, ha⟩ := h
  cases e
  exact ha a rfl hne

theorem CrR.done {gx : Nat} {mv : Value} {ms : List Int} {wr : World} (h : CrR w r gn gw gt gm gx vn vw vt mv ms d d.k wr) :
    RfAt ((wr.setCell ⟨r, 4, none⟩ (.bool false)).setCell ⟨r, 3, none⟩ (.bool true)) r gn gw gt gm vn vw vt (d.crashed ms) ∧ Fr w.heap.size (Four r gn gw gt) w ((wr.setCell ⟨r, 4, none⟩ (.bool false)).setCell ⟨r, 3, none⟩ (.bool true)) := by
  have h1 : RfAt (wr.setCell ⟨r, 4, none⟩ (.bool false)) r gn gw gt gm vn vw vt { d.cr ms d.k with on := false } := h.1.poke 4 _ rfl rfl rfl rfl rfl h.1.mask (by intro e; cases e) h.1.mok
  refine ⟨h1.poke 3 _ rfl rfl rfl rfl rfl h1.mask (by intro e; cases e) h1.mok, (h.2.2.setCell (Or.inl (Or.inl rfl)) _).setCell (Or.inl (Or.inl rfl)) _⟩

set_option maxRecDepth 100000 in
set_option maxHeartbeats 4000000 in
theorem rcrash (h : RfAt w r gn gw gt gm vn vw vt d) {mv : Value} {ms : List Int} {gx : Nat} (hm : SlB w mv ms gx) (hmb : bytesOk ms) (hx : ¬ Four r gn gw gt gx) :
    Calls Try.prog 12 #[.pointer (some ⟨r, 0, none⟩), mv] w fun e w' => e = .returned (.tuple #[]) ∧ RfAt w' r gn gw gt gm vn vw vt (d.crashed ms) ∧ Fr w.heap.size (Four r gn gw gt) w w' := by
  have hI : CrR w r gn gw gt gm gx vn vw vt mv ms d 0 w := by
    refine ⟨h.of_fields rfl ?_ ?_ ?_ rfl rfl rfl rfl rfl, hm, Fr.refl _ _ _⟩ <;> intro j _ <;> simp [Rf.cr]
  have hkle := h.kle
  have hne := h.ne
  obtain ⟨pm, lm, cm, rfl, rfl, hmle, hmcap, hmn, hma⟩ := hm
  have HN := Lib.hid hmn
  obtain ⟨pn, cn, rfl, sn1, sn2, sn3⟩ := h.sn
  obtain ⟨pw, cw, rfl, sw1, sw2, sw3⟩ := h.sw
  obtain ⟨pt, ct, rfl, st1, st2, st3⟩ := h.st
  clear hmn hma h
  go_enter Try.func12, Try.ntmps12
  go_wp2
  go_loopw [4, 5] (fun kv iv wr => ∃ i : Nat, i ≤ d.k ∧ iv = .int .i64 i ∧ kv = .int .i64 (wetK d.wet i) ∧ CrR w r gn gw gt gm gx (.slice pn d.k cn) (.slice pw d.k cw) (.slice pt d.k ct) (.slice pm ms.length cm) ms d i wr) (fun kv iv _ => d.k - ivN iv)
  case atStart => exact ⟨0, Nat.zero_le _, rfl, rfl, hI⟩
  case round =>
    obtain ⟨i, hi, rfl, rfl, hI⟩ := hrel
    have HI := Lib.hid hI
    have c0 := hI.1.c0
    have c1 := hI.1.c1
    have c2 := hI.1.c2
    by_cases hlt : i < d.k
    · obtain ⟨an, rfl⟩ : ∃ a, pn = some a := by cases pn with | none => exact absurd (sn2 rfl) (by omega) | some a => exact ⟨a, rfl⟩
      obtain rfl := sn3 an rfl
      obtain ⟨aw, rfl⟩ : ∃ a, pw = some a := by cases pw with | none => exact absurd (sw2 rfl) (by omega) | some a => exact ⟨a, rfl⟩
      obtain rfl := sw3 aw rfl
      obtain ⟨at', rfl⟩ : ∃ a, pt = some a := by cases pt with | none => exact absurd (st2 rfl) (by omega) | some a => exact ⟨a, rfl⟩
      obtain rfl := st3 at' rfl
      have hk0 : 0 < d.k := by omega
      obtain ⟨x1, x2, x3⟩ := cr_now d ms i
      have ct0 : wr.cell? ⟨gt, i, none⟩ = some (.bool (d.wet i)) := ((hI.1.wet hk0).cell hlt).1.trans (by rw [x3])
      have cw0 : wr.cell? ⟨gw, i, none⟩ = some (.string (d.was i)) := ((hI.1.was hk0).cell hlt).1.trans (by rw [x2])
      have cn0 : wr.cell? ⟨gn, i, none⟩ = some (.string (d.now i)) := ((hI.1.now hk0).cell hlt).1.trans (by rw [x1])
      have fn0 := ((hI.1.now hk0).cell hlt).2
      have fw0 := ((hI.1.was hk0).cell hlt).2
      have ft0 := ((hI.1.wet hk0).cell hlt).2
      cases hw : d.wet i with
      | false =>
        rw [hw] at ct0
        have hkk : wetK d.wet (i + 1) = wetK d.wet i := by rw [wetK, if_neg (by simp [hw])]
        have HS := Lib.hid (HI.out.skip hw)
        clear hI sn1 sn2 sn3 sw1 sw2 sw3 st1 st2 st3 x1 x2 x3 fn0 fw0 ft0 cw0 cn0 hk0 hmb hx hne c0 c1
        have c0 := HI.out.1.c0
        go_wp2
        go_roundw
        case rel => exact ⟨i + 1, by omega, by go_num, by rw [hkk], HS.out⟩
        case measure => simp [ivN]; omega
      | true =>
        rw [hw] at ct0
        have hkk : wetK d.wet (i + 1) = wetK d.wet i + 1 := by rw [wetK, if_pos hw]
        have hKle := wetK_le d.wet i
        obtain ⟨K, hK⟩ : ∃ K, wetK d.wet i = K := ⟨_, rfl⟩
        rw [hK] at hkk hKle ⊢
        have hmb2 := Lib.hid hmb
        have HX := Lib.hid hx
        have HNE := Lib.hid hne
        clear hI sn1 sn2 sn3 sw1 sw2 sw3 st1 st2 st3 x1 x2 x3 fn0 fw0 ft0 cn0 hk0 hmb hx hne
        by_cases hin : K / 8 < ms.length
        · obtain ⟨am, rfl⟩ : ∃ a, pm = some a := by
            cases pm with
            | none => have := HN.out rfl; subst this; simp at hin
            | some a => exact ⟨a, rfl⟩
          obtain ⟨q1, q2, q3⟩ := HI.out.2.1.parts (by intro e; rw [e] at hin; cases hin)
          have hmc := q3 (K / 8) hin
          obtain ⟨xlo, xhi⟩ := hmb2.out _ (List.getElem_mem hin)
          have hbr := bitR_in hin
          generalize ms[K / 8] = x at hmc xlo xhi hbr
          have dr : decide ((ms.length : Int) ≤ (K : Int) / 8) = false := by simp; omega
          obtain ⟨ab, ao, asp⟩ := am
          simp only at q1 q2 hmc
          subst q1 q2
          clear q3
          rcases and_one (x / 2 ^ (K % 8)) with hz | hz
          · have hb : bitR ms K = false := by rw [hbr, hz]; rfl
            clear hbr
            have HS := Lib.hid (HI.out.back HX.out hw (by rw [hK]; exact hb))
            have R1 := Lib.hid HI.out.1.drew
            have R2 := Lib.hid (HI.out.1.putNow (i := i) (d.was i))
            have X3 := Lib.hid ((cr_now d ms i).2.2.trans hw)
            generalize d.was i = S at cw0 HS R2
            clear hb hw hK
            go_wp2
            refine wp_region_still_tail 13 (by kernel_rfl) (by kernel_rfl) ?_
            simp only [List.take_succ_cons, List.take_zero, List.drop_succ_cons, List.drop_zero]
            change wpStill _ _ (World.drew wr) _ _ _
            iterate 13 still_step
            refine wpStill_nil ?_
            change wpList _ _ _ _ _ (World.drew wr)
            obtain ⟨vv, cn0⟩ : ∃ vv, wr.drew.cell? ⟨gn, i, none⟩ = some vv := ⟨_, ((R1.out.now (show 0 < d.k by omega)).cell hlt).1⟩
            have fn0 : wr.drew.frozen? ⟨gn, i, none⟩ = false := ((R1.out.now (show 0 < d.k by omega)).cell hlt).2
            clear c0 c1 c2 ct0 cw0
            go_wp2_with fail
            clear fn0 cn0
            have hk0 : 0 < d.k := by omega
            have hne6 : gt ≠ gw := HNE.out.2.2.2.2.2.1.symm
            have c0 := R2.out.c0
            have c1 := R2.out.c1
            have c2 := R2.out.c2
            have cn0 : (wr.setCell ⟨gn, i, none⟩ (.string S)).cell? ⟨gn, i, none⟩ = some (.string S) := ((R2.out.now hk0).cell hlt).1.trans (by simp [updN])
            obtain ⟨vv, cw1⟩ : ∃ vv, (wr.setCell ⟨gn, i, none⟩ (.string S)).cell? ⟨gw, i, none⟩ = some vv := ⟨_, ((R2.out.was hk0).cell hlt).1⟩
            have fw0 := ((R2.out.was hk0).cell hlt).2
            have ft1 : ((wr.setCell ⟨gn, i, none⟩ (.string S)).setCell ⟨gw, i, none⟩ (.string S)).frozen? ⟨gt, i, none⟩ = false := (World.frozen?_of_block (w := (wr.setCell ⟨gn, i, none⟩ (.string S))) (Below.heap_setCell _ _ _ _ hne6)).trans ((R2.out.wet hk0).cell hlt).2
            have ct1 : ((wr.setCell ⟨gn, i, none⟩ (.string S)).setCell ⟨gw, i, none⟩ (.string S)).cell? ⟨gt, i, none⟩ = some (.bool true) := (World.cell?_of_block (w := (wr.setCell ⟨gn, i, none⟩ (.string S))) (Below.heap_setCell _ _ _ _ hne6)).trans (((R2.out.wet hk0).cell hlt).1.trans (by show some (Value.bool ((d.cr ms i).wet i)) = _; rw [X3.out]))
            clear hk0 hne6
            go_region
            all_goals go_wp2
            go_roundw
            case rel => exact ⟨i + 1, by omega, by go_num, by rw [hkk]; go_num, HS.out⟩
            case measure => simp [ivN]; omega
          · have hb : bitR ms K = true := by rw [hbr, hz]; rfl
            clear hbr
            have HS := Lib.hid (HI.out.keep HX.out hw (by rw [hK]; exact hb))
            have R2 := Lib.hid HI.out.1
            have X3 := Lib.hid ((cr_now d ms i).2.2.trans hw)
            have X1 := Lib.hid (cr_now d ms i).1
            generalize d.now i = S at HS X1
            clear hb hw hK
            go_wp2_with fail
            clear c0 c1 c2 ct0 cw0
            have hk0 : 0 < d.k := by omega
            have hne6 : gt ≠ gw := HNE.out.2.2.2.2.2.1.symm
            have c0 := R2.out.c0
            have c1 := R2.out.c1
            have c2 := R2.out.c2
            have cn0 : wr.cell? ⟨gn, i, none⟩ = some (.string S) := ((R2.out.now hk0).cell hlt).1.trans (by rw [X1.out])
            obtain ⟨vv, cw1⟩ : ∃ vv, wr.cell? ⟨gw, i, none⟩ = some vv := ⟨_, ((R2.out.was hk0).cell hlt).1⟩
            have fw0 := ((R2.out.was hk0).cell hlt).2
            have ft1 : (wr.setCell ⟨gw, i, none⟩ (.string S)).frozen? ⟨gt, i, none⟩ = false := (World.frozen?_of_block (w := wr) (Below.heap_setCell _ _ _ _ hne6)).trans ((R2.out.wet hk0).cell hlt).2
            have ct1 : (wr.setCell ⟨gw, i, none⟩ (.string S)).cell? ⟨gt, i, none⟩ = some (.bool true) := (World.cell?_of_block (w := wr) (Below.heap_setCell _ _ _ _ hne6)).trans (((R2.out.wet hk0).cell hlt).1.trans (by show some (Value.bool ((d.cr ms i).wet i)) = _; rw [X3.out]))
            clear hk0 hne6
            go_region
            all_goals go_wp2
            go_roundw
            case rel => exact ⟨i + 1, by omega, by go_num, by rw [hkk]; go_num, HS.out⟩
            case measure => simp [ivN]; omega
        · have hb : bitR ms K = false := bitR_out (by omega)
          have dr : decide ((ms.length : Int) ≤ (K : Int) / 8) = true := by simp; omega
          have HS := Lib.hid (HI.out.back HX.out hw (by rw [hK]; exact hb))
          have R1 := Lib.hid HI.out.1.drew
          have R2 := Lib.hid (HI.out.1.putNow (i := i) (d.was i))
          have X3 := Lib.hid ((cr_now d ms i).2.2.trans hw)
          generalize d.was i = S at cw0 HS R2
          clear hb hw hK
          go_wp2
          refine wp_region_still_tail 13 (by kernel_rfl) (by kernel_rfl) ?_
          simp only [List.take_succ_cons, List.take_zero, List.drop_succ_cons, List.drop_zero]
          change wpStill _ _ (World.drew wr) _ _ _
          iterate 13 still_step
          refine wpStill_nil ?_
          change wpList _ _ _ _ _ (World.drew wr)
          obtain ⟨vv, cn0⟩ : ∃ vv, wr.drew.cell? ⟨gn, i, none⟩ = some vv := ⟨_, ((R1.out.now (show 0 < d.k by omega)).cell hlt).1⟩
          have fn0 : wr.drew.frozen? ⟨gn, i, none⟩ = false := ((R1.out.now (show 0 < d.k by omega)).cell hlt).2
          clear c0 c1 c2 ct0 cw0
          go_wp2_with fail
          clear fn0 cn0
          have hk0 : 0 < d.k := by omega
          have hne6 : gt ≠ gw := HNE.out.2.2.2.2.2.1.symm
          have c0 := R2.out.c0
          have c1 := R2.out.c1
          have c2 := R2.out.c2
          have cn0 : (wr.setCell ⟨gn, i, none⟩ (.string S)).cell? ⟨gn, i, none⟩ = some (.string S) := ((R2.out.now hk0).cell hlt).1.trans (by simp [updN])
          obtain ⟨vv, cw1⟩ : ∃ vv, (wr.setCell ⟨gn, i, none⟩ (.string S)).cell? ⟨gw, i, none⟩ = some vv := ⟨_, ((R2.out.was hk0).cell hlt).1⟩
          have fw0 := ((R2.out.was hk0).cell hlt).2
          have ft1 : ((wr.setCell ⟨gn, i, none⟩ (.string S)).setCell ⟨gw, i, none⟩ (.string S)).frozen? ⟨gt, i, none⟩ = false := (World.frozen?_of_block (w := (wr.setCell ⟨gn, i, none⟩ (.string S))) (Below.heap_setCell _ _ _ _ hne6)).trans ((R2.out.wet hk0).cell hlt).2
          have ct1 : ((wr.setCell ⟨gn, i, none⟩ (.string S)).setCell ⟨gw, i, none⟩ (.string S)).cell? ⟨gt, i, none⟩ = some (.bool true) := (World.cell?_of_block (w := (wr.setCell ⟨gn, i, none⟩ (.string S))) (Below.heap_setCell _ _ _ _ hne6)).trans (((R2.out.wet hk0).cell hlt).1.trans (by show some (Value.bool ((d.cr ms i).wet i)) = _; rw [X3.out]))
          clear hk0 hne6
          go_region
          all_goals go_wp2
          go_roundw
          case rel => exact ⟨i + 1, by omega, by go_num, by rw [hkk]; go_num, HS.out⟩
          case measure => simp [ivN]; omega
    · obtain rfl : i = d.k := by omega
      have f3 := hI.1.fz 3
      have f4 := hI.1.fz 4
      have k3 := hI.1.c3
      have k4 := hI.1.c4
      have HD := Lib.hid HI.out.done
      clear hI
      go_wp2
      go_end0
      exact ⟨rfl, HD.out⟩
end
end Go.Proofs.Ytliakndgbfbicaa
