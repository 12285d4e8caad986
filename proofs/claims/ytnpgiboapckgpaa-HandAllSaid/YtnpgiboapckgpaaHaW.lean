/- HandAll: the walk. -/
import Derived.Test.YtnpgiboapckgpaaHaD
import Derived.Test.YtnpgiboapckgpaaHLastW
import Derived.Deep.CutBlock
import Derived.Deep.DeepCutAuto
namespace Go.Proofs.Ytnpgiboapckgpaa
open Go.RowKit

/-- A deed. -/
def dV (kd k : Int) (f : Nat) : Array Value := #[.int .i64 kd, .int .i64 k, .int .u8 (f : Int)]
theorem info_deed (kd k : Int) (f : Nat) : (Try.prog.info? 29).map (·.size) = some (dV kd k f).size := by
  show _ = some 3; kernel_rfl
theorem run_deed : Try.prog.underlying 29 = some (.struct (Try.prog.fieldsOf 29)) := by kernel_rfl
theorem one_deed (kd k : Int) (f : Nat) : (dV kd k f).all (·.oneCell') = true := by simp [dV, Value.oneCell']

theorem owns_read {w : World} {b t n : Nat} {v : Value} {l : List Int} (h : w.ownsRow b t 1 v n (intV l)) : ∃ p c, v = .slice p n c ∧ ∀ j x, l[j]? = some x → ∃ gk, p = some ⟨gk, 0, none⟩ ∧ gk < w.heap.size ∧ w.cell? ⟨gk, j, none⟩ = some (.int .i64 x) := by
  rcases Nat.eq_zero_or_pos n with e | e
  · subst e
    obtain ⟨p, c, rfl⟩ := owns_slice h
    refine ⟨p, c, rfl, fun j x hx => ?_⟩
    have : l.length = 0 := by have := h.1; unfold intV at this; simpa using this
    rw [List.length_eq_zero_iff.1 this] at hx
    cases hx
  · obtain ⟨gk, cap, rfl, _, h2, h3⟩ := owns_int2 h e
    exact ⟨_, _, rfl, fun j x hx => ⟨gk, rfl, h2, h3 j x hx⟩⟩
theorem Duo.drewN {B : Nat} {w W : World} {p g p2 g2 : Nat} {s t : St} (h : Duo B w W p g p2 g2 s t) (m : Nat) : Duo B w (W.drewN m) p g p2 g2 s t := h.on (below_dn (Below.refl _ _) m)

set_option maxRecDepth 100000 in
set_option maxHeartbeats 8000000 in
theorem all_walk (w : World) (room : Int) (A : Option Addr) (len cap b off : Nat) (hA : 0 < len → A = some ⟨b, off, none⟩) (hb : 0 < len → b < w.heap.size)
    (hc : ∀ i, i < len → ∃ (kd k : Int) (fl : Nat), w.cell? ⟨b, off + i * 3, none⟩ = some (.int .i64 kd) ∧ w.cell? ⟨b, off + i * 3 + 1, none⟩ = some (.int .i64 k) ∧ w.cell? ⟨b, off + i * 3 + 2, none⟩ = some (.int .u8 (fl : Int)) ∧ (-9223372036854775808 ≤ kd ∧ kd ≤ 9223372036854775807) ∧ fl < 256) :
    Calls Try.prog 3 #[.int .i64 room, .slice A len cap] w fun e w' => e = .returned (.bool true) ∧ Below w.heap.size w w' := by
  have HA0 := Lib.hid hA
  have HB0 := Lib.hid hb
  have HC0 := Lib.hid hc
  clear hA hb hc
  go_enter Try.func3, Try.ntmps3
  go_upto_region 3 with (first | (go_at_call 9; refine (begun_any _).mono ?_; rintro e w1 ⟨rfl, b1⟩))
  have B1 := Lib.hid b1
  clear b1
  by_cases hl1 : 60 < len
  · have hl' : (60 : Int) < (len : Int) := by omega
    clear hl1
    go_wp2_with fail
    go_ret
    exact ⟨rfl, B1.out⟩
  have hl' : ¬ (60 : Int) < (len : Int) := by omega
  have L1 : Hid (len ≤ 60) := Nat.le_of_not_lt hl1
  clear hl1
  go_upto_region 6 with (first | (go_at_call 10; refine (new_any w1 room).mono ?_; rintro e w2 ⟨rfl, h2, b2⟩) | (go_at_call 11; refine (rnew_any w2 room).mono ?_; rintro e w3 ⟨rfl, h3, b3⟩))
  have D3 := duo_new B1.out h2 b2 h3 b3
  generalize w1.heap.size = p at *
  generalize w2.heap.size + 1 = p2 at *
  generalize w2.heap.size = g2 at *
  generalize hrm : roomOf room = n at *
  have hn1 : 1 ≤ n := by rw [← hrm]; unfold roomOf; omega
  have N1 := Lib.hid hn1
  have DD := Lib.hid D3
  clear h2 h3 b2 b3 B1 hrm D3 hl' hn1
  go_wp2_with fail
  go_loopw [7] (fun v wr => ∃ (i : Nat) (s : St), i ≤ len ∧ v = .int .i64 (i : Int) ∧ Ia i s ∧ Duo w.heap.size w wr p p p2 g2 s s) (fun v _ => len - lvN v)
  case atStart => exact ⟨0, newS n, Nat.zero_le _, rfl, ⟨N1.out, fun _ _ _ => rfl, fun _ _ => Nat.zero_le _⟩, DD.out⟩
  case round =>
    obtain ⟨i, s, hi, rfl, hia, hd⟩ := hrel
    have HD := Lib.hid hd
    have HI := Lib.hid hia
    have hl60 := L1.out
    clear hd hia DD
    by_cases hlt : i < len
    · have hpos : 0 < len := by omega
      obtain rfl := HA0.out hpos
      obtain ⟨kd, k, fl, x0, x1, x2, hkd, hfl⟩ := HC0.out i hlt
      have hbb := HB0.out hpos
      have HCC : Hid (∀ jj x, (dV kd k fl)[jj]? = some x → wr.cell? ⟨b, off + i * 3 + jj, none⟩ = some x) := fun jj x h => by
        have e : wr.cell? ⟨b, off + i * 3 + jj, none⟩ = w.cell? ⟨b, off + i * 3 + jj, none⟩ := HD.out.be.cell (p := ⟨b, off + i * 3 + jj, none⟩) hbb
        rw [e]
        match jj, h with
        | 0, h => exact x0.trans h
        | 1, h => exact x1.trans h
        | 2, h => exact x2.trans h
        | jj + 3, h => simp [dV] at h
      have HINF := Lib.hid (info_deed kd k fl)
      have HON := Lib.hid (one_deed kd k fl)
      have HAL := Lib.hid (heap_alloc_new wr (.cells #[.int .i64 0, .int .i64 0, .int .u8 0] 29))
      have HSZ := Lib.hid (show (#[.int .i64 0, .int .i64 0, .int .u8 0] : Array Value).size = (dV kd k fl).size from rfl)
      have HSET := Lib.hid (setRow_alloc wr #[.int .i64 0, .int .i64 0, .int .u8 0] (dV kd k fl) 29)
      clear x0 x1 x2 hbb
      go_upto_region 10 with (first | (with_reducible refine wpList_load_at rfl 29 (.tmp 42) rfl b (off + i * 3) rfl (dV kd k fl) _ HCC.out run_deed rfl HINF.out ?_) | (with_reducible refine wpList_store_row rfl 29 (.tmp 8) (.tmp 43) rfl wr.heap.size (dV kd k fl) rfl rfl 29 _ HAL.out HINF.out HSZ.out HON.out ?_))
      rw [HSET.out]
      simp only [Act.put]
      have hv := heap_alloc_new wr (.cells (dV kd k fl) 29)
      have hd4 := HD.out.on ((Below.refl wr.heap.size wr).alloc (Nat.le_refl _) (.cells (dV kd k fl) 29))
      have HQ : Hid (p ≠ wr.heap.size ∧ p ≠ wr.heap.size ∧ p2 ≠ wr.heap.size ∧ g2 ≠ wr.heap.size) := ⟨Nat.ne_of_lt HD.out.ha.lp, Nat.ne_of_lt HD.out.ha.lg, Nat.ne_of_lt HD.out.ra.lp, Nat.ne_of_lt HD.out.ra.lg⟩
      clear HSET HSZ HAL HON HINF HCC HD
      generalize wr.alloc (.cells (dV kd k fl) 29) = w4 at hv hd4 ⊢
      generalize wr.heap.size = q at *
      have y2 := (cell_of hv 2).1
      rw [show (dV kd k fl)[2]? = some (.int .u8 (fl : Int)) from rfl] at y2
      have HV := Lib.hid hv
      have D4 := Lib.hid hd4
      have hcv : ∀ W : World, (convert 30 9 (.slice (some ⟨W.heap.size, 0, none⟩) 1 1)).run Try.prog (W.alloc (.cells #[.int .u8 (97 + (fl : Int) % 26)] 5)) = .ok (.string (ch (97 + fl % 26))) (W.alloc (.cells #[.int .u8 (97 + (fl : Int) % 26)] 5)) := fun W => by
        have h := conv_one W (97 + fl % 26)
        rw [show ((97 + fl % 26 : Nat) : Int) = 97 + (fl : Int) % 26 by omega] at h
        exact h
      clear hv hd4
      go_upto_region 11 with (fail)
      have D5 := Lib.hid (D4.out.on ((Below.refl w4.heap.size w4).alloc (Nat.le_refl _) (.cells #[.int .u8 (97 + (fl : Int) % 26)] 5)))
      have HV5 := Lib.hid ((Below.heap_alloc w4 (.cells #[.int .u8 (97 + (fl : Int) % 26)] 5) q (Array.getElem?_eq_some_iff.1 HV.out).1).trans HV.out)
      clear hcv y2 HV D4
      generalize w4.alloc (.cells #[.int .u8 (97 + (fl : Int) % 26)] 5) = w5 at *
      generalize ch (97 + fl % 26) = vv at *
      have y0 := (cell_of HV5.out 0).1
      rw [show (dV kd k fl)[0]? = some (.int .i64 kd) from rfl] at y0
      go_cut [54] (fun q' wx => ∃ z : Int, 0 ≤ z ∧ z < 10 ∧ q' = .int .i64 z ∧ wx = w5)
      case first =>
        go_wp2_with fail
        go_meet
        have y1 := Int.lt_tmod_of_pos kd (show (0:Int) < 10 by omega)
        have y2 := Int.tmod_lt_of_pos kd (show (0:Int) < 10 by omega)
        have y3 : wrap64 (kd.tmod 10 + 10) = kd.tmod 10 + 10 := by unfold wrap64; omega
        refine ⟨_, ?_, ?_, rfl, rfl⟩
        · rw [y3]; exact Int.tmod_nonneg 10 (by omega)
        · exact Int.tmod_lt_of_pos _ (by omega)
      case rest =>
        obtain ⟨z, hz0, hz9, rfl, rfl⟩ := hcut
        clear y0
        go_upto_block 2 with (fail)
        go_cut [] (fun wx => ∃ s' : St, Hid (Ia (i + 1) s') ∧ Hid (Duo w.heap.size w wx p p p2 g2 s' s'))
        case first =>
          have y1 : wc.cell? ⟨q, 1, none⟩ = some (.int .i64 k) := (cell_of HV5.out 1).1
          have hi60 : i < 60 := by omega
          go_upto_if 64 with (fail)
          go_cut [64] (fun u wx => u = .bool (decide (z < 5)) ∧ wx = wc)
          case first =>
            have hkk : z = 0 ∨ z = 1 ∨ z = 2 ∨ z = 3 ∨ z = 4 ∨ 5 ≤ z := by omega
            clear hz0 hz9
            rcases hkk with hz | hz | hz | hz | hz | hz
            any_goals
              subst hz
              go_wp2_with fail
              go_meet
              exact ⟨rfl, rfl⟩
            have e0 : (z == 0) = false := by simp; omega
            have e1 : (z == 1) = false := by simp; omega
            have e2 : (z == 2) = false := by simp; omega
            have e3 : (z == 3) = false := by simp; omega
            have e4 : (z == 4) = false := by simp; omega
            have E5 : Hid (decide (z < 5) = false) := Lib.hid (by simp; omega)
            clear hz
            go_wp2_with fail
            go_meet
            exact ⟨by rw [E5.out], rfl⟩
          case rest =>
            obtain ⟨rfl, rfl⟩ := hcut
            by_cases hz5 : z < 5
            · have e5 : decide (z < 5) = true := by simp; omega
              rw [e5]
              clear hz5 e5 hz0 hz9
              as_aux_lemma =>
                obtain ⟨s', out, was, had, e0, hr, hia'⟩ := put_ex HI.out k vv
                have HR := Lib.hid hr
                have HIA := Lib.hid hia'
                clear hr hia'
                go_wp2_with (first | (go_at_call 12; refine (put_any _ D5.out.ha HR.out).mono ?_; rintro e w7 ⟨rfl, h7, f7⟩; unfold tup4; have y1 := (cell_of (block_fr HV5.out f7 HQ.out.1 HQ.out.2.1) 1).1; rw [show (dV kd k fl)[1]? = some (.int .i64 k) from rfl] at y1; have D7 := Lib.hid (D5.out.one h7 f7); clear h7 f7) | (go_at_call 13; refine (rput_any _ D7.out.ra HI.out.c HR.out).mono ?_; rintro e w8 ⟨rfl, h8, f8⟩; unfold tup4; have D8 := Lib.hid (D7.out.two h8 f8); clear h8 f8))
                go_meet
                exact ⟨s', HIA.out, D8.out⟩
            · have e5 : decide (z < 5) = false := by simp; omega
              rw [e5]
              clear e5
              go_upto_if 108 with (fail)
              go_cut [108] (fun u wx => u = .bool (decide (z < 7)) ∧ wx = wc)
              case first =>
                have hkk : z = 5 ∨ z = 6 ∨ 7 ≤ z := by omega
                clear hz0 hz9 hz5
                rcases hkk with hz | hz | hz
                any_goals
                  subst hz
                  go_wp2_with fail
                  go_meet
                  exact ⟨rfl, rfl⟩
                have e5 : (z == 5) = false := by simp; omega
                have e6 : (z == 6) = false := by simp; omega
                have E7 : Hid (decide (z < 7) = false) := Lib.hid (by simp; omega)
                clear hz
                go_wp2_with fail
                go_meet
                exact ⟨by rw [E7.out], rfl⟩
              case rest =>
                obtain ⟨rfl, rfl⟩ := hcut
                by_cases hz7 : z < 7
                · have e7 : decide (z < 7) = true := by simp; omega
                  rw [e7]
                  clear hz5 hz7 e7 hz0 hz9
                  as_aux_lemma =>
                    obtain ⟨s', xx, bb, hr, hia'⟩ := get_ex HI.out k
                    have HR := Lib.hid hr
                    have HIA := Lib.hid hia'
                    clear hr hia'
                    go_wp2_with (first | (go_at_call 14; refine (get_any _ D5.out.ha HR.out).mono ?_; rintro e w7 ⟨rfl, h7, f7⟩; have y1 := (cell_of (block_fr HV5.out f7 HQ.out.1 HQ.out.2.1) 1).1; rw [show (dV kd k fl)[1]? = some (.int .i64 k) from rfl] at y1; have D7 := Lib.hid (D5.out.one h7 f7); clear h7 f7) | (go_at_call 15; refine (rget_any _ D7.out.ra HR.out).mono ?_; rintro e w8 ⟨rfl, h8, f8⟩; have D8 := Lib.hid (D7.out.two h8 f8); clear h8 f8))
                    go_meet
                    exact ⟨s', HIA.out, D8.out⟩
                · have e7 : decide (z < 7) = false := by simp; omega
                  rw [e7]
                  have hzz : z = 7 ∨ z = 8 ∨ z = 9 := by omega
                  clear e7 hz5 hz7 hz0 hz9
                  rcases hzz with rfl | rfl | rfl
                  · skip
                    as_aux_lemma =>
                      obtain ⟨s', bb, hr, hia'⟩ := pin_ex HI.out (by omega) k
                      have HR := Lib.hid hr
                      have HIA := Lib.hid hia'
                      clear hr hia'
                      have H1 : Hid (∀ V, Below wc.heap.size wc V → Calls Try.prog 16 #[.pointer (some ⟨p, 0, none⟩), .int .i64 k] V fun e w' => e = .returned (.bool bb) ∧ Duo w.heap.size w w' p p p2 g2 s' s ∧ w'.heap[q]? = some (.cells (dV kd k fl) 29 (0, 0))) := fun V hV =>
                        (pin_any V (D5.out.on hV).ha HR.out).mono fun e w' h => ⟨h.1, (D5.out.on hV).one h.2.1 h.2.2, block_fr ((hV.block q (Array.getElem?_eq_some_iff.1 HV5.out).1).trans HV5.out) h.2.2 HQ.out.1 HQ.out.2.1⟩
                      go_upto_region 30 with (fail)
                      go_region_with (first | (go_at_call 16; refine (H1.out _ (by first | exact Below.refl _ _ | exact (Below.refl _ _).drew)).mono ?_; rintro e w7 ⟨rfl, d7, v7⟩; have y7 := (cell_of v7 1).1; rw [show (dV kd k fl)[1]? = some (.int .i64 k) from rfl] at y7; have D7 := Lib.hid d7; clear d7 v7) | (go_at_call 17; refine (rpin_any _ D7.out.ra HR.out).mono ?_; rintro e w8 ⟨rfl, h8, f8⟩; have D8 := Lib.hid (D7.out.two h8 f8); clear h8 f8))
                      all_goals
                        (try simp only [List.getElem_toArray, List.getElem_cons_succ, List.getElem_cons_zero, Act.put, List.setIfInBounds_toArray, List.set_cons_zero, List.set_cons_succ])
                        go_wp2_with fail
                        go_meet
                        exact ⟨s', HIA.out, D8.out⟩
                  · skip
                    as_aux_lemma =>
                      obtain ⟨s', bb, hr, hia'⟩ := unpin_ex HI.out (by omega) k
                      have HR := Lib.hid hr
                      have HIA := Lib.hid hia'
                      clear hr hia'
                      have H1 : Hid (∀ V, Below wc.heap.size wc V → Calls Try.prog 18 #[.pointer (some ⟨p, 0, none⟩), .int .i64 k] V fun e w' => e = .returned (.bool bb) ∧ Duo w.heap.size w w' p p p2 g2 s' s ∧ w'.heap[q]? = some (.cells (dV kd k fl) 29 (0, 0))) := fun V hV =>
                        (unpin_any V (D5.out.on hV).ha HR.out).mono fun e w' h => ⟨h.1, (D5.out.on hV).one h.2.1 h.2.2, block_fr ((hV.block q (Array.getElem?_eq_some_iff.1 HV5.out).1).trans HV5.out) h.2.2 HQ.out.1 HQ.out.2.1⟩
                      go_upto_region 33 with (fail)
                      go_region_with (first | (go_at_call 18; refine (H1.out _ (by first | exact Below.refl _ _ | exact (Below.refl _ _).drew)).mono ?_; rintro e w7 ⟨rfl, d7, v7⟩; have y7 := (cell_of v7 1).1; rw [show (dV kd k fl)[1]? = some (.int .i64 k) from rfl] at y7; have D7 := Lib.hid d7; clear d7 v7) | (go_at_call 17; refine (runpin_any _ D7.out.ra HR.out).mono ?_; rintro e w8 ⟨rfl, h8, f8⟩; have D8 := Lib.hid (D7.out.two h8 f8); clear h8 f8))
                      all_goals
                        (try simp only [List.getElem_toArray, List.getElem_cons_succ, List.getElem_cons_zero, Act.put, List.setIfInBounds_toArray, List.set_cons_zero, List.set_cons_succ])
                        go_wp2_with fail
                        go_meet
                        exact ⟨s', HIA.out, D8.out⟩
                  · skip
                    as_aux_lemma =>
                      obtain ⟨s', bb, hr, hia'⟩ := drop_ex HI.out k
                      have HR := Lib.hid hr
                      have HIA := Lib.hid hia'
                      clear hr hia'
                      have H1 : Hid (∀ V, Below wc.heap.size wc V → Calls Try.prog 19 #[.pointer (some ⟨p, 0, none⟩), .int .i64 k] V fun e w' => e = .returned (.bool bb) ∧ Duo w.heap.size w w' p p p2 g2 s' s ∧ w'.heap[q]? = some (.cells (dV kd k fl) 29 (0, 0))) := fun V hV =>
                        (drop_any V (D5.out.on hV).ha HR.out).mono fun e w' h => ⟨h.1, (D5.out.on hV).one h.2.1 h.2.2, block_fr ((hV.block q (Array.getElem?_eq_some_iff.1 HV5.out).1).trans HV5.out) h.2.2 HQ.out.1 HQ.out.2.1⟩
                      go_upto_region 12 with (fail)
                      go_region_with (first | (go_at_call 19; refine (H1.out _ (by first | exact Below.refl _ _ | exact (Below.refl _ _).drew)).mono ?_; rintro e w7 ⟨rfl, d7, v7⟩; have y7 := (cell_of v7 1).1; rw [show (dV kd k fl)[1]? = some (.int .i64 k) from rfl] at y7; have D7 := Lib.hid d7; clear d7 v7) | (go_at_call 20; refine (rdrop_any _ D7.out.ra HR.out).mono ?_; rintro e w8 ⟨rfl, h8, f8⟩; have D8 := Lib.hid (D7.out.two h8 f8); clear h8 f8))
                      all_goals
                        (try simp only [List.getElem_toArray, List.getElem_cons_succ, List.getElem_cons_zero, Act.put, List.setIfInBounds_toArray, List.set_cons_zero, List.set_cons_succ])
                        go_wp2_with fail
                        go_meet
                        exact ⟨s', HIA.out, D8.out⟩
        case rest =>
          obtain ⟨s', HIA, HDU⟩ := hcut
          as_aux_lemma =>
            clear D5 HV5 HI HQ
            go_upto_region 36 with (first | (go_at_call 21; refine (keys_any _ HDU.out.ha).mono ?_; rintro e w10 ⟨v10, rfl, ho, hb10⟩; have HO1 := Lib.hid ho; have HB10 := Lib.hid hb10; clear ho hb10) | (go_at_call 22; refine (rkeys_any _ (HDU.out.on HB10.out).ra).mono ?_; rintro e w11 ⟨v11, rfl, ho, hb11⟩; have HO2 := Lib.hid ho; have HB11 := Lib.hid hb11; clear ho hb11))
            generalize hK : keysTo s'.P s'.n = K at *
            have HK := Lib.hid hK
            clear hK
            obtain ⟨pt1, cp1, rfl, hr1⟩ := owns_read HO1.out
            obtain ⟨pt2, cp2, rfl, hr2⟩ := owns_read HO2.out
            have HR1 := Lib.hid hr1
            have HR2 := Lib.hid hr2
            have D11 := Lib.hid ((HDU.out.on HB10.out).on HB11.out)
            clear hr1 hr2 HO1 HO2 HDU
            go_upto_region 38 with (first | (go_at_call 23; refine (len_any _ D11.out.ha).mono ?_; rintro e w12 ⟨rfl, hb12⟩; rw [HK.out]; have HB12 := Lib.hid hb12; clear hb12))
            have D12 := Lib.hid (D11.out.on HB12.out)
            have HC1 : Hid (∀ j x, K[j]? = some x → ∃ gk, pt1 = some ⟨gk, 0, none⟩ ∧ w12.cell? ⟨gk, j, none⟩ = some (.int .i64 x)) := fun j x h => by
              obtain ⟨gk, e, h1, h2⟩ := HR1.out j x h
              have := HB11.out.size
              exact ⟨gk, e, (HB12.out.cell (p := ⟨gk, j, none⟩) (by show gk < _; omega)).trans ((HB11.out.cell (p := ⟨gk, j, none⟩) h1).trans h2)⟩
            have HC2 : Hid (∀ j x, K[j]? = some x → ∃ gk, pt2 = some ⟨gk, 0, none⟩ ∧ w12.cell? ⟨gk, j, none⟩ = some (.int .i64 x)) := fun j x h => by
              obtain ⟨gk, e, h1, h2⟩ := HR2.out j x h
              exact ⟨gk, e, (HB12.out.cell (p := ⟨gk, j, none⟩) h1).trans h2⟩
            have hkl : K.length ≤ 64 := by
              have h1 := keysTo_len s'.P s'.n
              rw [HK.out] at h1
              have := D12.out.ha.ln
              omega
            clear HR1 HR2 D11 HB10 HB11 HB12
            go_wp2_with fail
            go_loopw [24] (fun v wy => ∃ m t : Nat, m ≤ K.length ∧ v = .int .i64 (m : Int) ∧ wy = w12.drewN t) (fun v _ => K.length - lvN v)
            case atStart => exact ⟨0, 0, Nat.zero_le _, rfl, rfl⟩
            case round =>
              obtain ⟨m, t, hm, rfl, rfl⟩ := hrel
              by_cases hmk : m < K.length
              · have hkm : K[m]? = some K[m] := List.getElem?_eq_getElem hmk
                obtain ⟨g3, rfl, z1⟩ := HC1.out m _ hkm
                obtain ⟨g4, rfl, z2⟩ := HC2.out m _ hkm
                generalize K[m] = x at *
                have hmI : (m : Int) < (K.length : Int) := by omega
                clear hkm hm
                go_wp2_with fail
                go_quiet (fail)
                go_wp2_with fail
                exact ⟨⟨m + 1, _, hmk, by go_num, rfl⟩, by simp [lvN]; omega⟩
              · obtain rfl : m = K.length := by omega
                clear hm hmk
                go_wp2_with fail
                exact ⟨⟨i + 1, s', hlt, by go_num, HIA, D12.out.drewN t⟩, by simp [lvN]; omega⟩
    · obtain rfl : i = len := by omega
      clear hi hlt
      go_wp2_with fail
      go_ret
      exact ⟨rfl, HD.out.be⟩
end Go.Proofs.Ytnpgiboapckgpaa
