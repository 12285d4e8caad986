/- EntryBack: its walk. -/
import Derived.Test.YtkfebibnpincpaaEntBx
namespace Go.Proofs.Ytkfebibnpincpaa.entryBack
open Go.ChangeShapes Go.WideShapes Go.ChangeAt Go.RowKit

def Fin (w : World) (e : Ending) (w' : World) : Prop := e = .returned (.bool true) ∧ Below w.heap.size w w'

set_option maxRecDepth 100000 in
set_option maxHeartbeats 4000000 in
theorem walk (w : World) (e : Ent) {s1 s2 s3 s4 s5 s6 : Value} (hs : EntS w s1 s2 s3 s4 s5 s6 e) (hi : EntI e) (cut : Int) (hcut : I64 cut) (x : Int) (hx : 0 ≤ x ∧ x < 256) (vb : Value) (l : List Int) (hb : SlK .u8 w vb l) :
    Calls Try.prog 5 #[.agg (entC e s1 s2 s3 s4 s5 s6), .int .i64 cut, .int .u8 x, vb] w (Fin w) := by
  obtain ⟨A1, c1, A2, c2, A3, c3, A4, c4, A5, c5, A6, c6, rfl, rfl, rfl, rfl, rfl, rfl⟩ := hs.form
  obtain ⟨n1, hn1⟩ : ∃ n, n = e.old.length := ⟨_, rfl⟩
  rw [← hn1] at hs ⊢
  obtain ⟨n2, hn2⟩ : ∃ n, n = e.new.length := ⟨_, rfl⟩
  rw [← hn2] at hs ⊢
  obtain ⟨n3, hn3⟩ : ∃ n, n = e.moves.length := ⟨_, rfl⟩
  rw [← hn3] at hs ⊢
  obtain ⟨n4, hn4⟩ : ∃ n, n = e.lives.length := ⟨_, rfl⟩
  rw [← hn4] at hs ⊢
  obtain ⟨n5, hn5⟩ : ∃ n, n = e.dirty.length := ⟨_, rfl⟩
  rw [← hn5] at hs ⊢
  obtain ⟨n6, hn6⟩ : ∃ n, n = e.opens.length := ⟨_, rfl⟩
  rw [← hn6] at hs ⊢
  clear hn1 hn2 hn3 hn4 hn5 hn6
  have HI := Lib.hid hi
  obtain ⟨Ab, cb, rfl, -⟩ := hb.form
  obtain ⟨W, hW⟩ : ∃ W, W = w.alloc (entO e (.slice A1 n1 c1) (.slice A2 n2 c2) (.slice A3 n3 c3) (.slice A4 n4 c4) (.slice A5 n5 c5) (.slice A6 n6 c6)) := ⟨_, rfl⟩
  have hB0 : Below w.heap.size w W := by rw [hW]; exact (Below.refl _ _).alloc (Nat.le_refl _) _
  have hZ0 : Bz w.heap.size e (.slice A1 n1 c1) (.slice A2 n2 c2) (.slice A3 n3 c3) (.slice A4 n4 c4) (.slice A5 n5 c5) (.slice A6 n6 c6) W := ⟨by rw [hW]; exact heap_alloc_new w _, hs.below hB0 (Nat.le_refl _)⟩
  have HB0 := Lib.hid hB0
  have HZ0 := Lib.hid hZ0
  have HSb := Lib.hid (hb.below hB0 (Nat.le_refl _))
  have HC := Lib.hid hcut
  have HX := Lib.hid hx
  have HOKo := Lib.hid hs.old.ok
  have HOKn := Lib.hid hs.new.ok
  clear hs hi hb hB0 hZ0 hcut hx
  show Calls _ _ #[.agg #[.int .i64 e.kind, .int .i64 e.txn, .int .i64 e.unit, .int .i64 e.half, .int .i64 e.prev, .int .i64 e.next, .int .i64 e.ap, .int .i64 e.ac, .int .i64 e.tp, .int .i64 e.tc, _, _, _, _, _, _], _, _, _] _ _
  go_enter Try.func5, Try.ntmps5
  go_upto_region 1 with (fail)
  show Code.wp _ _ _ _ (w.alloc (entO e (.slice A1 n1 c1) (.slice A2 n2 c2) (.slice A3 n3 c3) (.slice A4 n4 c4) (.slice A5 n5 c5) (.slice A6 n6 c6)))
  rw [← hW]
  clear hW
  go_wp2_with fail
  refine (begun_any W).mono ?_
  rintro r w2 ⟨rfl, hb2⟩
  have HB2 := Lib.hid (below_on HB0.out hb2)
  have HZ2 := Lib.hid (HZ0.out.on hb2)
  have HSb2 := Lib.hid (HSb.out.below hb2 (Nat.le_refl _))
  clear HB0 HZ0 HSb hb2
  have HZI := Lib.hid (infoEntC e (.slice A1 n1 c1) (.slice A2 n2 c2) (.slice A3 n3 c3) (.slice A4 n4 c4) (.slice A5 n5 c5) (.slice A6 n6 c6))
  have HL := Lib.hid (light_any w2 e HZ2.out.2)
  go_wp2_with (with_reducible refine wpList_load_row rfl 30 (.tmp 4) rfl w.heap.size rfl 30 _ (0, 0) _ HZ2.out.bx Try.underlying30 rfl HZI.out ?_)
  refine HL.out.mono ?_
  rintro r w3 ⟨b, rfl, hb3, hlg⟩
  have HB3 := Lib.hid (below_on HB2.out hb3)
  have HZ3 := Lib.hid (HZ2.out.on hb3)
  have HSb3 := Lib.hid (HSb2.out.below hb3 (Nat.le_refl _))
  have HLG := Lib.hid hlg
  clear HB2 HZ2 HSb2 hb3 hlg HL
  have HF : Hid (Fin w (.returned (.bool true)) w3) := ⟨rfl, HB3.out⟩
  cases b with
  | false =>
    go_wp2
    go_ret
    exact HF.out
  | true =>
    by_cases hl : 200 < l.length
    · go_wp2
      go_ret
      exact HF.out
    · clear HF HLG
      go_upto_region 5 with (fail)
      have HT := Lib.hid (take_ok w3 HSb3.out)
      clear hl
      go_wp2_with fail
      refine HT.out.mono ?_
      rintro r w4 ⟨B1, m1, d1, B2, m2, d2, B3, m3, d3, B4, m4, d4, B5, m5, d5, B6, m6, d6, hr, hE, hb4⟩
      subst hr
      have HOK := Lib.hid HSb3.out.ok
      have HTP := Lib.hid (fun (h : tkB l = true) => (⟨tk_put h, (tk_yes h).2, by rw [(tk_yes h).1]; exact (entR_I HOK.out).1⟩ : putL (tkE l) = l ∧ tkN l = 0 ∧ EntI (tkE l)))
      have HTN := Lib.hid (fun (h : tkB l = false) => (tk_no h).2)
      obtain ⟨y, hy⟩ : ∃ y, y = tkE l := ⟨_, rfl⟩
      obtain ⟨q, hq⟩ : ∃ q, q = tkN l := ⟨_, rfl⟩
      rw [← hy, ← hq] at HTP
      rw [← hq] at HTN
      rw [← hy] at hE
      rw [← hy, ← hq]
      have HB4 := Lib.hid (below_on HB3.out hb4)
      have HZ4 := Lib.hid (HZ3.out.on hb4)
      have HSb4 := Lib.hid (HSb3.out.below hb4 (Nat.le_refl _))
      have HE4 := Lib.hid hE.entS
      clear HB3 HZ3 HSb3 hE hb4 HT hy hq
      have HBoy := Lib.hid (heap_alloc_new w4 (.cells #[.int .i64 0, .int .i64 0, .int .i64 0, .int .i64 0, .int .i64 0, .int .i64 0, .int .i64 0, .int .i64 0, .int .i64 0, .int .i64 0, .slice none 0 0, .slice none 0 0, .slice none 0 0, .slice none 0 0, .slice none 0 0, .slice none 0 0] 30))
      have HZIy := Lib.hid (infoEntC y (.slice B1 m1 d1) (.slice B2 m2 d2) (.slice B3 m3 d3) (.slice B4 m4 d4) (.slice B5 m5 d5) (.slice B6 m6 d6))
      have HZAy := Lib.hid (entC_all y B1 B2 B3 B4 B5 B6 m1 d1 m2 d2 m3 d3 m4 d4 m5 d5 m6 d6)
      have HZNy := Lib.hid (show (#[.int .i64 0, .int .i64 0, .int .i64 0, .int .i64 0, .int .i64 0, .int .i64 0, .int .i64 0, .int .i64 0, .int .i64 0, .int .i64 0, .slice none 0 0, .slice none 0 0, .slice none 0 0, .slice none 0 0, .slice none 0 0, .slice none 0 0] : Array Value).size = (entC y (.slice B1 m1 d1) (.slice B2 m2 d2) (.slice B3 m3 d3) (.slice B4 m4 d4) (.slice B5 m5 d5) (.slice B6 m6 d6)).size from rfl)
      have HSAy := Lib.hid (setRow_alloc w4 #[.int .i64 0, .int .i64 0, .int .i64 0, .int .i64 0, .int .i64 0, .int .i64 0, .int .i64 0, .int .i64 0, .int .i64 0, .int .i64 0, .slice none 0 0, .slice none 0 0, .slice none 0 0, .slice none 0 0, .slice none 0 0, .slice none 0 0] (entC y (.slice B1 m1 d1) (.slice B2 m2 d2) (.slice B3 m3 d3) (.slice B4 m4 d4) (.slice B5 m5 d5) (.slice B6 m6 d6)) 30)
      go_upto_region 6 with (with_reducible refine wpList_store_row rfl 30 (.tmp 9) (.tmp 31) rfl w4.heap.size _ rfl rfl 30 _ HBoy.out HZIy.out HZNy.out HZAy.out ?_)
      rw [HSAy.out]
      obtain ⟨w5, HWy, hxy, hbxy⟩ : ∃ W, Hid (w4.alloc (.cells (entC y (.slice B1 m1 d1) (.slice B2 m2 d2) (.slice B3 m3 d3) (.slice B4 m4 d4) (.slice B5 m5 d5) (.slice B6 m6 d6)) 30) = W) ∧ W.heap[w4.heap.size]? = some (.cells (entC y (.slice B1 m1 d1) (.slice B2 m2 d2) (.slice B3 m3 d3) (.slice B4 m4 d4) (.slice B5 m5 d5) (.slice B6 m6 d6)) 30 (0, 0)) ∧ Below w4.heap.size w4 W := ⟨_, Lib.hid rfl, heap_alloc_new w4 _, (Below.refl _ _).alloc (Nat.le_refl _) _⟩
      rw [HWy.out]
      clear HBoy HZAy HZNy HSAy HWy
      have HB5 := Lib.hid (below_on HB4.out hbxy)
      have HZ5 := Lib.hid (HZ4.out.on hbxy)
      have HSb5 := Lib.hid (HSb4.out.below hbxy (Nat.le_refl _))
      have HY5 : Hid (Bz w4.heap.size y (.slice B1 m1 d1) (.slice B2 m2 d2) (.slice B3 m3 d3) (.slice B4 m4 d4) (.slice B5 m5 d5) (.slice B6 m6 d6) w5) := ⟨hxy, HE4.out.below hbxy (Nat.le_refl _)⟩
      clear HB4 HZ4 HSb4 HE4 hxy hbxy
      generalize w4.heap.size = gy at *
      go_cut [42] (fun u wx => u = .bool false ∧ Below w5.heap.size w5 wx)
      case first =>
        cases ht : tkB l with
        | false =>
          have hq4 := HTN.out ht
          subst hq4
          clear ht HTP HTN
          have HS : Hid (∀ W, Below w5.heap.size w5 W → Below w5.heap.size w5 W) := fun W h => h
          have D0 := (Below.refl w5.heap.size w5).drew
          refine wp_region_held_drew (S := (fun W : World => Below w5.heap.size w5 W)) (by kernel_rfl) (HS.out _ D0) (fun hHeld => ?_)
          refine wpAnyH_take (i := 0) (oi := ⟨_, _, _, _, _, _⟩) (v := ?_) rfl (by kernel_rfl) (by kernel_rfl) (by kernel_rfl) (fun _ _ _ h => h) (Or.inl ⟨by rfl, ?_⟩) (by assumption) ?_
          rotate_left
          · intro W hSW
            try dsimp only at hSW
            go_simp
            try with_reducible rfl
          rotate_left
          try simp only [Act.put, List.setIfInBounds_toArray, List.set_cons_zero, List.set_cons_succ]
          refine wpAnyH_take (i := 1) (oi := ⟨_, _, _, _, _, _⟩) (v := ?_) rfl (by kernel_rfl) (by kernel_rfl) (by kernel_rfl) (fun _ _ _ h => h) (Or.inl ⟨by rfl, ?_⟩) (by assumption) ?_
          rotate_left
          · intro W hSW
            try dsimp only at hSW
            go_simp
            try with_reducible rfl
          rotate_left
          try simp only [Act.put, List.setIfInBounds_toArray, List.set_cons_zero, List.set_cons_succ]
          refine wpAnyH_take (i := 2) (oi := ⟨_, _, _, _, _, _⟩) (v := ?_) rfl (by kernel_rfl) (by kernel_rfl) (by kernel_rfl) (fun _ _ _ h => h) (Or.inl ⟨by rfl, ?_⟩) (by assumption) ?_
          rotate_left
          · intro W hSW
            try dsimp only at hSW
            go_simp
            try with_reducible rfl
          rotate_left
          try simp only [Act.put, List.setIfInBounds_toArray, List.set_cons_zero, List.set_cons_succ]
          refine wpAnyH_take (i := 3) (oi := ⟨_, _, _, _, _, _⟩) (v := undef) rfl (by kernel_rfl) (by kernel_rfl) (by kernel_rfl) (fun _ _ _ h => h) (Or.inr ⟨by rfl, rfl⟩) (by assumption) ?_
          try simp only [Act.put, List.setIfInBounds_toArray, List.set_cons_zero, List.set_cons_succ]
          refine wpAnyH_take (i := 4) (oi := ⟨_, _, _, _, _, _⟩) (v := undef) rfl (by kernel_rfl) (by kernel_rfl) (by kernel_rfl) (fun _ _ _ h => h) (Or.inr ⟨by rfl, rfl⟩) (by assumption) ?_
          try simp only [Act.put, List.setIfInBounds_toArray, List.set_cons_zero, List.set_cons_succ]
          refine wpAnyH_take (i := 5) (oi := ⟨_, _, _, _, _, _⟩) (v := undef) rfl (by kernel_rfl) (by kernel_rfl) (by kernel_rfl) (fun _ _ _ h => h) (Or.inr ⟨by rfl, rfl⟩) (by assumption) ?_
          try simp only [Act.put, List.setIfInBounds_toArray, List.set_cons_zero, List.set_cons_succ]
          refine wpAnyH_take (i := 6) (oi := ⟨_, _, _, _, _, _⟩) (v := undef) rfl (by kernel_rfl) (by kernel_rfl) (by kernel_rfl) (fun _ _ _ h => h) (Or.inr ⟨by rfl, rfl⟩) (by assumption) ?_
          try simp only [Act.put, List.setIfInBounds_toArray, List.set_cons_zero, List.set_cons_succ]
          refine wpAnyH_take (i := 7) (oi := ⟨_, _, _, _, _, _⟩) (v := undef) rfl (by kernel_rfl) (by kernel_rfl) (by kernel_rfl) (fun _ _ _ h => h) (Or.inr ⟨by rfl, rfl⟩) (by assumption) ?_
          try simp only [Act.put, List.setIfInBounds_toArray, List.set_cons_zero, List.set_cons_succ]
          refine wpAnyH_take (i := 8) (oi := ⟨_, _, _, _, _, _⟩) (v := undef) rfl (by kernel_rfl) (by kernel_rfl) (by kernel_rfl) (fun _ _ _ h => h) (Or.inr ⟨by rfl, rfl⟩) (by assumption) ?_
          try simp only [Act.put, List.setIfInBounds_toArray, List.set_cons_zero, List.set_cons_succ]
          refine wpAnyH_take (i := 9) (oi := ⟨_, _, _, _, _, _⟩) (v := ?_) rfl (by kernel_rfl) (by kernel_rfl) (by kernel_rfl) (fun _ _ _ h => h) (Or.inl ⟨by rfl, ?_⟩) (by assumption) ?_
          rotate_left
          · intro W hSW
            try dsimp only at hSW
            go_simp
            try with_reducible rfl
          rotate_left
          try simp only [Act.put, List.setIfInBounds_toArray, List.set_cons_zero, List.set_cons_succ]
          refine wpAnyH_done (by kernel_rfl) ?_ _
          go_wp2
          go_meet
          exact ⟨rfl, D0⟩
        | true =>
          obtain ⟨hp, rfl, hyi⟩ := HTP.out ht
          have HYI := Lib.hid hyi
          have HP : Hid (∀ W, Below w5.heap.size w5 W → Calls Try.prog 16 #[.agg (entC y (.slice B1 m1 d1) (.slice B2 m2 d2) (.slice B3 m3 d3) (.slice B4 m4 d4) (.slice B5 m5 d5) (.slice B6 m6 d6))] W fun r w' => ∃ A m c, r = .returned (.slice A m c) ∧ w'.ownsRow W.heap.size 5 1 (.slice A m c) l.length (byteV l) ∧ Below W.heap.size W w') := fun W h => by
            have := put_any W y (HY5.out.on h).s HYI.out
            rw [hp] at this
            exact this
          clear ht HTP HTN hp hyi
          have HS : Hid (∀ W, Below w5.heap.size w5 W → Below w5.heap.size w5 W ∧ W.heap[gy]? = some (.cells (entC y (.slice B1 m1 d1) (.slice B2 m2 d2) (.slice B3 m3 d3) (.slice B4 m4 d4) (.slice B5 m5 d5) (.slice B6 m6 d6)) 30 (0, 0)) ∧ (convert 24 9 (.slice Ab l.length cb)).run Try.prog W = .ok (.string (bstr l)) W) := fun W h => ⟨h, (HY5.out.on h).bx, conv_slK (HSb5.out.below h (Nat.le_refl _))⟩
          have D0 := (Below.refl w5.heap.size w5).drew
          refine wp_region_held_drew (S := (fun W : World => Below w5.heap.size w5 W ∧ W.heap[gy]? = some (.cells (entC y (.slice B1 m1 d1) (.slice B2 m2 d2) (.slice B3 m3 d3) (.slice B4 m4 d4) (.slice B5 m5 d5) (.slice B6 m6 d6)) 30 (0, 0)) ∧ (convert 24 9 (.slice Ab l.length cb)).run Try.prog W = .ok (.string (bstr l)) W)) (by kernel_rfl) (HS.out _ D0) (fun hHeld => ?_)
          refine wpAnyH_take (i := 0) (oi := ⟨_, _, _, _, _, _⟩) (v := ?_) rfl (by kernel_rfl) (by kernel_rfl) (by kernel_rfl) (fun _ _ _ h => h) (Or.inl ⟨by rfl, ?_⟩) (by assumption) ?_
          rotate_left
          · intro W hSW
            try dsimp only at hSW
            go_simp
            try with_reducible rfl
          rotate_left
          try simp only [Act.put, List.setIfInBounds_toArray, List.set_cons_zero, List.set_cons_succ]
          refine wpAnyH_take (i := 1) (oi := ⟨_, _, _, _, _, _⟩) (v := ?_) rfl (by kernel_rfl) (by kernel_rfl) (by kernel_rfl) (fun _ _ _ h => h) (Or.inl ⟨by rfl, ?_⟩) (by assumption) ?_
          rotate_left
          · intro W hSW
            try dsimp only at hSW
            go_simp
            try with_reducible rfl
          rotate_left
          try simp only [Act.put, List.setIfInBounds_toArray, List.set_cons_zero, List.set_cons_succ]
          refine wpAnyH_take (i := 2) (oi := ⟨_, _, _, _, _, _⟩) (v := ?_) rfl (by kernel_rfl) (by kernel_rfl) (by kernel_rfl) (fun _ _ _ h => h) (Or.inl ⟨by rfl, ?_⟩) (by assumption) ?_
          rotate_left
          · intro W hSW
            try dsimp only at hSW
            go_simp
            try with_reducible rfl
          rotate_left
          try simp only [Act.put, List.setIfInBounds_toArray, List.set_cons_zero, List.set_cons_succ]
          refine wpAnyH_take (i := 3) (oi := ⟨_, _, _, _, _, _⟩) (v := .agg (entC y (.slice B1 m1 d1) (.slice B2 m2 d2) (.slice B3 m3 d3) (.slice B4 m4 d4) (.slice B5 m5 d5) (.slice B6 m6 d6))) rfl (by kernel_rfl) (by kernel_rfl) (by kernel_rfl) (fun _ _ _ h => h) (Or.inl ⟨by rfl, fun W hSW => ?_⟩) (by assumption) ?_
          · exact held_row 30 (.tmp 9) (by rfl) gy (by rfl) 30 _ (0, 0) _ hSW.2.1 Try.underlying30 rfl HZIy.out
          try simp only [Act.put, List.setIfInBounds_toArray, List.set_cons_zero, List.set_cons_succ]
          refine wpAnyH_take (i := 6) (oi := ⟨_, _, _, _, _, _⟩) (v := ?_) rfl (by kernel_rfl) (by kernel_rfl) (by kernel_rfl) (fun _ _ _ h => h) (Or.inl ⟨by rfl, ?_⟩) (by assumption) ?_
          rotate_left
          · intro W hSW
            try dsimp only at hSW
            go_simp
            try with_reducible rfl
          rotate_left
          try simp only [Act.put, List.setIfInBounds_toArray, List.set_cons_zero, List.set_cons_succ]
          refine wpAnyH_take (i := 7) (oi := ⟨_, _, _, _, _, _⟩) (v := ?_) rfl (by kernel_rfl) (by kernel_rfl) (by kernel_rfl) (fun _ _ _ h => h) (Or.inl ⟨by rfl, ?_⟩) (by assumption) ?_
          rotate_left
          · intro W hSW
            try dsimp only at hSW
            go_simp
            try with_reducible rfl
          rotate_left
          try simp only [Act.put, List.setIfInBounds_toArray, List.set_cons_zero, List.set_cons_succ]
          refine wpAnyH_ready (rs := [4]) (by kernel_rfl) (by simp) ?_
          refine AllReadyH.cons (o := ⟨_, _, _, _, _, _⟩) rfl (fun K hK => ?_) AllReadyH.nil
          rw [if_pos (by rfl)]
          go_simp
          go_at_call 16
          refine (HP.out _ D0).mono ?_
          rintro r w6 ⟨A, m, c, rfl, ho, hb0⟩
          have hb6 := D0.trans (hb0.mono D0.size)
          go_wp2_with fail
          refine hK.out _ _ (HS.out _ hb6) (fun hHeld => ?_)
          clear hK K
          try simp only [Act.put, List.setIfInBounds_toArray, List.set_cons_zero, List.set_cons_succ]
          have v1 := conv_slK (own_slK ho HOK.out)
          refine wpAnyH_ready (rs := [5]) (by kernel_rfl) (by simp) ?_
          refine AllReadyH.cons (o := ⟨_, _, _, _, _, _⟩) rfl (fun K hK => ?_) AllReadyH.nil
          rw [if_pos (by rfl)]
          go_simp
          refine hK.out _ _ hHeld (fun hHeld => ?_)
          clear hK K
          try simp only [Act.put, List.setIfInBounds_toArray, List.set_cons_zero, List.set_cons_succ]
          refine wpAnyH_take (i := 8) (oi := ⟨_, _, _, _, _, _⟩) (v := ?_) rfl (by kernel_rfl) (by kernel_rfl) (by kernel_rfl) (fun _ _ _ h => h) (Or.inl ⟨by rfl, ?_⟩) (by assumption) ?_
          rotate_left
          · intro W hSW
            try dsimp only at hSW
            go_simp
            try with_reducible rfl
          rotate_left
          try simp only [Act.put, List.setIfInBounds_toArray, List.set_cons_zero, List.set_cons_succ]
          refine wpAnyH_take (i := 9) (oi := ⟨_, _, _, _, _, _⟩) (v := ?_) rfl (by kernel_rfl) (by kernel_rfl) (by kernel_rfl) (fun _ _ _ h => h) (Or.inl ⟨by rfl, ?_⟩) (by assumption) ?_
          rotate_left
          · intro W hSW
            try dsimp only at hSW
            go_simp
            try with_reducible rfl
          rotate_left
          try simp only [Act.put, List.setIfInBounds_toArray, List.set_cons_zero, List.set_cons_succ]
          refine wpAnyH_done (by kernel_rfl) ?_ _
          go_wp2
          go_meet
          exact ⟨rfl, by assumption⟩
      case rest =>
        obtain ⟨rfl, hb6⟩ := hcut
        have HB6 := Lib.hid (below_on HB5.out hb6)
        have HZ6 := Lib.hid (HZ5.out.on hb6)
        clear hb6 HB5 HZ5 HSb5 HY5 HZIy HTP HTN HOK
        generalize wc = w6 at *
        have HP := Lib.hid (put_any w6 e HZ6.out.s HI.out)
        go_wp2_with (with_reducible refine wpList_load_row rfl 30 (.tmp 4) rfl w.heap.size rfl 30 _ (0, 0) _ HZ6.out.bx Try.underlying30 rfl HZI.out ?_)
        refine HP.out.mono ?_
        rintro r w7 ⟨A, m, c, rfl, ho, hb7⟩
        have HB7 := Lib.hid (below_on HB6.out hb7)
        have HZ7 := Lib.hid (HZ6.out.on hb7)
        have HO7 := Lib.hid ho
        have HM := Lib.hid (may_any w7 e HZ7.out.s HI.out)
        clear HB6 HZ6 HP ho hb7
        go_wp2_with (with_reducible refine wpList_load_row rfl 30 (.tmp 4) rfl w.heap.size rfl 30 _ (0, 0) _ HZ7.out.bx Try.underlying30 rfl HZI.out ?_)
        refine HM.out.mono ?_
        rintro r w8 ⟨rfl, hb8⟩
        have HB8 := Lib.hid (below_on HB7.out hb8)
        have HZ8 := Lib.hid (HZ7.out.on hb8)
        have HO8 := Lib.hid (own_bel HO7.out hb8)
        clear HB7 HZ7 HO7 HM hb8
        cases hB : entB e with
        | false =>
          have hm := own_n HO8.out
          rw [putL_no hB] at hm
          obtain rfl : m = 0 := hm
          clear HO8 hB
          go_wp2
          go_ret
          exact ⟨rfl, HB8.out⟩
        | true =>
          have hm := own_n HO8.out
          have hw : SlK .u8 w8 (.slice A m c) (putL e) := own_slK HO8.out (by rw [putL_yes hB]; exact entL_okE HOKo.out HOKn.out)
          rw [putL_yes hB] at hm hw
          have hge := entL_ge hB
          have hle := entL_le hB
          rw [← hm] at hge hle
          have HM := Lib.hid hm
          have HW8 := Lib.hid hw
          have HEB := Lib.hid hB
          have hT := take_ok w8 hw
          obtain ⟨_, t2, t3⟩ := tkB_entL hB
          unfold TkPost at hT
          rw [t2, t3] at hT
          have HT := Lib.hid hT
          have hmi : ¬ (m : Int) < 21 := by omega
          clear hB hm hw hT t2 t3 HO8
          go_wp2_with fail
          refine HT.out.mono ?_
          rintro r w9 ⟨D1, k1, f1, D2, k2, f2, D3, k3, f3, D4, k4, f4, D5, k5, f5, D6, k6, f6, hr, hE, hb9⟩
          subst hr
          have HB9 := Lib.hid (below_on HB8.out hb9)
          have HZ9 := Lib.hid (HZ8.out.on hb9)
          have HW9 := Lib.hid (HW8.out.below hb9 (Nat.le_refl _))
          have HE9 := Lib.hid hE.entS
          clear HB8 HZ8 HW8 hE hb9 HT hmi
          have HBox := Lib.hid (heap_alloc_new w9 (.cells #[.int .i64 0, .int .i64 0, .int .i64 0, .int .i64 0, .int .i64 0, .int .i64 0, .int .i64 0, .int .i64 0, .int .i64 0, .int .i64 0, .slice none 0 0, .slice none 0 0, .slice none 0 0, .slice none 0 0, .slice none 0 0, .slice none 0 0] 30))
          have HZIx := Lib.hid (infoEntC e (.slice D1 k1 f1) (.slice D2 k2 f2) (.slice D3 k3 f3) (.slice D4 k4 f4) (.slice D5 k5 f5) (.slice D6 k6 f6))
          have HZAx := Lib.hid (entC_all e D1 D2 D3 D4 D5 D6 k1 f1 k2 f2 k3 f3 k4 f4 k5 f5 k6 f6)
          have HZNx := Lib.hid (show (#[.int .i64 0, .int .i64 0, .int .i64 0, .int .i64 0, .int .i64 0, .int .i64 0, .int .i64 0, .int .i64 0, .int .i64 0, .int .i64 0, .slice none 0 0, .slice none 0 0, .slice none 0 0, .slice none 0 0, .slice none 0 0, .slice none 0 0] : Array Value).size = (entC e (.slice D1 k1 f1) (.slice D2 k2 f2) (.slice D3 k3 f3) (.slice D4 k4 f4) (.slice D5 k5 f5) (.slice D6 k6 f6)).size from rfl)
          have HSAx := Lib.hid (setRow_alloc w9 #[.int .i64 0, .int .i64 0, .int .i64 0, .int .i64 0, .int .i64 0, .int .i64 0, .int .i64 0, .int .i64 0, .int .i64 0, .int .i64 0, .slice none 0 0, .slice none 0 0, .slice none 0 0, .slice none 0 0, .slice none 0 0, .slice none 0 0] (entC e (.slice D1 k1 f1) (.slice D2 k2 f2) (.slice D3 k3 f3) (.slice D4 k4 f4) (.slice D5 k5 f5) (.slice D6 k6 f6)) 30)
          go_upto_region 14 with (with_reducible refine wpList_store_row rfl 30 (.tmp 12) (.tmp 57) rfl w9.heap.size _ rfl rfl 30 _ HBox.out HZIx.out HZNx.out HZAx.out ?_)
          rw [HSAx.out]
          obtain ⟨w10, HWx, hxx, hbxx⟩ : ∃ W, Hid (w9.alloc (.cells (entC e (.slice D1 k1 f1) (.slice D2 k2 f2) (.slice D3 k3 f3) (.slice D4 k4 f4) (.slice D5 k5 f5) (.slice D6 k6 f6)) 30) = W) ∧ W.heap[w9.heap.size]? = some (.cells (entC e (.slice D1 k1 f1) (.slice D2 k2 f2) (.slice D3 k3 f3) (.slice D4 k4 f4) (.slice D5 k5 f5) (.slice D6 k6 f6)) 30 (0, 0)) ∧ Below w9.heap.size w9 W := ⟨_, Lib.hid rfl, heap_alloc_new w9 _, (Below.refl _ _).alloc (Nat.le_refl _) _⟩
          rw [HWx.out]
          clear HBox HZAx HZNx HSAx HWx
          have HB10 := Lib.hid (below_on HB9.out hbxx)
          have HZ10 := Lib.hid (HZ9.out.on hbxx)
          have HW10 := Lib.hid (HW9.out.below hbxx (Nat.le_refl _))
          have HX10 : Hid (Bz w9.heap.size e (.slice D1 k1 f1) (.slice D2 k2 f2) (.slice D3 k3 f3) (.slice D4 k4 f4) (.slice D5 k5 f5) (.slice D6 k6 f6) w10) := ⟨hxx, HE9.out.below hbxx (Nat.le_refl _)⟩
          clear HB9 HZ9 HW9 HE9 hxx hbxx
          generalize w9.heap.size = gx at *
          have HWi := Lib.hid (within_any w10 cut m HC.out (by omega) (by omega))
          go_wp2_with fail
          refine HWi.out.mono ?_
          rintro r w11 ⟨q, rfl, hq, rfl⟩
          have hqN : q < (entL e).length := by have := HM.out; omega
          have hT := take_ok w10 (HW10.out.pre (k := q) (by omega))
          unfold TkPost at hT
          obtain ⟨t2, t3⟩ := tk_no (tk_cut HEB.out hqN)
          rw [t2, t3] at hT
          have HT := Lib.hid hT
          have hqc : (q : Int) ≤ (c : Int) := by
            obtain ⟨_, _, e1, e2⟩ := HW10.out.form
            cases e1
            omega
          have hq0 : (0 : Int) ≤ (q : Int) := by omega
          clear hT t2 t3 hqN HWi
          go_wp2_with fail
          refine HT.out.mono ?_
          rintro r w12 ⟨G1, u1, v1, G2, u2, v2, G3, u3, v3, G4, u4, v4, G5, u5, v5, G6, u6, v6, hr, hE, hb12⟩
          subst hr
          have HB12 := Lib.hid (below_on HB10.out hb12)
          have HZ12 := Lib.hid (HZ10.out.on hb12)
          have HW12 := Lib.hid (HW10.out.below hb12 (Nat.le_refl _))
          have HX12 := Lib.hid (HX10.out.on hb12)
          clear HB10 HZ10 HW10 HX10 hE hb12 HT
          have HBog := Lib.hid (heap_alloc_new w12 (.cells #[.int .i64 0, .int .i64 0, .int .i64 0, .int .i64 0, .int .i64 0, .int .i64 0, .int .i64 0, .int .i64 0, .int .i64 0, .int .i64 0, .slice none 0 0, .slice none 0 0, .slice none 0 0, .slice none 0 0, .slice none 0 0, .slice none 0 0] 30))
          have HZIg := Lib.hid (infoEntC ent00 (.slice G1 u1 v1) (.slice G2 u2 v2) (.slice G3 u3 v3) (.slice G4 u4 v4) (.slice G5 u5 v5) (.slice G6 u6 v6))
          have HZAg := Lib.hid (entC_all ent00 G1 G2 G3 G4 G5 G6 u1 v1 u2 v2 u3 v3 u4 v4 u5 v5 u6 v6)
          have HZNg := Lib.hid (show (#[.int .i64 0, .int .i64 0, .int .i64 0, .int .i64 0, .int .i64 0, .int .i64 0, .int .i64 0, .int .i64 0, .int .i64 0, .int .i64 0, .slice none 0 0, .slice none 0 0, .slice none 0 0, .slice none 0 0, .slice none 0 0, .slice none 0 0] : Array Value).size = (entC ent00 (.slice G1 u1 v1) (.slice G2 u2 v2) (.slice G3 u3 v3) (.slice G4 u4 v4) (.slice G5 u5 v5) (.slice G6 u6 v6)).size from rfl)
          have HSAg := Lib.hid (setRow_alloc w12 #[.int .i64 0, .int .i64 0, .int .i64 0, .int .i64 0, .int .i64 0, .int .i64 0, .int .i64 0, .int .i64 0, .int .i64 0, .int .i64 0, .slice none 0 0, .slice none 0 0, .slice none 0 0, .slice none 0 0, .slice none 0 0, .slice none 0 0] (entC ent00 (.slice G1 u1 v1) (.slice G2 u2 v2) (.slice G3 u3 v3) (.slice G4 u4 v4) (.slice G5 u5 v5) (.slice G6 u6 v6)) 30)
          go_upto_region 15 with (with_reducible refine wpList_store_row rfl 30 (.tmp 14) (.tmp 67) rfl w12.heap.size _ rfl rfl 30 _ HBog.out HZIg.out HZNg.out HZAg.out ?_)
          rw [HSAg.out]
          obtain ⟨w13, HWg, hxg, hbxg⟩ : ∃ W, Hid (w12.alloc (.cells (entC ent00 (.slice G1 u1 v1) (.slice G2 u2 v2) (.slice G3 u3 v3) (.slice G4 u4 v4) (.slice G5 u5 v5) (.slice G6 u6 v6)) 30) = W) ∧ W.heap[w12.heap.size]? = some (.cells (entC ent00 (.slice G1 u1 v1) (.slice G2 u2 v2) (.slice G3 u3 v3) (.slice G4 u4 v4) (.slice G5 u5 v5) (.slice G6 u6 v6)) 30 (0, 0)) ∧ Below w12.heap.size w12 W := ⟨_, Lib.hid rfl, heap_alloc_new w12 _, (Below.refl _ _).alloc (Nat.le_refl _) _⟩
          rw [HWg.out]
          clear HBog HZAg HZNg HSAg HWg
          have HB13 := Lib.hid (below_on HB12.out hbxg)
          have HZ13 := Lib.hid (HZ12.out.on hbxg)
          have HW13 := Lib.hid (HW12.out.below hbxg (Nat.le_refl _))
          have HX13 := Lib.hid (HX12.out.on hbxg)
          clear HB12 HZ12 HW12 HX12 hxg hbxg HZIg
          generalize w12.heap.size = gg at *
          obtain ⟨E1, p1, r1, W1, hr1, E2, p2, r2, W2, hr2, hs2, hb2⟩ := app2 w13 HW13.out (by have := HM.out; omega) x HX.out
          have hT := take_ok W2 hs2
          unfold TkPost at hT
          obtain ⟨t2, t3⟩ := tk_no (tk_more HEB.out x)
          rw [t2, t3] at hT
          have HT := Lib.hid hT
          have HR1 := Lib.hid hr1
          have HR2 := Lib.hid hr2
          have HB14 := Lib.hid (below_on HB13.out hb2)
          have HZ14 := Lib.hid (HZ13.out.on hb2)
          have HX14 := Lib.hid (HX13.out.on hb2)
          clear hT t2 t3 hr1 hr2 hs2 hb2 HB13 HZ13 HX13
          go_wp2_with (at_builtin; first | (with_reducible refine Lib.wpList_append_run _ rfl _ _ _ _ rfl _ _ rfl rfl _ _ (HR1.out _) ?_) | (with_reducible refine Lib.wpList_append_run _ rfl _ _ _ _ rfl _ _ rfl rfl _ _ (HR2.out _) ?_))
          refine HT.out.mono ?_
          rintro r w15 ⟨H1, i1, j1, H2, i2, j2, H3, i3, j3, H4, i4, j4, H5, i5, j5, H6, i6, j6, hr, hE, hb15⟩
          subst hr
          have HB15 := Lib.hid (below_on HB14.out hb15)
          have HZ15 := Lib.hid (HZ14.out.on hb15)
          have HX15 := Lib.hid (HX14.out.on hb15)
          clear HB14 HZ14 HX14 hE hb15 HT HR1 HR2 HW13
          have HBoh := Lib.hid (heap_alloc_new w15 (.cells #[.int .i64 0, .int .i64 0, .int .i64 0, .int .i64 0, .int .i64 0, .int .i64 0, .int .i64 0, .int .i64 0, .int .i64 0, .int .i64 0, .slice none 0 0, .slice none 0 0, .slice none 0 0, .slice none 0 0, .slice none 0 0, .slice none 0 0] 30))
          have HZIh := Lib.hid (infoEntC ent00 (.slice H1 i1 j1) (.slice H2 i2 j2) (.slice H3 i3 j3) (.slice H4 i4 j4) (.slice H5 i5 j5) (.slice H6 i6 j6))
          have HZAh := Lib.hid (entC_all ent00 H1 H2 H3 H4 H5 H6 i1 j1 i2 j2 i3 j3 i4 j4 i5 j5 i6 j6)
          have HZNh := Lib.hid (show (#[.int .i64 0, .int .i64 0, .int .i64 0, .int .i64 0, .int .i64 0, .int .i64 0, .int .i64 0, .int .i64 0, .int .i64 0, .int .i64 0, .slice none 0 0, .slice none 0 0, .slice none 0 0, .slice none 0 0, .slice none 0 0, .slice none 0 0] : Array Value).size = (entC ent00 (.slice H1 i1 j1) (.slice H2 i2 j2) (.slice H3 i3 j3) (.slice H4 i4 j4) (.slice H5 i5 j5) (.slice H6 i6 j6)).size from rfl)
          have HSAh := Lib.hid (setRow_alloc w15 #[.int .i64 0, .int .i64 0, .int .i64 0, .int .i64 0, .int .i64 0, .int .i64 0, .int .i64 0, .int .i64 0, .int .i64 0, .int .i64 0, .slice none 0 0, .slice none 0 0, .slice none 0 0, .slice none 0 0, .slice none 0 0, .slice none 0 0] (entC ent00 (.slice H1 i1 j1) (.slice H2 i2 j2) (.slice H3 i3 j3) (.slice H4 i4 j4) (.slice H5 i5 j5) (.slice H6 i6 j6)) 30)
          go_upto_region 16 with (with_reducible refine wpList_store_row rfl 30 (.tmp 16) (.tmp 77) rfl w15.heap.size _ rfl rfl 30 _ HBoh.out HZIh.out HZNh.out HZAh.out ?_)
          rw [HSAh.out]
          obtain ⟨w16, HWh, hxh, hbxh⟩ : ∃ W, Hid (w15.alloc (.cells (entC ent00 (.slice H1 i1 j1) (.slice H2 i2 j2) (.slice H3 i3 j3) (.slice H4 i4 j4) (.slice H5 i5 j5) (.slice H6 i6 j6)) 30) = W) ∧ W.heap[w15.heap.size]? = some (.cells (entC ent00 (.slice H1 i1 j1) (.slice H2 i2 j2) (.slice H3 i3 j3) (.slice H4 i4 j4) (.slice H5 i5 j5) (.slice H6 i6 j6)) 30 (0, 0)) ∧ Below w15.heap.size w15 W := ⟨_, Lib.hid rfl, heap_alloc_new w15 _, (Below.refl _ _).alloc (Nat.le_refl _) _⟩
          rw [HWh.out]
          clear HBoh HZAh HZNh HSAh HWh
          have HB16 := Lib.hid (below_on HB15.out hbxh)
          have HZ16 := Lib.hid (HZ15.out.on hbxh)
          have HX16 := Lib.hid (HX15.out.on hbxh)
          clear HB15 HZ15 HX15 hxh hbxh HZIh
          generalize w15.heap.size = gh at *
          have HSm := Lib.hid (same_any w16 e e HX16.out.s HZ16.out.s (entB_len HEB.out))
          rw [(sameE_iff e e).2 rfl] at HSm
          clear HOKo HOKn HEB HM hge hle hq
          go_wp2_with (first
            | ((with_reducible refine wpList_load_rowG ?_ 30 (.tmp 12) rfl gx rfl 30 _ (0, 0) _ HX16.out.bx Try.underlying30 rfl HZIx.out ?_); · rfl)
            | ((with_reducible refine wpList_load_rowG ?_ 30 (.tmp 4) rfl w.heap.size rfl 30 _ (0, 0) _ HZ16.out.bx Try.underlying30 rfl HZI.out ?_); · rfl))
          refine HSm.out.mono ?_
          rintro r w17 ⟨rfl, hb17⟩
          have HB17 := Lib.hid (below_on HB16.out hb17)
          clear HSm hb17 HB16 HZ16 HX16
          go_wp2
          go_ret
          exact ⟨rfl, HB17.out⟩
end Go.Proofs.Ytkfebibnpincpaa.entryBack
