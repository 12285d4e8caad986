/- UndoWhole's walk. -/
import Derived.Test.YthcndifbegmbkaaUdWhP
namespace Go.Proofs.Ythcndifbegmbkaa.Ud
open Go.RowKit

/-- What region 12 reads. -/
structure S12 (w : World) (gc : Nat) (l : List Int) (k b5 o5 : Nat) (x : Int) (W : World) : Prop where
  cc : W.heap[gc]? = some (.cells (cV (cst l k)) 37 (0, 0))
  low : Below w.heap.size w W
  b : w.cell? ⟨b5, o5 + k, none⟩ = some (.int .u8 x) ∧ b5 < w.heap.size
theorem S12.on {w W W' : World} {gc : Nat} {l : List Int} {k b5 o5 : Nat} {x : Int} (h : S12 w gc l k b5 o5 x W) (hb : Below W.heap.size W W') : S12 w gc l k b5 o5 x W' :=
  ⟨(hb.block _ (Array.getElem?_eq_some_iff.1 h.cc).1).trans h.cc, h.low.trans (hb.mono h.low.size), h.b⟩
theorem S12.cell {w W : World} {gc : Nat} {l : List Int} {k b5 o5 : Nat} {x : Int} (h : S12 w gc l k b5 o5 x W) {j : Nat} (hj : j < 4) : W.cell? ⟨gc, j, none⟩ = some (.string (bstr (cst l k j))) := ((cell_of h.cc j).1).trans (cV_at _ hj)
theorem S12.byte {w W : World} {gc : Nat} {l : List Int} {k b5 o5 : Nat} {x : Int} (h : S12 w gc l k b5 o5 x W) : W.cell? ⟨b5, o5 + k, none⟩ = some (.int .u8 x) := (World.cell?_of_block (h.low.block b5 h.b.2)).trans h.b.1

set_option maxRecDepth 100000 in
set_option maxHeartbeats 8000000 in
theorem undoWhole_any (w : World) {sl ss : Value} (l st : List Int) (hl : SlK .u8 w sl l) (hs : SlK .u8 w ss st) : Calls Try.prog 4 #[sl, ss] w fun r w' => r = .returned (.bool true) ∧ Below w.heap.size w w' := by
  obtain ⟨A0, c0, rfl, -⟩ := hl.form
  obtain ⟨A1, c1, rfl, -⟩ := hs.form
  have HL := Lib.hid hl
  have HST := Lib.hid hs
  have HOK := Lib.hid hl.ok
  have HOS := Lib.hid hs.ok
  clear hl hs
  go_enter Try.func4, Try.ntmps4
  go_wp2_with fail
  refine (begun17 w).mono ?_
  rintro r w1 ⟨rfl, hb1⟩
  have HB1 := Lib.hid hb1
  clear hb1
  by_cases g1 : 10 < l.length
  · have g2 : (10 : Int) < (l.length : Int) := by omega
    clear g1
    go_wp2
    go_ret
    exact ⟨rfl, HB1.out⟩
  have g2 : ¬ (10 : Int) < (l.length : Int) := by omega
  by_cases g3 : 10 < st.length
  · have g4 : (10 : Int) < (st.length : Int) := by omega
    clear g1 g3
    go_wp2
    go_ret
    exact ⟨rfl, HB1.out⟩
  have g4 : ¬ (10 : Int) < (st.length : Int) := by omega
  have HLn := Lib.hid (show l.length ≤ 10 by omega)
  have HSn := Lib.hid (show st.length ≤ 10 by omega)
  clear g1 g3
  go_upto_region 6 with fail
  clear g2 g4
  show Code.wp _ _ _ _ (w1.alloc (.cells z4 37))
  have HF : Hid (Fw l w (w1.alloc (.cells z4 37)) w1.heap.size (.slice none 0 0) 0) := ⟨[], ⟨HB1.out.trans (((Below.refl _ _).alloc (Nat.le_refl _) _).mono HB1.out.size), HB1.out.size, heap_alloc_new w1 _, ⟨rfl, .inl ⟨rfl, rfl⟩⟩, fun x hx => by cases hx⟩, rfl, fun j hj => by cases hj⟩
  generalize w1.alloc (.cells z4 37) = w2 at *
  generalize w1.heap.size = gc at *
  clear HB1
  go_upto_region 9 with fail
  go_loopw [6, 7, 8] (fun nv last i wr => ∃ (k : Nat) (A : Option Addr) (q : Nat), k ≤ l.length ∧ nv = .slice A k q ∧ last = .int .i64 (k : Int) ∧ i = .int .i64 (k : Int) ∧ Hid (Fw l w wr gc (.slice A k q) k)) (fun _ _ i _ => l.length - (RowKit.intOf i).toNat)
  case atStart => exact ⟨0, none, 0, Nat.zero_le _, rfl, rfl, rfl, HF⟩
  case round =>
    obtain ⟨k, A, q, hk, rfl, rfl, rfl, HR⟩ := hrel
    clear HF
    by_cases hlt : k < l.length
    · have hlti : (k : Int) < (l.length : Int) := by omega
      have i1 : (0 : Int) ≤ (k : Int) := by omega
      obtain ⟨x, hxe⟩ : ∃ x, x = l[k] := ⟨_, rfl⟩
      have hx : 0 ≤ x ∧ x < 256 := by rw [hxe]; exact HOK.out _ (List.getElem_mem hlt)
      have HX := Lib.hid hx
      have hgd : l.getD k 0 = x := by rw [hxe, List.getD_eq_getElem?_getD, List.getElem?_eq_getElem hlt]; rfl
      have HGD := Lib.hid hgd
      obtain ⟨ns, hw, hnl, hse⟩ := HR.out
      clear HR
      have HW := Lib.hid hw
      have HNL := Lib.hid hnl
      have HSE := Lib.hid hse
      obtain ⟨b5, o5, c5, hA, -, -, hc⟩ := HL.out.pt (fun e => by rw [e] at hlt; cases hlt)
      injection hA with hA1 hA2 hA3
      subst hA1 hA3
      have HLc : Hid (w.cell? ⟨b5, o5 + k, none⟩ = some (.int .u8 x) ∧ b5 < w.heap.size) := ⟨by rw [hxe]; exact hc k hlt, block_lt_of_cell (hc k hlt)⟩
      have y0 : wr.cell? ⟨b5, o5 + k, none⟩ = some (.int .u8 x) := (World.cell?_of_block (hw.low.block b5 HLc.out.2)).trans HLc.out.1
      have hkk : (kk l k : Int) = x % 4 := by unfold kk; rw [hgd]; omega
      have t1 : x.tmod 4 = (kk l k : Int) := by rw [hkk]; exact Int.tmod_eq_emod_of_nonneg hx.1
      have t2 : IntKind.u8.wrap (kk l k : Int) = (kk l k : Int) := IntWalk.u8_in _ (by omega)
      have t3 : IntKind.i64.wrap (kk l k : Int) = (kk l k : Int) := IntWalk.i64_in _ (by omega)
      have k1 : (0 : Int) ≤ (kk l k : Int) := by omega
      have k2 : (kk l k : Int) < 4 := by omega
      have hwr : IntKind.i64.wrap ((k : Int) + 1) = (k : Int) + 1 := IntWalk.i64_in _ (by have := HLn.out; omega)
      have HKK := Lib.hid hkk
      have HWR := Lib.hid hwr
      clear hx hgd hw hnl hse hc hA2 hkk hxe hwr
      go_upto_region 12 with fail
      clear t1 t2 t3 y0
      go_cut [10] (fun v wx => Hid (∃ gE A6 q6 A11 q11, v = .pointer (some ⟨gE, 0, none⟩) ∧ wx.heap[gE]? = some (.cells (ntC (setE l k, (A6, q6), (A11, q11))) 30 (0, 0)) ∧ SlU wx (.slice A6 (cst l k (kk l k)).length q6) (cst l k (kk l k)) ∧ SlU wx (.slice A11 1 q11) [x] ∧ Below wr.heap.size wr wx ∧ wr.heap.size ≤ gE))
      case first =>
        refine wp_region_F (fun (_ : Unit) W => S12 w gc l k b5 o5 x W) (fun _ j => Nat.beq j 14) (by kernel_rfl) ?_
        have HSD : Hid (S12 w gc l k b5 o5 x wr.drew) := ⟨(HW.out.on (Below.refl _ _).drew).cc, (HW.out.low.drew), HLc.out⟩
        have HBd : Hid (Below wr.heap.size wr wr.drew) := (Below.refl _ _).drew
        generalize wr.drew = X0 at *
        refine wpAnyF_take0 (i := 0) (oi := ⟨_, _, _, _, _, _⟩) (v := ?_) rfl (by kernel_rfl) (by kernel_rfl) (by kernel_rfl) (fun _ _ _ h => h) (Or.inl ⟨by rfl, ?_⟩) ?_
        rotate_left
        · intro W _
          go_simp
          try with_reducible rfl
        rotate_left
        try simp only [Act.put, List.setIfInBounds_toArray, List.set_cons_zero, List.set_cons_succ]
        refine wpAnyF_take0 (i := 1) (oi := ⟨_, _, _, _, _, _⟩) (v := ?_) rfl (by kernel_rfl) (by kernel_rfl) (by kernel_rfl) (fun _ _ _ h => h) (Or.inl ⟨by rfl, ?_⟩) ?_
        rotate_left
        · intro W _
          go_simp
          try with_reducible rfl
        rotate_left
        try simp only [Act.put, List.setIfInBounds_toArray, List.set_cons_zero, List.set_cons_succ]
        refine wpAnyF_take0 (i := 2) (oi := ⟨_, _, _, _, _, _⟩) (v := .agg #[.int .i64 0, .int .i64 (kk l k : Int)]) rfl (by kernel_rfl) (by kernel_rfl) (by kernel_rfl) (fun _ _ _ h => h) (Or.inl ⟨by rfl, fun W _ => ?_⟩) ?_
        · go_simp
        try simp only [Act.put, List.setIfInBounds_toArray, List.set_cons_zero, List.set_cons_succ]
        refine wpAnyF_take0 (i := 3) (oi := ⟨_, _, _, _, _, _⟩) (v := ?_) rfl (by kernel_rfl) (by kernel_rfl) (by kernel_rfl) (fun _ _ _ h => h) (Or.inl ⟨by rfl, ?_⟩) ?_
        rotate_left
        · intro W _
          go_simp
          try with_reducible rfl
        rotate_left
        try simp only [Act.put, List.setIfInBounds_toArray, List.set_cons_zero, List.set_cons_succ]
        refine wpAnyF_take0 (i := 4) (oi := ⟨_, _, _, _, _, _⟩) (v := .pointer (some ⟨gc, kk l k, none⟩)) rfl (by kernel_rfl) (by kernel_rfl) (by kernel_rfl) (fun _ _ _ h => h) (Or.inl ⟨by rfl, fun W _ => ?_⟩) ?_
        · go_simp
        try simp only [Act.put, List.setIfInBounds_toArray, List.set_cons_zero, List.set_cons_succ]
        refine wpAnyF_take () (i := 5) (oi := ⟨_, _, _, _, _, _⟩) (v := .string (bstr (cst l k (kk l k)))) rfl (by kernel_rfl) (by kernel_rfl) (by kernel_rfl) (by kernel_rfl) (fun _ _ _ h => h) HSD.out (Or.inl ⟨by rfl, fun W hSW => ?_⟩) ?_
        · have z := S12.cell hSW (kk_lt l k)
          go_simp
        try simp only [Act.put, List.setIfInBounds_toArray, List.set_cons_zero, List.set_cons_succ]
        refine wpAnyF_take0 (i := 7) (oi := ⟨_, _, _, _, _, _⟩) (v := ?_) rfl (by kernel_rfl) (by kernel_rfl) (by kernel_rfl) (fun _ _ _ h => h) (Or.inl ⟨by rfl, ?_⟩) ?_
        rotate_left
        · intro W _
          go_simp
          try with_reducible rfl
        rotate_left
        try simp only [Act.put, List.setIfInBounds_toArray, List.set_cons_zero, List.set_cons_succ]
        refine wpAnyF_take0 (i := 8) (oi := ⟨_, _, _, _, _, _⟩) (v := ?_) rfl (by kernel_rfl) (by kernel_rfl) (by kernel_rfl) (fun _ _ _ h => h) (Or.inl ⟨by rfl, ?_⟩) ?_
        rotate_left
        · intro W _
          go_simp
          try with_reducible rfl
        rotate_left
        try simp only [Act.put, List.setIfInBounds_toArray, List.set_cons_zero, List.set_cons_succ]
        refine wpAnyF_take0 (i := 9) (oi := ⟨_, _, _, _, _, _⟩) (v := .pointer (some ⟨b5, o5 + k, none⟩)) rfl (by kernel_rfl) (by kernel_rfl) (by kernel_rfl) (fun _ _ _ h => h) (Or.inl ⟨by rfl, fun W _ => ?_⟩) ?_
        · go_simp
        try simp only [Act.put, List.setIfInBounds_toArray, List.set_cons_zero, List.set_cons_succ]
        refine wpAnyF_take () (i := 10) (oi := ⟨_, _, _, _, _, _⟩) (v := .int .u8 x) rfl (by kernel_rfl) (by kernel_rfl) (by kernel_rfl) (by kernel_rfl) (fun _ _ _ h => h) HSD.out (Or.inl ⟨by rfl, fun W hSW => ?_⟩) ?_
        · have z := S12.byte hSW
          go_simp
        try simp only [Act.put, List.setIfInBounds_toArray, List.set_cons_zero, List.set_cons_succ]
        refine wpAnyF_ready (rs := [6, 11, 13]) (by kernel_rfl) (by simp) ?_
        refine AllReadyF.cons (o := ⟨_, _, _, _, _, _⟩) rfl (fun K hK => ?_) ?_
        · rw [if_pos (by rfl)]
          obtain ⟨q6, X1, hr, hs, hb⟩ := conv_new X0 (cst_ok HOK.out k (kk l k))
          go_simp
          obtain ⟨h6, hh6⟩ : ∃ h, h = X0.heap.size := ⟨_, rfl⟩
          rw [← hh6] at hs ⊢
          have C6 := Lib.hid hs
          clear hr hs hh6
          replace HSD : Hid (S12 w gc l k b5 o5 x X1) := S12.on HSD.out hb
          replace HBd := Lib.hid (HBd.out.trans (hb.mono HBd.out.size))
          clear hb
          refine hK _ _ (fun _ _ _ => HSD.out) ?_
          clear hK K
          try simp only [Act.put, List.setIfInBounds_toArray, List.set_cons_zero, List.set_cons_succ]
          refine wpAnyF_ready (rs := [11, 13]) (by kernel_rfl) (by simp) ?_
          refine AllReadyF.cons (o := ⟨_, _, _, _, _, _⟩) rfl (fun K hK => ?_) ?_
          · rw [if_pos (by rfl)]
            go_simp
            have hb : Below X1.heap.size X1 (X1.alloc (.cells #[.int .u8 x] 5)) := (Below.refl _ _).alloc (Nat.le_refl _) _
            have C11 := Lib.hid (one_new X1 HX.out)
            obtain ⟨h11, hh11⟩ : ∃ h, h = X1.heap.size := ⟨_, rfl⟩
            rw [← hh11] at C11 ⊢
            generalize X1.alloc (.cells #[.int .u8 x] 5) = X2 at *
            clear hh11
            replace C6 := Lib.hid (C6.out.on hb)
            replace HSD : Hid (S12 w gc l k b5 o5 x X2) := S12.on HSD.out hb
            replace HBd := Lib.hid (HBd.out.trans (hb.mono HBd.out.size))
            clear hb
            refine hK _ _ (fun _ _ _ => HSD.out) ?_
            clear hK K
            try simp only [Act.put, List.setIfInBounds_toArray, List.set_cons_zero, List.set_cons_succ]
            refine wpAnyF_take0 (i := 12) (oi := ⟨_, _, _, _, _, _⟩) (v := .agg (ntC (setE l k, (some ⟨h6, 0, none⟩, q6), (some ⟨h11, 0, none⟩, 1)))) rfl (by kernel_rfl) (by kernel_rfl) (by kernel_rfl) (fun _ _ _ h => h) (Or.inl ⟨by rfl, fun W _ => ?_⟩) ?_
            · go_simp
              rfl
            try simp only [Act.put, List.setIfInBounds_toArray, List.set_cons_zero, List.set_cons_succ]
            refine wpAnyF_ready (rs := [13]) (by kernel_rfl) (by simp) ?_
            refine AllReadyF.cons (o := ⟨_, _, _, _, _, _⟩) rfl (fun K hK => ?_) ?_
            · rw [if_pos (by rfl)]
              go_simp
              show K _ (X2.alloc (.cells zE 30))
              have hb : Below X2.heap.size X2 (X2.alloc (.cells zE 30)) := (Below.refl _ _).alloc (Nat.le_refl _) _
              have C13 := Lib.hid (heap_alloc_new X2 (.cells zE 30))
              obtain ⟨g13, hg13⟩ : ∃ h, h = X2.heap.size := ⟨_, rfl⟩
              rw [← hg13] at C13 ⊢
              have G13 : Hid (wr.heap.size ≤ g13) := by rw [hg13]; exact HBd.out.size
              generalize X2.alloc (.cells zE 30) = X3 at *
              clear hg13
              replace C11 := Lib.hid (C11.out.on hb)
              replace C6 := Lib.hid (C6.out.on hb)
              replace HSD : Hid (S12 w gc l k b5 o5 x X3) := S12.on HSD.out hb
              replace HBd := Lib.hid (HBd.out.trans (hb.mono HBd.out.size))
              clear hb
              refine hK _ _ (fun _ _ _ => HSD.out) ?_
              clear hK K
              try simp only [Act.put, List.setIfInBounds_toArray, List.set_cons_zero, List.set_cons_succ]
              have HI := Lib.hid (show (Try.prog.info? 30).map (·.size) = some (ntC (setE l k, (some ⟨h6, 0, none⟩, q6), (some ⟨h11, 0, none⟩, 1))).size from infoEnt)
              have HN := Lib.hid (show zE.size = (ntC (setE l k, (some ⟨h6, 0, none⟩, q6), (some ⟨h11, 0, none⟩, 1))).size from rfl)
              have HA := Lib.hid (ntC_all (setE l k, (some ⟨h6, 0, none⟩, q6), (some ⟨h11, 0, none⟩, 1)))
              have HS := Lib.hid (setRow_heap X3 g13 zE (ntC (setE l k, (some ⟨h6, 0, none⟩, q6), (some ⟨h11, 0, none⟩, 1))) _ _ C13.out)
              have HB : Hid (Below wr.heap.size wr (X3.setRow g13 (ntC (setE l k, (some ⟨h6, 0, none⟩, q6), (some ⟨h11, 0, none⟩, 1))))) := HBd.out.trans (setRow_below _ _ _ G13.out)
              have F6 : Hid (SlU (X3.setRow g13 (ntC (setE l k, (some ⟨h6, 0, none⟩, q6), (some ⟨h11, 0, none⟩, 1)))) (.slice (some ⟨h6, 0, none⟩) (cst l k (kk l k)).length q6) (cst l k (kk l k))) := C6.out.keep (by rw [setRow_size]; exact Nat.le_refl _) (fun b cs fr hc => setRow_far _ _ _ (ty_ne hc C13.out (by decide)))
              have F11 : Hid (SlU (X3.setRow g13 (ntC (setE l k, (some ⟨h6, 0, none⟩, q6), (some ⟨h11, 0, none⟩, 1)))) (.slice (some ⟨h11, 0, none⟩) 1 1) [x]) := C11.out.keep (by rw [setRow_size]; exact Nat.le_refl _) (fun b cs fr hc => setRow_far _ _ _ (ty_ne hc C13.out (by decide)))
              refine wpAnyF_ready (rs := [14]) (by kernel_rfl) (by simp) ?_
              refine AllReadyF.cons (o := ⟨_, _, _, _, _, _⟩) rfl (fun K hK => ?_) AllReadyF.nil
              rw [if_pos (by rfl)]
              with_reducible refine wp_store_row 30 (.tmp 10) (.tmp 53) rfl g13 _ rfl rfl 30 _ C13.out HI.out HN.out HA.out ?_
              refine hK _ _ (fun _ h => by cases h) ?_
              clear hK K
              simp only [Act.put]
              refine wpAnyF_done (by kernel_rfl) ?_ _
              go_wp2
              go_meet
              exact ⟨g13, some ⟨h6, 0, none⟩, q6, some ⟨h11, 0, none⟩, 1, rfl, HS.out, F6.out, F11.out, HB.out, G13.out⟩
            exact AllReadyF.nil
          refine AllReadyF.cons (o := ⟨_, _, _, _, _, _⟩) rfl (fun K hK => ?_) ?_
          · rw [if_pos (by rfl)]
            go_simp
            show K _ (X1.alloc (.cells zE 30))
            have hb : Below X1.heap.size X1 (X1.alloc (.cells zE 30)) := (Below.refl _ _).alloc (Nat.le_refl _) _
            have C13 := Lib.hid (heap_alloc_new X1 (.cells zE 30))
            obtain ⟨g13, hg13⟩ : ∃ h, h = X1.heap.size := ⟨_, rfl⟩
            rw [← hg13] at C13 ⊢
            have G13 : Hid (wr.heap.size ≤ g13) := by rw [hg13]; exact HBd.out.size
            generalize X1.alloc (.cells zE 30) = X2 at *
            clear hg13
            replace C6 := Lib.hid (C6.out.on hb)
            replace HSD : Hid (S12 w gc l k b5 o5 x X2) := S12.on HSD.out hb
            replace HBd := Lib.hid (HBd.out.trans (hb.mono HBd.out.size))
            clear hb
            refine hK _ _ (fun _ _ _ => HSD.out) ?_
            clear hK K
            try simp only [Act.put, List.setIfInBounds_toArray, List.set_cons_zero, List.set_cons_succ]
            refine wpAnyF_ready (rs := [11]) (by kernel_rfl) (by simp) ?_
            refine AllReadyF.cons (o := ⟨_, _, _, _, _, _⟩) rfl (fun K hK => ?_) ?_
            · rw [if_pos (by rfl)]
              go_simp
              have hb : Below X2.heap.size X2 (X2.alloc (.cells #[.int .u8 x] 5)) := (Below.refl _ _).alloc (Nat.le_refl _) _
              have C11 := Lib.hid (one_new X2 HX.out)
              obtain ⟨h11, hh11⟩ : ∃ h, h = X2.heap.size := ⟨_, rfl⟩
              rw [← hh11] at C11 ⊢
              generalize X2.alloc (.cells #[.int .u8 x] 5) = X3 at *
              clear hh11
              replace C13 := Lib.hid ((hb.block _ (Array.getElem?_eq_some_iff.1 C13.out).1).trans C13.out)
              replace C6 := Lib.hid (C6.out.on hb)
              replace HSD : Hid (S12 w gc l k b5 o5 x X3) := S12.on HSD.out hb
              replace HBd := Lib.hid (HBd.out.trans (hb.mono HBd.out.size))
              clear hb
              refine hK _ _ (fun _ _ _ => HSD.out) ?_
              clear hK K
              try simp only [Act.put, List.setIfInBounds_toArray, List.set_cons_zero, List.set_cons_succ]
              refine wpAnyF_take0 (i := 12) (oi := ⟨_, _, _, _, _, _⟩) (v := .agg (ntC (setE l k, (some ⟨h6, 0, none⟩, q6), (some ⟨h11, 0, none⟩, 1)))) rfl (by kernel_rfl) (by kernel_rfl) (by kernel_rfl) (fun _ _ _ h => h) (Or.inl ⟨by rfl, fun W _ => ?_⟩) ?_
              · go_simp
                rfl
              try simp only [Act.put, List.setIfInBounds_toArray, List.set_cons_zero, List.set_cons_succ]
              have HI := Lib.hid (show (Try.prog.info? 30).map (·.size) = some (ntC (setE l k, (some ⟨h6, 0, none⟩, q6), (some ⟨h11, 0, none⟩, 1))).size from infoEnt)
              have HN := Lib.hid (show zE.size = (ntC (setE l k, (some ⟨h6, 0, none⟩, q6), (some ⟨h11, 0, none⟩, 1))).size from rfl)
              have HA := Lib.hid (ntC_all (setE l k, (some ⟨h6, 0, none⟩, q6), (some ⟨h11, 0, none⟩, 1)))
              have HS := Lib.hid (setRow_heap X3 g13 zE (ntC (setE l k, (some ⟨h6, 0, none⟩, q6), (some ⟨h11, 0, none⟩, 1))) _ _ C13.out)
              have HB : Hid (Below wr.heap.size wr (X3.setRow g13 (ntC (setE l k, (some ⟨h6, 0, none⟩, q6), (some ⟨h11, 0, none⟩, 1))))) := HBd.out.trans (setRow_below _ _ _ G13.out)
              have F6 : Hid (SlU (X3.setRow g13 (ntC (setE l k, (some ⟨h6, 0, none⟩, q6), (some ⟨h11, 0, none⟩, 1)))) (.slice (some ⟨h6, 0, none⟩) (cst l k (kk l k)).length q6) (cst l k (kk l k))) := C6.out.keep (by rw [setRow_size]; exact Nat.le_refl _) (fun b cs fr hc => setRow_far _ _ _ (ty_ne hc C13.out (by decide)))
              have F11 : Hid (SlU (X3.setRow g13 (ntC (setE l k, (some ⟨h6, 0, none⟩, q6), (some ⟨h11, 0, none⟩, 1)))) (.slice (some ⟨h11, 0, none⟩) 1 1) [x]) := C11.out.keep (by rw [setRow_size]; exact Nat.le_refl _) (fun b cs fr hc => setRow_far _ _ _ (ty_ne hc C13.out (by decide)))
              refine wpAnyF_ready (rs := [14]) (by kernel_rfl) (by simp) ?_
              refine AllReadyF.cons (o := ⟨_, _, _, _, _, _⟩) rfl (fun K hK => ?_) AllReadyF.nil
              rw [if_pos (by rfl)]
              with_reducible refine wp_store_row 30 (.tmp 10) (.tmp 53) rfl g13 _ rfl rfl 30 _ C13.out HI.out HN.out HA.out ?_
              refine hK _ _ (fun _ h => by cases h) ?_
              clear hK K
              simp only [Act.put]
              refine wpAnyF_done (by kernel_rfl) ?_ _
              go_wp2
              go_meet
              exact ⟨g13, some ⟨h6, 0, none⟩, q6, some ⟨h11, 0, none⟩, 1, rfl, HS.out, F6.out, F11.out, HB.out, G13.out⟩
            exact AllReadyF.nil
          exact AllReadyF.nil
        refine AllReadyF.cons (o := ⟨_, _, _, _, _, _⟩) rfl (fun K hK => ?_) ?_
        · rw [if_pos (by rfl)]
          go_simp
          have hb : Below X0.heap.size X0 (X0.alloc (.cells #[.int .u8 x] 5)) := (Below.refl _ _).alloc (Nat.le_refl _) _
          have C11 := Lib.hid (one_new X0 HX.out)
          obtain ⟨h11, hh11⟩ : ∃ h, h = X0.heap.size := ⟨_, rfl⟩
          rw [← hh11] at C11 ⊢
          generalize X0.alloc (.cells #[.int .u8 x] 5) = X1 at *
          clear hh11
          replace HSD : Hid (S12 w gc l k b5 o5 x X1) := S12.on HSD.out hb
          replace HBd := Lib.hid (HBd.out.trans (hb.mono HBd.out.size))
          clear hb
          refine hK _ _ (fun _ _ _ => HSD.out) ?_
          clear hK K
          try simp only [Act.put, List.setIfInBounds_toArray, List.set_cons_zero, List.set_cons_succ]
          refine wpAnyF_ready (rs := [6, 13]) (by kernel_rfl) (by simp) ?_
          refine AllReadyF.cons (o := ⟨_, _, _, _, _, _⟩) rfl (fun K hK => ?_) ?_
          · rw [if_pos (by rfl)]
            obtain ⟨q6, X2, hr, hs, hb⟩ := conv_new X1 (cst_ok HOK.out k (kk l k))
            go_simp
            obtain ⟨h6, hh6⟩ : ∃ h, h = X1.heap.size := ⟨_, rfl⟩
            rw [← hh6] at hs ⊢
            have C6 := Lib.hid hs
            clear hr hs hh6
            replace C11 := Lib.hid (C11.out.on hb)
            replace HSD : Hid (S12 w gc l k b5 o5 x X2) := S12.on HSD.out hb
            replace HBd := Lib.hid (HBd.out.trans (hb.mono HBd.out.size))
            clear hb
            refine hK _ _ (fun _ _ _ => HSD.out) ?_
            clear hK K
            try simp only [Act.put, List.setIfInBounds_toArray, List.set_cons_zero, List.set_cons_succ]
            refine wpAnyF_take0 (i := 12) (oi := ⟨_, _, _, _, _, _⟩) (v := .agg (ntC (setE l k, (some ⟨h6, 0, none⟩, q6), (some ⟨h11, 0, none⟩, 1)))) rfl (by kernel_rfl) (by kernel_rfl) (by kernel_rfl) (fun _ _ _ h => h) (Or.inl ⟨by rfl, fun W _ => ?_⟩) ?_
            · go_simp
              rfl
            try simp only [Act.put, List.setIfInBounds_toArray, List.set_cons_zero, List.set_cons_succ]
            refine wpAnyF_ready (rs := [13]) (by kernel_rfl) (by simp) ?_
            refine AllReadyF.cons (o := ⟨_, _, _, _, _, _⟩) rfl (fun K hK => ?_) ?_
            · rw [if_pos (by rfl)]
              go_simp
              show K _ (X2.alloc (.cells zE 30))
              have hb : Below X2.heap.size X2 (X2.alloc (.cells zE 30)) := (Below.refl _ _).alloc (Nat.le_refl _) _
              have C13 := Lib.hid (heap_alloc_new X2 (.cells zE 30))
              obtain ⟨g13, hg13⟩ : ∃ h, h = X2.heap.size := ⟨_, rfl⟩
              rw [← hg13] at C13 ⊢
              have G13 : Hid (wr.heap.size ≤ g13) := by rw [hg13]; exact HBd.out.size
              generalize X2.alloc (.cells zE 30) = X3 at *
              clear hg13
              replace C11 := Lib.hid (C11.out.on hb)
              replace C6 := Lib.hid (C6.out.on hb)
              replace HSD : Hid (S12 w gc l k b5 o5 x X3) := S12.on HSD.out hb
              replace HBd := Lib.hid (HBd.out.trans (hb.mono HBd.out.size))
              clear hb
              refine hK _ _ (fun _ _ _ => HSD.out) ?_
              clear hK K
              try simp only [Act.put, List.setIfInBounds_toArray, List.set_cons_zero, List.set_cons_succ]
              have HI := Lib.hid (show (Try.prog.info? 30).map (·.size) = some (ntC (setE l k, (some ⟨h6, 0, none⟩, q6), (some ⟨h11, 0, none⟩, 1))).size from infoEnt)
              have HN := Lib.hid (show zE.size = (ntC (setE l k, (some ⟨h6, 0, none⟩, q6), (some ⟨h11, 0, none⟩, 1))).size from rfl)
              have HA := Lib.hid (ntC_all (setE l k, (some ⟨h6, 0, none⟩, q6), (some ⟨h11, 0, none⟩, 1)))
              have HS := Lib.hid (setRow_heap X3 g13 zE (ntC (setE l k, (some ⟨h6, 0, none⟩, q6), (some ⟨h11, 0, none⟩, 1))) _ _ C13.out)
              have HB : Hid (Below wr.heap.size wr (X3.setRow g13 (ntC (setE l k, (some ⟨h6, 0, none⟩, q6), (some ⟨h11, 0, none⟩, 1))))) := HBd.out.trans (setRow_below _ _ _ G13.out)
              have F6 : Hid (SlU (X3.setRow g13 (ntC (setE l k, (some ⟨h6, 0, none⟩, q6), (some ⟨h11, 0, none⟩, 1)))) (.slice (some ⟨h6, 0, none⟩) (cst l k (kk l k)).length q6) (cst l k (kk l k))) := C6.out.keep (by rw [setRow_size]; exact Nat.le_refl _) (fun b cs fr hc => setRow_far _ _ _ (ty_ne hc C13.out (by decide)))
              have F11 : Hid (SlU (X3.setRow g13 (ntC (setE l k, (some ⟨h6, 0, none⟩, q6), (some ⟨h11, 0, none⟩, 1)))) (.slice (some ⟨h11, 0, none⟩) 1 1) [x]) := C11.out.keep (by rw [setRow_size]; exact Nat.le_refl _) (fun b cs fr hc => setRow_far _ _ _ (ty_ne hc C13.out (by decide)))
              refine wpAnyF_ready (rs := [14]) (by kernel_rfl) (by simp) ?_
              refine AllReadyF.cons (o := ⟨_, _, _, _, _, _⟩) rfl (fun K hK => ?_) AllReadyF.nil
              rw [if_pos (by rfl)]
              with_reducible refine wp_store_row 30 (.tmp 10) (.tmp 53) rfl g13 _ rfl rfl 30 _ C13.out HI.out HN.out HA.out ?_
              refine hK _ _ (fun _ h => by cases h) ?_
              clear hK K
              simp only [Act.put]
              refine wpAnyF_done (by kernel_rfl) ?_ _
              go_wp2
              go_meet
              exact ⟨g13, some ⟨h6, 0, none⟩, q6, some ⟨h11, 0, none⟩, 1, rfl, HS.out, F6.out, F11.out, HB.out, G13.out⟩
            exact AllReadyF.nil
          refine AllReadyF.cons (o := ⟨_, _, _, _, _, _⟩) rfl (fun K hK => ?_) ?_
          · rw [if_pos (by rfl)]
            go_simp
            show K _ (X1.alloc (.cells zE 30))
            have hb : Below X1.heap.size X1 (X1.alloc (.cells zE 30)) := (Below.refl _ _).alloc (Nat.le_refl _) _
            have C13 := Lib.hid (heap_alloc_new X1 (.cells zE 30))
            obtain ⟨g13, hg13⟩ : ∃ h, h = X1.heap.size := ⟨_, rfl⟩
            rw [← hg13] at C13 ⊢
            have G13 : Hid (wr.heap.size ≤ g13) := by rw [hg13]; exact HBd.out.size
            generalize X1.alloc (.cells zE 30) = X2 at *
            clear hg13
            replace C11 := Lib.hid (C11.out.on hb)
            replace HSD : Hid (S12 w gc l k b5 o5 x X2) := S12.on HSD.out hb
            replace HBd := Lib.hid (HBd.out.trans (hb.mono HBd.out.size))
            clear hb
            refine hK _ _ (fun _ _ _ => HSD.out) ?_
            clear hK K
            try simp only [Act.put, List.setIfInBounds_toArray, List.set_cons_zero, List.set_cons_succ]
            refine wpAnyF_ready (rs := [6]) (by kernel_rfl) (by simp) ?_
            refine AllReadyF.cons (o := ⟨_, _, _, _, _, _⟩) rfl (fun K hK => ?_) ?_
            · rw [if_pos (by rfl)]
              obtain ⟨q6, X3, hr, hs, hb⟩ := conv_new X2 (cst_ok HOK.out k (kk l k))
              go_simp
              obtain ⟨h6, hh6⟩ : ∃ h, h = X2.heap.size := ⟨_, rfl⟩
              rw [← hh6] at hs ⊢
              have C6 := Lib.hid hs
              clear hr hs hh6
              replace C11 := Lib.hid (C11.out.on hb)
              replace C13 := Lib.hid ((hb.block _ (Array.getElem?_eq_some_iff.1 C13.out).1).trans C13.out)
              replace HSD : Hid (S12 w gc l k b5 o5 x X3) := S12.on HSD.out hb
              replace HBd := Lib.hid (HBd.out.trans (hb.mono HBd.out.size))
              clear hb
              refine hK _ _ (fun _ _ _ => HSD.out) ?_
              clear hK K
              try simp only [Act.put, List.setIfInBounds_toArray, List.set_cons_zero, List.set_cons_succ]
              refine wpAnyF_take0 (i := 12) (oi := ⟨_, _, _, _, _, _⟩) (v := .agg (ntC (setE l k, (some ⟨h6, 0, none⟩, q6), (some ⟨h11, 0, none⟩, 1)))) rfl (by kernel_rfl) (by kernel_rfl) (by kernel_rfl) (fun _ _ _ h => h) (Or.inl ⟨by rfl, fun W _ => ?_⟩) ?_
              · go_simp
                rfl
              try simp only [Act.put, List.setIfInBounds_toArray, List.set_cons_zero, List.set_cons_succ]
              have HI := Lib.hid (show (Try.prog.info? 30).map (·.size) = some (ntC (setE l k, (some ⟨h6, 0, none⟩, q6), (some ⟨h11, 0, none⟩, 1))).size from infoEnt)
              have HN := Lib.hid (show zE.size = (ntC (setE l k, (some ⟨h6, 0, none⟩, q6), (some ⟨h11, 0, none⟩, 1))).size from rfl)
              have HA := Lib.hid (ntC_all (setE l k, (some ⟨h6, 0, none⟩, q6), (some ⟨h11, 0, none⟩, 1)))
              have HS := Lib.hid (setRow_heap X3 g13 zE (ntC (setE l k, (some ⟨h6, 0, none⟩, q6), (some ⟨h11, 0, none⟩, 1))) _ _ C13.out)
              have HB : Hid (Below wr.heap.size wr (X3.setRow g13 (ntC (setE l k, (some ⟨h6, 0, none⟩, q6), (some ⟨h11, 0, none⟩, 1))))) := HBd.out.trans (setRow_below _ _ _ G13.out)
              have F6 : Hid (SlU (X3.setRow g13 (ntC (setE l k, (some ⟨h6, 0, none⟩, q6), (some ⟨h11, 0, none⟩, 1)))) (.slice (some ⟨h6, 0, none⟩) (cst l k (kk l k)).length q6) (cst l k (kk l k))) := C6.out.keep (by rw [setRow_size]; exact Nat.le_refl _) (fun b cs fr hc => setRow_far _ _ _ (ty_ne hc C13.out (by decide)))
              have F11 : Hid (SlU (X3.setRow g13 (ntC (setE l k, (some ⟨h6, 0, none⟩, q6), (some ⟨h11, 0, none⟩, 1)))) (.slice (some ⟨h11, 0, none⟩) 1 1) [x]) := C11.out.keep (by rw [setRow_size]; exact Nat.le_refl _) (fun b cs fr hc => setRow_far _ _ _ (ty_ne hc C13.out (by decide)))
              refine wpAnyF_ready (rs := [14]) (by kernel_rfl) (by simp) ?_
              refine AllReadyF.cons (o := ⟨_, _, _, _, _, _⟩) rfl (fun K hK => ?_) AllReadyF.nil
              rw [if_pos (by rfl)]
              with_reducible refine wp_store_row 30 (.tmp 10) (.tmp 53) rfl g13 _ rfl rfl 30 _ C13.out HI.out HN.out HA.out ?_
              refine hK _ _ (fun _ h => by cases h) ?_
              clear hK K
              simp only [Act.put]
              refine wpAnyF_done (by kernel_rfl) ?_ _
              go_wp2
              go_meet
              exact ⟨g13, some ⟨h6, 0, none⟩, q6, some ⟨h11, 0, none⟩, 1, rfl, HS.out, F6.out, F11.out, HB.out, G13.out⟩
            exact AllReadyF.nil
          exact AllReadyF.nil
        refine AllReadyF.cons (o := ⟨_, _, _, _, _, _⟩) rfl (fun K hK => ?_) ?_
        · rw [if_pos (by rfl)]
          go_simp
          show K _ (X0.alloc (.cells zE 30))
          have hb : Below X0.heap.size X0 (X0.alloc (.cells zE 30)) := (Below.refl _ _).alloc (Nat.le_refl _) _
          have C13 := Lib.hid (heap_alloc_new X0 (.cells zE 30))
          obtain ⟨g13, hg13⟩ : ∃ h, h = X0.heap.size := ⟨_, rfl⟩
          rw [← hg13] at C13 ⊢
          have G13 : Hid (wr.heap.size ≤ g13) := by rw [hg13]; exact HBd.out.size
          generalize X0.alloc (.cells zE 30) = X1 at *
          clear hg13
          replace HSD : Hid (S12 w gc l k b5 o5 x X1) := S12.on HSD.out hb
          replace HBd := Lib.hid (HBd.out.trans (hb.mono HBd.out.size))
          clear hb
          refine hK _ _ (fun _ _ _ => HSD.out) ?_
          clear hK K
          try simp only [Act.put, List.setIfInBounds_toArray, List.set_cons_zero, List.set_cons_succ]
          refine wpAnyF_ready (rs := [6, 11]) (by kernel_rfl) (by simp) ?_
          refine AllReadyF.cons (o := ⟨_, _, _, _, _, _⟩) rfl (fun K hK => ?_) ?_
          · rw [if_pos (by rfl)]
            obtain ⟨q6, X2, hr, hs, hb⟩ := conv_new X1 (cst_ok HOK.out k (kk l k))
            go_simp
            obtain ⟨h6, hh6⟩ : ∃ h, h = X1.heap.size := ⟨_, rfl⟩
            rw [← hh6] at hs ⊢
            have C6 := Lib.hid hs
            clear hr hs hh6
            replace C13 := Lib.hid ((hb.block _ (Array.getElem?_eq_some_iff.1 C13.out).1).trans C13.out)
            replace HSD : Hid (S12 w gc l k b5 o5 x X2) := S12.on HSD.out hb
            replace HBd := Lib.hid (HBd.out.trans (hb.mono HBd.out.size))
            clear hb
            refine hK _ _ (fun _ _ _ => HSD.out) ?_
            clear hK K
            try simp only [Act.put, List.setIfInBounds_toArray, List.set_cons_zero, List.set_cons_succ]
            refine wpAnyF_ready (rs := [11]) (by kernel_rfl) (by simp) ?_
            refine AllReadyF.cons (o := ⟨_, _, _, _, _, _⟩) rfl (fun K hK => ?_) ?_
            · rw [if_pos (by rfl)]
              go_simp
              have hb : Below X2.heap.size X2 (X2.alloc (.cells #[.int .u8 x] 5)) := (Below.refl _ _).alloc (Nat.le_refl _) _
              have C11 := Lib.hid (one_new X2 HX.out)
              obtain ⟨h11, hh11⟩ : ∃ h, h = X2.heap.size := ⟨_, rfl⟩
              rw [← hh11] at C11 ⊢
              generalize X2.alloc (.cells #[.int .u8 x] 5) = X3 at *
              clear hh11
              replace C13 := Lib.hid ((hb.block _ (Array.getElem?_eq_some_iff.1 C13.out).1).trans C13.out)
              replace C6 := Lib.hid (C6.out.on hb)
              replace HSD : Hid (S12 w gc l k b5 o5 x X3) := S12.on HSD.out hb
              replace HBd := Lib.hid (HBd.out.trans (hb.mono HBd.out.size))
              clear hb
              refine hK _ _ (fun _ _ _ => HSD.out) ?_
              clear hK K
              try simp only [Act.put, List.setIfInBounds_toArray, List.set_cons_zero, List.set_cons_succ]
              refine wpAnyF_take0 (i := 12) (oi := ⟨_, _, _, _, _, _⟩) (v := .agg (ntC (setE l k, (some ⟨h6, 0, none⟩, q6), (some ⟨h11, 0, none⟩, 1)))) rfl (by kernel_rfl) (by kernel_rfl) (by kernel_rfl) (fun _ _ _ h => h) (Or.inl ⟨by rfl, fun W _ => ?_⟩) ?_
              · go_simp
                rfl
              try simp only [Act.put, List.setIfInBounds_toArray, List.set_cons_zero, List.set_cons_succ]
              have HI := Lib.hid (show (Try.prog.info? 30).map (·.size) = some (ntC (setE l k, (some ⟨h6, 0, none⟩, q6), (some ⟨h11, 0, none⟩, 1))).size from infoEnt)
              have HN := Lib.hid (show zE.size = (ntC (setE l k, (some ⟨h6, 0, none⟩, q6), (some ⟨h11, 0, none⟩, 1))).size from rfl)
              have HA := Lib.hid (ntC_all (setE l k, (some ⟨h6, 0, none⟩, q6), (some ⟨h11, 0, none⟩, 1)))
              have HS := Lib.hid (setRow_heap X3 g13 zE (ntC (setE l k, (some ⟨h6, 0, none⟩, q6), (some ⟨h11, 0, none⟩, 1))) _ _ C13.out)
              have HB : Hid (Below wr.heap.size wr (X3.setRow g13 (ntC (setE l k, (some ⟨h6, 0, none⟩, q6), (some ⟨h11, 0, none⟩, 1))))) := HBd.out.trans (setRow_below _ _ _ G13.out)
              have F6 : Hid (SlU (X3.setRow g13 (ntC (setE l k, (some ⟨h6, 0, none⟩, q6), (some ⟨h11, 0, none⟩, 1)))) (.slice (some ⟨h6, 0, none⟩) (cst l k (kk l k)).length q6) (cst l k (kk l k))) := C6.out.keep (by rw [setRow_size]; exact Nat.le_refl _) (fun b cs fr hc => setRow_far _ _ _ (ty_ne hc C13.out (by decide)))
              have F11 : Hid (SlU (X3.setRow g13 (ntC (setE l k, (some ⟨h6, 0, none⟩, q6), (some ⟨h11, 0, none⟩, 1)))) (.slice (some ⟨h11, 0, none⟩) 1 1) [x]) := C11.out.keep (by rw [setRow_size]; exact Nat.le_refl _) (fun b cs fr hc => setRow_far _ _ _ (ty_ne hc C13.out (by decide)))
              refine wpAnyF_ready (rs := [14]) (by kernel_rfl) (by simp) ?_
              refine AllReadyF.cons (o := ⟨_, _, _, _, _, _⟩) rfl (fun K hK => ?_) AllReadyF.nil
              rw [if_pos (by rfl)]
              with_reducible refine wp_store_row 30 (.tmp 10) (.tmp 53) rfl g13 _ rfl rfl 30 _ C13.out HI.out HN.out HA.out ?_
              refine hK _ _ (fun _ h => by cases h) ?_
              clear hK K
              simp only [Act.put]
              refine wpAnyF_done (by kernel_rfl) ?_ _
              go_wp2
              go_meet
              exact ⟨g13, some ⟨h6, 0, none⟩, q6, some ⟨h11, 0, none⟩, 1, rfl, HS.out, F6.out, F11.out, HB.out, G13.out⟩
            exact AllReadyF.nil
          refine AllReadyF.cons (o := ⟨_, _, _, _, _, _⟩) rfl (fun K hK => ?_) ?_
          · rw [if_pos (by rfl)]
            go_simp
            have hb : Below X1.heap.size X1 (X1.alloc (.cells #[.int .u8 x] 5)) := (Below.refl _ _).alloc (Nat.le_refl _) _
            have C11 := Lib.hid (one_new X1 HX.out)
            obtain ⟨h11, hh11⟩ : ∃ h, h = X1.heap.size := ⟨_, rfl⟩
            rw [← hh11] at C11 ⊢
            generalize X1.alloc (.cells #[.int .u8 x] 5) = X2 at *
            clear hh11
            replace C13 := Lib.hid ((hb.block _ (Array.getElem?_eq_some_iff.1 C13.out).1).trans C13.out)
            replace HSD : Hid (S12 w gc l k b5 o5 x X2) := S12.on HSD.out hb
            replace HBd := Lib.hid (HBd.out.trans (hb.mono HBd.out.size))
            clear hb
            refine hK _ _ (fun _ _ _ => HSD.out) ?_
            clear hK K
            try simp only [Act.put, List.setIfInBounds_toArray, List.set_cons_zero, List.set_cons_succ]
            refine wpAnyF_ready (rs := [6]) (by kernel_rfl) (by simp) ?_
            refine AllReadyF.cons (o := ⟨_, _, _, _, _, _⟩) rfl (fun K hK => ?_) ?_
            · rw [if_pos (by rfl)]
              obtain ⟨q6, X3, hr, hs, hb⟩ := conv_new X2 (cst_ok HOK.out k (kk l k))
              go_simp
              obtain ⟨h6, hh6⟩ : ∃ h, h = X2.heap.size := ⟨_, rfl⟩
              rw [← hh6] at hs ⊢
              have C6 := Lib.hid hs
              clear hr hs hh6
              replace C11 := Lib.hid (C11.out.on hb)
              replace C13 := Lib.hid ((hb.block _ (Array.getElem?_eq_some_iff.1 C13.out).1).trans C13.out)
              replace HSD : Hid (S12 w gc l k b5 o5 x X3) := S12.on HSD.out hb
              replace HBd := Lib.hid (HBd.out.trans (hb.mono HBd.out.size))
              clear hb
              refine hK _ _ (fun _ _ _ => HSD.out) ?_
              clear hK K
              try simp only [Act.put, List.setIfInBounds_toArray, List.set_cons_zero, List.set_cons_succ]
              refine wpAnyF_take0 (i := 12) (oi := ⟨_, _, _, _, _, _⟩) (v := .agg (ntC (setE l k, (some ⟨h6, 0, none⟩, q6), (some ⟨h11, 0, none⟩, 1)))) rfl (by kernel_rfl) (by kernel_rfl) (by kernel_rfl) (fun _ _ _ h => h) (Or.inl ⟨by rfl, fun W _ => ?_⟩) ?_
              · go_simp
                rfl
              try simp only [Act.put, List.setIfInBounds_toArray, List.set_cons_zero, List.set_cons_succ]
              have HI := Lib.hid (show (Try.prog.info? 30).map (·.size) = some (ntC (setE l k, (some ⟨h6, 0, none⟩, q6), (some ⟨h11, 0, none⟩, 1))).size from infoEnt)
              have HN := Lib.hid (show zE.size = (ntC (setE l k, (some ⟨h6, 0, none⟩, q6), (some ⟨h11, 0, none⟩, 1))).size from rfl)
              have HA := Lib.hid (ntC_all (setE l k, (some ⟨h6, 0, none⟩, q6), (some ⟨h11, 0, none⟩, 1)))
              have HS := Lib.hid (setRow_heap X3 g13 zE (ntC (setE l k, (some ⟨h6, 0, none⟩, q6), (some ⟨h11, 0, none⟩, 1))) _ _ C13.out)
              have HB : Hid (Below wr.heap.size wr (X3.setRow g13 (ntC (setE l k, (some ⟨h6, 0, none⟩, q6), (some ⟨h11, 0, none⟩, 1))))) := HBd.out.trans (setRow_below _ _ _ G13.out)
              have F6 : Hid (SlU (X3.setRow g13 (ntC (setE l k, (some ⟨h6, 0, none⟩, q6), (some ⟨h11, 0, none⟩, 1)))) (.slice (some ⟨h6, 0, none⟩) (cst l k (kk l k)).length q6) (cst l k (kk l k))) := C6.out.keep (by rw [setRow_size]; exact Nat.le_refl _) (fun b cs fr hc => setRow_far _ _ _ (ty_ne hc C13.out (by decide)))
              have F11 : Hid (SlU (X3.setRow g13 (ntC (setE l k, (some ⟨h6, 0, none⟩, q6), (some ⟨h11, 0, none⟩, 1)))) (.slice (some ⟨h11, 0, none⟩) 1 1) [x]) := C11.out.keep (by rw [setRow_size]; exact Nat.le_refl _) (fun b cs fr hc => setRow_far _ _ _ (ty_ne hc C13.out (by decide)))
              refine wpAnyF_ready (rs := [14]) (by kernel_rfl) (by simp) ?_
              refine AllReadyF.cons (o := ⟨_, _, _, _, _, _⟩) rfl (fun K hK => ?_) AllReadyF.nil
              rw [if_pos (by rfl)]
              with_reducible refine wp_store_row 30 (.tmp 10) (.tmp 53) rfl g13 _ rfl rfl 30 _ C13.out HI.out HN.out HA.out ?_
              refine hK _ _ (fun _ h => by cases h) ?_
              clear hK K
              simp only [Act.put]
              refine wpAnyF_done (by kernel_rfl) ?_ _
              go_wp2
              go_meet
              exact ⟨g13, some ⟨h6, 0, none⟩, q6, some ⟨h11, 0, none⟩, 1, rfl, HS.out, F6.out, F11.out, HB.out, G13.out⟩
            exact AllReadyF.nil
          exact AllReadyF.nil
        exact AllReadyF.nil
      case rest =>
        obtain ⟨gE, A6, q6, A11, q11, rfl, hE, hS6, hS11, hb, hge⟩ := hcut.out
        clear hcut
        have HW2 := Lib.hid (HW.out.on hb)
        have HI : Hid ((Try.prog.info? 30).map (·.size) = some (#[.int .i64 1, .int .i64 1, .int .i64 0, .int .i64 0, .int .i64 (k : Int), .int .i64 0, .int .i64 0, .int .i64 (kk l k : Int), .int .i64 0, .int .i64 0, .slice A6 (cst l k (kk l k)).length q6, .slice A11 1 q11, .slice none 0 0, .slice none 0 0, .slice none 0 0, .slice none 0 0] : Array Value).size) := infoEnt
        obtain ⟨An, qn, wp, hr, hw3, hk1, hk2⟩ := push_any HW2.out (setE l k, (A6, q6), (A11, q11)) (fun _ => hS6) (by have := HNL.out; have := HLn.out; omega)
        have hown : ¬ (Value.slice A k q).ownBlock = some gE := fun e => by have := (HW.out.own.lt gE e).2; omega
        rw [HNL.out] at hr hw3
        have HW3 := Lib.hid hw3
        have hE3 := hk1 gE _ _ _ hE (Or.inr hown)
        have z11 : wp.cell? ⟨gE, 11, none⟩ = some (.slice A11 1 q11) := (cell_of hE3 11).1
        have hcv : (convert 24 9 (.slice A11 1 q11)).run Try.prog wp = .ok (.string (bstr [x])) wp := conv_slK (hk2 _ _ hS11).k
        have HE : Hid (wc.heap[gE]? = some (.cells #[.int .i64 1, .int .i64 1, .int .i64 0, .int .i64 0, .int .i64 (k : Int), .int .i64 0, .int .i64 0, .int .i64 (kk l k : Int), .int .i64 0, .int .i64 0, .slice A6 (cst l k (kk l k)).length q6, .slice A11 1 q11, .slice none 0 0, .slice none 0 0, .slice none 0 0, .slice none 0 0] 30 (0, 0))) := hE
        have HR : Hid ((Builtin.append_ #[38, 38] 38 #[.slice A k q, .slice (some ⟨wc.heap.size, 0, none⟩) 1 1]).run Try.prog (wc.alloc (.cells #[.int .i64 1, .int .i64 1, .int .i64 0, .int .i64 0, .int .i64 (k : Int), .int .i64 0, .int .i64 0, .int .i64 (kk l k : Int), .int .i64 0, .int .i64 0, .slice A6 (cst l k (kk l k)).length q6, .slice A11 1 q11, .slice none 0 0, .slice none 0 0, .slice none 0 0, .slice none 0 0] 30)) = .ok (.slice An (k + 1) qn) wp) := hr
        have zc : wp.cell? ⟨gc, kk l k, none⟩ = some (.string (bstr (cst l k (kk l k)))) := ((cell_of HW3.out.cc (kk l k)).1).trans (cV_at _ (kk_lt l k))
        have zf : wp.frozen? ⟨gc, kk l k, none⟩ = false := (cell_of HW3.out.cc (kk l k)).2
        have HF2 : Hid (Fw l w (wp.setCell ⟨gc, kk l k, none⟩ (.string (bstr [x]))) gc (.slice An (k + 1) qn) (k + 1)) := by
          have h := HW3.out.set (kk_lt l k) [x]
          have e : upd (cst l k) (kk l k) [x] = cst l (k + 1) := by show _ = upd (cst l k) (kk l k) [l.getD k 0]; rw [HGD.out]
          rw [e] at h
          exact Fw.push HNL.out HSE.out h
        clear hr hw3 hk1 hk2 hE hE3 hS6 hS11 hb hge hown HW HW2 HW3 HSE HNL HLc HGD HX
        have hwr := HWR.out
        go_upto_region 14 with (first
          | (with_reducible refine wpList_load_row rfl 30 (.tmp 10) rfl gE rfl 30 _ (0, 0) _ HE.out Try.underlying30 rfl HI.out ?_)
          | (at_builtin; refine Lib.wpList_append_run _ rfl _ _ _ _ rfl _ _ rfl rfl _ _ HR.out ?_))
        go_wp2
        go_roundw
        case rel => exact ⟨k + 1, An, qn, by omega, rfl, by go_num, by go_num, HF2⟩
        case measure => simp [RowKit.intOf]; omega
    · obtain rfl : k = l.length := by omega
      have hlti : ¬ (l.length : Int) < (l.length : Int) := by omega
      clear hlt hk
      obtain ⟨ns0, hB0⟩ := HR.out.bw
      have HB0 := Lib.hid hB0
      clear HR hB0
      go_upto_block 2 with (fail)
      go_cut [6, 7, 11, 12, 13, 14, 15, 16] from 65 to 151 (fun nv _ _ _ _ _ _ _ wx => Hid (∃ (M : Nat) (A' : Option Addr) (q' : Nat) (ns' : List Nt), M = 2 * l.length ∧ nv = .slice A' M q' ∧ Bw l l.length w wx gc (.slice A' M q') 0 M ns'))
      case first =>
        go_wp2_with fail
        go_loopw [6, 7, 11] (fun nv last i wr => ∃ (r i' N : Nat) (A : Option Addr) (q : Nat), N + r = 2 * l.length ∧ r ≤ l.length ∧ i' ≤ st.length ∧ nv = .slice A N q ∧ last = .int .i64 (N : Int) ∧ i = .int .i64 (i' : Int) ∧ Hid (∃ ns, Bw l l.length w wr gc (.slice A N q) r N ns)) (fun _ _ i _ => 200 - (RowKit.intOf i).toNat)
        case atStart => exact ⟨l.length, 0, l.length, A, q, by omega, Nat.le_refl _, Nat.zero_le _, rfl, rfl, rfl, ⟨ns0, HB0.out⟩⟩
        case round =>
          obtain ⟨r, i', N, A2, q2, hNr, hr, hi, rfl, rfl, rfl, HBw⟩ := hrel
          obtain ⟨ns, hb⟩ := HBw.out
          clear HBw HB0
          have j1 : (i' : Int) < 200 := by have := HSn.out; omega
          by_cases hN0 : N = 0
          · subst hN0
            have hr0 : r = 0 := by omega
            subst hr0
            have HBf := Lib.hid hb
            have HNf := Lib.hid hNr
            clear hb hNr hr hi
            go_wp2
            go_meet
            exact ⟨0, A2, q2, ns, by have := HNf.out; omega, rfl, HBf.out⟩
          · obtain ⟨P, hP⟩ : ∃ P, N = P + 1 := ⟨N - 1, by omega⟩
            have hp : P < ns.length := by rw [hb.len]; omega
            have hnx := hb.nx hNr hr hP hp
            obtain ⟨g, qg, hge, hrow⟩ := hb.h.row (by omega)
            injection hge with hge1 hge2 hge3
            subst hge1
            clear hge2 hge3
            have hrw := hrow P hp
            obtain ⟨x, hx⟩ : ∃ x, x = ns[P] := ⟨_, rfl⟩
            rw [← hx] at hrw hnx
            have HROW := Lib.hid hrw
            have HN : Hid (Calls Try.prog 11 #[.agg (ntC x), .int .i64 (N : Int)] wr fun r' w' => r' = .returned (.int .i64 (r : Int)) ∧ Below wr.heap.size wr w') := by
              have h := next_any wr x.1 (s1V x) (s2V x) (.slice none 0 0) (.slice none 0 0) (.slice none 0 0) (.slice none 0 0) (N : Int)
              rw [hnx] at h
              exact h
            have HI : Hid ((Try.prog.info? 30).map (·.size) = some (ntC x).size) := infoEnt
            have b0 : (0 : Int) ≤ (P : Int) := by omega
            have b1 : (P : Int) < (N : Int) := by omega
            have hN1 : ((N : Int) == 0) = false := by simp; omega
            have hsub : IntKind.i64.wrap ((N : Int) - 1) = (P : Int) := by rw [show (N : Int) - 1 = (P : Int) by omega]; exact IntWalk.i64_in _ (by have := HLn.out; omega)
            have HB := Lib.hid hb
            have HNr := Lib.hid hNr
            have HRn := Lib.hid hr
            have HIn := Lib.hid hi
            clear hb hNr hr hi hP hp hnx hrow hrw hx hN0
            go_wp2_with ((refine wpList_load_at ?_ 30 (.tmp 74) rfl g (P * 16) rfl (ntC x) _ HROW.out Try.underlying30 rfl HI.out ?_); · rfl)
            refine HN.out.mono ?_
            rintro r9 w5 ⟨rfl, hb5⟩
            have HB2 : Hid (Bw l l.length w w5 gc (.slice (some ⟨g, 0, none⟩) N q2) r N ns) := HB.out.on hb5
            have HR0 : Hid (r ≤ 10) := Nat.le_trans HRn.out HLn.out
            clear hb5 HN HROW HI HB b0 b1 hN1 hsub
            go_wp2_with fail
            go_loopw [6, 7, 12, 13] (fun nv last nx tv wr => ∃ (r' t N : Nat) (A : Option Addr) (q : Nat), N + r' = 2 * l.length ∧ r' ≤ l.length ∧ t + r' = r ∧ nv = .slice A N q ∧ last = .int .i64 (N : Int) ∧ nx = .int .i64 (r' : Int) ∧ tv = .int .i64 (t : Int) ∧ Hid (∃ ns, Bw l l.length w wr gc (.slice A N q) r' N ns)) (fun _ _ nx _ _ => (RowKit.intOf nx).toNat)
            case atStart => exact ⟨r, 0, N, some ⟨g, 0, none⟩, q2, HNr.out, HRn.out, by omega, rfl, rfl, rfl, rfl, ⟨ns, HB2.out⟩⟩
            case round =>
              clear HNr HRn
              obtain ⟨r, t, N, A3, q, hNr, hr, htr, rfl, rfl, rfl, rfl, HBi⟩ := hrel
              obtain ⟨ns, hb⟩ := HBi.out
              clear HBi HB2
              obtain ⟨C, hC⟩ : ∃ C : Bool, C = (decide (0 < r) && (decide (st.length ≤ i') || decide ((t : Int) < st.getD i' 0 % 3))) := ⟨_, rfl⟩
              have HC := Lib.hid hC
              have HBN := Lib.hid hb.len
              have HNr0 := Lib.hid hNr
              have r1 : (0 : Int) ≤ (r : Int) := by omega
              have hrN : (r : Int) ≤ (N : Int) := by omega
              clear hC
              go_upto_region 22 with fail
              go_cut [101] (fun c wx => c = .bool C ∧ wx = wr)
              case first =>
                by_cases h0 : r = 0
                · have r0' : ¬ (0 : Int) < (r : Int) := by omega
                  have HC0 : Hid (C = false) := by show C = false; rw [HC.out, h0]; rfl
                  clear h0 hNr hr htr hb hrN
                  go_wp2
                  go_meet
                  exact ⟨by rw [HC0.out], rfl⟩
                have r2 : (0 : Int) < (r : Int) := by omega
                by_cases hge : st.length ≤ i'
                · have g1 : (st.length : Int) ≤ (i' : Int) := by omega
                  have HC0 : Hid (C = true) := by show C = true; rw [HC.out, decide_eq_true hge, decide_eq_true (show 0 < r by omega)]; rfl
                  clear h0 hNr hr htr hb hge
                  go_wp2
                  go_meet
                  exact ⟨by rw [HC0.out], rfl⟩
                have g1 : ¬ (st.length : Int) ≤ (i' : Int) := by omega
                have g2 : (i' : Int) < (st.length : Int) := by omega
                have g3 : (0 : Int) ≤ (i' : Int) := by omega
                have hil : i' < st.length := by omega
                obtain ⟨b6, o6, c6, hA, -, hb6, hc⟩ := HST.out.pt (fun e => by rw [e] at hil; cases hil)
                injection hA with hA1 hA2 hA3
                subst hA1
                obtain ⟨y, hye⟩ : ∃ y, y = st[i'] := ⟨_, rfl⟩
                have hy : 0 ≤ y ∧ y < 256 := by rw [hye]; exact HOS.out _ (List.getElem_mem hil)
                have hgd : st.getD i' 0 = y := by rw [hye, List.getD_eq_getElem?_getD, List.getElem?_eq_getElem hil]; rfl
                have y0 : wr.cell? ⟨b6, o6 + i', none⟩ = some (.int .u8 y) := by rw [hye]; exact (World.cell?_of_block (hb.h.low.block b6 hb6)).trans (hc i' hil)
                obtain ⟨m, hm⟩ : ∃ m : Nat, y % 3 = (m : Int) := ⟨(y % 3).toNat, by omega⟩
                have t1 : y.tmod 3 = (m : Int) := by rw [← hm]; exact Int.tmod_eq_emod_of_nonneg hy.1
                have t2 : IntKind.u8.wrap (m : Int) = (m : Int) := IntWalk.u8_in _ (by omega)
                have t3 : IntKind.i64.wrap (m : Int) = (m : Int) := IntWalk.i64_in _ (by omega)
                have HC1 : Hid (C = decide ((t : Int) < (m : Int))) := by show C = _; rw [HC.out, hgd, hm, decide_eq_false hge, decide_eq_true (show 0 < r by omega)]; simp
                clear h0 hNr hr htr hb hge hil hc hA2 hA3 hye hy hgd hm hb6 HC
                go_wp2
                go_meet
                exact ⟨by rw [HC1.out]; simp, rfl⟩
              case rest =>
                obtain ⟨rfl, rfl⟩ := hcut
                cases C with
                | false =>
                  have hcf : r = 0 ∨ (¬ r = 0 ∧ i' < st.length) := by
                    by_cases h0 : r = 0
                    · exact .inl h0
                    · refine .inr ⟨h0, ?_⟩
                      by_cases hi' : i' < st.length
                      · exact hi'
                      · have := HC.out
                        rw [decide_eq_true (show st.length ≤ i' by omega), decide_eq_true (show 0 < r by omega)] at this
                        cases this
                  clear HC hrN r1
                  rcases hcf with h0 | ⟨h0, hi2⟩
                  · subst h0
                    have HBf := Lib.hid hb
                    have HNf := Lib.hid hNr
                    clear hb hNr hr htr
                    go_wp2
                    go_meet
                    exact ⟨N, A3, q, ns, by have := HNf.out; omega, rfl, HBf.out⟩
                  · have h1 : ((r : Int) == 0) = false := by simp; omega
                    have HBf := Lib.hid hb
                    have HNf := Lib.hid hNr
                    have HRf := Lib.hid hr
                    have hwi : IntKind.i64.wrap ((i' : Int) + 1) = (i' : Int) + 1 := IntWalk.i64_in _ (by have := HSn.out; omega)
                    have HIf := Lib.hid hi2
                    clear hb hNr hr htr h0 hi2
                    go_wp2
                    go_roundw
                    case rel => exact ⟨r, i' + 1, N, A3, q, HNf.out, HRf.out, by have := HIf.out; omega, rfl, rfl, by go_num, ⟨ns, HBf.out⟩⟩
                    case measure => simp [RowKit.intOf]; have := HSn.out; have := HIf.out; omega
                | true =>
                  have hr0 : ¬ r = 0 := fun e => by
                    have := HC.out
                    rw [e] at this
                    cases this
                  clear HC hrN r1
                  obtain ⟨R, rfl⟩ : ∃ R, r = R + 1 := ⟨r - 1, by omega⟩
                  have HNr := Lib.hid hNr
                  have HRn := Lib.hid hr
                  have HTR := Lib.hid htr
                  have hRN : R < ns.length := by have := hb.len; omega
                  have hRn : R < l.length := by omega
                  have hx1 := hb.sets R hRN hRn
                  obtain ⟨g, qg, hge, hrow⟩ := hb.h.row (by omega)
                  injection hge with hge1 hge2 hge3
                  subst hge1
                  clear hge2 hge3
                  have hs1x := hb.h.sl (ns[R]) (List.getElem_mem hRN)
                  obtain ⟨x, hx⟩ : ∃ x, x = ns[R] := ⟨_, rfl⟩
                  have hrw := hrow R hRN
                  rw [← hx] at hrw hs1x hx1
                  obtain ⟨e, p1, p2⟩ := x
                  have hx1 : e = setE l R := hx1
                  subst hx1
                  have hs1 := hs1x rfl
                  have HROW := Lib.hid hrw
                  have HB := Lib.hid hb
                  have HS1 := Lib.hid hs1
                  have HNS := Lib.hid hb.len
                  clear hb hs1x hs1 hrow hrw hx hNr hr htr
                  have HKK4 := Lib.hid (kk_lt l R)
                  have b0 : (0 : Int) ≤ (R : Int) := by omega
                  have b1 : (R : Int) < (N : Int) := by have := HNS.out; omega
                  have hsub : IntKind.i64.wrap (R : Int) = (R : Int) := IntWalk.i64_in _ (by have := HLn.out; omega)
                  have HI : Hid ((Try.prog.info? 30).map (·.size) = some (ntC (setE l R, p1, p2)).size) := infoEnt
                  have HBo := Lib.hid (heap_alloc_new wc (.cells #[.int .i64 0, .int .i64 0, .int .i64 0, .int .i64 0, .int .i64 0, .int .i64 0, .int .i64 0, .int .i64 0, .int .i64 0, .int .i64 0, .slice none 0 0, .slice none 0 0, .slice none 0 0, .slice none 0 0, .slice none 0 0, .slice none 0 0] 30))
                  have HZN := Lib.hid (show (#[.int .i64 0, .int .i64 0, .int .i64 0, .int .i64 0, .int .i64 0, .int .i64 0, .int .i64 0, .int .i64 0, .int .i64 0, .int .i64 0, .slice none 0 0, .slice none 0 0, .slice none 0 0, .slice none 0 0, .slice none 0 0, .slice none 0 0] : Array Value).size = (ntC (setE l R, p1, p2)).size from rfl)
                  have HZA := Lib.hid (ntC_all (setE l R, p1, p2))
                  have HSA := Lib.hid (setRow_alloc wc #[.int .i64 0, .int .i64 0, .int .i64 0, .int .i64 0, .int .i64 0, .int .i64 0, .int .i64 0, .int .i64 0, .int .i64 0, .int .i64 0, .slice none 0 0, .slice none 0 0, .slice none 0 0, .slice none 0 0, .slice none 0 0, .slice none 0 0] (ntC (setE l R, p1, p2)) 30)
                  clear hRN hRn
                  go_upto_region 25 with (first
                    | ((refine wpList_load_at ?_ 30 (.tmp 107) rfl g (R * 16) rfl (ntC (setE l R, p1, p2)) _ HROW.out Try.underlying30 rfl HI.out ?_); · rfl)
                    | (with_reducible refine wpList_store_row rfl 30 (.tmp 14) (.tmp 108) rfl wc.heap.size _ rfl rfl 30 _ HBo.out HI.out HZN.out HZA.out ?_))
                  rw [HSA.out]
                  clear b0 b1 hsub
                  have HAL : Hid (Below wc.heap.size wc (wc.alloc (.cells (ntC (setE l R, p1, p2)) 30))) := (Below.refl _ _).alloc (Nat.le_refl _) _
                  have HV := Lib.hid (heap_alloc_new wc (.cells (ntC (setE l R, p1, p2)) 30))
                  have HW := Lib.hid (HB.out.h.on HAL.out)
                  have HS2 := Lib.hid (HS1.out.on HAL.out)
                  clear HBo HZN HZA HSA
                  generalize wc.alloc (.cells (ntC (setE l R, p1, p2)) 30) = wa at *
                  have z0 : wa.cell? ⟨wc.heap.size, 0, none⟩ = some (.int .i64 1) := (cell_of HV.out 0).1
                  have HP : Hid (Calls Try.prog 8 #[.agg (ntC (setE l R, p1, p2)), .int .i64 (N : Int)] wa (BkYes wa (setE l R) (N : Int))) := back_yes wa (setE l R) (s1V (setE l R, p1, p2)) (s2V (setE l R, p1, p2)) (.slice none 0 0) (.slice none 0 0) (.slice none 0 0) (.slice none 0 0) (N : Int) rfl HS2.out.k.sw (by have := cst_len l R (kk l R); show (cst l R (kk l R)).length ≤ _; omega)
                  go_wp2_with (with_reducible refine wpList_load_row rfl 30 (.tmp 14) rfl wc.heap.size rfl 30 _ (0, 0) _ HV.out Try.underlying30 rfl HI.out ?_)
                  refine HP.out.mono ?_
                  rintro r9 w3 ⟨A4, q4, hr9, hown, hok, hb3⟩
                  have hr' : r9 = .returned (.tuple #[.agg #[.int .i64 2, .int .i64 1, .int .i64 0, .int .i64 0, .int .i64 (N : Int), .int .i64 (R : Int), .int .i64 0, .int .i64 (kk l R : Int), .int .i64 0, .int .i64 0, .slice none 0 0, .slice A4 (cst l R (kk l R)).length q4, .slice none 0 0, .slice none 0 0, .slice none 0 0, .slice none 0 0], .bool true]) := hr9
                  clear hr9
                  subst hr'
                  have HSl : Hid (SlU w3 (.slice A4 (cst l R (kk l R)).length q4) (cst l R (kk l R))) := own_SlU hown hok
                  have HW3 := Lib.hid (HW.out.on hb3)
                  have HG15 : Hid (wc.heap.size ≤ w3.heap.size) := Nat.le_trans HAL.out.size hb3.size
                  clear hown hok hb3 HP z0 HV HS2 HS1 HROW HI HAL HW
                  have HBo := Lib.hid (heap_alloc_new w3 (.cells #[.int .i64 0, .int .i64 0, .int .i64 0, .int .i64 0, .int .i64 0, .int .i64 0, .int .i64 0, .int .i64 0, .int .i64 0, .int .i64 0, .slice none 0 0, .slice none 0 0, .slice none 0 0, .slice none 0 0, .slice none 0 0, .slice none 0 0] 30))
                  have HI : Hid ((Try.prog.info? 30).map (·.size) = some (#[.int .i64 2, .int .i64 1, .int .i64 0, .int .i64 0, .int .i64 (N : Int), .int .i64 (R : Int), .int .i64 0, .int .i64 (kk l R : Int), .int .i64 0, .int .i64 0, .slice none 0 0, .slice A4 (cst l R (kk l R)).length q4, .slice none 0 0, .slice none 0 0, .slice none 0 0, .slice none 0 0] : Array Value).size) := infoEnt
                  have HZN := Lib.hid (show (#[.int .i64 0, .int .i64 0, .int .i64 0, .int .i64 0, .int .i64 0, .int .i64 0, .int .i64 0, .int .i64 0, .int .i64 0, .int .i64 0, .slice none 0 0, .slice none 0 0, .slice none 0 0, .slice none 0 0, .slice none 0 0, .slice none 0 0] : Array Value).size = (#[.int .i64 2, .int .i64 1, .int .i64 0, .int .i64 0, .int .i64 (N : Int), .int .i64 (R : Int), .int .i64 0, .int .i64 (kk l R : Int), .int .i64 0, .int .i64 0, .slice none 0 0, .slice A4 (cst l R (kk l R)).length q4, .slice none 0 0, .slice none 0 0, .slice none 0 0, .slice none 0 0] : Array Value).size from rfl)
                  have HZA : Hid ((#[.int .i64 2, .int .i64 1, .int .i64 0, .int .i64 0, .int .i64 (N : Int), .int .i64 (R : Int), .int .i64 0, .int .i64 (kk l R : Int), .int .i64 0, .int .i64 0, .slice none 0 0, .slice A4 (cst l R (kk l R)).length q4, .slice none 0 0, .slice none 0 0, .slice none 0 0, .slice none 0 0] : Array Value).all (·.oneCell') = true) := ntC_all (bkE (setE l R) (N : Int), (none, 0), (A4, q4))
                  have HSA := Lib.hid (setRow_alloc w3 #[.int .i64 0, .int .i64 0, .int .i64 0, .int .i64 0, .int .i64 0, .int .i64 0, .int .i64 0, .int .i64 0, .int .i64 0, .int .i64 0, .slice none 0 0, .slice none 0 0, .slice none 0 0, .slice none 0 0, .slice none 0 0, .slice none 0 0] #[.int .i64 2, .int .i64 1, .int .i64 0, .int .i64 0, .int .i64 (N : Int), .int .i64 (R : Int), .int .i64 0, .int .i64 (kk l R : Int), .int .i64 0, .int .i64 0, .slice none 0 0, .slice A4 (cst l R (kk l R)).length q4, .slice none 0 0, .slice none 0 0, .slice none 0 0, .slice none 0 0] 30)
                  go_upto_region 28 with (with_reducible refine wpList_store_row rfl 30 (.tmp 15) (.tmp 119) rfl w3.heap.size _ rfl rfl 30 _ HBo.out HI.out HZN.out HZA.out ?_)
                  rw [HSA.out]
                  have HAL : Hid (Below w3.heap.size w3 (w3.alloc (.cells #[.int .i64 2, .int .i64 1, .int .i64 0, .int .i64 0, .int .i64 (N : Int), .int .i64 (R : Int), .int .i64 0, .int .i64 (kk l R : Int), .int .i64 0, .int .i64 0, .slice none 0 0, .slice A4 (cst l R (kk l R)).length q4, .slice none 0 0, .slice none 0 0, .slice none 0 0, .slice none 0 0] 30))) := (Below.refl _ _).alloc (Nat.le_refl _) _
                  have HV := Lib.hid (heap_alloc_new w3 (.cells #[.int .i64 2, .int .i64 1, .int .i64 0, .int .i64 0, .int .i64 (N : Int), .int .i64 (R : Int), .int .i64 0, .int .i64 (kk l R : Int), .int .i64 0, .int .i64 0, .slice none 0 0, .slice A4 (cst l R (kk l R)).length q4, .slice none 0 0, .slice none 0 0, .slice none 0 0, .slice none 0 0] 30))
                  have HW4 := Lib.hid (HW3.out.on HAL.out)
                  have HSl4 := Lib.hid (HSl.out.on HAL.out)
                  clear HBo HZN HZA HSA HSl HAL HW3
                  generalize w3.alloc (.cells #[.int .i64 2, .int .i64 1, .int .i64 0, .int .i64 0, .int .i64 (N : Int), .int .i64 (R : Int), .int .i64 0, .int .i64 (kk l R : Int), .int .i64 0, .int .i64 0, .slice none 0 0, .slice A4 (cst l R (kk l R)).length q4, .slice none 0 0, .slice none 0 0, .slice none 0 0, .slice none 0 0] 30) = w4 at *
                  have k1 : (0 : Int) ≤ (kk l R : Int) := by omega
                  have k2 : (kk l R : Int) < 4 := by have := HKK4.out; omega
                  have k3 : ¬ (kk l R : Int) < 0 := by omega
                  have k4 : ¬ (3 : Int) < (kk l R : Int) := by omega
                  have z7 : w4.cell? ⟨w3.heap.size, 7, none⟩ = some (.int .i64 (kk l R : Int)) := (cell_of HV.out 7).1
                  go_upto_region 30 with fail
                  clear z7
                  obtain ⟨An, qn, wp, hra, hw5, hk1, hk2⟩ := push_any HW4.out (bkE (setE l R) (N : Int), (none, 0), (A4, q4)) (fun h => absurd h (show ¬ (2 : Int) = 1 by decide)) (by have := HNS.out; have := HLn.out; have := HNr.out; omega)
                  rw [HNS.out] at hra hw5
                  have hown : ¬ (Value.slice (some ⟨g, 0, none⟩) N q).ownBlock = some w3.heap.size := fun e => by have := (HB.out.h.own.lt _ e).2; have := HG15.out; omega
                  have hV5 := hk1 w3.heap.size _ _ _ HV.out (Or.inr hown)
                  have hne : ¬ w3.heap.size = gc := ty_ne hV5 hw5.cc (by decide)
                  have HRA : Hid ((Builtin.append_ #[38, 38] 38 #[.slice (some ⟨g, 0, none⟩) N q, .slice (some ⟨w4.heap.size, 0, none⟩) 1 1]).run Try.prog (w4.alloc (.cells #[.int .i64 2, .int .i64 1, .int .i64 0, .int .i64 0, .int .i64 (N : Int), .int .i64 (R : Int), .int .i64 0, .int .i64 (kk l R : Int), .int .i64 0, .int .i64 0, .slice none 0 0, .slice A4 (cst l R (kk l R)).length q4, .slice none 0 0, .slice none 0 0, .slice none 0 0, .slice none 0 0] 30)) = .ok (.slice An (N + 1) qn) wp) := hra
                  go_upto_region 31 with (first
                    | (with_reducible refine wpList_load_row rfl 30 (.tmp 15) rfl w3.heap.size rfl 30 _ (0, 0) _ HV.out Try.underlying30 rfl HI.out ?_)
                    | (at_builtin; refine Lib.wpList_append_run _ rfl _ _ _ _ rfl _ _ rfl rfl _ _ HRA.out ?_))
                  have y7 : wp.cell? ⟨w3.heap.size, 7, none⟩ = some (.int .i64 (kk l R : Int)) := (cell_of hV5 7).1
                  have y11 : wp.cell? ⟨w3.heap.size, 11, none⟩ = some (.slice A4 (cst l R (kk l R)).length q4) := (cell_of hV5 11).1
                  have hcv : (convert 24 9 (.slice A4 (cst l R (kk l R)).length q4)).run Try.prog wp = .ok (.string (bstr (cst l R (kk l R)))) wp := conv_slK (hk2 _ _ HSl4.out).k
                  have zc : wp.cell? ⟨gc, kk l R, none⟩ = some (.string (bstr (cst l (R + 1) (kk l R)))) := ((cell_of hw5.cc (kk l R)).1).trans (cV_at _ HKK4.out)
                  have zf : wp.frozen? ⟨gc, kk l R, none⟩ = false := (cell_of hw5.cc (kk l R)).2
                  have HY5 : Hid ((wp.setCell ⟨gc, kk l R, none⟩ (.string (bstr (cst l R (kk l R))))).cell? ⟨w3.heap.size, 5, none⟩ = some (.int .i64 (R : Int))) := (World.cell?_of_block (setCell_far wp gc _ _ hne)).trans (cell_of hV5 5).1
                  have HB2 : Hid (Bw l l.length w (wp.setCell ⟨gc, kk l R, none⟩ (.string (bstr (cst l R (kk l R))))) gc (.slice An (N + 1) qn) R (N + 1) (ns ++ [(bkE (setE l R) (N : Int), (none, 0), (A4, q4))])) := by
                    have h := hw5.set HKK4.out (cst l R (kk l R))
                    rw [cst_back] at h
                    exact HB.out.push (by have := HNr.out; omega) h HRn.out
                  clear hra hw5 hk1 hk2 hown hV5 hne HRA HV HW4 HSl4 HI HB
                  go_upto_region 33 with fail
                  clear y7 y11 hcv zc zf k3 k4 k1 k2
                  generalize wp.setCell ⟨gc, kk l R, none⟩ (.string (bstr (cst l R (kk l R)))) = wq at *
                  have y5 := HY5.out
                  have hwt : IntKind.i64.wrap ((t : Int) + 1) = (t : Int) + 1 := IntWalk.i64_in _ (by have := HTR.out; have := HR0.out; omega)
                  go_wp2
                  go_roundw
                  case rel => exact ⟨R, t + 1, N + 1, An, qn, by have := HNr.out; omega, by have := HRn.out; omega, by have := HTR.out; omega, rfl, by go_num, rfl, by go_num, ⟨_, HB2.out⟩⟩
                  case measure => simp [RowKit.intOf]
      case rest =>
        obtain ⟨M, A', q', ns', hM, rfl, hb⟩ := hcut.out
        have HB := Lib.hid hb
        have HM := Lib.hid hM
        clear hcut hb hM HB0
        go_wp2_with fail
        go_loopw [17, 18] (fun c i wr => ∃ k : Nat, k ≤ M ∧ c = .int .i64 ((k - l.length : Nat) : Int) ∧ i = .int .i64 (k : Int) ∧ wr = wc) (fun _ i _ => M - (RowKit.intOf i).toNat)
        case atStart => exact ⟨0, Nat.zero_le _, by rw [Nat.zero_sub]; rfl, rfl, rfl⟩
        case round =>
          obtain ⟨k, hk, rfl, rfl, rfl⟩ := hrel
          by_cases hlt : k < M
          · have hkn : k < ns'.length := by rw [HB.out.len]; exact hlt
            obtain ⟨g, qg, hge, hrow⟩ := HB.out.h.row (by omega)
            injection hge with hge1 hge2 hge3
            subst hge1
            clear hge2 hge3
            have z0 : wr.cell? ⟨g, k * 16, none⟩ = some (.int .i64 (ns'[k]).1.kind) := hrow k hkn 0 _ rfl
            have i1 : (0 : Int) ≤ (k : Int) := by omega
            have i2 : (k : Int) < (M : Int) := by omega
            have hwk : IntKind.i64.wrap ((k : Int) + 1) = (k : Int) + 1 := IntWalk.i64_in _ (by have := HM.out; have := HLn.out; omega)
            have HLT := Lib.hid hlt
            by_cases hkl : k < l.length
            · have hke := HB.out.sets k hkn hkl
              rw [hke] at z0
              have z0 : wr.cell? ⟨g, k * 16, none⟩ = some (.int .i64 1) := z0
              have he : ((k - l.length : Nat) : Int) = 0 := by omega
              have HE : Hid (((k + 1 - l.length : Nat) : Int) = 0) := by show ((k + 1 - l.length : Nat) : Int) = 0; omega
              rw [he]
              clear hke hkl hkn hrow hlt hk he
              go_wp2
              go_roundw
              case rel => exact ⟨k + 1, by have := HLT.out; omega, by rw [HE.out], by simp⟩
              case measure => simp [RowKit.intOf]; have := HLT.out; omega
            · have hke := (HB.out.backs k hkn (by omega)).1
              rw [hke] at z0
              obtain ⟨b, hbk⟩ : ∃ b : Nat, b = k - l.length := ⟨_, rfl⟩
              have HE : Hid (k + 1 - l.length = b + 1) := by show k + 1 - l.length = b + 1; omega
              have hwb : IntKind.i64.wrap ((b : Int) + 1) = (b : Int) + 1 := IntWalk.i64_in _ (by have := HM.out; have := HLn.out; omega)
              rw [← hbk]
              clear hke hkl hkn hrow hlt hk hbk
              go_wp2
              go_roundw
              case rel => exact ⟨k + 1, by have := HLT.out; omega, by rw [HE.out]; simp, by simp⟩
              case measure => simp [RowKit.intOf]; have := HLT.out; omega
          · obtain rfl : k = M := by omega
            have hml : ((k - l.length : Nat) : Int) = (l.length : Int) := by have := HM.out; omega
            have i2 : ¬ (k : Int) < (k : Int) := by omega
            have HC4 : Hid (wr.heap[gc]? = some (.cells #[.string ⟨#[]⟩, .string ⟨#[]⟩, .string ⟨#[]⟩, .string ⟨#[]⟩] 37 (0, 0))) := HB.out.h.cc
            have HI : Hid ((Try.prog.info? 37).map (·.size) = some (#[.string ⟨#[]⟩, .string ⟨#[]⟩, .string ⟨#[]⟩, .string ⟨#[]⟩] : Array Value).size) := by show _ = _; kernel_rfl
            have hq : (Op.equalIn 10000 37 (.agg #[.string ⟨#[]⟩, .string ⟨#[]⟩, .string ⟨#[]⟩, .string ⟨#[]⟩]) (.agg #[.string ⟨#[]⟩, .string ⟨#[]⟩, .string ⟨#[]⟩, .string ⟨#[]⟩])).run Try.prog wr = .ok true wr := in_z4 wr
            rw [hml]
            clear hlt hk hml
            go_wp2_with (with_reducible refine wpList_load_row rfl 37 (.tmp 5) rfl gc rfl 37 _ (0, 0) _ HC4.out Try.underlying37 rfl HI.out ?_)
            go_ret
            exact ⟨rfl, HB.out.h.low⟩
end Go.Proofs.Ythcndifbegmbkaa.Ud
