/- The reference's graph in memory: Set. -/
import Derived.Test.YtcfibmbeojdifaaWtI
namespace Go.Proofs.Ytcfibmbeojdifaa
open Go.RowKit Go.Maps Go.WideMaps

theorem setE_take {es : List (Int × Int)} {who : Int} {on : List Int} {i : Nat} (hi : i < on.length) : setE es who (on.take (i + 1)) = setE es who (on.take i) ++ (if on[i] ≠ who then [(who, on[i])] else []) := by
  unfold setE
  rw [← List.take_append_getElem hi, List.filter_append, List.map_append, ← List.append_assoc]
  by_cases h : on[i] = who
  · simp [h]
  · simp [h]
theorem own_src_all {w : World} {B k n c : Nat} {e : TypeId} {p : Option Addr} {xs : List Value} (h : w.ownsRow B e k (.slice p n c) n xs) : Src w (.slice p n c) n xs := by
  rcases h.2 with ⟨hv, hn⟩ | ⟨g, cap, cur, hv, _, hg, hnc, _, _, hxs⟩
  · refine .inl ⟨hv, hn, List.eq_nil_of_length_eq_zero ?_⟩
    rw [h.1, hn, Nat.zero_mul]
  · cases hv
    refine .inr ⟨⟨g, 0, none⟩, c, rfl, fun j u hu => ?_⟩
    rw [add_at, Nat.zero_add, (cell_of hg j).1, ← Array.getElem?_toList]
    have hj := (List.getElem?_eq_some_iff.1 hu).1
    rw [← hxs, List.getElem?_take] at hu
    split at hu
    · exact hu
    · cases hu
def SetS (p gq oq : Nat) (v : Value) (y : Int) (k : Bool) (W : World) : Prop := match k with
  | true => W.cell? ⟨p, 0, none⟩ = some v
  | false => W.cell? ⟨gq, oq, none⟩ = some (.int .i64 y)

set_option maxRecDepth 100000 in
set_option maxHeartbeats 4000000 in
theorem rset_any (w : World) {B p : Nat} {es : List (Int × Int)} (h : RG w B p es) (hn : es.length < 50000) (who : Int) {v : Value} {on : List Int} (hv : RdI w v on) (hon : on.length < 1000) :
    Calls Try.prog 14 #[.pointer (some ⟨p, 0, none⟩), .int .i64 who, v] w fun e w' => e = .returned (.tuple #[]) ∧ RG w' B p (setE es who on) ∧ Fr w.heap.size (fun k => k = p) w w' := by
  obtain ⟨ii, hii, hz0, hz1, hz2⟩ := info_parts infoE
  obtain ⟨A, c, rfl, hA⟩ := hv
  have hA2 : ∀ j (hj : j < on.length), ∃ g o, A = some ⟨g, o, none⟩ ∧ g < w.heap.size ∧ g ≠ p ∧ w.cell? ⟨g, o + j, none⟩ = some (.int .i64 on[j]) := fun j hj => by
    obtain ⟨g, o, e, hg, hc⟩ := hA j hj
    refine ⟨g, o, e, hg, fun e2 => ?_, hc⟩
    subst e2
    obtain ⟨v, hp, hs⟩ := h.ex
    obtain ⟨pt, cp, rfl, _⟩ := hs.at_
    rw [(cell_of hp _).1] at hc
    cases hoj : o + j with
    | zero => rw [hoj] at hc; simp at hc
    | succ q => rw [hoj] at hc; simp at hc
  have HA := Lib.hid hA2
  have CC := rclear_any w h (by omega) who
  have HPB := Lib.hid h.pb
  have HPL := Lib.hid h.lt
  have HN := Lib.hid (show es.length < 50000 ∧ on.length < 1000 from ⟨hn, hon⟩)
  obtain ⟨m, hm⟩ : ∃ m, on.length = m := ⟨_, rfl⟩
  have HM := Lib.hid hm
  rw [hm] at hon ⊢
  have hmI : (m : Int) < 1000 := by omega
  clear hA hA2 h hm hn
  go_enter Try.func14, Try.ntmps14
  go_upto_region 2 with (first | (go_at_call 10; refine CC.mono ?_; rintro e w1 ⟨rfl, h1, hf1⟩))
  have R0 : Hid (∃ i : Nat, i ≤ m ∧ Value.int .i64 0 = .int .i64 (i : Int) ∧ RG w1 B p (setE es who (on.take i)) ∧ Fr w.heap.size (fun k => k = p) w w1) := ⟨0, Nat.zero_le _, rfl, by simpa [setE] using h1, hf1⟩
  clear CC h1 hf1
  go_loopw [6] (fun iv wr => Hid (∃ i : Nat, i ≤ m ∧ iv = .int .i64 (i : Int) ∧ RG wr B p (setE es who (on.take i)) ∧ Fr w.heap.size (fun k => k = p) w wr)) (fun iv _ => m - ivN iv)
  case atStart => exact R0
  case round =>
    obtain ⟨i, hi, rfl, h, hf⟩ := hrel.out
    clear hrel R0
    have hi0 : (0 : Int) ≤ (i : Int) := by omega
    by_cases hlt : i < m
    · have hio : i < on.length := by rw [HM.out]; exact hlt
      obtain ⟨gq, oq, rfl, hg, hgp, hc⟩ := HA.out i hio
      have hcw := (World.cell?_of_block (a := ⟨gq, oq + i, none⟩) (hf.block gq hg hgp)).trans hc
      have hft := setE_take (es := es) (who := who) hio
      have hsl := setE_length es who (on.take i)
      rw [List.length_take] at hsl
      generalize on[i] = y at *
      have hltI : (i : Int) < (m : Int) := by omega
      have HI := Lib.hid hlt
      have HFT := Lib.hid hft
      have HF := Lib.hid hf
      have HESL := Lib.hid (show (setE es who (on.take i)).length < 60000 by have := HN.out; omega)
      have HGQ : Hid (gq < wr.heap.size ∧ gq ≠ p) := ⟨Nat.lt_of_lt_of_le hg hf.size, hgp⟩
      have HR := Lib.hid h
      clear hi hlt hft hsl hf hio hc hg hgp h
      generalize setE es who (on.take i) = ES at *
      by_cases hw : y = who
      · have hHF := Lib.hid (show setE es who (on.take (i + 1)) = ES by rw [HFT.out]; simp [hw])
        have hwb : (y == who) = true := by simpa using hw
        have hwn : (y != who) = false := by simpa using hw
        clear HFT hw
        go_wp2
        exact ⟨⟨i + 1, HI.out, rfl, by rw [hHF.out]; exact HR.out, HF.out⟩, by have := HI.out; simp only [ivN]; omega⟩
      · have hHF := Lib.hid (show setE es who (on.take (i + 1)) = ES ++ [(who, y)] by rw [HFT.out]; simp [hw])
        have hwb : (y == who) = false := by simpa using hw
        have hwn : (y != who) = true := by simpa using hw
        clear HFT hw
        go_upto_region 5 with fail
        clear hwb hwn
        obtain ⟨v, hp, hs⟩ := HR.out.ex
        obtain ⟨pt, cp, rfl, _, _⟩ := hs.at_
        obtain ⟨n, hnn⟩ : ∃ n, ES.length = n := ⟨_, rfl⟩
        have hn6 : n < 60000 := by rw [← hnn]; exact HESL.out
        have HP := Lib.hid hp
        have hs' : wr.ownsRow B 51 2 (.slice pt n cp) n (ES.flatMap eV) := by rw [← hnn]; exact hs
        have HSE := Lib.hid (own_src_all hs')
        have HLE := Lib.hid (show (ES.flatMap eV).length = n * 2 by rw [edges_len, hnn])
        have HNE2 := Lib.hid hnn
        have hcp : wr.cell? ⟨p, 0, none⟩ = some (.slice pt n cp) := by rw [← hnn]; exact (cell_of hp 0).1
        have HC : Hid (∀ (k : Bool) (W : World), Below wr.heap.size wr W → SetS p gq (oq + i) (.slice pt n cp) y k W) := fun k W hb => by
          cases k
          · exact (World.cell?_of_block (a := ⟨gq, oq + i, none⟩) (hb.block gq HGQ.out.1)).trans hcw
          · exact (World.cell?_of_block (a := ⟨p, 0, none⟩) (hb.block p HR.out.lt)).trans hcp
        have HCF : Hid (∀ W : World, Below wr.heap.size wr W → W.frozen? ⟨p, 0, none⟩ = false) := fun W hb => (World.frozen?_of_block (a := ⟨p, 0, none⟩) (hb.block p HR.out.lt)).trans (cell_of hp 0).2
        clear hs hs' hp hcw hnn hcp
        refine wp_region_F (SetS p gq (oq + i) (.slice pt n cp) y) (fun _ j => StT 17 () j) (by kernel_rfl) ?_
        have HK0 := Lib.hid (Below.refl wr.heap.size wr).drew
        generalize wr.drew = WK0 at *
        refine wpAnyF_take0 (i := 0) (oi := ⟨_, _, _, _, _, _⟩) (v := ?_) rfl (by kernel_rfl) (by kernel_rfl) (by kernel_rfl) (fun _ _ _ h => h) (Or.inl ⟨by rfl, ?_⟩) ?_
        rotate_left
        · intro W _
          go_simp
          try with_reducible rfl
        rotate_left
        try simp only [Act.put, List.setIfInBounds_toArray, List.set_cons_zero, List.set_cons_succ]
        refine wpAnyF_take0 (i := 2) (oi := ⟨_, _, _, _, _, _⟩) (v := ?_) rfl (by kernel_rfl) (by kernel_rfl) (by kernel_rfl) (fun _ _ _ h => h) (Or.inl ⟨by rfl, ?_⟩) ?_
        rotate_left
        · intro W _
          go_simp
          try with_reducible rfl
        rotate_left
        try simp only [Act.put, List.setIfInBounds_toArray, List.set_cons_zero, List.set_cons_succ]
        refine wpAnyF_take0 (i := 3) (oi := ⟨_, _, _, _, _, _⟩) (v := ?_) rfl (by kernel_rfl) (by kernel_rfl) (by kernel_rfl) (fun _ _ _ h => h) (Or.inl ⟨by rfl, ?_⟩) ?_
        rotate_left
        · intro W _
          go_simp
          try with_reducible rfl
        rotate_left
        try simp only [Act.put, List.setIfInBounds_toArray, List.set_cons_zero, List.set_cons_succ]
        refine wpAnyF_take0 (i := 4) (oi := ⟨_, _, _, _, _, _⟩) (v := ?_) rfl (by kernel_rfl) (by kernel_rfl) (by kernel_rfl) (fun _ _ _ h => h) (Or.inl ⟨by rfl, ?_⟩) ?_
        rotate_left
        · intro W _
          go_simp
          try with_reducible rfl
        rotate_left
        try simp only [Act.put, List.setIfInBounds_toArray, List.set_cons_zero, List.set_cons_succ]
        refine wpAnyF_take true (i := 5) (oi := ⟨_, _, _, _, _, _⟩) (v := (.slice pt n cp)) rfl (by kernel_rfl) (by kernel_rfl) (by kernel_rfl) (by kernel_rfl) (fun _ _ _ h => h) (HC.out true _ HK0.out) (Or.inl ⟨by rfl, fun W hSW => ?_⟩) ?_
        · have hS : W.cell? ⟨p, 0, none⟩ = some (.slice pt n cp) := hSW
          go_simp
        try simp only [Act.put, List.setIfInBounds_toArray, List.set_cons_zero, List.set_cons_succ]
        refine wpAnyF_take0 (i := 7) (oi := ⟨_, _, _, _, _, _⟩) (v := ?_) rfl (by kernel_rfl) (by kernel_rfl) (by kernel_rfl) (fun _ _ _ h => h) (Or.inl ⟨by rfl, ?_⟩) ?_
        rotate_left
        · intro W _
          go_simp
          try with_reducible rfl
        rotate_left
        try simp only [Act.put, List.setIfInBounds_toArray, List.set_cons_zero, List.set_cons_succ]
        refine wpAnyF_take0 (i := 8) (oi := ⟨_, _, _, _, _, _⟩) (v := ?_) rfl (by kernel_rfl) (by kernel_rfl) (by kernel_rfl) (fun _ _ _ h => h) (Or.inl ⟨by rfl, ?_⟩) ?_
        rotate_left
        · intro W _
          go_simp
          try with_reducible rfl
        rotate_left
        try simp only [Act.put, List.setIfInBounds_toArray, List.set_cons_zero, List.set_cons_succ]
        refine wpAnyF_take0 (i := 9) (oi := ⟨_, _, _, _, _, _⟩) (v := ?_) rfl (by kernel_rfl) (by kernel_rfl) (by kernel_rfl) (fun _ _ _ h => h) (Or.inl ⟨by rfl, ?_⟩) ?_
        rotate_left
        · intro W _
          go_simp
          try with_reducible rfl
        rotate_left
        try simp only [Act.put, List.setIfInBounds_toArray, List.set_cons_zero, List.set_cons_succ]
        refine wpAnyF_take0 (i := 10) (oi := ⟨_, _, _, _, _, _⟩) (v := ?_) rfl (by kernel_rfl) (by kernel_rfl) (by kernel_rfl) (fun _ _ _ h => h) (Or.inl ⟨by rfl, ?_⟩) ?_
        rotate_left
        · intro W _
          go_simp
          try with_reducible rfl
        rotate_left
        try simp only [Act.put, List.setIfInBounds_toArray, List.set_cons_zero, List.set_cons_succ]
        refine wpAnyF_take false (i := 11) (oi := ⟨_, _, _, _, _, _⟩) (v := (.int .i64 y)) rfl (by kernel_rfl) (by kernel_rfl) (by kernel_rfl) (by kernel_rfl) (fun _ _ _ h => h) (HC.out false _ HK0.out) (Or.inl ⟨by rfl, fun W hSW => ?_⟩) ?_
        · have hS : W.cell? ⟨gq, oq + i, none⟩ = some (.int .i64 y) := hSW
          go_simp
        try simp only [Act.put, List.setIfInBounds_toArray, List.set_cons_zero, List.set_cons_succ]
        refine wpAnyF_take0 (i := 12) (oi := ⟨_, _, _, _, _, _⟩) (v := ?_) rfl (by kernel_rfl) (by kernel_rfl) (by kernel_rfl) (fun _ _ _ h => h) (Or.inl ⟨by rfl, ?_⟩) ?_
        rotate_left
        · intro W _
          go_simp
          try with_reducible rfl
        rotate_left
        try simp only [Act.put, List.setIfInBounds_toArray, List.set_cons_zero, List.set_cons_succ]
        refine wpAnyF_ready (rs := [1, 13]) (by kernel_rfl) (by simp) ?_
        refine AllReadyF.cons (o := ⟨_, _, _, _, _, _⟩) rfl (fun K hK => ?_) (AllReadyF.cons (o := ⟨_, _, _, _, _, _⟩) rfl (fun K hK => ?_) (AllReadyF.nil))
        · rw [if_pos (by rfl)]
          go_simp
          have HK1 := Lib.hid (HK0.out.alloc HK0.out.size (.cells #[] 51))
          have OO := Lib.hid (World.ownsRow_made (e := 51) (size := 2) WK0 #[] 0 HK0.out.size (by decide) rfl)
          generalize WK0.alloc (.cells #[] 51) = WK1 at *
          generalize WK0.heap.size = gm at *
          refine hK.out _ _ (fun k _ _ => HC.out k _ HK1.out) ?_
          clear hK K
          try simp only [Act.put, List.setIfInBounds_toArray, List.set_cons_zero, List.set_cons_succ]
          refine wpAnyF_ready (rs := [6, 13]) (by kernel_rfl) (by simp) ?_
          refine AllReadyF.cons (o := ⟨_, _, _, _, _, _⟩) rfl (fun K hK => ?_) (AllReadyF.cons (o := ⟨_, _, _, _, _, _⟩) rfl (fun K hK => ?_) (AllReadyF.nil))
          · refine step_append_src rfl (.tmp 23) (.tmp 27) 27 rfl wr.heap.size 51 ii (.agg #[.int .i64 0, .int .i64 0]) 2 16 Try.underlying27 hii hz0 hz1 hz2 rfl (by decide) gm 0 0 _ rfl OO.out _ n _ rfl (HSE.out.up HK1.out) (HLE.out) (one_edges _) (by unfold maxLen; omega) (by omega) HK1.out.size ?_
            intro g2 c2 WK2 ho hg hor
            have HK2 := Lib.hid (below_grown HK1.out OO.out hg HK1.out.size)
            rw [Nat.zero_add]
            rw [Nat.zero_add, List.nil_append] at ho
            replace OO := Lib.hid ho
            clear ho hg hor
            refine hK.out _ _ (fun k _ _ => HC.out k _ HK2.out) ?_
            clear hK K
            try simp only [Act.put, List.setIfInBounds_toArray, List.set_cons_zero, List.set_cons_succ]
            refine wpAnyF_ready (rs := [13]) (by kernel_rfl) (by simp) ?_
            refine AllReadyF.cons (o := ⟨_, _, _, _, _, _⟩) rfl (fun K hK => ?_) (AllReadyF.nil)
            · rw [if_pos (by rfl)]
              go_simp
              have HK3 := Lib.hid (HK2.out.alloc HK2.out.size (.cells #[.int .i64 who, .int .i64 y] 51))
              have HE := Lib.hid (heap_alloc_new WK2 (.cells #[.int .i64 who, .int .i64 y] 51))
              have HNE : Hid (WK2.heap.size ≠ g2) := by have := own_blk_lt OO.out; exact Nat.ne_of_gt this
              replace OO := Lib.hid (own_up OO.out ((Below.refl _ WK2).alloc (Nat.le_refl _) (.cells #[.int .i64 who, .int .i64 y] 51)))
              generalize WK2.alloc (.cells #[.int .i64 who, .int .i64 y] 51) = WK3 at *
              generalize WK2.heap.size = ge at *
              refine hK.out _ _ (fun k _ _ => HC.out k _ HK3.out) ?_
              clear hK K
              try simp only [Act.put, List.setIfInBounds_toArray, List.set_cons_zero, List.set_cons_succ]
              refine wpAnyF_ready (rs := [14]) (by kernel_rfl) (by simp) ?_
              refine AllReadyF.cons (o := ⟨_, _, _, _, _, _⟩) rfl (fun K hK => ?_) (AllReadyF.nil)
              refine step_append_src rfl (.tmp 28) (.tmp 35) 27 rfl wr.heap.size 51 ii (.agg #[.int .i64 0, .int .i64 0]) 2 16 Try.underlying27 hii hz0 hz1 hz2 rfl (by decide) g2 c2 n _ rfl OO.out _ 1 [.int .i64 who, .int .i64 y] rfl (src_new HE.out rfl rfl) (rfl) (by intro u hu; simp at hu; rcases hu with rfl | rfl <;> rfl) (by unfold maxLen; omega) (by omega) HK3.out.size ?_
              intro g4 c4 WK4 ho hg hor
              have HK4 := Lib.hid (below_grown HK3.out OO.out hg HK3.out.size)
              replace OO := Lib.hid ho
              clear ho hg hor
              refine hK.out _ _ (fun k _ _ => HC.out k _ HK4.out) ?_
              clear hK K
              try simp only [Act.put, List.setIfInBounds_toArray, List.set_cons_zero, List.set_cons_succ]
              refine wpAnyF_take0 (i := 15) (oi := ⟨_, _, _, _, _, _⟩) (v := ?_) rfl (by kernel_rfl) (by kernel_rfl) (by kernel_rfl) (fun _ _ _ h => h) (Or.inl ⟨by rfl, ?_⟩) ?_
              rotate_left
              · intro W _
                go_simp
                try with_reducible rfl
              rotate_left
              try simp only [Act.put, List.setIfInBounds_toArray, List.set_cons_zero, List.set_cons_succ]
              refine wpAnyF_take0 (i := 16) (oi := ⟨_, _, _, _, _, _⟩) (v := ?_) rfl (by kernel_rfl) (by kernel_rfl) (by kernel_rfl) (fun _ _ _ h => h) (Or.inl ⟨by rfl, ?_⟩) ?_
              rotate_left
              · intro W _
                go_simp
                try with_reducible rfl
              rotate_left
              try simp only [Act.put, List.setIfInBounds_toArray, List.set_cons_zero, List.set_cons_succ]
              refine wpAnyF_ready (rs := [17]) (by kernel_rfl) (by simp) ?_
              refine AllReadyF.cons (o := ⟨_, _, _, _, _, _⟩) rfl (fun K hK => ?_) (AllReadyF.nil)
              have hcc : WK4.cell? ⟨p, 0, none⟩ = some (.slice pt n cp) := HC.out true _ HK4.out
              have hff : WK4.frozen? ⟨p, 0, none⟩ = false := HCF.out _ HK4.out
              rw [if_pos (by rfl)]
              go_simp
              refine hK.out _ _ (fun _ hT _ => by simp [StT] at hT) ?_
              clear hK K hcc hff
              try simp only [Act.put, List.setIfInBounds_toArray, List.set_cons_zero, List.set_cons_succ]
              refine wpAnyF_done (by kernel_rfl) ?_ _
              have hk0 : WK4.heap[p]? = some (.cells #[.slice pt ES.length cp] 29 (0, 0)) := (HK4.out.block p HR.out.lt).trans HP.out
              have hWK := heap_setCell_same WK4 p 0 _ _ (.slice (some ⟨g4, 0, none⟩) (n + 1) c4) hk0
              have hOK := own_ne (q := p) (u := .slice (some ⟨g4, 0, none⟩) (n + 1) c4) OO.out (by intro e2; have := (OO.out.lt p e2).1; have := HR.out.lt; omega)
              have hBK := (Fr.ofBelow (fun k => k = p) HK4.out).setCell (q := ⟨p, 0, none⟩) (Or.inl rfl) (.slice (some ⟨g4, 0, none⟩) (n + 1) c4) HK4.out.size
              generalize WK4.setCell ⟨p, 0, none⟩ (.slice (some ⟨g4, 0, none⟩) (n + 1) c4) = WX at *
              have hR9 : RG WX B p (ES ++ [(who, y)]) := ⟨Nat.le_trans HR.out.bw hBK.size, HPB.out, _, hWK, own_base (SlE.more (by rw [HNE2.out]; exact hOK)) HR.out.bw⟩
              have HR9 := Lib.hid hR9
              have HF9 := Lib.hid (HF.out.trans2 hBK)
              clear hk0 hWK hOK hBK hR9
              go_wp2_with fail
              exact ⟨⟨i + 1, HI.out, rfl, by rw [hHF.out]; exact HR9.out, HF9.out⟩, by have := HI.out; simp only [ivN]; omega⟩
          · rw [if_pos (by rfl)]
            go_simp
            have HK2 := Lib.hid (HK1.out.alloc HK1.out.size (.cells #[.int .i64 who, .int .i64 y] 51))
            have HE := Lib.hid (heap_alloc_new WK1 (.cells #[.int .i64 who, .int .i64 y] 51))
            have HNE : Hid (WK1.heap.size ≠ gm) := by have := own_blk_lt OO.out; exact Nat.ne_of_gt this
            replace OO := Lib.hid (own_up OO.out ((Below.refl _ WK1).alloc (Nat.le_refl _) (.cells #[.int .i64 who, .int .i64 y] 51)))
            generalize WK1.alloc (.cells #[.int .i64 who, .int .i64 y] 51) = WK2 at *
            generalize WK1.heap.size = ge at *
            refine hK.out _ _ (fun k _ _ => HC.out k _ HK2.out) ?_
            clear hK K
            try simp only [Act.put, List.setIfInBounds_toArray, List.set_cons_zero, List.set_cons_succ]
            refine wpAnyF_ready (rs := [6]) (by kernel_rfl) (by simp) ?_
            refine AllReadyF.cons (o := ⟨_, _, _, _, _, _⟩) rfl (fun K hK => ?_) (AllReadyF.nil)
            · refine step_append_src rfl (.tmp 23) (.tmp 27) 27 rfl wr.heap.size 51 ii (.agg #[.int .i64 0, .int .i64 0]) 2 16 Try.underlying27 hii hz0 hz1 hz2 rfl (by decide) gm 0 0 _ rfl OO.out _ n _ rfl (HSE.out.up HK2.out) (HLE.out) (one_edges _) (by unfold maxLen; omega) (by omega) HK2.out.size ?_
              intro g3 c3 WK3 ho hg hor
              have HK3 := Lib.hid (below_grown HK2.out OO.out hg HK2.out.size)
              replace HE := Lib.hid (grown_keep hg HE.out HNE.out)
              clear HNE
              rw [Nat.zero_add]
              rw [Nat.zero_add, List.nil_append] at ho
              replace OO := Lib.hid ho
              clear ho hg hor
              refine hK.out _ _ (fun k _ _ => HC.out k _ HK3.out) ?_
              clear hK K
              try simp only [Act.put, List.setIfInBounds_toArray, List.set_cons_zero, List.set_cons_succ]
              refine wpAnyF_ready (rs := [14]) (by kernel_rfl) (by simp) ?_
              refine AllReadyF.cons (o := ⟨_, _, _, _, _, _⟩) rfl (fun K hK => ?_) (AllReadyF.nil)
              refine step_append_src rfl (.tmp 28) (.tmp 35) 27 rfl wr.heap.size 51 ii (.agg #[.int .i64 0, .int .i64 0]) 2 16 Try.underlying27 hii hz0 hz1 hz2 rfl (by decide) g3 c3 n _ rfl OO.out _ 1 [.int .i64 who, .int .i64 y] rfl (src_new HE.out rfl rfl) (rfl) (by intro u hu; simp at hu; rcases hu with rfl | rfl <;> rfl) (by unfold maxLen; omega) (by omega) HK3.out.size ?_
              intro g4 c4 WK4 ho hg hor
              have HK4 := Lib.hid (below_grown HK3.out OO.out hg HK3.out.size)
              replace OO := Lib.hid ho
              clear ho hg hor
              refine hK.out _ _ (fun k _ _ => HC.out k _ HK4.out) ?_
              clear hK K
              try simp only [Act.put, List.setIfInBounds_toArray, List.set_cons_zero, List.set_cons_succ]
              refine wpAnyF_take0 (i := 15) (oi := ⟨_, _, _, _, _, _⟩) (v := ?_) rfl (by kernel_rfl) (by kernel_rfl) (by kernel_rfl) (fun _ _ _ h => h) (Or.inl ⟨by rfl, ?_⟩) ?_
              rotate_left
              · intro W _
                go_simp
                try with_reducible rfl
              rotate_left
              try simp only [Act.put, List.setIfInBounds_toArray, List.set_cons_zero, List.set_cons_succ]
              refine wpAnyF_take0 (i := 16) (oi := ⟨_, _, _, _, _, _⟩) (v := ?_) rfl (by kernel_rfl) (by kernel_rfl) (by kernel_rfl) (fun _ _ _ h => h) (Or.inl ⟨by rfl, ?_⟩) ?_
              rotate_left
              · intro W _
                go_simp
                try with_reducible rfl
              rotate_left
              try simp only [Act.put, List.setIfInBounds_toArray, List.set_cons_zero, List.set_cons_succ]
              refine wpAnyF_ready (rs := [17]) (by kernel_rfl) (by simp) ?_
              refine AllReadyF.cons (o := ⟨_, _, _, _, _, _⟩) rfl (fun K hK => ?_) (AllReadyF.nil)
              have hcc : WK4.cell? ⟨p, 0, none⟩ = some (.slice pt n cp) := HC.out true _ HK4.out
              have hff : WK4.frozen? ⟨p, 0, none⟩ = false := HCF.out _ HK4.out
              rw [if_pos (by rfl)]
              go_simp
              refine hK.out _ _ (fun _ hT _ => by simp [StT] at hT) ?_
              clear hK K hcc hff
              try simp only [Act.put, List.setIfInBounds_toArray, List.set_cons_zero, List.set_cons_succ]
              refine wpAnyF_done (by kernel_rfl) ?_ _
              have hk0 : WK4.heap[p]? = some (.cells #[.slice pt ES.length cp] 29 (0, 0)) := (HK4.out.block p HR.out.lt).trans HP.out
              have hWK := heap_setCell_same WK4 p 0 _ _ (.slice (some ⟨g4, 0, none⟩) (n + 1) c4) hk0
              have hOK := own_ne (q := p) (u := .slice (some ⟨g4, 0, none⟩) (n + 1) c4) OO.out (by intro e2; have := (OO.out.lt p e2).1; have := HR.out.lt; omega)
              have hBK := (Fr.ofBelow (fun k => k = p) HK4.out).setCell (q := ⟨p, 0, none⟩) (Or.inl rfl) (.slice (some ⟨g4, 0, none⟩) (n + 1) c4) HK4.out.size
              generalize WK4.setCell ⟨p, 0, none⟩ (.slice (some ⟨g4, 0, none⟩) (n + 1) c4) = WX at *
              have hR9 : RG WX B p (ES ++ [(who, y)]) := ⟨Nat.le_trans HR.out.bw hBK.size, HPB.out, _, hWK, own_base (SlE.more (by rw [HNE2.out]; exact hOK)) HR.out.bw⟩
              have HR9 := Lib.hid hR9
              have HF9 := Lib.hid (HF.out.trans2 hBK)
              clear hk0 hWK hOK hBK hR9
              go_wp2_with fail
              exact ⟨⟨i + 1, HI.out, rfl, by rw [hHF.out]; exact HR9.out, HF9.out⟩, by have := HI.out; simp only [ivN]; omega⟩
        · rw [if_pos (by rfl)]
          go_simp
          have HK1 := Lib.hid (HK0.out.alloc HK0.out.size (.cells #[.int .i64 who, .int .i64 y] 51))
          have HE := Lib.hid (heap_alloc_new WK0 (.cells #[.int .i64 who, .int .i64 y] 51))
          generalize WK0.alloc (.cells #[.int .i64 who, .int .i64 y] 51) = WK1 at *
          generalize WK0.heap.size = ge at *
          refine hK.out _ _ (fun k _ _ => HC.out k _ HK1.out) ?_
          clear hK K
          try simp only [Act.put, List.setIfInBounds_toArray, List.set_cons_zero, List.set_cons_succ]
          refine wpAnyF_ready (rs := [1]) (by kernel_rfl) (by simp) ?_
          refine AllReadyF.cons (o := ⟨_, _, _, _, _, _⟩) rfl (fun K hK => ?_) (AllReadyF.nil)
          · rw [if_pos (by rfl)]
            go_simp
            have HK2 := Lib.hid (HK1.out.alloc HK1.out.size (.cells #[] 51))
            have OO := Lib.hid (World.ownsRow_made (e := 51) (size := 2) WK1 #[] 0 HK1.out.size (by decide) rfl)
            have HNE : Hid (ge ≠ WK1.heap.size) := by have := lt_of_heap HE.out; exact Nat.ne_of_lt this
            replace HE := Lib.hid ((((Below.refl _ WK1).alloc (Nat.le_refl _) (.cells #[] 51)).block ge (lt_of_heap HE.out)).trans HE.out)
            generalize WK1.alloc (.cells #[] 51) = WK2 at *
            generalize WK1.heap.size = gm at *
            refine hK.out _ _ (fun k _ _ => HC.out k _ HK2.out) ?_
            clear hK K
            try simp only [Act.put, List.setIfInBounds_toArray, List.set_cons_zero, List.set_cons_succ]
            refine wpAnyF_ready (rs := [6]) (by kernel_rfl) (by simp) ?_
            refine AllReadyF.cons (o := ⟨_, _, _, _, _, _⟩) rfl (fun K hK => ?_) (AllReadyF.nil)
            · refine step_append_src rfl (.tmp 23) (.tmp 27) 27 rfl wr.heap.size 51 ii (.agg #[.int .i64 0, .int .i64 0]) 2 16 Try.underlying27 hii hz0 hz1 hz2 rfl (by decide) gm 0 0 _ rfl OO.out _ n _ rfl (HSE.out.up HK2.out) (HLE.out) (one_edges _) (by unfold maxLen; omega) (by omega) HK2.out.size ?_
              intro g3 c3 WK3 ho hg hor
              have HK3 := Lib.hid (below_grown HK2.out OO.out hg HK2.out.size)
              replace HE := Lib.hid (grown_keep hg HE.out HNE.out)
              clear HNE
              rw [Nat.zero_add]
              rw [Nat.zero_add, List.nil_append] at ho
              replace OO := Lib.hid ho
              clear ho hg hor
              refine hK.out _ _ (fun k _ _ => HC.out k _ HK3.out) ?_
              clear hK K
              try simp only [Act.put, List.setIfInBounds_toArray, List.set_cons_zero, List.set_cons_succ]
              refine wpAnyF_ready (rs := [14]) (by kernel_rfl) (by simp) ?_
              refine AllReadyF.cons (o := ⟨_, _, _, _, _, _⟩) rfl (fun K hK => ?_) (AllReadyF.nil)
              refine step_append_src rfl (.tmp 28) (.tmp 35) 27 rfl wr.heap.size 51 ii (.agg #[.int .i64 0, .int .i64 0]) 2 16 Try.underlying27 hii hz0 hz1 hz2 rfl (by decide) g3 c3 n _ rfl OO.out _ 1 [.int .i64 who, .int .i64 y] rfl (src_new HE.out rfl rfl) (rfl) (by intro u hu; simp at hu; rcases hu with rfl | rfl <;> rfl) (by unfold maxLen; omega) (by omega) HK3.out.size ?_
              intro g4 c4 WK4 ho hg hor
              have HK4 := Lib.hid (below_grown HK3.out OO.out hg HK3.out.size)
              replace OO := Lib.hid ho
              clear ho hg hor
              refine hK.out _ _ (fun k _ _ => HC.out k _ HK4.out) ?_
              clear hK K
              try simp only [Act.put, List.setIfInBounds_toArray, List.set_cons_zero, List.set_cons_succ]
              refine wpAnyF_take0 (i := 15) (oi := ⟨_, _, _, _, _, _⟩) (v := ?_) rfl (by kernel_rfl) (by kernel_rfl) (by kernel_rfl) (fun _ _ _ h => h) (Or.inl ⟨by rfl, ?_⟩) ?_
              rotate_left
              · intro W _
                go_simp
                try with_reducible rfl
              rotate_left
              try simp only [Act.put, List.setIfInBounds_toArray, List.set_cons_zero, List.set_cons_succ]
              refine wpAnyF_take0 (i := 16) (oi := ⟨_, _, _, _, _, _⟩) (v := ?_) rfl (by kernel_rfl) (by kernel_rfl) (by kernel_rfl) (fun _ _ _ h => h) (Or.inl ⟨by rfl, ?_⟩) ?_
              rotate_left
              · intro W _
                go_simp
                try with_reducible rfl
              rotate_left
              try simp only [Act.put, List.setIfInBounds_toArray, List.set_cons_zero, List.set_cons_succ]
              refine wpAnyF_ready (rs := [17]) (by kernel_rfl) (by simp) ?_
              refine AllReadyF.cons (o := ⟨_, _, _, _, _, _⟩) rfl (fun K hK => ?_) (AllReadyF.nil)
              have hcc : WK4.cell? ⟨p, 0, none⟩ = some (.slice pt n cp) := HC.out true _ HK4.out
              have hff : WK4.frozen? ⟨p, 0, none⟩ = false := HCF.out _ HK4.out
              rw [if_pos (by rfl)]
              go_simp
              refine hK.out _ _ (fun _ hT _ => by simp [StT] at hT) ?_
              clear hK K hcc hff
              try simp only [Act.put, List.setIfInBounds_toArray, List.set_cons_zero, List.set_cons_succ]
              refine wpAnyF_done (by kernel_rfl) ?_ _
              have hk0 : WK4.heap[p]? = some (.cells #[.slice pt ES.length cp] 29 (0, 0)) := (HK4.out.block p HR.out.lt).trans HP.out
              have hWK := heap_setCell_same WK4 p 0 _ _ (.slice (some ⟨g4, 0, none⟩) (n + 1) c4) hk0
              have hOK := own_ne (q := p) (u := .slice (some ⟨g4, 0, none⟩) (n + 1) c4) OO.out (by intro e2; have := (OO.out.lt p e2).1; have := HR.out.lt; omega)
              have hBK := (Fr.ofBelow (fun k => k = p) HK4.out).setCell (q := ⟨p, 0, none⟩) (Or.inl rfl) (.slice (some ⟨g4, 0, none⟩) (n + 1) c4) HK4.out.size
              generalize WK4.setCell ⟨p, 0, none⟩ (.slice (some ⟨g4, 0, none⟩) (n + 1) c4) = WX at *
              have hR9 : RG WX B p (ES ++ [(who, y)]) := ⟨Nat.le_trans HR.out.bw hBK.size, HPB.out, _, hWK, own_base (SlE.more (by rw [HNE2.out]; exact hOK)) HR.out.bw⟩
              have HR9 := Lib.hid hR9
              have HF9 := Lib.hid (HF.out.trans2 hBK)
              clear hk0 hWK hOK hBK hR9
              go_wp2_with fail
              exact ⟨⟨i + 1, HI.out, rfl, by rw [hHF.out]; exact HR9.out, HF9.out⟩, by have := HI.out; simp only [ivN]; omega⟩
    · obtain rfl : i = m := by omega
      have ee : on.take i = on := List.take_of_length_le (Nat.le_of_eq HM.out)
      rw [ee] at h
      have HR := Lib.hid h
      have HF := Lib.hid hf
      clear h hf hi hlt ee
      go_wp2
      go_end0
      exact ⟨rfl, HR.out, HF.out⟩
end Go.Proofs.Ytcfibmbeojdifaa
