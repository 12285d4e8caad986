/- RedoMoves' walk. -/
import Derived.Test.YtmijdjlpfjfjoaaRdMvQ
import Derived.Deep.DeepCutAuto
import Derived.Deep.CutBlock
namespace Go.Proofs.Ytmijdjlpfjfjoaa.Rx
open Go.RowKit

def z15 : Array Value := #[.slice none 0 0, .slice none 0 0, .slice none 0 0, .slice none 0 0, .int .i64 0, .slice none 0 0, .slice none 0 0, .slice none 0 0, .slice none 0 0, .int .i64 0, .slice none 0 0, .slice none 0 0, .slice none 0 0, .slice none 0 0, .int .i64 0]
theorem mv_may (q : Int) : mayB (bstr [97 + q % 26]) ⟨#[]⟩ ⟨#[]⟩ = true := by
  have h : bytesOk [97 + q % 26] := by
    intro y hy
    rw [List.mem_singleton] at hy
    omega
  unfold mayB
  rw [bstr_size h, decide_eq_true_eq]
  exact ⟨by simp, by simp, by decide, by decide⟩

set_option maxRecDepth 100000 in
set_option maxHeartbeats 4000000 in
theorem redoMoves_any (w : World) (f t q : Int) (hf : 0 ≤ f ∧ f ≤ 255) (ht : 0 ≤ t ∧ t ≤ 255) (hq : 0 ≤ q ∧ q ≤ 255) :
    Calls Try.prog 6 #[.int .u8 f, .int .u8 t, .int .u8 q] w fun r w' => r = .returned (.bool true) ∧ Below w.heap.size w w' := by
  go_enter Try.func6, Try.ntmps6
  go_upto_region 3 with (go_at_call 7; refine (begun16 _).mono ?_; rintro r w2 ⟨rfl, hb2⟩)
  have HB2 := Lib.hid hb2
  clear hb2
  have t1 : f.tdiv 4 = f / 4 := Int.tdiv_eq_ediv_of_nonneg hf.1
  have t2 : (f / 4).tmod 3 = f / 4 % 3 := Int.tmod_eq_emod_of_nonneg (by omega)
  have t3 : f.tmod 4 = f % 4 := Int.tmod_eq_emod_of_nonneg hf.1
  have t4 : t.tdiv 4 = t / 4 := Int.tdiv_eq_ediv_of_nonneg ht.1
  have t5 : (t / 4).tmod 3 = t / 4 % 3 := Int.tmod_eq_emod_of_nonneg (by omega)
  have t6 : t.tmod 4 = t % 4 := Int.tmod_eq_emod_of_nonneg ht.1
  go_upto_region 5 with (fail)
  obtain ⟨ap, hap⟩ : ∃ m : Nat, (m : Int) = f / 4 % 3 := ⟨(f / 4 % 3).toNat, by omega⟩
  obtain ⟨ac, hac⟩ : ∃ m : Nat, (m : Int) = f % 4 := ⟨(f % 4).toNat, by omega⟩
  obtain ⟨bp, hbp⟩ : ∃ m : Nat, (m : Int) = t / 4 % 3 := ⟨(t / 4 % 3).toNat, by omega⟩
  obtain ⟨bc, hbc⟩ : ∃ m : Nat, (m : Int) = t % 4 := ⟨(t % 4).toNat, by omega⟩
  have hap3 : ap < 3 := by omega
  have hac4 : ac < 4 := by omega
  have hbp3 : bp < 3 := by omega
  have hbc4 : bc < 4 := by omega
  rw [← hap, ← hac, ← hbp, ← hbc]
  clear t1 t2 t3 t4 t5 t6 hap hac hbp hbc hf ht
  have hs1 : (w2.alloc (.cells #[.int .i64 (ap : Int), .int .i64 (ac : Int)] 25)).heap.size = w2.heap.size + 1 := by simp
  have hal := ((Below.refl w2.heap.size w2).alloc (Nat.le_refl _) (.cells #[.int .i64 (ap : Int), .int .i64 (ac : Int)] 25)).alloc (by omega) (.cells #[.int .i64 (bp : Int), .int .i64 (bc : Int)] 25)
  have hka : ((w2.alloc (.cells #[.int .i64 (ap : Int), .int .i64 (ac : Int)] 25)).alloc (.cells #[.int .i64 (bp : Int), .int .i64 (bc : Int)] 25)).heap[w2.heap.size]? = some (.cells #[.int .i64 (ap : Int), .int .i64 (ac : Int)] 25 (0, 0)) := (Below.heap_alloc _ _ _ (by omega)).trans (heap_alloc_new w2 _)
  have hkb : ((w2.alloc (.cells #[.int .i64 (ap : Int), .int .i64 (ac : Int)] 25)).alloc (.cells #[.int .i64 (bp : Int), .int .i64 (bc : Int)] 25)).heap[w2.heap.size + 1]? = some (.cells #[.int .i64 (bp : Int), .int .i64 (bc : Int)] 25 (0, 0)) := by
    have := heap_alloc_new (w2.alloc (.cells #[.int .i64 (ap : Int), .int .i64 (ac : Int)] 25)) (.cells #[.int .i64 (bp : Int), .int .i64 (bc : Int)] 25)
    rwa [hs1] at this
  have HB3 := Lib.hid (HB2.out.trans (hal.mono HB2.out.size))
  have HG : Hid (w2.heap.size + 1 < ((w2.alloc (.cells #[.int .i64 (ap : Int), .int .i64 (ac : Int)] 25)).alloc (.cells #[.int .i64 (bp : Int), .int .i64 (bc : Int)] 25)).heap.size) := (Array.getElem?_eq_some_iff.1 hkb).1
  generalize (w2.alloc (.cells #[.int .i64 (ap : Int), .int .i64 (ac : Int)] 25)).alloc (.cells #[.int .i64 (bp : Int), .int .i64 (bc : Int)] 25) = w3 at *
  generalize w2.heap.size = g7 at *
  have HKa := Lib.hid hka
  have HKb := Lib.hid hkb
  have x0 : w3.cell? ⟨g7, 0, none⟩ = some (.int .i64 (ap : Int)) := (cell_of hka 0).1
  have x1 : w3.cell? ⟨g7, 1, none⟩ = some (.int .i64 (ac : Int)) := (cell_of hka 1).1
  have y0 : w3.cell? ⟨g7 + 1, 0, none⟩ = some (.int .i64 (bp : Int)) := (cell_of hkb 0).1
  have y1 : w3.cell? ⟨g7 + 1, 1, none⟩ = some (.int .i64 (bc : Int)) := (cell_of hkb 1).1
  clear hs1 hal hka hkb HB2
  by_cases hne : ap = bp ∧ ac = bc
  · obtain ⟨rfl, rfl⟩ := hne
    go_wp2
    go_ret
    exact ⟨rfl, HB3.out⟩
  have HNe := Lib.hid hne
  have hqm : q.tmod 26 = q % 26 := Int.tmod_eq_emod_of_nonneg hq.1
  have hqw : IntKind.u8.wrap (97 + q % 26) = 97 + q % 26 := IntWalk.u8_in _ (by omega)
  have hqy : bytesOk [97 + q % 26] := by
    intro y hy
    rw [List.mem_singleton] at hy
    omega
  have hb4 : Below w3.heap.size w3 (w3.alloc (.cells #[.int .u8 (97 + q % 26)] 5)) := (Below.refl _ _).alloc (Nat.le_refl _) _
  have cv : (convert 22 9 (.slice (some ⟨w3.heap.size, 0, none⟩) 1 1)).run Try.prog (w3.alloc (.cells #[.int .u8 (97 + q % 26)] 5)) = .ok (.string (bstr [97 + q % 26])) (w3.alloc (.cells #[.int .u8 (97 + q % 26)] 5)) := conv_slK (((blk_new w3 [97 + q % 26]).pt (n := 1) (c := 1) rfl (Nat.le_refl _)).slK hqy)
  have HRow := Lib.hid (rrow_ok (w3.alloc (.cells #[.int .u8 (97 + q % 26)] 5)) (bstr [97 + q % 26]) ⟨#[]⟩ ⟨#[]⟩ (mv_may q))
  have HRm := Lib.hid (mv_may q)
  have HB4 := Lib.hid hb4
  have HKy : Hid (∃ ky, ky = bstr [97 + q % 26]) := ⟨_, rfl⟩
  clear hb4
  obtain ⟨ky, hky⟩ : ∃ ky, ky = bstr [97 + q % 26] := ⟨_, rfl⟩
  rw [← hky] at cv HRow HRm
  have HKq := Lib.hid hky
  clear hky HKy hqy
  have hcase : ap ≠ bp ∨ (ap = bp ∧ ac ≠ bc) := by
    by_cases e : ap = bp
    · exact .inr ⟨e, fun h => hne ⟨e, h⟩⟩
    · exact .inl e
  go_upto_region 5 with (fail)
  go_cut [45] (fun u wx => u = .bool false ∧ wx = w3)
  case first =>
    rcases hcase with h | ⟨h, h'⟩
    · have h2 : ((ap : Int) == (bp : Int)) = false := by simp; omega
      clear hne h
      go_wp2
      go_meet
      exact ⟨rfl, rfl⟩
    · subst h
      have h2 : ((ac : Int) == (bc : Int)) = false := by simp; omega
      clear hne h'
      go_wp2
      go_meet
      exact ⟨rfl, rfl⟩
  case rest =>
    obtain ⟨rfl, rfl⟩ := hcut
    clear hcase hne
    go_upto_region 8 with (go_at_call 15; refine HRow.out.mono ?_; rintro r w5 ⟨v5, rfl, ho5, hb5⟩; obtain ⟨A5, q5, rfl⟩ := own_sl ho5; have HR5 := Lib.hid (own_slK ho5 (rowL_ok HRm.out)); have HB5 := Lib.hid (HB4.out.trans (hb5.mono HB4.out.size)); clear ho5 hb5 cv HRow)
    have hKa5 := (HB5.out.block g7 (by have := HG.out; omega)).trans HKa.out
    have hKb5 := (HB5.out.block (g7 + 1) HG.out).trans HKb.out
    have HKa5 := Lib.hid hKa5
    have HKb5 := Lib.hid hKb5
    have HB6 := Lib.hid (HB3.out.trans (HB5.out.mono HB3.out.size))
    have HG5 := Lib.hid (Array.getElem?_eq_some_iff.1 hKb5).1
    clear x0 x1 y0 y1 hqm hqw HB4 HB5 HB3 HG HKa HKb
    have x0 : w5.cell? ⟨g7, 0, none⟩ = some (.int .i64 (ap : Int)) := (cell_of hKa5 0).1
    have x1 : w5.cell? ⟨g7, 1, none⟩ = some (.int .i64 (ac : Int)) := (cell_of hKa5 1).1
    have y0 : w5.cell? ⟨g7 + 1, 0, none⟩ = some (.int .i64 (bp : Int)) := (cell_of hKb5 0).1
    have y1 : w5.cell? ⟨g7 + 1, 1, none⟩ = some (.int .i64 (bc : Int)) := (cell_of hKb5 1).1
    clear hKa5 hKb5
    go_upto_region 9 with (fail)
    -- ENTRIES
    obtain ⟨hEl, hEi⟩ := mv_entries w5 (ap : Int) (ac : Int) (bp : Int) (bc : Int) (rowL ky ⟨#[]⟩ ⟨#[]⟩) A5 q5 (rowL_len HRm.out) HR5.out
    have hb6 : Below w5.heap.size w5 ((w5.alloc (mvO (ap : Int) (ac : Int) (bp : Int) (bc : Int))).alloc (.cells (mvW (ap : Int) (ac : Int) (bp : Int) (bc : Int) A5 q5 w5.heap.size) 31)) := ((Below.refl _ _).alloc (Nat.le_refl _) _).alloc (by simp) _
    show Code.wp _ _ _ _ ((w5.alloc (mvO (ap : Int) (ac : Int) (bp : Int) (bc : Int))).alloc (.cells (mvW (ap : Int) (ac : Int) (bp : Int) (bc : Int) A5 q5 w5.heap.size) 31))
    have hKa6 := (hb6.block g7 (by have := HG5.out; omega)).trans HKa5.out
    have hKb6 := (hb6.block (g7 + 1) HG5.out).trans HKb5.out
    generalize (w5.alloc (mvO (ap : Int) (ac : Int) (bp : Int) (bc : Int))).alloc (.cells (mvW (ap : Int) (ac : Int) (bp : Int) (bc : Int) A5 q5 w5.heap.size) 31) = w6 at *
    have hG6 : g7 + 1 < w6.heap.size := (Array.getElem?_eq_some_iff.1 hKb6).1
    obtain ⟨es, hes⟩ : ∃ es, es = mES (ap : Int) (ac : Int) (bp : Int) (bc : Int) (rowL ky ⟨#[]⟩ ⟨#[]⟩) A5 q5 w5.heap.size := ⟨_, rfl⟩
    obtain ⟨L, hLd⟩ : ∃ L, L = mL (ap : Int) (ac : Int) (bp : Int) (bc : Int) (rowL ky ⟨#[]⟩ ⟨#[]⟩) := ⟨_, rfl⟩
    have HEs : Hid (es.map (·.1) = L) := by show es.map (·.1) = L; rw [hes, hLd]; rfl
    have HL3 : Hid (L.length = 3) := by show L.length = 3; rw [hLd]; rfl
    have HLe : Hid (es.length = 3) := by show es.length = 3; rw [hes]; rfl
    have HLn : Hid (∀ e ∈ L, e.new.length ≤ 100000) := by
      have hl := rowL_len HRm.out
      intro e he
      rw [hLd] at he
      simp only [mL, List.mem_cons, List.not_mem_nil, or_false] at he
      rcases he with rfl | rfl | rfl
      · show (rowL ky ⟨#[]⟩ ⟨#[]⟩).length ≤ _; omega
      · show (rowL ky ⟨#[]⟩ ⟨#[]⟩).length ≤ _; omega
      · exact Nat.zero_le _
    rw [← hes] at hEl hEi
    have HLd := Lib.hid hLd
    obtain ⟨A11, hA11⟩ : ∃ A : Option Addr, A = some ⟨w5.heap.size + 1, 0, none⟩ := ⟨_, rfl⟩
    rw [← hA11] at hEl
    rw [← hA11]
    have HE6 := Lib.hid hEl
    have HI6 := Lib.hid hEi
    have HBw := Lib.hid (HB6.out.trans (hb6.mono HB6.out.size))
    have HKa := Lib.hid hKa6
    have HKb := Lib.hid hKb6
    have HG6 := Lib.hid hG6
    clear hEl hEi hb6 hKa6 hKb6 hG6 hes hLd hA11 x0 x1 y0 y1 HR5 HKa5 HKb5 HB6 HG5
    go_upto_region 10 with (fail)
    have hp := P3.zero w6 (c := z15) rowP_zero.symm
    have hb7 := (Below.refl w6.heap.size w6).alloc (Nat.le_refl _) (.cells z15 55)
    show Code.wp _ _ _ _ (w6.alloc (.cells z15 55))
    generalize w6.alloc (.cells z15 55) = w7 at *
    obtain ⟨g, hg⟩ : ∃ g, g = w6.heap.size := ⟨_, rfl⟩
    rw [← hg]
    rw [← hg] at hp
    have HG : Hid (w6.heap.size ≤ g) := Nat.le_of_eq hg.symm
    have HP7 : Hid (P3 w7 g (fun n => aps (n : Int) s0 (L.take 0) 0) ∧ Below w6.heap.size w6 w7) := ⟨hp, hb7⟩
    clear hg hp hb7
    go_wp2
    go_loopw [13] (fun iv wr => Hid (∃ i : Nat, i ≤ 3 ∧ iv = .int .i64 (i : Int) ∧ P3 wr g (fun n => aps (n : Int) s0 (L.take i) 0) ∧ Below w6.heap.size w6 wr)) (fun iv _ => 3 - (RowKit.intOf iv).toNat)
    case atStart => exact ⟨0, Nat.zero_le _, rfl, HP7.out⟩
    case round =>
      obtain ⟨i, hi, rfl, hp, hb⟩ := hrel.out
      clear hrel HP7
      by_cases hi3 : i < 3
      · have HQ : Hid (P3 wr g (fun m : Nat => if m < 0 then aps (m : Int) s0 (L.take (i + 1)) 0 else aps (m : Int) s0 (L.take i) 0) ∧ Below w6.heap.size w6 wr) := ⟨hp.ext fun n _ => by rw [if_neg (by omega)], hb⟩
        have HI3 := Lib.hid hi3
        clear hp hb
        go_wp2
        have hd1 : decide ((i : Int) < 3) = true := by simp; omega
        simp only [hd1]
        clear hd1
        go_loopw [14] (fun nv wr => Hid (∃ n : Nat, n ≤ 3 ∧ nv = .int .i64 (n : Int) ∧ P3 wr g (fun m : Nat => if m < n then aps (m : Int) s0 (L.take (i + 1)) 0 else aps (m : Int) s0 (L.take i) 0) ∧ Below w6.heap.size w6 wr)) (fun nv _ => 3 - (RowKit.intOf nv).toNat)
        case atStart => exact ⟨0, Nat.zero_le _, rfl, HQ.out⟩
        case round =>
          obtain ⟨n, hn, rfl, hp, hb⟩ := hrel.out
          clear hrel HQ
          by_cases hn3 : n < 3
          · obtain ⟨P5, N5, K5, hc5, h5⟩ := hp.at hn3
            rw [if_neg (by omega : ¬ n < n)] at hc5 h5
            obtain ⟨e, he⟩ : ∃ e, e = (es[i]'(by rw [HLe.out]; exact hi3)).1 := ⟨_, rfl⟩
            obtain ⟨x, hx⟩ : ∃ x, x = (es[i]'(by rw [HLe.out]; exact hi3)).2 := ⟨_, rfl⟩
            have hiL : i < L.length := by rw [HL3.out]; exact hi3
            have hLe : L[i] = e := by rw [he]; simp only [← HEs.out, List.getElem_map]
            have HEi := Lib.hid ((HI6.out _ (List.getElem_mem (by rw [HLe.out]; exact hi3))).below hb (Nat.le_refl _))
            rw [← he, ← hx] at HEi
            obtain ⟨eb, eo, rfl, _, hec⟩ := en_row (HE6.out.below hb (Nat.le_refl _)) (i := i) (by rw [HLe.out]; exact hi3)
            rw [← he, ← hx] at hec
            obtain ⟨s, hs⟩ : ∃ s, s = aps (n : Int) s0 (L.take i) 0 := ⟨_, rfl⟩
            have HSt : Hid (aps (n : Int) s0 (L.take (i + 1)) 0 = ap1 (n : Int) s e ((i : Int) + 1)) := by
              show aps (n : Int) s0 (L.take (i + 1)) 0 = _
              rw [List.take_succ_eq_append_getElem hiL, aps_snoc, hLe, ← hs]
              congr 1
              rw [List.length_take]
              push_cast
              omega
            rw [← hs] at hc5 h5
            have HLs : Hid (∀ i, i < 4 → (s.1 i).length ≤ 100000) := by rw [hs]; exact aps_lens _ _ (fun e he => HLn.out e (List.mem_of_mem_take he)) s0 0 (fun _ _ => Nat.zero_le _)
            have HPq := Lib.hid (And.intro hp hb)
            have HCs := Lib.hid hc5
            have HN3 := Lib.hid hn3
            clear he hx hLe hs hp hb hiL
            go_upto_region 16 with (fail)
            go_cut [15] (fun v wx => Hid (∃ (g15 : Nat) (P7 : Nat → Option Addr) (N7 K7 : Nat → Nat), v = .pointer (some ⟨g15, 0, none⟩) ∧ wx.heap[g15]? = some (pgO P7 N7 K7 (apN s.2 (n : Int) e ((i : Int) + 1))) ∧ Cs wx P7 N7 K7 (apC s.1 s.2 (n : Int) e ((i : Int) + 1)) ∧ Below wr.heap.size wr wx))
            case first =>
              have hS0 : (fun Z : World => ((∀ j v, (pgC P5 N5 K5 s.2)[j]? = some v → Z.cell? ⟨g, n * 5 + j, none⟩ = some v) ∧ ∀ j v, (enC e x)[j]? = some v → Z.cell? ⟨eb, eo + i * 16 + j, none⟩ = some v)) wr.drew := ⟨h5, hec⟩
              have HSn : Hid (∀ Z, Below wr.heap.size wr Z → ((∀ j v, (pgC P5 N5 K5 s.2)[j]? = some v → Z.cell? ⟨g, n * 5 + j, none⟩ = some v) ∧ ∀ j v, (enC e x)[j]? = some v → Z.cell? ⟨eb, eo + i * 16 + j, none⟩ = some v)) := fun Z hZ => ⟨fun j v h => (hZ.cell (p := ⟨g, n * 5 + j, none⟩) (World.block_lt_of_cell? wr _ (h5 j v h))).trans (h5 j v h), fun j v h => (hZ.cell (p := ⟨eb, eo + i * 16 + j, none⟩) (World.block_lt_of_cell? wr _ (hec j v h))).trans (hec j v h)⟩
              have HBz0 : Hid (Below wr.heap.size wr wr.drew) := (Below.refl _ _).drew
              have HIx := Lib.hid (infoE2 e x)
              have hwr : IntKind.i64.wrap ((i : Int) + 1) = (i : Int) + 1 := IntWalk.i64_in _ (by omega)
              have HIp := Lib.hid (infoP2 P5 N5 K5 s.2)
              refine wp_region_G (fun Z : World => ((∀ j v, (pgC P5 N5 K5 s.2)[j]? = some v → Z.cell? ⟨g, n * 5 + j, none⟩ = some v) ∧ ∀ j v, (enC e x)[j]? = some v → Z.cell? ⟨eb, eo + i * 16 + j, none⟩ = some v)) (fun j => j == 15) (by kernel_rfl) ?_
              clear h5 hc5 hec
              generalize wr.drew = z0 at *
              refine wpAnyG_take0 (i := 0) (oi := ⟨_, _, _, _, _, _⟩) (v := ?_) rfl (by kernel_rfl) (by kernel_rfl) (by kernel_rfl) (fun _ _ _ h => h) (Or.inl ⟨by rfl, ?_⟩) ?_
              rotate_left
              · intro W _
                go_simp
                try with_reducible rfl
              rotate_left
              try simp only [Act.put, List.setIfInBounds_toArray, List.set_cons_zero, List.set_cons_succ]
              refine wpAnyG_take0 (i := 1) (oi := ⟨_, _, _, _, _, _⟩) (v := ?_) rfl (by kernel_rfl) (by kernel_rfl) (by kernel_rfl) (fun _ _ _ h => h) (Or.inl ⟨by rfl, ?_⟩) ?_
              rotate_left
              · intro W _
                go_simp
                try with_reducible rfl
              rotate_left
              try simp only [Act.put, List.setIfInBounds_toArray, List.set_cons_zero, List.set_cons_succ]
              refine wpAnyG_take (i := 2) (oi := ⟨_, _, _, _, _, _⟩) (v := .agg #[.slice (P5 0) (N5 0) (K5 0), .slice (P5 1) (N5 1) (K5 1), .slice (P5 2) (N5 2) (K5 2), .slice (P5 3) (N5 3) (K5 3), .int .i64 s.2]) rfl (by kernel_rfl) (by kernel_rfl) (by kernel_rfl) (by kernel_rfl) (fun _ _ _ h => h) hS0 (Or.inl ⟨by rfl, fun W hW => held_at 35 (.tmp 81) rfl g (n * 5) rfl (pgC P5 N5 K5 s.2) _ hW.1 Try.underlying35 rfl HIp.out⟩) ?_
              try simp only [Act.put, List.setIfInBounds_toArray, List.set_cons_zero, List.set_cons_succ]
              refine wpAnyG_take0 (i := 3) (oi := ⟨_, _, _, _, _, _⟩) (v := ?_) rfl (by kernel_rfl) (by kernel_rfl) (by kernel_rfl) (fun _ _ _ h => h) (Or.inl ⟨by rfl, ?_⟩) ?_
              rotate_left
              · intro W _
                go_simp
                try with_reducible rfl
              rotate_left
              try simp only [Act.put, List.setIfInBounds_toArray, List.set_cons_zero, List.set_cons_succ]
              refine wpAnyG_take0 (i := 4) (oi := ⟨_, _, _, _, _, _⟩) (v := ?_) rfl (by kernel_rfl) (by kernel_rfl) (by kernel_rfl) (fun _ _ _ h => h) (Or.inl ⟨by rfl, ?_⟩) ?_
              rotate_left
              · intro W _
                go_simp
                try with_reducible rfl
              rotate_left
              try simp only [Act.put, List.setIfInBounds_toArray, List.set_cons_zero, List.set_cons_succ]
              refine wpAnyG_take0 (i := 5) (oi := ⟨_, _, _, _, _, _⟩) (v := ?_) rfl (by kernel_rfl) (by kernel_rfl) (by kernel_rfl) (fun _ _ _ h => h) (Or.inl ⟨by rfl, ?_⟩) ?_
              rotate_left
              · intro W _
                go_simp
                try with_reducible rfl
              rotate_left
              try simp only [Act.put, List.setIfInBounds_toArray, List.set_cons_zero, List.set_cons_succ]
              refine wpAnyG_take0 (i := 6) (oi := ⟨_, _, _, _, _, _⟩) (v := ?_) rfl (by kernel_rfl) (by kernel_rfl) (by kernel_rfl) (fun _ _ _ h => h) (Or.inl ⟨by rfl, ?_⟩) ?_
              rotate_left
              · intro W _
                go_simp
                try with_reducible rfl
              rotate_left
              try simp only [Act.put, List.setIfInBounds_toArray, List.set_cons_zero, List.set_cons_succ]
              refine wpAnyG_take (i := 7) (oi := ⟨_, _, _, _, _, _⟩) (v := .agg (enC e x)) rfl (by kernel_rfl) (by kernel_rfl) (by kernel_rfl) (by kernel_rfl) (fun _ _ _ h => h) hS0 (Or.inl ⟨by rfl, fun W hW => held_at 31 (.tmp 86) rfl eb (eo + i * 16) rfl (enC e x) _ hW.2 Try.underlying31 rfl HIx.out⟩) ?_
              try simp only [Act.put, List.setIfInBounds_toArray, List.set_cons_zero, List.set_cons_succ]
              refine wpAnyG_take0 (i := 8) (oi := ⟨_, _, _, _, _, _⟩) (v := ?_) rfl (by kernel_rfl) (by kernel_rfl) (by kernel_rfl) (fun _ _ _ h => h) (Or.inl ⟨by rfl, ?_⟩) ?_
              rotate_left
              · intro W _
                go_simp
                try with_reducible rfl
              rotate_left
              try simp only [Act.put, List.setIfInBounds_toArray, List.set_cons_zero, List.set_cons_succ]
              refine wpAnyG_take0 (i := 9) (oi := ⟨_, _, _, _, _, _⟩) (v := .int .i64 ((i : Int) + 1)) rfl (by kernel_rfl) (by kernel_rfl) (by kernel_rfl) (fun _ _ _ h => h) (Or.inl ⟨by rfl, fun W _ => ?_⟩) ?_
              · go_simp
                try rw [hwr]
              try simp only [Act.put, List.setIfInBounds_toArray, List.set_cons_zero, List.set_cons_succ]
              clear hS0
              refine wpAnyG_ready (rs := [10, 14]) (by kernel_rfl) (by simp) ?_
              refine AllReadyG.cons (o := ⟨_, _, _, _, _, _⟩) rfl (fun K hK => ?_) ?_
              · go_simp
                go_at_call 9
                have HA := Lib.hid (apply_any z0 P5 N5 K5 s.2 s.1 (n : Int) e x ((i : Int) + 1) (HCs.out.below HBz0.out (Nat.le_refl _)) HLs.out (HEi.out.below HBz0.out (Nat.le_refl _)))
                unfold pgV at HA
                refine HA.out.mono ?_
                rintro r z1 ⟨P7, N7, K7, rfl, hc7, hb7⟩
                clear HA
                unfold pgV
                have HB1 := Lib.hid (HBz0.out.trans (hb7.mono HBz0.out.size))
                have HC7 := Lib.hid hc7
                go_wp2_with fail
                refine hK.out _ _ (fun _ _ => HSn.out _ HB1.out) ?_
                clear hK K
                try simp only [Act.put, List.setIfInBounds_toArray, List.set_cons_zero, List.set_cons_succ]
                refine wpAnyG_take0 (i := 11) (oi := ⟨_, _, _, _, _, _⟩) (v := ?_) rfl (by kernel_rfl) (by kernel_rfl) (by kernel_rfl) (fun _ _ _ h => h) (Or.inl ⟨by rfl, ?_⟩) ?_
                rotate_left
                · intro W _
                  go_simp
                  try with_reducible rfl
                rotate_left
                try simp only [Act.put, List.setIfInBounds_toArray, List.set_cons_zero, List.set_cons_succ]
                refine wpAnyG_take0 (i := 12) (oi := ⟨_, _, _, _, _, _⟩) (v := ?_) rfl (by kernel_rfl) (by kernel_rfl) (by kernel_rfl) (fun _ _ _ h => h) (Or.inl ⟨by rfl, ?_⟩) ?_
                rotate_left
                · intro W _
                  go_simp
                  try with_reducible rfl
                rotate_left
                try simp only [Act.put, List.setIfInBounds_toArray, List.set_cons_zero, List.set_cons_succ]
                refine wpAnyG_take0 (i := 13) (oi := ⟨_, _, _, _, _, _⟩) (v := ?_) rfl (by kernel_rfl) (by kernel_rfl) (by kernel_rfl) (fun _ _ _ h => h) (Or.inl ⟨by rfl, ?_⟩) ?_
                rotate_left
                · intro W _
                  go_simp
                  try with_reducible rfl
                rotate_left
                try simp only [Act.put, List.setIfInBounds_toArray, List.set_cons_zero, List.set_cons_succ]
                refine wpAnyG_ready (rs := [14]) (by kernel_rfl) (by simp) ?_
                refine AllReadyG.cons (o := ⟨_, _, _, _, _, _⟩) rfl (fun K hK => ?_) AllReadyG.nil
                go_simp
                have HZ := Lib.hid (heap_alloc_new z1 (pgO P0 N0 N0 0))
                have HB2 := Lib.hid (HB1.out.alloc HB1.out.size (pgO P0 N0 N0 0))
                have HGN : Hid (wr.heap.size ≤ z1.heap.size) := HB1.out.size
                replace HC7 := Lib.hid (HC7.out.below (Below.alloc (Below.refl z1.heap.size z1) (Nat.le_refl _) (pgO P0 N0 N0 0)) (Nat.le_refl _))
                refine hK.out _ (z1.alloc (pgO P0 N0 N0 0)) (fun _ _ => HSn.out _ HB2.out) ?_
                clear hK K hb7
                try simp only [Act.put, List.setIfInBounds_toArray, List.set_cons_zero, List.set_cons_succ]
                generalize z1.alloc (pgO P0 N0 N0 0) = z2 at *
                obtain ⟨gn, hgn⟩ : ∃ gn, gn = z1.heap.size := ⟨_, rfl⟩
                rw [← hgn]
                rw [← hgn] at HZ HGN
                clear hgn
                obtain ⟨d0, d1, d2, d3, d4⟩ := pg5 HZ.out
                have f8 := (pg_cell HZ.out).2.2
                have f80 := f8 0
                have f81 := f8 1
                have f82 := f8 2
                have f83 := f8 3
                have f84 := f8 4
                clear f8
                refine wpAnyG_ready (rs := [15]) (by kernel_rfl) (by simp) ?_
                refine AllReadyG.cons (o := ⟨_, _, _, _, _, _⟩) rfl (fun K hK => ?_) AllReadyG.nil
                go_simp
                refine hK.out _ (finP z2 gn P7 N7 K7 (apN s.2 (n : Int) e ((i : Int) + 1))) (fun h => by cases h) ?_
                clear hK K d0 d1 d2 d3 d4 f80 f81 f82 f83 f84
                try simp only [Act.put, List.setIfInBounds_toArray, List.set_cons_zero, List.set_cons_succ]
                refine wpAnyG_take0 (i := 16) (oi := ⟨_, _, _, _, _, _⟩) (v := ?_) rfl (by kernel_rfl) (by kernel_rfl) (by kernel_rfl) (fun _ _ _ h => h) (Or.inl ⟨by rfl, ?_⟩) ?_
                rotate_left
                · intro W _
                  go_simp
                  try with_reducible rfl
                rotate_left
                try simp only [Act.put, List.setIfInBounds_toArray, List.set_cons_zero, List.set_cons_succ]
                refine wpAnyG_done (by kernel_rfl) ?_ _
                go_wp2
                go_meet
                exact ⟨gn, P7, N7, K7, rfl, finP_heap HZ.out, cs_fin HZ.out HC7.out, finP_below HB2.out HGN.out⟩
              refine AllReadyG.cons (o := ⟨_, _, _, _, _, _⟩) rfl (fun K hK => ?_) AllReadyG.nil
              go_simp
              have hz0 := heap_alloc_new z0 (pgO P0 N0 N0 0)
              have HGN : Hid (wr.heap.size ≤ z0.heap.size) := HBz0.out.size
              have hlt0 := (Array.getElem?_eq_some_iff.1 hz0).1
              replace HBz0 := Lib.hid (HBz0.out.alloc HBz0.out.size (pgO P0 N0 N0 0))
              refine hK.out _ (z0.alloc (pgO P0 N0 N0 0)) (fun _ _ => HSn.out _ HBz0.out) ?_
              clear hK K
              try simp only [Act.put, List.setIfInBounds_toArray, List.set_cons_zero, List.set_cons_succ]
              generalize z0.alloc (pgO P0 N0 N0 0) = zz at *
              obtain ⟨gn, hgn⟩ : ∃ gn, gn = z0.heap.size := ⟨_, rfl⟩
              rw [← hgn]
              rw [← hgn] at hz0 hlt0 HGN
              clear hgn
              have HZ0 := Lib.hid hz0
              have HLt0 := Lib.hid hlt0
              clear hz0 hlt0
              refine wpAnyG_ready (rs := [10]) (by kernel_rfl) (by simp) ?_
              refine AllReadyG.cons (o := ⟨_, _, _, _, _, _⟩) rfl (fun K hK => ?_) AllReadyG.nil
              go_simp
              go_at_call 9
              have HA := Lib.hid (apply_any zz P5 N5 K5 s.2 s.1 (n : Int) e x ((i : Int) + 1) (HCs.out.below HBz0.out (Nat.le_refl _)) HLs.out (HEi.out.below HBz0.out (Nat.le_refl _)))
              unfold pgV at HA
              refine HA.out.mono ?_
              rintro r z1 ⟨P7, N7, K7, rfl, hc7, hb7⟩
              clear HA
              unfold pgV
              have HB1 := Lib.hid (HBz0.out.trans (hb7.mono HBz0.out.size))
              have HC7 := Lib.hid hc7
              go_wp2_with fail
              refine hK.out _ _ (fun _ _ => HSn.out _ HB1.out) ?_
              clear hK K
              try simp only [Act.put, List.setIfInBounds_toArray, List.set_cons_zero, List.set_cons_succ]
              have HZ : Hid (z1.heap[gn]? = some (pgO P0 N0 N0 0)) := (hb7.block gn HLt0.out).trans HZ0.out
              clear hb7
              have HB2 := HB1
              obtain ⟨z2, hz2⟩ : ∃ z2, z2 = z1 := ⟨_, rfl⟩
              rw [← hz2]
              rw [← hz2] at HZ HB2 HC7
              clear hz2
              refine wpAnyG_take0 (i := 11) (oi := ⟨_, _, _, _, _, _⟩) (v := ?_) rfl (by kernel_rfl) (by kernel_rfl) (by kernel_rfl) (fun _ _ _ h => h) (Or.inl ⟨by rfl, ?_⟩) ?_
              rotate_left
              · intro W _
                go_simp
                try with_reducible rfl
              rotate_left
              try simp only [Act.put, List.setIfInBounds_toArray, List.set_cons_zero, List.set_cons_succ]
              refine wpAnyG_take0 (i := 12) (oi := ⟨_, _, _, _, _, _⟩) (v := ?_) rfl (by kernel_rfl) (by kernel_rfl) (by kernel_rfl) (fun _ _ _ h => h) (Or.inl ⟨by rfl, ?_⟩) ?_
              rotate_left
              · intro W _
                go_simp
                try with_reducible rfl
              rotate_left
              try simp only [Act.put, List.setIfInBounds_toArray, List.set_cons_zero, List.set_cons_succ]
              refine wpAnyG_take0 (i := 13) (oi := ⟨_, _, _, _, _, _⟩) (v := ?_) rfl (by kernel_rfl) (by kernel_rfl) (by kernel_rfl) (fun _ _ _ h => h) (Or.inl ⟨by rfl, ?_⟩) ?_
              rotate_left
              · intro W _
                go_simp
                try with_reducible rfl
              rotate_left
              try simp only [Act.put, List.setIfInBounds_toArray, List.set_cons_zero, List.set_cons_succ]
              obtain ⟨d0, d1, d2, d3, d4⟩ := pg5 HZ.out
              have f8 := (pg_cell HZ.out).2.2
              have f80 := f8 0
              have f81 := f8 1
              have f82 := f8 2
              have f83 := f8 3
              have f84 := f8 4
              clear f8
              refine wpAnyG_ready (rs := [15]) (by kernel_rfl) (by simp) ?_
              refine AllReadyG.cons (o := ⟨_, _, _, _, _, _⟩) rfl (fun K hK => ?_) AllReadyG.nil
              go_simp
              refine hK.out _ (finP z2 gn P7 N7 K7 (apN s.2 (n : Int) e ((i : Int) + 1))) (fun h => by cases h) ?_
              clear hK K d0 d1 d2 d3 d4 f80 f81 f82 f83 f84
              try simp only [Act.put, List.setIfInBounds_toArray, List.set_cons_zero, List.set_cons_succ]
              refine wpAnyG_take0 (i := 16) (oi := ⟨_, _, _, _, _, _⟩) (v := ?_) rfl (by kernel_rfl) (by kernel_rfl) (by kernel_rfl) (fun _ _ _ h => h) (Or.inl ⟨by rfl, ?_⟩) ?_
              rotate_left
              · intro W _
                go_simp
                try with_reducible rfl
              rotate_left
              try simp only [Act.put, List.setIfInBounds_toArray, List.set_cons_zero, List.set_cons_succ]
              refine wpAnyG_done (by kernel_rfl) ?_ _
              go_wp2
              go_meet
              exact ⟨gn, P7, N7, K7, rfl, finP_heap HZ.out, cs_fin HZ.out HC7.out, finP_below HB2.out HGN.out⟩
            case rest =>
              obtain ⟨g15, P7, N7, K7, rfl, h7, hc7, hb7⟩ := hcut.out
              clear hcut
              obtain ⟨hp, hb⟩ := HPq.out
              obtain ⟨old, hold, hos, hlay⟩ := (hp.below hb7).lay (n := n) HN3.out
              have hp9 := hlay P7 N7 K7 (ap1 (n : Int) s e ((i : Int) + 1)) hc7
              have HFin : Hid (P3 (wc.setRow g (Hp.putRow old (n * 5) (pgC P7 N7 K7 (apN s.2 (n : Int) e ((i : Int) + 1))).toList)) g (fun m : Nat => if m < n + 1 then aps (m : Int) s0 (L.take (i + 1)) 0 else aps (m : Int) s0 (L.take i) 0) ∧ Below w6.heap.size w6 (wc.setRow g (Hp.putRow old (n * 5) (pgC P7 N7 K7 (apN s.2 (n : Int) e ((i : Int) + 1))).toList))) := by
                refine ⟨hp9.ext fun m hm => ?_, (hb.trans (hb7.mono hb.size)).trans ((Tn.row wc g _).1.mono HG.out)⟩
                show (if m = n then ap1 (n : Int) s e ((i : Int) + 1) else if m < n then _ else _) = _
                by_cases hmn : m = n
                · rw [if_pos hmn, if_pos (by omega), hmn]
                  exact HSt.out.symm
                · rw [if_neg hmn]
                  by_cases hlt : m < n
                  · rw [if_pos hlt, if_pos (by omega)]
                  · rw [if_neg hlt, if_neg (by omega)]
              obtain ⟨ln, hln⟩ : ∃ ln, ln = apN s.2 (n : Int) e ((i : Int) + 1) := ⟨_, rfl⟩
              rw [← hln] at HFin h7
              have HIp := Lib.hid (infoP2 P7 N7 K7 ln)
              have HQ7 := Lib.hid h7
              have HOld := Lib.hid hold
              have HLE : Hid (n * 5 + (pgC P7 N7 K7 ln).size ≤ old.size) := by show n * 5 + 5 ≤ old.size; have := HN3.out; omega
              have HON : Hid ((pgC P7 N7 K7 ln).all (·.oneCell') = true) := by show _ = true; unfold pgC; simp [Value.oneCell']
              unfold pgC at HIp HLE HON
              unfold pgO pgC at HQ7
              have HN3' := HN3.out
              clear hp hb hold hos hlay hp9 hln h7 hc7 hb7 HSt HPq HCs HLs HEi hec h5 hc5
              go_wp2_with (first
                | ((with_reducible refine wpList_load_row rfl 35 (.tmp 15) rfl g15 rfl 35 _ (0, 0) _ HQ7.out Try.underlying35 rfl HIp.out ?_))
                | ((with_reducible refine Hp.wpList_store_at rfl 35 (.tmp 95) (.tmp 94) rfl g (n * 5) #[.slice (P7 0) (N7 0) (K7 0), .slice (P7 1) (N7 1) (K7 1), .slice (P7 2) (N7 2) (K7 2), .slice (P7 3) (N7 3) (K7 3), .int .i64 ln] rfl rfl 55 _ HOld.out HIp.out HLE.out HON.out ?_)))
              go_roundw
              case rel => exact ⟨n + 1, HN3.out, by go_num, HFin.out⟩
              case measure => have := HN3.out; simp [RowKit.intOf]; omega
          · obtain rfl : n = 3 := by omega
            have HP9 : Hid (P3 wr g (fun m : Nat => aps (m : Int) s0 (L.take (i + 1)) 0) ∧ Below w6.heap.size w6 wr) := ⟨hp.ext fun m hm => by rw [if_pos hm], hb⟩
            clear hp hb hn hn3
            go_upto_region 18 with (fail)
            obtain ⟨hp, hb⟩ := HP9.out
            obtain ⟨A8, N8, K8, x2, h8⟩ := hp.cell (n := ap) (c := ac) hap3 hac4
            obtain ⟨l8, hl8⟩ : ∃ l8, l8 = (aps (ap : Int) s0 (L.take (i + 1)) 0).1 ac := ⟨_, rfl⟩
            rw [← hl8] at h8
            have hka := (hb.block g7 (by have := HG6.out; omega)).trans HKa.out
            have x0 : wr.cell? ⟨g7, 0, none⟩ = some (.int .i64 (ap : Int)) := (cell_of hka 0).1
            have x1 : wr.cell? ⟨g7, 1, none⟩ = some (.int .i64 (ac : Int)) := (cell_of hka 1).1
            have H8 := Lib.hid h8
            have HL8 := Lib.hid hl8
            have hA3 : (ap : Int) < 3 := by omega
            have hB4 : (ac : Int) < 4 := by omega
            clear hp hb h8 hl8 hka
            go_cut [17, 18, 19, 20] (fun v17 v18 v19 v20 wx => Hid (∃ (b18 b19 : Nat) (a : Int) (k s v : ByteArray) (p c er : Int), v17 = .int .i64 a ∧ v18 = .pointer (some ⟨b18, 0, none⟩) ∧ v19 = .pointer (some ⟨b19, 0, none⟩) ∧ wx.heap[b18]? = some (.cells #[.string k, .string s, .string v] 52 (0, 0)) ∧ wx.heap[b19]? = some (.cells #[.int .i64 p, .int .i64 c] 25 (0, 0)) ∧ Rd l8 a k s v p c er ∧ Below wr.heap.size wr wx))
            case first =>
              have hS0 : (fun Z : World => (Z.cell? ⟨g7, 0, none⟩ = some (.int .i64 (ap : Int)) ∧ Z.cell? ⟨g7, 1, none⟩ = some (.int .i64 (ac : Int)) ∧ Z.cell? ⟨g, ap * 5 + ac, none⟩ = some (.slice A8 N8 K8))) wr.drew := ⟨x0, x1, x2⟩
              have HSn : Hid (∀ Z, Below wr.heap.size wr Z → (Z.cell? ⟨g7, 0, none⟩ = some (.int .i64 (ap : Int)) ∧ Z.cell? ⟨g7, 1, none⟩ = some (.int .i64 (ac : Int)) ∧ Z.cell? ⟨g, ap * 5 + ac, none⟩ = some (.slice A8 N8 K8))) := fun Z hZ => ⟨(hZ.cell (p := ⟨g7, 0, none⟩) (World.block_lt_of_cell? wr _ x0)).trans x0, (hZ.cell (p := ⟨g7, 1, none⟩) (World.block_lt_of_cell? wr _ x1)).trans x1, (hZ.cell (p := ⟨g, ap * 5 + ac, none⟩) (World.block_lt_of_cell? wr _ x2)).trans x2⟩
              have HB : Hid (Below wr.heap.size wr wr.drew) := (Below.refl _ _).drew
              refine wp_region_G (fun Z : World => (Z.cell? ⟨g7, 0, none⟩ = some (.int .i64 (ap : Int)) ∧ Z.cell? ⟨g7, 1, none⟩ = some (.int .i64 (ac : Int)) ∧ Z.cell? ⟨g, ap * 5 + ac, none⟩ = some (.slice A8 N8 K8))) (fun j => j == 17 || j == 18) (by kernel_rfl) ?_
              clear x0 x1 x2
              generalize wr.drew = z0 at *
              refine wpAnyG_take0 (i := 0) (oi := ⟨_, _, _, _, _, _⟩) (v := ?_) rfl (by kernel_rfl) (by kernel_rfl) (by kernel_rfl) (fun _ _ _ h => h) (Or.inl ⟨by rfl, ?_⟩) ?_
              rotate_left
              · intro W _
                go_simp
                try with_reducible rfl
              rotate_left
              try simp only [Act.put, List.setIfInBounds_toArray, List.set_cons_zero, List.set_cons_succ]
              refine wpAnyG_take (i := 1) (oi := ⟨_, _, _, _, _, _⟩) (v := ?_) rfl (by kernel_rfl) (by kernel_rfl) (by kernel_rfl) (by kernel_rfl) (fun _ _ _ h => h) hS0 (Or.inl ⟨by rfl, ?_⟩) ?_
              rotate_left
              · intro W hSW
                obtain ⟨q0, q1, q2⟩ := hSW
                go_simp
                try with_reducible rfl
              rotate_left
              try simp only [Act.put, List.setIfInBounds_toArray, List.set_cons_zero, List.set_cons_succ]
              refine wpAnyG_take0 (i := 2) (oi := ⟨_, _, _, _, _, _⟩) (v := ?_) rfl (by kernel_rfl) (by kernel_rfl) (by kernel_rfl) (fun _ _ _ h => h) (Or.inl ⟨by rfl, ?_⟩) ?_
              rotate_left
              · intro W _
                go_simp
                try with_reducible rfl
              rotate_left
              try simp only [Act.put, List.setIfInBounds_toArray, List.set_cons_zero, List.set_cons_succ]
              refine wpAnyG_take (i := 3) (oi := ⟨_, _, _, _, _, _⟩) (v := ?_) rfl (by kernel_rfl) (by kernel_rfl) (by kernel_rfl) (by kernel_rfl) (fun _ _ _ h => h) hS0 (Or.inl ⟨by rfl, ?_⟩) ?_
              rotate_left
              · intro W hSW
                obtain ⟨q0, q1, q2⟩ := hSW
                go_simp
                try with_reducible rfl
              rotate_left
              try simp only [Act.put, List.setIfInBounds_toArray, List.set_cons_zero, List.set_cons_succ]
              refine wpAnyG_take0 (i := 4) (oi := ⟨_, _, _, _, _, _⟩) (v := ?_) rfl (by kernel_rfl) (by kernel_rfl) (by kernel_rfl) (fun _ _ _ h => h) (Or.inl ⟨by rfl, ?_⟩) ?_
              rotate_left
              · intro W _
                go_simp
                try with_reducible rfl
              rotate_left
              try simp only [Act.put, List.setIfInBounds_toArray, List.set_cons_zero, List.set_cons_succ]
              refine wpAnyG_take0 (i := 5) (oi := ⟨_, _, _, _, _, _⟩) (v := ?_) rfl (by kernel_rfl) (by kernel_rfl) (by kernel_rfl) (fun _ _ _ h => h) (Or.inl ⟨by rfl, ?_⟩) ?_
              rotate_left
              · intro W _
                go_simp
                try with_reducible rfl
              rotate_left
              try simp only [Act.put, List.setIfInBounds_toArray, List.set_cons_zero, List.set_cons_succ]
              refine wpAnyG_take0 (i := 6) (oi := ⟨_, _, _, _, _, _⟩) (v := ?_) rfl (by kernel_rfl) (by kernel_rfl) (by kernel_rfl) (fun _ _ _ h => h) (Or.inl ⟨by rfl, ?_⟩) ?_
              rotate_left
              · intro W _
                go_simp
                try with_reducible rfl
              rotate_left
              try simp only [Act.put, List.setIfInBounds_toArray, List.set_cons_zero, List.set_cons_succ]
              refine wpAnyG_take (i := 7) (oi := ⟨_, _, _, _, _, _⟩) (v := ?_) rfl (by kernel_rfl) (by kernel_rfl) (by kernel_rfl) (by kernel_rfl) (fun _ _ _ h => h) hS0 (Or.inl ⟨by rfl, ?_⟩) ?_
              rotate_left
              · intro W hSW
                obtain ⟨q0, q1, q2⟩ := hSW
                go_simp
                try with_reducible rfl
              rotate_left
              try simp only [Act.put, List.setIfInBounds_toArray, List.set_cons_zero, List.set_cons_succ]
              clear hS0
              refine wpAnyG_ready (rs := [8, 14, 15]) (by kernel_rfl) (by simp) ?_
              refine AllReadyG.cons (o := ⟨_, _, _, _, _, _⟩) rfl (fun K hK => ?_) ?_
              · go_simp
                go_at_call 16
                have HA := Lib.hid (rread_any z0 (.slice A8 N8 K8) l8 (H8.out.below HB.out (Nat.le_refl _)))
                refine HA.out.mono ?_
                rintro r y1 ⟨a7, k7, s7, v7, p7, c7, e7, hrd, rfl, hb7⟩
                clear HA
                have HRd := Lib.hid hrd
                clear hrd
                replace HB := Lib.hid (HB.out.trans (hb7.mono HB.out.size))
                clear hb7
                go_wp2_with fail
                refine hK.out _ _ (fun _ _ => HSn.out _ HB.out) ?_
                clear hK K
                try simp only [Act.put, List.setIfInBounds_toArray, List.set_cons_zero, List.set_cons_succ]
                refine wpAnyG_take0 (i := 9) (oi := ⟨_, _, _, _, _, _⟩) (v := ?_) rfl (by kernel_rfl) (by kernel_rfl) (by kernel_rfl) (fun _ _ _ h => h) (Or.inl ⟨by rfl, ?_⟩) ?_
                rotate_left
                · intro W _
                  go_simp
                  try with_reducible rfl
                rotate_left
                try simp only [Act.put, List.setIfInBounds_toArray, List.set_cons_zero, List.set_cons_succ]
                refine wpAnyG_take0 (i := 10) (oi := ⟨_, _, _, _, _, _⟩) (v := ?_) rfl (by kernel_rfl) (by kernel_rfl) (by kernel_rfl) (fun _ _ _ h => h) (Or.inl ⟨by rfl, ?_⟩) ?_
                rotate_left
                · intro W _
                  go_simp
                  try with_reducible rfl
                rotate_left
                try simp only [Act.put, List.setIfInBounds_toArray, List.set_cons_zero, List.set_cons_succ]
                refine wpAnyG_take0 (i := 11) (oi := ⟨_, _, _, _, _, _⟩) (v := ?_) rfl (by kernel_rfl) (by kernel_rfl) (by kernel_rfl) (fun _ _ _ h => h) (Or.inl ⟨by rfl, ?_⟩) ?_
                rotate_left
                · intro W _
                  go_simp
                  try with_reducible rfl
                rotate_left
                try simp only [Act.put, List.setIfInBounds_toArray, List.set_cons_zero, List.set_cons_succ]
                refine wpAnyG_take0 (i := 12) (oi := ⟨_, _, _, _, _, _⟩) (v := ?_) rfl (by kernel_rfl) (by kernel_rfl) (by kernel_rfl) (fun _ _ _ h => h) (Or.inl ⟨by rfl, ?_⟩) ?_
                rotate_left
                · intro W _
                  go_simp
                  try with_reducible rfl
                rotate_left
                try simp only [Act.put, List.setIfInBounds_toArray, List.set_cons_zero, List.set_cons_succ]
                refine wpAnyG_take0 (i := 13) (oi := ⟨_, _, _, _, _, _⟩) (v := ?_) rfl (by kernel_rfl) (by kernel_rfl) (by kernel_rfl) (fun _ _ _ h => h) (Or.inl ⟨by rfl, ?_⟩) ?_
                rotate_left
                · intro W _
                  go_simp
                  try with_reducible rfl
                rotate_left
                try simp only [Act.put, List.setIfInBounds_toArray, List.set_cons_zero, List.set_cons_succ]
                refine wpAnyG_ready (rs := [14, 15]) (by kernel_rfl) (by simp) ?_
                refine AllReadyG.cons (o := ⟨_, _, _, _, _, _⟩) rfl (fun K hK => ?_) ?_
                · go_simp
                  have hz := heap_alloc_new y1 (.cells #[.string ⟨#[]⟩, .string ⟨#[]⟩, .string ⟨#[]⟩] 52)
                  have hgz := HB.out.size
                  replace HB := Lib.hid (HB.out.alloc HB.out.size (.cells #[.string ⟨#[]⟩, .string ⟨#[]⟩, .string ⟨#[]⟩] 52))
                  refine hK.out _ (y1.alloc (.cells #[.string ⟨#[]⟩, .string ⟨#[]⟩, .string ⟨#[]⟩] 52)) (fun _ _ => HSn.out _ HB.out) ?_
                  clear hK K
                  try simp only [Act.put, List.setIfInBounds_toArray, List.set_cons_zero, List.set_cons_succ]
                  generalize y1.alloc (.cells #[.string ⟨#[]⟩, .string ⟨#[]⟩, .string ⟨#[]⟩] 52) = y2 at *
                  obtain ⟨b14, hbk⟩ : ∃ b, b = y1.heap.size := ⟨_, rfl⟩
                  rw [← hbk]
                  rw [← hbk] at hz hgz
                  have H14 := Lib.hid hz
                  have HG14 := Lib.hid hgz
                  clear hz hgz hbk
                  refine wpAnyG_ready (rs := [15]) (by kernel_rfl) (by simp) ?_
                  refine AllReadyG.cons (o := ⟨_, _, _, _, _, _⟩) rfl (fun K hK => ?_) AllReadyG.nil
                  go_simp
                  have hz := heap_alloc_new y2 (.cells #[.int .i64 0, .int .i64 0] 25)
                  have hgz := HB.out.size
                  have hlt := (Array.getElem?_eq_some_iff.1 H14.out).1
                  replace H14 := Lib.hid ((Below.heap_alloc y2 (.cells #[.int .i64 0, .int .i64 0] 25) _ hlt).trans H14.out)
                  replace HB := Lib.hid (HB.out.alloc HB.out.size (.cells #[.int .i64 0, .int .i64 0] 25))
                  refine hK.out _ (y2.alloc (.cells #[.int .i64 0, .int .i64 0] 25)) (fun _ _ => HSn.out _ HB.out) ?_
                  clear hK K
                  try simp only [Act.put, List.setIfInBounds_toArray, List.set_cons_zero, List.set_cons_succ]
                  generalize y2.alloc (.cells #[.int .i64 0, .int .i64 0] 25) = y3 at *
                  obtain ⟨b15, hbk⟩ : ∃ b, b = y2.heap.size := ⟨_, rfl⟩
                  rw [← hbk]
                  rw [← hbk] at hz hgz
                  rw [← hbk] at hlt
                  have HNeq : Hid (b14 ≠ b15) := by show b14 ≠ b15; omega
                  clear hlt
                  have H15 := Lib.hid hz
                  have HG15 := Lib.hid hgz
                  clear hz hgz hbk
                  have e0 : y3.cell? ⟨b14, 0, none⟩ = some (.string ⟨#[]⟩) := (cell_of H14.out 0).1
                  have e1 : y3.cell? ⟨b14, 1, none⟩ = some (.string ⟨#[]⟩) := (cell_of H14.out 1).1
                  have e2 : y3.cell? ⟨b14, 2, none⟩ = some (.string ⟨#[]⟩) := (cell_of H14.out 2).1
                  have f0 := (cell_of H14.out 0).2
                  have f1 := (cell_of H14.out 1).2
                  have f2 := (cell_of H14.out 2).2
                  refine wpAnyG_take0 (i := 16) (oi := ⟨_, _, _, _, _, _⟩) (v := ?_) rfl (by kernel_rfl) (by kernel_rfl) (by kernel_rfl) (fun _ _ _ h => h) (Or.inl ⟨by rfl, ?_⟩) ?_
                  rotate_left
                  · intro W _
                    go_simp
                    try with_reducible rfl
                  rotate_left
                  try simp only [Act.put, List.setIfInBounds_toArray, List.set_cons_zero, List.set_cons_succ]
                  refine wpAnyG_ready (rs := [17]) (by kernel_rfl) (by simp) ?_
                  refine AllReadyG.cons (o := ⟨_, _, _, _, _, _⟩) rfl (fun K hK => ?_) AllReadyG.nil
                  go_simp
                  refine hK.out _ (set3 y3 b14 (.string k7) (.string s7) (.string v7)) (fun h => absurd h (by decide)) ?_
                  clear hK K e0 e1 e2 f0 f1 f2
                  try simp only [Act.put, List.setIfInBounds_toArray, List.set_cons_zero, List.set_cons_succ]
                  have N14 := Lib.hid (set3_heap (x := .string k7) (y := .string s7) (z := .string v7) H14.out)
                  have N15 := Lib.hid ((set3_other y3 b14 (.string k7) (.string s7) (.string v7) HNeq.out.symm).trans H15.out)
                  have NB := Lib.hid (set3_below (x := .string k7) (y := .string s7) (z := .string v7) HB.out HG14.out)
                  generalize set3 y3 b14 (.string k7) (.string s7) (.string v7) = zs at *
                  have e0 : zs.cell? ⟨b15, 0, none⟩ = some (.int .i64 0) := (cell_of N15.out 0).1
                  have e1 : zs.cell? ⟨b15, 1, none⟩ = some (.int .i64 0) := (cell_of N15.out 1).1
                  have f0 := (cell_of N15.out 0).2
                  have f1 := (cell_of N15.out 1).2
                  refine wpAnyG_ready (rs := [18]) (by kernel_rfl) (by simp) ?_
                  refine AllReadyG.cons (o := ⟨_, _, _, _, _, _⟩) rfl (fun K hK => ?_) AllReadyG.nil
                  go_simp
                  refine hK.out _ (set2 zs b15 (.int .i64 p7) (.int .i64 c7)) (fun h => absurd h (by decide)) ?_
                  clear hK K e0 e1 f0 f1
                  try simp only [Act.put, List.setIfInBounds_toArray, List.set_cons_zero, List.set_cons_succ]
                  refine wpAnyG_take0 (i := 19) (oi := ⟨_, _, _, _, _, _⟩) (v := ?_) rfl (by kernel_rfl) (by kernel_rfl) (by kernel_rfl) (fun _ _ _ h => h) (Or.inl ⟨by rfl, ?_⟩) ?_
                  rotate_left
                  · intro W _
                    go_simp
                    try with_reducible rfl
                  rotate_left
                  try simp only [Act.put, List.setIfInBounds_toArray, List.set_cons_zero, List.set_cons_succ]
                  refine wpAnyG_done (by kernel_rfl) ?_ _
                  go_wp2
                  go_meet
                  exact ⟨b14, b15, a7, k7, s7, v7, p7, c7, e7, rfl, rfl, rfl, (set2_other zs b15 _ _ HNeq.out).trans N14.out, set2_heap N15.out, HRd.out, set2_below NB.out HG15.out⟩
                refine AllReadyG.cons (o := ⟨_, _, _, _, _, _⟩) rfl (fun K hK => ?_) AllReadyG.nil
                go_simp
                have hz := heap_alloc_new y1 (.cells #[.int .i64 0, .int .i64 0] 25)
                have hgz := HB.out.size
                replace HB := Lib.hid (HB.out.alloc HB.out.size (.cells #[.int .i64 0, .int .i64 0] 25))
                refine hK.out _ (y1.alloc (.cells #[.int .i64 0, .int .i64 0] 25)) (fun _ _ => HSn.out _ HB.out) ?_
                clear hK K
                try simp only [Act.put, List.setIfInBounds_toArray, List.set_cons_zero, List.set_cons_succ]
                generalize y1.alloc (.cells #[.int .i64 0, .int .i64 0] 25) = y2 at *
                obtain ⟨b15, hbk⟩ : ∃ b, b = y1.heap.size := ⟨_, rfl⟩
                rw [← hbk]
                rw [← hbk] at hz hgz
                have H15 := Lib.hid hz
                have HG15 := Lib.hid hgz
                clear hz hgz hbk
                refine wpAnyG_ready (rs := [14]) (by kernel_rfl) (by simp) ?_
                refine AllReadyG.cons (o := ⟨_, _, _, _, _, _⟩) rfl (fun K hK => ?_) AllReadyG.nil
                go_simp
                have hz := heap_alloc_new y2 (.cells #[.string ⟨#[]⟩, .string ⟨#[]⟩, .string ⟨#[]⟩] 52)
                have hgz := HB.out.size
                have hlt := (Array.getElem?_eq_some_iff.1 H15.out).1
                replace H15 := Lib.hid ((Below.heap_alloc y2 (.cells #[.string ⟨#[]⟩, .string ⟨#[]⟩, .string ⟨#[]⟩] 52) _ hlt).trans H15.out)
                replace HB := Lib.hid (HB.out.alloc HB.out.size (.cells #[.string ⟨#[]⟩, .string ⟨#[]⟩, .string ⟨#[]⟩] 52))
                refine hK.out _ (y2.alloc (.cells #[.string ⟨#[]⟩, .string ⟨#[]⟩, .string ⟨#[]⟩] 52)) (fun _ _ => HSn.out _ HB.out) ?_
                clear hK K
                try simp only [Act.put, List.setIfInBounds_toArray, List.set_cons_zero, List.set_cons_succ]
                generalize y2.alloc (.cells #[.string ⟨#[]⟩, .string ⟨#[]⟩, .string ⟨#[]⟩] 52) = y3 at *
                obtain ⟨b14, hbk⟩ : ∃ b, b = y2.heap.size := ⟨_, rfl⟩
                rw [← hbk]
                rw [← hbk] at hz hgz
                rw [← hbk] at hlt
                have HNeq : Hid (b14 ≠ b15) := by show b14 ≠ b15; omega
                clear hlt
                have H14 := Lib.hid hz
                have HG14 := Lib.hid hgz
                clear hz hgz hbk
                have e0 : y3.cell? ⟨b14, 0, none⟩ = some (.string ⟨#[]⟩) := (cell_of H14.out 0).1
                have e1 : y3.cell? ⟨b14, 1, none⟩ = some (.string ⟨#[]⟩) := (cell_of H14.out 1).1
                have e2 : y3.cell? ⟨b14, 2, none⟩ = some (.string ⟨#[]⟩) := (cell_of H14.out 2).1
                have f0 := (cell_of H14.out 0).2
                have f1 := (cell_of H14.out 1).2
                have f2 := (cell_of H14.out 2).2
                refine wpAnyG_take0 (i := 16) (oi := ⟨_, _, _, _, _, _⟩) (v := ?_) rfl (by kernel_rfl) (by kernel_rfl) (by kernel_rfl) (fun _ _ _ h => h) (Or.inl ⟨by rfl, ?_⟩) ?_
                rotate_left
                · intro W _
                  go_simp
                  try with_reducible rfl
                rotate_left
                try simp only [Act.put, List.setIfInBounds_toArray, List.set_cons_zero, List.set_cons_succ]
                refine wpAnyG_ready (rs := [17]) (by kernel_rfl) (by simp) ?_
                refine AllReadyG.cons (o := ⟨_, _, _, _, _, _⟩) rfl (fun K hK => ?_) AllReadyG.nil
                go_simp
                refine hK.out _ (set3 y3 b14 (.string k7) (.string s7) (.string v7)) (fun h => absurd h (by decide)) ?_
                clear hK K e0 e1 e2 f0 f1 f2
                try simp only [Act.put, List.setIfInBounds_toArray, List.set_cons_zero, List.set_cons_succ]
                have N14 := Lib.hid (set3_heap (x := .string k7) (y := .string s7) (z := .string v7) H14.out)
                have N15 := Lib.hid ((set3_other y3 b14 (.string k7) (.string s7) (.string v7) HNeq.out.symm).trans H15.out)
                have NB := Lib.hid (set3_below (x := .string k7) (y := .string s7) (z := .string v7) HB.out HG14.out)
                generalize set3 y3 b14 (.string k7) (.string s7) (.string v7) = zs at *
                have e0 : zs.cell? ⟨b15, 0, none⟩ = some (.int .i64 0) := (cell_of N15.out 0).1
                have e1 : zs.cell? ⟨b15, 1, none⟩ = some (.int .i64 0) := (cell_of N15.out 1).1
                have f0 := (cell_of N15.out 0).2
                have f1 := (cell_of N15.out 1).2
                refine wpAnyG_ready (rs := [18]) (by kernel_rfl) (by simp) ?_
                refine AllReadyG.cons (o := ⟨_, _, _, _, _, _⟩) rfl (fun K hK => ?_) AllReadyG.nil
                go_simp
                refine hK.out _ (set2 zs b15 (.int .i64 p7) (.int .i64 c7)) (fun h => absurd h (by decide)) ?_
                clear hK K e0 e1 f0 f1
                try simp only [Act.put, List.setIfInBounds_toArray, List.set_cons_zero, List.set_cons_succ]
                refine wpAnyG_take0 (i := 19) (oi := ⟨_, _, _, _, _, _⟩) (v := ?_) rfl (by kernel_rfl) (by kernel_rfl) (by kernel_rfl) (fun _ _ _ h => h) (Or.inl ⟨by rfl, ?_⟩) ?_
                rotate_left
                · intro W _
                  go_simp
                  try with_reducible rfl
                rotate_left
                try simp only [Act.put, List.setIfInBounds_toArray, List.set_cons_zero, List.set_cons_succ]
                refine wpAnyG_done (by kernel_rfl) ?_ _
                go_wp2
                go_meet
                exact ⟨b14, b15, a7, k7, s7, v7, p7, c7, e7, rfl, rfl, rfl, (set2_other zs b15 _ _ HNeq.out).trans N14.out, set2_heap N15.out, HRd.out, set2_below NB.out HG15.out⟩
              refine AllReadyG.cons (o := ⟨_, _, _, _, _, _⟩) rfl (fun K hK => ?_) ?_
              · go_simp
                have hz := heap_alloc_new z0 (.cells #[.string ⟨#[]⟩, .string ⟨#[]⟩, .string ⟨#[]⟩] 52)
                have hgz := HB.out.size
                replace HB := Lib.hid (HB.out.alloc HB.out.size (.cells #[.string ⟨#[]⟩, .string ⟨#[]⟩, .string ⟨#[]⟩] 52))
                refine hK.out _ (z0.alloc (.cells #[.string ⟨#[]⟩, .string ⟨#[]⟩, .string ⟨#[]⟩] 52)) (fun _ _ => HSn.out _ HB.out) ?_
                clear hK K
                try simp only [Act.put, List.setIfInBounds_toArray, List.set_cons_zero, List.set_cons_succ]
                generalize z0.alloc (.cells #[.string ⟨#[]⟩, .string ⟨#[]⟩, .string ⟨#[]⟩] 52) = y1 at *
                obtain ⟨b14, hbk⟩ : ∃ b, b = z0.heap.size := ⟨_, rfl⟩
                rw [← hbk]
                rw [← hbk] at hz hgz
                have H14 := Lib.hid hz
                have HG14 := Lib.hid hgz
                clear hz hgz hbk
                refine wpAnyG_ready (rs := [8, 15]) (by kernel_rfl) (by simp) ?_
                refine AllReadyG.cons (o := ⟨_, _, _, _, _, _⟩) rfl (fun K hK => ?_) ?_
                · go_simp
                  go_at_call 16
                  have HA := Lib.hid (rread_any y1 (.slice A8 N8 K8) l8 (H8.out.below HB.out (Nat.le_refl _)))
                  refine HA.out.mono ?_
                  rintro r y2 ⟨a7, k7, s7, v7, p7, c7, e7, hrd, rfl, hb7⟩
                  clear HA
                  have HRd := Lib.hid hrd
                  clear hrd
                  replace H14 := Lib.hid ((hb7.block _ (Array.getElem?_eq_some_iff.1 H14.out).1).trans H14.out)
                  replace HB := Lib.hid (HB.out.trans (hb7.mono HB.out.size))
                  clear hb7
                  go_wp2_with fail
                  refine hK.out _ _ (fun _ _ => HSn.out _ HB.out) ?_
                  clear hK K
                  try simp only [Act.put, List.setIfInBounds_toArray, List.set_cons_zero, List.set_cons_succ]
                  refine wpAnyG_take0 (i := 9) (oi := ⟨_, _, _, _, _, _⟩) (v := ?_) rfl (by kernel_rfl) (by kernel_rfl) (by kernel_rfl) (fun _ _ _ h => h) (Or.inl ⟨by rfl, ?_⟩) ?_
                  rotate_left
                  · intro W _
                    go_simp
                    try with_reducible rfl
                  rotate_left
                  try simp only [Act.put, List.setIfInBounds_toArray, List.set_cons_zero, List.set_cons_succ]
                  refine wpAnyG_take0 (i := 10) (oi := ⟨_, _, _, _, _, _⟩) (v := ?_) rfl (by kernel_rfl) (by kernel_rfl) (by kernel_rfl) (fun _ _ _ h => h) (Or.inl ⟨by rfl, ?_⟩) ?_
                  rotate_left
                  · intro W _
                    go_simp
                    try with_reducible rfl
                  rotate_left
                  try simp only [Act.put, List.setIfInBounds_toArray, List.set_cons_zero, List.set_cons_succ]
                  refine wpAnyG_take0 (i := 11) (oi := ⟨_, _, _, _, _, _⟩) (v := ?_) rfl (by kernel_rfl) (by kernel_rfl) (by kernel_rfl) (fun _ _ _ h => h) (Or.inl ⟨by rfl, ?_⟩) ?_
                  rotate_left
                  · intro W _
                    go_simp
                    try with_reducible rfl
                  rotate_left
                  try simp only [Act.put, List.setIfInBounds_toArray, List.set_cons_zero, List.set_cons_succ]
                  refine wpAnyG_take0 (i := 12) (oi := ⟨_, _, _, _, _, _⟩) (v := ?_) rfl (by kernel_rfl) (by kernel_rfl) (by kernel_rfl) (fun _ _ _ h => h) (Or.inl ⟨by rfl, ?_⟩) ?_
                  rotate_left
                  · intro W _
                    go_simp
                    try with_reducible rfl
                  rotate_left
                  try simp only [Act.put, List.setIfInBounds_toArray, List.set_cons_zero, List.set_cons_succ]
                  refine wpAnyG_take0 (i := 13) (oi := ⟨_, _, _, _, _, _⟩) (v := ?_) rfl (by kernel_rfl) (by kernel_rfl) (by kernel_rfl) (fun _ _ _ h => h) (Or.inl ⟨by rfl, ?_⟩) ?_
                  rotate_left
                  · intro W _
                    go_simp
                    try with_reducible rfl
                  rotate_left
                  try simp only [Act.put, List.setIfInBounds_toArray, List.set_cons_zero, List.set_cons_succ]
                  refine wpAnyG_ready (rs := [15]) (by kernel_rfl) (by simp) ?_
                  refine AllReadyG.cons (o := ⟨_, _, _, _, _, _⟩) rfl (fun K hK => ?_) AllReadyG.nil
                  go_simp
                  have hz := heap_alloc_new y2 (.cells #[.int .i64 0, .int .i64 0] 25)
                  have hgz := HB.out.size
                  have hlt := (Array.getElem?_eq_some_iff.1 H14.out).1
                  replace H14 := Lib.hid ((Below.heap_alloc y2 (.cells #[.int .i64 0, .int .i64 0] 25) _ hlt).trans H14.out)
                  replace HB := Lib.hid (HB.out.alloc HB.out.size (.cells #[.int .i64 0, .int .i64 0] 25))
                  refine hK.out _ (y2.alloc (.cells #[.int .i64 0, .int .i64 0] 25)) (fun _ _ => HSn.out _ HB.out) ?_
                  clear hK K
                  try simp only [Act.put, List.setIfInBounds_toArray, List.set_cons_zero, List.set_cons_succ]
                  generalize y2.alloc (.cells #[.int .i64 0, .int .i64 0] 25) = y3 at *
                  obtain ⟨b15, hbk⟩ : ∃ b, b = y2.heap.size := ⟨_, rfl⟩
                  rw [← hbk]
                  rw [← hbk] at hz hgz
                  rw [← hbk] at hlt
                  have HNeq : Hid (b14 ≠ b15) := by show b14 ≠ b15; omega
                  clear hlt
                  have H15 := Lib.hid hz
                  have HG15 := Lib.hid hgz
                  clear hz hgz hbk
                  have e0 : y3.cell? ⟨b14, 0, none⟩ = some (.string ⟨#[]⟩) := (cell_of H14.out 0).1
                  have e1 : y3.cell? ⟨b14, 1, none⟩ = some (.string ⟨#[]⟩) := (cell_of H14.out 1).1
                  have e2 : y3.cell? ⟨b14, 2, none⟩ = some (.string ⟨#[]⟩) := (cell_of H14.out 2).1
                  have f0 := (cell_of H14.out 0).2
                  have f1 := (cell_of H14.out 1).2
                  have f2 := (cell_of H14.out 2).2
                  refine wpAnyG_take0 (i := 16) (oi := ⟨_, _, _, _, _, _⟩) (v := ?_) rfl (by kernel_rfl) (by kernel_rfl) (by kernel_rfl) (fun _ _ _ h => h) (Or.inl ⟨by rfl, ?_⟩) ?_
                  rotate_left
                  · intro W _
                    go_simp
                    try with_reducible rfl
                  rotate_left
                  try simp only [Act.put, List.setIfInBounds_toArray, List.set_cons_zero, List.set_cons_succ]
                  refine wpAnyG_ready (rs := [17]) (by kernel_rfl) (by simp) ?_
                  refine AllReadyG.cons (o := ⟨_, _, _, _, _, _⟩) rfl (fun K hK => ?_) AllReadyG.nil
                  go_simp
                  refine hK.out _ (set3 y3 b14 (.string k7) (.string s7) (.string v7)) (fun h => absurd h (by decide)) ?_
                  clear hK K e0 e1 e2 f0 f1 f2
                  try simp only [Act.put, List.setIfInBounds_toArray, List.set_cons_zero, List.set_cons_succ]
                  have N14 := Lib.hid (set3_heap (x := .string k7) (y := .string s7) (z := .string v7) H14.out)
                  have N15 := Lib.hid ((set3_other y3 b14 (.string k7) (.string s7) (.string v7) HNeq.out.symm).trans H15.out)
                  have NB := Lib.hid (set3_below (x := .string k7) (y := .string s7) (z := .string v7) HB.out HG14.out)
                  generalize set3 y3 b14 (.string k7) (.string s7) (.string v7) = zs at *
                  have e0 : zs.cell? ⟨b15, 0, none⟩ = some (.int .i64 0) := (cell_of N15.out 0).1
                  have e1 : zs.cell? ⟨b15, 1, none⟩ = some (.int .i64 0) := (cell_of N15.out 1).1
                  have f0 := (cell_of N15.out 0).2
                  have f1 := (cell_of N15.out 1).2
                  refine wpAnyG_ready (rs := [18]) (by kernel_rfl) (by simp) ?_
                  refine AllReadyG.cons (o := ⟨_, _, _, _, _, _⟩) rfl (fun K hK => ?_) AllReadyG.nil
                  go_simp
                  refine hK.out _ (set2 zs b15 (.int .i64 p7) (.int .i64 c7)) (fun h => absurd h (by decide)) ?_
                  clear hK K e0 e1 f0 f1
                  try simp only [Act.put, List.setIfInBounds_toArray, List.set_cons_zero, List.set_cons_succ]
                  refine wpAnyG_take0 (i := 19) (oi := ⟨_, _, _, _, _, _⟩) (v := ?_) rfl (by kernel_rfl) (by kernel_rfl) (by kernel_rfl) (fun _ _ _ h => h) (Or.inl ⟨by rfl, ?_⟩) ?_
                  rotate_left
                  · intro W _
                    go_simp
                    try with_reducible rfl
                  rotate_left
                  try simp only [Act.put, List.setIfInBounds_toArray, List.set_cons_zero, List.set_cons_succ]
                  refine wpAnyG_done (by kernel_rfl) ?_ _
                  go_wp2
                  go_meet
                  exact ⟨b14, b15, a7, k7, s7, v7, p7, c7, e7, rfl, rfl, rfl, (set2_other zs b15 _ _ HNeq.out).trans N14.out, set2_heap N15.out, HRd.out, set2_below NB.out HG15.out⟩
                refine AllReadyG.cons (o := ⟨_, _, _, _, _, _⟩) rfl (fun K hK => ?_) AllReadyG.nil
                go_simp
                have hz := heap_alloc_new y1 (.cells #[.int .i64 0, .int .i64 0] 25)
                have hgz := HB.out.size
                have hlt := (Array.getElem?_eq_some_iff.1 H14.out).1
                replace H14 := Lib.hid ((Below.heap_alloc y1 (.cells #[.int .i64 0, .int .i64 0] 25) _ hlt).trans H14.out)
                replace HB := Lib.hid (HB.out.alloc HB.out.size (.cells #[.int .i64 0, .int .i64 0] 25))
                refine hK.out _ (y1.alloc (.cells #[.int .i64 0, .int .i64 0] 25)) (fun _ _ => HSn.out _ HB.out) ?_
                clear hK K
                try simp only [Act.put, List.setIfInBounds_toArray, List.set_cons_zero, List.set_cons_succ]
                generalize y1.alloc (.cells #[.int .i64 0, .int .i64 0] 25) = y2 at *
                obtain ⟨b15, hbk⟩ : ∃ b, b = y1.heap.size := ⟨_, rfl⟩
                rw [← hbk]
                rw [← hbk] at hz hgz
                rw [← hbk] at hlt
                have HNeq : Hid (b14 ≠ b15) := by show b14 ≠ b15; omega
                clear hlt
                have H15 := Lib.hid hz
                have HG15 := Lib.hid hgz
                clear hz hgz hbk
                refine wpAnyG_ready (rs := [8]) (by kernel_rfl) (by simp) ?_
                refine AllReadyG.cons (o := ⟨_, _, _, _, _, _⟩) rfl (fun K hK => ?_) AllReadyG.nil
                go_simp
                go_at_call 16
                have HA := Lib.hid (rread_any y2 (.slice A8 N8 K8) l8 (H8.out.below HB.out (Nat.le_refl _)))
                refine HA.out.mono ?_
                rintro r y3 ⟨a7, k7, s7, v7, p7, c7, e7, hrd, rfl, hb7⟩
                clear HA
                have HRd := Lib.hid hrd
                clear hrd
                replace H14 := Lib.hid ((hb7.block _ (Array.getElem?_eq_some_iff.1 H14.out).1).trans H14.out)
                replace H15 := Lib.hid ((hb7.block _ (Array.getElem?_eq_some_iff.1 H15.out).1).trans H15.out)
                replace HB := Lib.hid (HB.out.trans (hb7.mono HB.out.size))
                clear hb7
                go_wp2_with fail
                refine hK.out _ _ (fun _ _ => HSn.out _ HB.out) ?_
                clear hK K
                try simp only [Act.put, List.setIfInBounds_toArray, List.set_cons_zero, List.set_cons_succ]
                refine wpAnyG_take0 (i := 9) (oi := ⟨_, _, _, _, _, _⟩) (v := ?_) rfl (by kernel_rfl) (by kernel_rfl) (by kernel_rfl) (fun _ _ _ h => h) (Or.inl ⟨by rfl, ?_⟩) ?_
                rotate_left
                · intro W _
                  go_simp
                  try with_reducible rfl
                rotate_left
                try simp only [Act.put, List.setIfInBounds_toArray, List.set_cons_zero, List.set_cons_succ]
                refine wpAnyG_take0 (i := 10) (oi := ⟨_, _, _, _, _, _⟩) (v := ?_) rfl (by kernel_rfl) (by kernel_rfl) (by kernel_rfl) (fun _ _ _ h => h) (Or.inl ⟨by rfl, ?_⟩) ?_
                rotate_left
                · intro W _
                  go_simp
                  try with_reducible rfl
                rotate_left
                try simp only [Act.put, List.setIfInBounds_toArray, List.set_cons_zero, List.set_cons_succ]
                refine wpAnyG_take0 (i := 11) (oi := ⟨_, _, _, _, _, _⟩) (v := ?_) rfl (by kernel_rfl) (by kernel_rfl) (by kernel_rfl) (fun _ _ _ h => h) (Or.inl ⟨by rfl, ?_⟩) ?_
                rotate_left
                · intro W _
                  go_simp
                  try with_reducible rfl
                rotate_left
                try simp only [Act.put, List.setIfInBounds_toArray, List.set_cons_zero, List.set_cons_succ]
                refine wpAnyG_take0 (i := 12) (oi := ⟨_, _, _, _, _, _⟩) (v := ?_) rfl (by kernel_rfl) (by kernel_rfl) (by kernel_rfl) (fun _ _ _ h => h) (Or.inl ⟨by rfl, ?_⟩) ?_
                rotate_left
                · intro W _
                  go_simp
                  try with_reducible rfl
                rotate_left
                try simp only [Act.put, List.setIfInBounds_toArray, List.set_cons_zero, List.set_cons_succ]
                refine wpAnyG_take0 (i := 13) (oi := ⟨_, _, _, _, _, _⟩) (v := ?_) rfl (by kernel_rfl) (by kernel_rfl) (by kernel_rfl) (fun _ _ _ h => h) (Or.inl ⟨by rfl, ?_⟩) ?_
                rotate_left
                · intro W _
                  go_simp
                  try with_reducible rfl
                rotate_left
                try simp only [Act.put, List.setIfInBounds_toArray, List.set_cons_zero, List.set_cons_succ]
                have e0 : y3.cell? ⟨b14, 0, none⟩ = some (.string ⟨#[]⟩) := (cell_of H14.out 0).1
                have e1 : y3.cell? ⟨b14, 1, none⟩ = some (.string ⟨#[]⟩) := (cell_of H14.out 1).1
                have e2 : y3.cell? ⟨b14, 2, none⟩ = some (.string ⟨#[]⟩) := (cell_of H14.out 2).1
                have f0 := (cell_of H14.out 0).2
                have f1 := (cell_of H14.out 1).2
                have f2 := (cell_of H14.out 2).2
                refine wpAnyG_take0 (i := 16) (oi := ⟨_, _, _, _, _, _⟩) (v := ?_) rfl (by kernel_rfl) (by kernel_rfl) (by kernel_rfl) (fun _ _ _ h => h) (Or.inl ⟨by rfl, ?_⟩) ?_
                rotate_left
                · intro W _
                  go_simp
                  try with_reducible rfl
                rotate_left
                try simp only [Act.put, List.setIfInBounds_toArray, List.set_cons_zero, List.set_cons_succ]
                refine wpAnyG_ready (rs := [17]) (by kernel_rfl) (by simp) ?_
                refine AllReadyG.cons (o := ⟨_, _, _, _, _, _⟩) rfl (fun K hK => ?_) AllReadyG.nil
                go_simp
                refine hK.out _ (set3 y3 b14 (.string k7) (.string s7) (.string v7)) (fun h => absurd h (by decide)) ?_
                clear hK K e0 e1 e2 f0 f1 f2
                try simp only [Act.put, List.setIfInBounds_toArray, List.set_cons_zero, List.set_cons_succ]
                have N14 := Lib.hid (set3_heap (x := .string k7) (y := .string s7) (z := .string v7) H14.out)
                have N15 := Lib.hid ((set3_other y3 b14 (.string k7) (.string s7) (.string v7) HNeq.out.symm).trans H15.out)
                have NB := Lib.hid (set3_below (x := .string k7) (y := .string s7) (z := .string v7) HB.out HG14.out)
                generalize set3 y3 b14 (.string k7) (.string s7) (.string v7) = zs at *
                have e0 : zs.cell? ⟨b15, 0, none⟩ = some (.int .i64 0) := (cell_of N15.out 0).1
                have e1 : zs.cell? ⟨b15, 1, none⟩ = some (.int .i64 0) := (cell_of N15.out 1).1
                have f0 := (cell_of N15.out 0).2
                have f1 := (cell_of N15.out 1).2
                refine wpAnyG_ready (rs := [18]) (by kernel_rfl) (by simp) ?_
                refine AllReadyG.cons (o := ⟨_, _, _, _, _, _⟩) rfl (fun K hK => ?_) AllReadyG.nil
                go_simp
                refine hK.out _ (set2 zs b15 (.int .i64 p7) (.int .i64 c7)) (fun h => absurd h (by decide)) ?_
                clear hK K e0 e1 f0 f1
                try simp only [Act.put, List.setIfInBounds_toArray, List.set_cons_zero, List.set_cons_succ]
                refine wpAnyG_take0 (i := 19) (oi := ⟨_, _, _, _, _, _⟩) (v := ?_) rfl (by kernel_rfl) (by kernel_rfl) (by kernel_rfl) (fun _ _ _ h => h) (Or.inl ⟨by rfl, ?_⟩) ?_
                rotate_left
                · intro W _
                  go_simp
                  try with_reducible rfl
                rotate_left
                try simp only [Act.put, List.setIfInBounds_toArray, List.set_cons_zero, List.set_cons_succ]
                refine wpAnyG_done (by kernel_rfl) ?_ _
                go_wp2
                go_meet
                exact ⟨b14, b15, a7, k7, s7, v7, p7, c7, e7, rfl, rfl, rfl, (set2_other zs b15 _ _ HNeq.out).trans N14.out, set2_heap N15.out, HRd.out, set2_below NB.out HG15.out⟩
              refine AllReadyG.cons (o := ⟨_, _, _, _, _, _⟩) rfl (fun K hK => ?_) AllReadyG.nil
              go_simp
              have hz := heap_alloc_new z0 (.cells #[.int .i64 0, .int .i64 0] 25)
              have hgz := HB.out.size
              replace HB := Lib.hid (HB.out.alloc HB.out.size (.cells #[.int .i64 0, .int .i64 0] 25))
              refine hK.out _ (z0.alloc (.cells #[.int .i64 0, .int .i64 0] 25)) (fun _ _ => HSn.out _ HB.out) ?_
              clear hK K
              try simp only [Act.put, List.setIfInBounds_toArray, List.set_cons_zero, List.set_cons_succ]
              generalize z0.alloc (.cells #[.int .i64 0, .int .i64 0] 25) = y1 at *
              obtain ⟨b15, hbk⟩ : ∃ b, b = z0.heap.size := ⟨_, rfl⟩
              rw [← hbk]
              rw [← hbk] at hz hgz
              have H15 := Lib.hid hz
              have HG15 := Lib.hid hgz
              clear hz hgz hbk
              refine wpAnyG_ready (rs := [8, 14]) (by kernel_rfl) (by simp) ?_
              refine AllReadyG.cons (o := ⟨_, _, _, _, _, _⟩) rfl (fun K hK => ?_) ?_
              · go_simp
                go_at_call 16
                have HA := Lib.hid (rread_any y1 (.slice A8 N8 K8) l8 (H8.out.below HB.out (Nat.le_refl _)))
                refine HA.out.mono ?_
                rintro r y2 ⟨a7, k7, s7, v7, p7, c7, e7, hrd, rfl, hb7⟩
                clear HA
                have HRd := Lib.hid hrd
                clear hrd
                replace H15 := Lib.hid ((hb7.block _ (Array.getElem?_eq_some_iff.1 H15.out).1).trans H15.out)
                replace HB := Lib.hid (HB.out.trans (hb7.mono HB.out.size))
                clear hb7
                go_wp2_with fail
                refine hK.out _ _ (fun _ _ => HSn.out _ HB.out) ?_
                clear hK K
                try simp only [Act.put, List.setIfInBounds_toArray, List.set_cons_zero, List.set_cons_succ]
                refine wpAnyG_take0 (i := 9) (oi := ⟨_, _, _, _, _, _⟩) (v := ?_) rfl (by kernel_rfl) (by kernel_rfl) (by kernel_rfl) (fun _ _ _ h => h) (Or.inl ⟨by rfl, ?_⟩) ?_
                rotate_left
                · intro W _
                  go_simp
                  try with_reducible rfl
                rotate_left
                try simp only [Act.put, List.setIfInBounds_toArray, List.set_cons_zero, List.set_cons_succ]
                refine wpAnyG_take0 (i := 10) (oi := ⟨_, _, _, _, _, _⟩) (v := ?_) rfl (by kernel_rfl) (by kernel_rfl) (by kernel_rfl) (fun _ _ _ h => h) (Or.inl ⟨by rfl, ?_⟩) ?_
                rotate_left
                · intro W _
                  go_simp
                  try with_reducible rfl
                rotate_left
                try simp only [Act.put, List.setIfInBounds_toArray, List.set_cons_zero, List.set_cons_succ]
                refine wpAnyG_take0 (i := 11) (oi := ⟨_, _, _, _, _, _⟩) (v := ?_) rfl (by kernel_rfl) (by kernel_rfl) (by kernel_rfl) (fun _ _ _ h => h) (Or.inl ⟨by rfl, ?_⟩) ?_
                rotate_left
                · intro W _
                  go_simp
                  try with_reducible rfl
                rotate_left
                try simp only [Act.put, List.setIfInBounds_toArray, List.set_cons_zero, List.set_cons_succ]
                refine wpAnyG_take0 (i := 12) (oi := ⟨_, _, _, _, _, _⟩) (v := ?_) rfl (by kernel_rfl) (by kernel_rfl) (by kernel_rfl) (fun _ _ _ h => h) (Or.inl ⟨by rfl, ?_⟩) ?_
                rotate_left
                · intro W _
                  go_simp
                  try with_reducible rfl
                rotate_left
                try simp only [Act.put, List.setIfInBounds_toArray, List.set_cons_zero, List.set_cons_succ]
                refine wpAnyG_take0 (i := 13) (oi := ⟨_, _, _, _, _, _⟩) (v := ?_) rfl (by kernel_rfl) (by kernel_rfl) (by kernel_rfl) (fun _ _ _ h => h) (Or.inl ⟨by rfl, ?_⟩) ?_
                rotate_left
                · intro W _
                  go_simp
                  try with_reducible rfl
                rotate_left
                try simp only [Act.put, List.setIfInBounds_toArray, List.set_cons_zero, List.set_cons_succ]
                refine wpAnyG_ready (rs := [14]) (by kernel_rfl) (by simp) ?_
                refine AllReadyG.cons (o := ⟨_, _, _, _, _, _⟩) rfl (fun K hK => ?_) AllReadyG.nil
                go_simp
                have hz := heap_alloc_new y2 (.cells #[.string ⟨#[]⟩, .string ⟨#[]⟩, .string ⟨#[]⟩] 52)
                have hgz := HB.out.size
                have hlt := (Array.getElem?_eq_some_iff.1 H15.out).1
                replace H15 := Lib.hid ((Below.heap_alloc y2 (.cells #[.string ⟨#[]⟩, .string ⟨#[]⟩, .string ⟨#[]⟩] 52) _ hlt).trans H15.out)
                replace HB := Lib.hid (HB.out.alloc HB.out.size (.cells #[.string ⟨#[]⟩, .string ⟨#[]⟩, .string ⟨#[]⟩] 52))
                refine hK.out _ (y2.alloc (.cells #[.string ⟨#[]⟩, .string ⟨#[]⟩, .string ⟨#[]⟩] 52)) (fun _ _ => HSn.out _ HB.out) ?_
                clear hK K
                try simp only [Act.put, List.setIfInBounds_toArray, List.set_cons_zero, List.set_cons_succ]
                generalize y2.alloc (.cells #[.string ⟨#[]⟩, .string ⟨#[]⟩, .string ⟨#[]⟩] 52) = y3 at *
                obtain ⟨b14, hbk⟩ : ∃ b, b = y2.heap.size := ⟨_, rfl⟩
                rw [← hbk]
                rw [← hbk] at hz hgz
                rw [← hbk] at hlt
                have HNeq : Hid (b14 ≠ b15) := by show b14 ≠ b15; omega
                clear hlt
                have H14 := Lib.hid hz
                have HG14 := Lib.hid hgz
                clear hz hgz hbk
                have e0 : y3.cell? ⟨b14, 0, none⟩ = some (.string ⟨#[]⟩) := (cell_of H14.out 0).1
                have e1 : y3.cell? ⟨b14, 1, none⟩ = some (.string ⟨#[]⟩) := (cell_of H14.out 1).1
                have e2 : y3.cell? ⟨b14, 2, none⟩ = some (.string ⟨#[]⟩) := (cell_of H14.out 2).1
                have f0 := (cell_of H14.out 0).2
                have f1 := (cell_of H14.out 1).2
                have f2 := (cell_of H14.out 2).2
                refine wpAnyG_take0 (i := 16) (oi := ⟨_, _, _, _, _, _⟩) (v := ?_) rfl (by kernel_rfl) (by kernel_rfl) (by kernel_rfl) (fun _ _ _ h => h) (Or.inl ⟨by rfl, ?_⟩) ?_
                rotate_left
                · intro W _
                  go_simp
                  try with_reducible rfl
                rotate_left
                try simp only [Act.put, List.setIfInBounds_toArray, List.set_cons_zero, List.set_cons_succ]
                refine wpAnyG_ready (rs := [17]) (by kernel_rfl) (by simp) ?_
                refine AllReadyG.cons (o := ⟨_, _, _, _, _, _⟩) rfl (fun K hK => ?_) AllReadyG.nil
                go_simp
                refine hK.out _ (set3 y3 b14 (.string k7) (.string s7) (.string v7)) (fun h => absurd h (by decide)) ?_
                clear hK K e0 e1 e2 f0 f1 f2
                try simp only [Act.put, List.setIfInBounds_toArray, List.set_cons_zero, List.set_cons_succ]
                have N14 := Lib.hid (set3_heap (x := .string k7) (y := .string s7) (z := .string v7) H14.out)
                have N15 := Lib.hid ((set3_other y3 b14 (.string k7) (.string s7) (.string v7) HNeq.out.symm).trans H15.out)
                have NB := Lib.hid (set3_below (x := .string k7) (y := .string s7) (z := .string v7) HB.out HG14.out)
                generalize set3 y3 b14 (.string k7) (.string s7) (.string v7) = zs at *
                have e0 : zs.cell? ⟨b15, 0, none⟩ = some (.int .i64 0) := (cell_of N15.out 0).1
                have e1 : zs.cell? ⟨b15, 1, none⟩ = some (.int .i64 0) := (cell_of N15.out 1).1
                have f0 := (cell_of N15.out 0).2
                have f1 := (cell_of N15.out 1).2
                refine wpAnyG_ready (rs := [18]) (by kernel_rfl) (by simp) ?_
                refine AllReadyG.cons (o := ⟨_, _, _, _, _, _⟩) rfl (fun K hK => ?_) AllReadyG.nil
                go_simp
                refine hK.out _ (set2 zs b15 (.int .i64 p7) (.int .i64 c7)) (fun h => absurd h (by decide)) ?_
                clear hK K e0 e1 f0 f1
                try simp only [Act.put, List.setIfInBounds_toArray, List.set_cons_zero, List.set_cons_succ]
                refine wpAnyG_take0 (i := 19) (oi := ⟨_, _, _, _, _, _⟩) (v := ?_) rfl (by kernel_rfl) (by kernel_rfl) (by kernel_rfl) (fun _ _ _ h => h) (Or.inl ⟨by rfl, ?_⟩) ?_
                rotate_left
                · intro W _
                  go_simp
                  try with_reducible rfl
                rotate_left
                try simp only [Act.put, List.setIfInBounds_toArray, List.set_cons_zero, List.set_cons_succ]
                refine wpAnyG_done (by kernel_rfl) ?_ _
                go_wp2
                go_meet
                exact ⟨b14, b15, a7, k7, s7, v7, p7, c7, e7, rfl, rfl, rfl, (set2_other zs b15 _ _ HNeq.out).trans N14.out, set2_heap N15.out, HRd.out, set2_below NB.out HG15.out⟩
              refine AllReadyG.cons (o := ⟨_, _, _, _, _, _⟩) rfl (fun K hK => ?_) AllReadyG.nil
              go_simp
              have hz := heap_alloc_new y1 (.cells #[.string ⟨#[]⟩, .string ⟨#[]⟩, .string ⟨#[]⟩] 52)
              have hgz := HB.out.size
              have hlt := (Array.getElem?_eq_some_iff.1 H15.out).1
              replace H15 := Lib.hid ((Below.heap_alloc y1 (.cells #[.string ⟨#[]⟩, .string ⟨#[]⟩, .string ⟨#[]⟩] 52) _ hlt).trans H15.out)
              replace HB := Lib.hid (HB.out.alloc HB.out.size (.cells #[.string ⟨#[]⟩, .string ⟨#[]⟩, .string ⟨#[]⟩] 52))
              refine hK.out _ (y1.alloc (.cells #[.string ⟨#[]⟩, .string ⟨#[]⟩, .string ⟨#[]⟩] 52)) (fun _ _ => HSn.out _ HB.out) ?_
              clear hK K
              try simp only [Act.put, List.setIfInBounds_toArray, List.set_cons_zero, List.set_cons_succ]
              generalize y1.alloc (.cells #[.string ⟨#[]⟩, .string ⟨#[]⟩, .string ⟨#[]⟩] 52) = y2 at *
              obtain ⟨b14, hbk⟩ : ∃ b, b = y1.heap.size := ⟨_, rfl⟩
              rw [← hbk]
              rw [← hbk] at hz hgz
              rw [← hbk] at hlt
              have HNeq : Hid (b14 ≠ b15) := by show b14 ≠ b15; omega
              clear hlt
              have H14 := Lib.hid hz
              have HG14 := Lib.hid hgz
              clear hz hgz hbk
              refine wpAnyG_ready (rs := [8]) (by kernel_rfl) (by simp) ?_
              refine AllReadyG.cons (o := ⟨_, _, _, _, _, _⟩) rfl (fun K hK => ?_) AllReadyG.nil
              go_simp
              go_at_call 16
              have HA := Lib.hid (rread_any y2 (.slice A8 N8 K8) l8 (H8.out.below HB.out (Nat.le_refl _)))
              refine HA.out.mono ?_
              rintro r y3 ⟨a7, k7, s7, v7, p7, c7, e7, hrd, rfl, hb7⟩
              clear HA
              have HRd := Lib.hid hrd
              clear hrd
              replace H14 := Lib.hid ((hb7.block _ (Array.getElem?_eq_some_iff.1 H14.out).1).trans H14.out)
              replace H15 := Lib.hid ((hb7.block _ (Array.getElem?_eq_some_iff.1 H15.out).1).trans H15.out)
              replace HB := Lib.hid (HB.out.trans (hb7.mono HB.out.size))
              clear hb7
              go_wp2_with fail
              refine hK.out _ _ (fun _ _ => HSn.out _ HB.out) ?_
              clear hK K
              try simp only [Act.put, List.setIfInBounds_toArray, List.set_cons_zero, List.set_cons_succ]
              refine wpAnyG_take0 (i := 9) (oi := ⟨_, _, _, _, _, _⟩) (v := ?_) rfl (by kernel_rfl) (by kernel_rfl) (by kernel_rfl) (fun _ _ _ h => h) (Or.inl ⟨by rfl, ?_⟩) ?_
              rotate_left
              · intro W _
                go_simp
                try with_reducible rfl
              rotate_left
              try simp only [Act.put, List.setIfInBounds_toArray, List.set_cons_zero, List.set_cons_succ]
              refine wpAnyG_take0 (i := 10) (oi := ⟨_, _, _, _, _, _⟩) (v := ?_) rfl (by kernel_rfl) (by kernel_rfl) (by kernel_rfl) (fun _ _ _ h => h) (Or.inl ⟨by rfl, ?_⟩) ?_
              rotate_left
              · intro W _
                go_simp
                try with_reducible rfl
              rotate_left
              try simp only [Act.put, List.setIfInBounds_toArray, List.set_cons_zero, List.set_cons_succ]
              refine wpAnyG_take0 (i := 11) (oi := ⟨_, _, _, _, _, _⟩) (v := ?_) rfl (by kernel_rfl) (by kernel_rfl) (by kernel_rfl) (fun _ _ _ h => h) (Or.inl ⟨by rfl, ?_⟩) ?_
              rotate_left
              · intro W _
                go_simp
                try with_reducible rfl
              rotate_left
              try simp only [Act.put, List.setIfInBounds_toArray, List.set_cons_zero, List.set_cons_succ]
              refine wpAnyG_take0 (i := 12) (oi := ⟨_, _, _, _, _, _⟩) (v := ?_) rfl (by kernel_rfl) (by kernel_rfl) (by kernel_rfl) (fun _ _ _ h => h) (Or.inl ⟨by rfl, ?_⟩) ?_
              rotate_left
              · intro W _
                go_simp
                try with_reducible rfl
              rotate_left
              try simp only [Act.put, List.setIfInBounds_toArray, List.set_cons_zero, List.set_cons_succ]
              refine wpAnyG_take0 (i := 13) (oi := ⟨_, _, _, _, _, _⟩) (v := ?_) rfl (by kernel_rfl) (by kernel_rfl) (by kernel_rfl) (fun _ _ _ h => h) (Or.inl ⟨by rfl, ?_⟩) ?_
              rotate_left
              · intro W _
                go_simp
                try with_reducible rfl
              rotate_left
              try simp only [Act.put, List.setIfInBounds_toArray, List.set_cons_zero, List.set_cons_succ]
              have e0 : y3.cell? ⟨b14, 0, none⟩ = some (.string ⟨#[]⟩) := (cell_of H14.out 0).1
              have e1 : y3.cell? ⟨b14, 1, none⟩ = some (.string ⟨#[]⟩) := (cell_of H14.out 1).1
              have e2 : y3.cell? ⟨b14, 2, none⟩ = some (.string ⟨#[]⟩) := (cell_of H14.out 2).1
              have f0 := (cell_of H14.out 0).2
              have f1 := (cell_of H14.out 1).2
              have f2 := (cell_of H14.out 2).2
              refine wpAnyG_take0 (i := 16) (oi := ⟨_, _, _, _, _, _⟩) (v := ?_) rfl (by kernel_rfl) (by kernel_rfl) (by kernel_rfl) (fun _ _ _ h => h) (Or.inl ⟨by rfl, ?_⟩) ?_
              rotate_left
              · intro W _
                go_simp
                try with_reducible rfl
              rotate_left
              try simp only [Act.put, List.setIfInBounds_toArray, List.set_cons_zero, List.set_cons_succ]
              refine wpAnyG_ready (rs := [17]) (by kernel_rfl) (by simp) ?_
              refine AllReadyG.cons (o := ⟨_, _, _, _, _, _⟩) rfl (fun K hK => ?_) AllReadyG.nil
              go_simp
              refine hK.out _ (set3 y3 b14 (.string k7) (.string s7) (.string v7)) (fun h => absurd h (by decide)) ?_
              clear hK K e0 e1 e2 f0 f1 f2
              try simp only [Act.put, List.setIfInBounds_toArray, List.set_cons_zero, List.set_cons_succ]
              have N14 := Lib.hid (set3_heap (x := .string k7) (y := .string s7) (z := .string v7) H14.out)
              have N15 := Lib.hid ((set3_other y3 b14 (.string k7) (.string s7) (.string v7) HNeq.out.symm).trans H15.out)
              have NB := Lib.hid (set3_below (x := .string k7) (y := .string s7) (z := .string v7) HB.out HG14.out)
              generalize set3 y3 b14 (.string k7) (.string s7) (.string v7) = zs at *
              have e0 : zs.cell? ⟨b15, 0, none⟩ = some (.int .i64 0) := (cell_of N15.out 0).1
              have e1 : zs.cell? ⟨b15, 1, none⟩ = some (.int .i64 0) := (cell_of N15.out 1).1
              have f0 := (cell_of N15.out 0).2
              have f1 := (cell_of N15.out 1).2
              refine wpAnyG_ready (rs := [18]) (by kernel_rfl) (by simp) ?_
              refine AllReadyG.cons (o := ⟨_, _, _, _, _, _⟩) rfl (fun K hK => ?_) AllReadyG.nil
              go_simp
              refine hK.out _ (set2 zs b15 (.int .i64 p7) (.int .i64 c7)) (fun h => absurd h (by decide)) ?_
              clear hK K e0 e1 f0 f1
              try simp only [Act.put, List.setIfInBounds_toArray, List.set_cons_zero, List.set_cons_succ]
              refine wpAnyG_take0 (i := 19) (oi := ⟨_, _, _, _, _, _⟩) (v := ?_) rfl (by kernel_rfl) (by kernel_rfl) (by kernel_rfl) (fun _ _ _ h => h) (Or.inl ⟨by rfl, ?_⟩) ?_
              rotate_left
              · intro W _
                go_simp
                try with_reducible rfl
              rotate_left
              try simp only [Act.put, List.setIfInBounds_toArray, List.set_cons_zero, List.set_cons_succ]
              refine wpAnyG_done (by kernel_rfl) ?_ _
              go_wp2
              go_meet
              exact ⟨b14, b15, a7, k7, s7, v7, p7, c7, e7, rfl, rfl, rfl, (set2_other zs b15 _ _ HNeq.out).trans N14.out, set2_heap N15.out, HRd.out, set2_below NB.out HG15.out⟩
            case rest =>
              rename World => wd
              obtain ⟨b18, b19, a1, k1, s1, v1, p1, c1, e1, rfl, rfl, rfl, h18, h19, hrd, hbc⟩ := hcut.out
              clear hcut
              obtain ⟨hp, hb⟩ := HP9.out
              have HPc : Hid (P3 wd g (fun m : Nat => aps (m : Int) s0 (L.take (i + 1)) 0) ∧ Below w6.heap.size w6 wd) := ⟨hp.below hbc, hb.trans (hbc.mono hb.size)⟩
              have H18 := Lib.hid h18
              have H19 := Lib.hid h19
              have HR1 := Lib.hid hrd
              clear HP9 hp hb h18 h19 hrd hbc H8 x0 x1 x2 hA3 hB4
              obtain ⟨hp, hb⟩ := HPc.out
              obtain ⟨A8, N8, K8, x2, h8⟩ := hp.cell (n := bp) (c := bc) hbp3 hbc4
              have hl8' := HL8.out
              have HL1 : Hid (l8 = (aps (ap : Int) s0 (L.take (i + 1)) 0).1 ac) := hl8'
              obtain ⟨l9, hl9⟩ : ∃ l9, l9 = l8 := ⟨_, rfl⟩
              rw [← hl9] at HL1 HR1
              clear HL8 hl8' hl9
              obtain ⟨l8, hl8⟩ : ∃ l8, l8 = (aps (bp : Int) s0 (L.take (i + 1)) 0).1 bc := ⟨_, rfl⟩
              rw [← hl8] at h8
              have hkb := (hb.block (g7 + 1) HG6.out).trans HKb.out
              have x0 : wd.cell? ⟨g7 + 1, 0, none⟩ = some (.int .i64 (bp : Int)) := (cell_of hkb 0).1
              have x1 : wd.cell? ⟨g7 + 1, 1, none⟩ = some (.int .i64 (bc : Int)) := (cell_of hkb 1).1
              have H8 := Lib.hid h8
              have HL8 := Lib.hid hl8
              have hA3 : (bp : Int) < 3 := by omega
              have hB4 : (bc : Int) < 4 := by omega
              clear hp hb h8 hl8 hkb
              go_upto_region 19 with (fail)
              go_cut [21, 22, 23, 24] (fun v21 v22 v23 v24 wx => Hid (∃ (b22 b23 : Nat) (a : Int) (k s v : ByteArray) (p c er : Int), v21 = .int .i64 a ∧ v22 = .pointer (some ⟨b22, 0, none⟩) ∧ v23 = .pointer (some ⟨b23, 0, none⟩) ∧ wx.heap[b22]? = some (.cells #[.string k, .string s, .string v] 52 (0, 0)) ∧ wx.heap[b23]? = some (.cells #[.int .i64 p, .int .i64 c] 25 (0, 0)) ∧ Rd l8 a k s v p c er ∧ Below wd.heap.size wd wx))
              case first =>
                have hS0 : (fun Z : World => (Z.cell? ⟨(g7 + 1), 0, none⟩ = some (.int .i64 (bp : Int)) ∧ Z.cell? ⟨(g7 + 1), 1, none⟩ = some (.int .i64 (bc : Int)) ∧ Z.cell? ⟨g, bp * 5 + bc, none⟩ = some (.slice A8 N8 K8))) wd.drew := ⟨x0, x1, x2⟩
                have HSn : Hid (∀ Z, Below wd.heap.size wd Z → (Z.cell? ⟨(g7 + 1), 0, none⟩ = some (.int .i64 (bp : Int)) ∧ Z.cell? ⟨(g7 + 1), 1, none⟩ = some (.int .i64 (bc : Int)) ∧ Z.cell? ⟨g, bp * 5 + bc, none⟩ = some (.slice A8 N8 K8))) := fun Z hZ => ⟨(hZ.cell (p := ⟨(g7 + 1), 0, none⟩) (World.block_lt_of_cell? wd _ x0)).trans x0, (hZ.cell (p := ⟨(g7 + 1), 1, none⟩) (World.block_lt_of_cell? wd _ x1)).trans x1, (hZ.cell (p := ⟨g, bp * 5 + bc, none⟩) (World.block_lt_of_cell? wd _ x2)).trans x2⟩
                have HB : Hid (Below wd.heap.size wd wd.drew) := (Below.refl _ _).drew
                refine wp_region_G (fun Z : World => (Z.cell? ⟨(g7 + 1), 0, none⟩ = some (.int .i64 (bp : Int)) ∧ Z.cell? ⟨(g7 + 1), 1, none⟩ = some (.int .i64 (bc : Int)) ∧ Z.cell? ⟨g, bp * 5 + bc, none⟩ = some (.slice A8 N8 K8))) (fun j => j == 17 || j == 18) (by kernel_rfl) ?_
                clear x0 x1 x2
                generalize wd.drew = z0 at *
                refine wpAnyG_take0 (i := 0) (oi := ⟨_, _, _, _, _, _⟩) (v := ?_) rfl (by kernel_rfl) (by kernel_rfl) (by kernel_rfl) (fun _ _ _ h => h) (Or.inl ⟨by rfl, ?_⟩) ?_
                rotate_left
                · intro W _
                  go_simp
                  try with_reducible rfl
                rotate_left
                try simp only [Act.put, List.setIfInBounds_toArray, List.set_cons_zero, List.set_cons_succ]
                refine wpAnyG_take (i := 1) (oi := ⟨_, _, _, _, _, _⟩) (v := ?_) rfl (by kernel_rfl) (by kernel_rfl) (by kernel_rfl) (by kernel_rfl) (fun _ _ _ h => h) hS0 (Or.inl ⟨by rfl, ?_⟩) ?_
                rotate_left
                · intro W hSW
                  obtain ⟨q0, q1, q2⟩ := hSW
                  go_simp
                  try with_reducible rfl
                rotate_left
                try simp only [Act.put, List.setIfInBounds_toArray, List.set_cons_zero, List.set_cons_succ]
                refine wpAnyG_take0 (i := 2) (oi := ⟨_, _, _, _, _, _⟩) (v := ?_) rfl (by kernel_rfl) (by kernel_rfl) (by kernel_rfl) (fun _ _ _ h => h) (Or.inl ⟨by rfl, ?_⟩) ?_
                rotate_left
                · intro W _
                  go_simp
                  try with_reducible rfl
                rotate_left
                try simp only [Act.put, List.setIfInBounds_toArray, List.set_cons_zero, List.set_cons_succ]
                refine wpAnyG_take (i := 3) (oi := ⟨_, _, _, _, _, _⟩) (v := ?_) rfl (by kernel_rfl) (by kernel_rfl) (by kernel_rfl) (by kernel_rfl) (fun _ _ _ h => h) hS0 (Or.inl ⟨by rfl, ?_⟩) ?_
                rotate_left
                · intro W hSW
                  obtain ⟨q0, q1, q2⟩ := hSW
                  go_simp
                  try with_reducible rfl
                rotate_left
                try simp only [Act.put, List.setIfInBounds_toArray, List.set_cons_zero, List.set_cons_succ]
                refine wpAnyG_take0 (i := 4) (oi := ⟨_, _, _, _, _, _⟩) (v := ?_) rfl (by kernel_rfl) (by kernel_rfl) (by kernel_rfl) (fun _ _ _ h => h) (Or.inl ⟨by rfl, ?_⟩) ?_
                rotate_left
                · intro W _
                  go_simp
                  try with_reducible rfl
                rotate_left
                try simp only [Act.put, List.setIfInBounds_toArray, List.set_cons_zero, List.set_cons_succ]
                refine wpAnyG_take0 (i := 5) (oi := ⟨_, _, _, _, _, _⟩) (v := ?_) rfl (by kernel_rfl) (by kernel_rfl) (by kernel_rfl) (fun _ _ _ h => h) (Or.inl ⟨by rfl, ?_⟩) ?_
                rotate_left
                · intro W _
                  go_simp
                  try with_reducible rfl
                rotate_left
                try simp only [Act.put, List.setIfInBounds_toArray, List.set_cons_zero, List.set_cons_succ]
                refine wpAnyG_take0 (i := 6) (oi := ⟨_, _, _, _, _, _⟩) (v := ?_) rfl (by kernel_rfl) (by kernel_rfl) (by kernel_rfl) (fun _ _ _ h => h) (Or.inl ⟨by rfl, ?_⟩) ?_
                rotate_left
                · intro W _
                  go_simp
                  try with_reducible rfl
                rotate_left
                try simp only [Act.put, List.setIfInBounds_toArray, List.set_cons_zero, List.set_cons_succ]
                refine wpAnyG_take (i := 7) (oi := ⟨_, _, _, _, _, _⟩) (v := ?_) rfl (by kernel_rfl) (by kernel_rfl) (by kernel_rfl) (by kernel_rfl) (fun _ _ _ h => h) hS0 (Or.inl ⟨by rfl, ?_⟩) ?_
                rotate_left
                · intro W hSW
                  obtain ⟨q0, q1, q2⟩ := hSW
                  go_simp
                  try with_reducible rfl
                rotate_left
                try simp only [Act.put, List.setIfInBounds_toArray, List.set_cons_zero, List.set_cons_succ]
                clear hS0
                refine wpAnyG_ready (rs := [8, 14, 15]) (by kernel_rfl) (by simp) ?_
                refine AllReadyG.cons (o := ⟨_, _, _, _, _, _⟩) rfl (fun K hK => ?_) ?_
                · go_simp
                  go_at_call 16
                  have HA := Lib.hid (rread_any z0 (.slice A8 N8 K8) l8 (H8.out.below HB.out (Nat.le_refl _)))
                  refine HA.out.mono ?_
                  rintro r y1 ⟨a7, k7, s7, v7, p7, c7, e7, hrd, rfl, hb7⟩
                  clear HA
                  have HRd := Lib.hid hrd
                  clear hrd
                  replace HB := Lib.hid (HB.out.trans (hb7.mono HB.out.size))
                  clear hb7
                  go_wp2_with fail
                  refine hK.out _ _ (fun _ _ => HSn.out _ HB.out) ?_
                  clear hK K
                  try simp only [Act.put, List.setIfInBounds_toArray, List.set_cons_zero, List.set_cons_succ]
                  refine wpAnyG_take0 (i := 9) (oi := ⟨_, _, _, _, _, _⟩) (v := ?_) rfl (by kernel_rfl) (by kernel_rfl) (by kernel_rfl) (fun _ _ _ h => h) (Or.inl ⟨by rfl, ?_⟩) ?_
                  rotate_left
                  · intro W _
                    go_simp
                    try with_reducible rfl
                  rotate_left
                  try simp only [Act.put, List.setIfInBounds_toArray, List.set_cons_zero, List.set_cons_succ]
                  refine wpAnyG_take0 (i := 10) (oi := ⟨_, _, _, _, _, _⟩) (v := ?_) rfl (by kernel_rfl) (by kernel_rfl) (by kernel_rfl) (fun _ _ _ h => h) (Or.inl ⟨by rfl, ?_⟩) ?_
                  rotate_left
                  · intro W _
                    go_simp
                    try with_reducible rfl
                  rotate_left
                  try simp only [Act.put, List.setIfInBounds_toArray, List.set_cons_zero, List.set_cons_succ]
                  refine wpAnyG_take0 (i := 11) (oi := ⟨_, _, _, _, _, _⟩) (v := ?_) rfl (by kernel_rfl) (by kernel_rfl) (by kernel_rfl) (fun _ _ _ h => h) (Or.inl ⟨by rfl, ?_⟩) ?_
                  rotate_left
                  · intro W _
                    go_simp
                    try with_reducible rfl
                  rotate_left
                  try simp only [Act.put, List.setIfInBounds_toArray, List.set_cons_zero, List.set_cons_succ]
                  refine wpAnyG_take0 (i := 12) (oi := ⟨_, _, _, _, _, _⟩) (v := ?_) rfl (by kernel_rfl) (by kernel_rfl) (by kernel_rfl) (fun _ _ _ h => h) (Or.inl ⟨by rfl, ?_⟩) ?_
                  rotate_left
                  · intro W _
                    go_simp
                    try with_reducible rfl
                  rotate_left
                  try simp only [Act.put, List.setIfInBounds_toArray, List.set_cons_zero, List.set_cons_succ]
                  refine wpAnyG_take0 (i := 13) (oi := ⟨_, _, _, _, _, _⟩) (v := ?_) rfl (by kernel_rfl) (by kernel_rfl) (by kernel_rfl) (fun _ _ _ h => h) (Or.inl ⟨by rfl, ?_⟩) ?_
                  rotate_left
                  · intro W _
                    go_simp
                    try with_reducible rfl
                  rotate_left
                  try simp only [Act.put, List.setIfInBounds_toArray, List.set_cons_zero, List.set_cons_succ]
                  refine wpAnyG_ready (rs := [14, 15]) (by kernel_rfl) (by simp) ?_
                  refine AllReadyG.cons (o := ⟨_, _, _, _, _, _⟩) rfl (fun K hK => ?_) ?_
                  · go_simp
                    have hz := heap_alloc_new y1 (.cells #[.string ⟨#[]⟩, .string ⟨#[]⟩, .string ⟨#[]⟩] 52)
                    have hgz := HB.out.size
                    replace HB := Lib.hid (HB.out.alloc HB.out.size (.cells #[.string ⟨#[]⟩, .string ⟨#[]⟩, .string ⟨#[]⟩] 52))
                    refine hK.out _ (y1.alloc (.cells #[.string ⟨#[]⟩, .string ⟨#[]⟩, .string ⟨#[]⟩] 52)) (fun _ _ => HSn.out _ HB.out) ?_
                    clear hK K
                    try simp only [Act.put, List.setIfInBounds_toArray, List.set_cons_zero, List.set_cons_succ]
                    generalize y1.alloc (.cells #[.string ⟨#[]⟩, .string ⟨#[]⟩, .string ⟨#[]⟩] 52) = y2 at *
                    obtain ⟨b14, hbk⟩ : ∃ b, b = y1.heap.size := ⟨_, rfl⟩
                    rw [← hbk]
                    rw [← hbk] at hz hgz
                    have H14 := Lib.hid hz
                    have HG14 := Lib.hid hgz
                    clear hz hgz hbk
                    refine wpAnyG_ready (rs := [15]) (by kernel_rfl) (by simp) ?_
                    refine AllReadyG.cons (o := ⟨_, _, _, _, _, _⟩) rfl (fun K hK => ?_) AllReadyG.nil
                    go_simp
                    have hz := heap_alloc_new y2 (.cells #[.int .i64 0, .int .i64 0] 25)
                    have hgz := HB.out.size
                    have hlt := (Array.getElem?_eq_some_iff.1 H14.out).1
                    replace H14 := Lib.hid ((Below.heap_alloc y2 (.cells #[.int .i64 0, .int .i64 0] 25) _ hlt).trans H14.out)
                    replace HB := Lib.hid (HB.out.alloc HB.out.size (.cells #[.int .i64 0, .int .i64 0] 25))
                    refine hK.out _ (y2.alloc (.cells #[.int .i64 0, .int .i64 0] 25)) (fun _ _ => HSn.out _ HB.out) ?_
                    clear hK K
                    try simp only [Act.put, List.setIfInBounds_toArray, List.set_cons_zero, List.set_cons_succ]
                    generalize y2.alloc (.cells #[.int .i64 0, .int .i64 0] 25) = y3 at *
                    obtain ⟨b15, hbk⟩ : ∃ b, b = y2.heap.size := ⟨_, rfl⟩
                    rw [← hbk]
                    rw [← hbk] at hz hgz
                    rw [← hbk] at hlt
                    have HNeq : Hid (b14 ≠ b15) := by show b14 ≠ b15; omega
                    clear hlt
                    have H15 := Lib.hid hz
                    have HG15 := Lib.hid hgz
                    clear hz hgz hbk
                    have e0 : y3.cell? ⟨b14, 0, none⟩ = some (.string ⟨#[]⟩) := (cell_of H14.out 0).1
                    have e1 : y3.cell? ⟨b14, 1, none⟩ = some (.string ⟨#[]⟩) := (cell_of H14.out 1).1
                    have e2 : y3.cell? ⟨b14, 2, none⟩ = some (.string ⟨#[]⟩) := (cell_of H14.out 2).1
                    have f0 := (cell_of H14.out 0).2
                    have f1 := (cell_of H14.out 1).2
                    have f2 := (cell_of H14.out 2).2
                    refine wpAnyG_take0 (i := 16) (oi := ⟨_, _, _, _, _, _⟩) (v := ?_) rfl (by kernel_rfl) (by kernel_rfl) (by kernel_rfl) (fun _ _ _ h => h) (Or.inl ⟨by rfl, ?_⟩) ?_
                    rotate_left
                    · intro W _
                      go_simp
                      try with_reducible rfl
                    rotate_left
                    try simp only [Act.put, List.setIfInBounds_toArray, List.set_cons_zero, List.set_cons_succ]
                    refine wpAnyG_ready (rs := [17]) (by kernel_rfl) (by simp) ?_
                    refine AllReadyG.cons (o := ⟨_, _, _, _, _, _⟩) rfl (fun K hK => ?_) AllReadyG.nil
                    go_simp
                    refine hK.out _ (set3 y3 b14 (.string k7) (.string s7) (.string v7)) (fun h => absurd h (by decide)) ?_
                    clear hK K e0 e1 e2 f0 f1 f2
                    try simp only [Act.put, List.setIfInBounds_toArray, List.set_cons_zero, List.set_cons_succ]
                    have N14 := Lib.hid (set3_heap (x := .string k7) (y := .string s7) (z := .string v7) H14.out)
                    have N15 := Lib.hid ((set3_other y3 b14 (.string k7) (.string s7) (.string v7) HNeq.out.symm).trans H15.out)
                    have NB := Lib.hid (set3_below (x := .string k7) (y := .string s7) (z := .string v7) HB.out HG14.out)
                    generalize set3 y3 b14 (.string k7) (.string s7) (.string v7) = zs at *
                    have e0 : zs.cell? ⟨b15, 0, none⟩ = some (.int .i64 0) := (cell_of N15.out 0).1
                    have e1 : zs.cell? ⟨b15, 1, none⟩ = some (.int .i64 0) := (cell_of N15.out 1).1
                    have f0 := (cell_of N15.out 0).2
                    have f1 := (cell_of N15.out 1).2
                    refine wpAnyG_ready (rs := [18]) (by kernel_rfl) (by simp) ?_
                    refine AllReadyG.cons (o := ⟨_, _, _, _, _, _⟩) rfl (fun K hK => ?_) AllReadyG.nil
                    go_simp
                    refine hK.out _ (set2 zs b15 (.int .i64 p7) (.int .i64 c7)) (fun h => absurd h (by decide)) ?_
                    clear hK K e0 e1 f0 f1
                    try simp only [Act.put, List.setIfInBounds_toArray, List.set_cons_zero, List.set_cons_succ]
                    refine wpAnyG_take0 (i := 19) (oi := ⟨_, _, _, _, _, _⟩) (v := ?_) rfl (by kernel_rfl) (by kernel_rfl) (by kernel_rfl) (fun _ _ _ h => h) (Or.inl ⟨by rfl, ?_⟩) ?_
                    rotate_left
                    · intro W _
                      go_simp
                      try with_reducible rfl
                    rotate_left
                    try simp only [Act.put, List.setIfInBounds_toArray, List.set_cons_zero, List.set_cons_succ]
                    refine wpAnyG_done (by kernel_rfl) ?_ _
                    go_wp2
                    go_meet
                    exact ⟨b14, b15, a7, k7, s7, v7, p7, c7, e7, rfl, rfl, rfl, (set2_other zs b15 _ _ HNeq.out).trans N14.out, set2_heap N15.out, HRd.out, set2_below NB.out HG15.out⟩
                  refine AllReadyG.cons (o := ⟨_, _, _, _, _, _⟩) rfl (fun K hK => ?_) AllReadyG.nil
                  go_simp
                  have hz := heap_alloc_new y1 (.cells #[.int .i64 0, .int .i64 0] 25)
                  have hgz := HB.out.size
                  replace HB := Lib.hid (HB.out.alloc HB.out.size (.cells #[.int .i64 0, .int .i64 0] 25))
                  refine hK.out _ (y1.alloc (.cells #[.int .i64 0, .int .i64 0] 25)) (fun _ _ => HSn.out _ HB.out) ?_
                  clear hK K
                  try simp only [Act.put, List.setIfInBounds_toArray, List.set_cons_zero, List.set_cons_succ]
                  generalize y1.alloc (.cells #[.int .i64 0, .int .i64 0] 25) = y2 at *
                  obtain ⟨b15, hbk⟩ : ∃ b, b = y1.heap.size := ⟨_, rfl⟩
                  rw [← hbk]
                  rw [← hbk] at hz hgz
                  have H15 := Lib.hid hz
                  have HG15 := Lib.hid hgz
                  clear hz hgz hbk
                  refine wpAnyG_ready (rs := [14]) (by kernel_rfl) (by simp) ?_
                  refine AllReadyG.cons (o := ⟨_, _, _, _, _, _⟩) rfl (fun K hK => ?_) AllReadyG.nil
                  go_simp
                  have hz := heap_alloc_new y2 (.cells #[.string ⟨#[]⟩, .string ⟨#[]⟩, .string ⟨#[]⟩] 52)
                  have hgz := HB.out.size
                  have hlt := (Array.getElem?_eq_some_iff.1 H15.out).1
                  replace H15 := Lib.hid ((Below.heap_alloc y2 (.cells #[.string ⟨#[]⟩, .string ⟨#[]⟩, .string ⟨#[]⟩] 52) _ hlt).trans H15.out)
                  replace HB := Lib.hid (HB.out.alloc HB.out.size (.cells #[.string ⟨#[]⟩, .string ⟨#[]⟩, .string ⟨#[]⟩] 52))
                  refine hK.out _ (y2.alloc (.cells #[.string ⟨#[]⟩, .string ⟨#[]⟩, .string ⟨#[]⟩] 52)) (fun _ _ => HSn.out _ HB.out) ?_
                  clear hK K
                  try simp only [Act.put, List.setIfInBounds_toArray, List.set_cons_zero, List.set_cons_succ]
                  generalize y2.alloc (.cells #[.string ⟨#[]⟩, .string ⟨#[]⟩, .string ⟨#[]⟩] 52) = y3 at *
                  obtain ⟨b14, hbk⟩ : ∃ b, b = y2.heap.size := ⟨_, rfl⟩
                  rw [← hbk]
                  rw [← hbk] at hz hgz
                  rw [← hbk] at hlt
                  have HNeq : Hid (b14 ≠ b15) := by show b14 ≠ b15; omega
                  clear hlt
                  have H14 := Lib.hid hz
                  have HG14 := Lib.hid hgz
                  clear hz hgz hbk
                  have e0 : y3.cell? ⟨b14, 0, none⟩ = some (.string ⟨#[]⟩) := (cell_of H14.out 0).1
                  have e1 : y3.cell? ⟨b14, 1, none⟩ = some (.string ⟨#[]⟩) := (cell_of H14.out 1).1
                  have e2 : y3.cell? ⟨b14, 2, none⟩ = some (.string ⟨#[]⟩) := (cell_of H14.out 2).1
                  have f0 := (cell_of H14.out 0).2
                  have f1 := (cell_of H14.out 1).2
                  have f2 := (cell_of H14.out 2).2
                  refine wpAnyG_take0 (i := 16) (oi := ⟨_, _, _, _, _, _⟩) (v := ?_) rfl (by kernel_rfl) (by kernel_rfl) (by kernel_rfl) (fun _ _ _ h => h) (Or.inl ⟨by rfl, ?_⟩) ?_
                  rotate_left
                  · intro W _
                    go_simp
                    try with_reducible rfl
                  rotate_left
                  try simp only [Act.put, List.setIfInBounds_toArray, List.set_cons_zero, List.set_cons_succ]
                  refine wpAnyG_ready (rs := [17]) (by kernel_rfl) (by simp) ?_
                  refine AllReadyG.cons (o := ⟨_, _, _, _, _, _⟩) rfl (fun K hK => ?_) AllReadyG.nil
                  go_simp
                  refine hK.out _ (set3 y3 b14 (.string k7) (.string s7) (.string v7)) (fun h => absurd h (by decide)) ?_
                  clear hK K e0 e1 e2 f0 f1 f2
                  try simp only [Act.put, List.setIfInBounds_toArray, List.set_cons_zero, List.set_cons_succ]
                  have N14 := Lib.hid (set3_heap (x := .string k7) (y := .string s7) (z := .string v7) H14.out)
                  have N15 := Lib.hid ((set3_other y3 b14 (.string k7) (.string s7) (.string v7) HNeq.out.symm).trans H15.out)
                  have NB := Lib.hid (set3_below (x := .string k7) (y := .string s7) (z := .string v7) HB.out HG14.out)
                  generalize set3 y3 b14 (.string k7) (.string s7) (.string v7) = zs at *
                  have e0 : zs.cell? ⟨b15, 0, none⟩ = some (.int .i64 0) := (cell_of N15.out 0).1
                  have e1 : zs.cell? ⟨b15, 1, none⟩ = some (.int .i64 0) := (cell_of N15.out 1).1
                  have f0 := (cell_of N15.out 0).2
                  have f1 := (cell_of N15.out 1).2
                  refine wpAnyG_ready (rs := [18]) (by kernel_rfl) (by simp) ?_
                  refine AllReadyG.cons (o := ⟨_, _, _, _, _, _⟩) rfl (fun K hK => ?_) AllReadyG.nil
                  go_simp
                  refine hK.out _ (set2 zs b15 (.int .i64 p7) (.int .i64 c7)) (fun h => absurd h (by decide)) ?_
                  clear hK K e0 e1 f0 f1
                  try simp only [Act.put, List.setIfInBounds_toArray, List.set_cons_zero, List.set_cons_succ]
                  refine wpAnyG_take0 (i := 19) (oi := ⟨_, _, _, _, _, _⟩) (v := ?_) rfl (by kernel_rfl) (by kernel_rfl) (by kernel_rfl) (fun _ _ _ h => h) (Or.inl ⟨by rfl, ?_⟩) ?_
                  rotate_left
                  · intro W _
                    go_simp
                    try with_reducible rfl
                  rotate_left
                  try simp only [Act.put, List.setIfInBounds_toArray, List.set_cons_zero, List.set_cons_succ]
                  refine wpAnyG_done (by kernel_rfl) ?_ _
                  go_wp2
                  go_meet
                  exact ⟨b14, b15, a7, k7, s7, v7, p7, c7, e7, rfl, rfl, rfl, (set2_other zs b15 _ _ HNeq.out).trans N14.out, set2_heap N15.out, HRd.out, set2_below NB.out HG15.out⟩
                refine AllReadyG.cons (o := ⟨_, _, _, _, _, _⟩) rfl (fun K hK => ?_) ?_
                · go_simp
                  have hz := heap_alloc_new z0 (.cells #[.string ⟨#[]⟩, .string ⟨#[]⟩, .string ⟨#[]⟩] 52)
                  have hgz := HB.out.size
                  replace HB := Lib.hid (HB.out.alloc HB.out.size (.cells #[.string ⟨#[]⟩, .string ⟨#[]⟩, .string ⟨#[]⟩] 52))
                  refine hK.out _ (z0.alloc (.cells #[.string ⟨#[]⟩, .string ⟨#[]⟩, .string ⟨#[]⟩] 52)) (fun _ _ => HSn.out _ HB.out) ?_
                  clear hK K
                  try simp only [Act.put, List.setIfInBounds_toArray, List.set_cons_zero, List.set_cons_succ]
                  generalize z0.alloc (.cells #[.string ⟨#[]⟩, .string ⟨#[]⟩, .string ⟨#[]⟩] 52) = y1 at *
                  obtain ⟨b14, hbk⟩ : ∃ b, b = z0.heap.size := ⟨_, rfl⟩
                  rw [← hbk]
                  rw [← hbk] at hz hgz
                  have H14 := Lib.hid hz
                  have HG14 := Lib.hid hgz
                  clear hz hgz hbk
                  refine wpAnyG_ready (rs := [8, 15]) (by kernel_rfl) (by simp) ?_
                  refine AllReadyG.cons (o := ⟨_, _, _, _, _, _⟩) rfl (fun K hK => ?_) ?_
                  · go_simp
                    go_at_call 16
                    have HA := Lib.hid (rread_any y1 (.slice A8 N8 K8) l8 (H8.out.below HB.out (Nat.le_refl _)))
                    refine HA.out.mono ?_
                    rintro r y2 ⟨a7, k7, s7, v7, p7, c7, e7, hrd, rfl, hb7⟩
                    clear HA
                    have HRd := Lib.hid hrd
                    clear hrd
                    replace H14 := Lib.hid ((hb7.block _ (Array.getElem?_eq_some_iff.1 H14.out).1).trans H14.out)
                    replace HB := Lib.hid (HB.out.trans (hb7.mono HB.out.size))
                    clear hb7
                    go_wp2_with fail
                    refine hK.out _ _ (fun _ _ => HSn.out _ HB.out) ?_
                    clear hK K
                    try simp only [Act.put, List.setIfInBounds_toArray, List.set_cons_zero, List.set_cons_succ]
                    refine wpAnyG_take0 (i := 9) (oi := ⟨_, _, _, _, _, _⟩) (v := ?_) rfl (by kernel_rfl) (by kernel_rfl) (by kernel_rfl) (fun _ _ _ h => h) (Or.inl ⟨by rfl, ?_⟩) ?_
                    rotate_left
                    · intro W _
                      go_simp
                      try with_reducible rfl
                    rotate_left
                    try simp only [Act.put, List.setIfInBounds_toArray, List.set_cons_zero, List.set_cons_succ]
                    refine wpAnyG_take0 (i := 10) (oi := ⟨_, _, _, _, _, _⟩) (v := ?_) rfl (by kernel_rfl) (by kernel_rfl) (by kernel_rfl) (fun _ _ _ h => h) (Or.inl ⟨by rfl, ?_⟩) ?_
                    rotate_left
                    · intro W _
                      go_simp
                      try with_reducible rfl
                    rotate_left
                    try simp only [Act.put, List.setIfInBounds_toArray, List.set_cons_zero, List.set_cons_succ]
                    refine wpAnyG_take0 (i := 11) (oi := ⟨_, _, _, _, _, _⟩) (v := ?_) rfl (by kernel_rfl) (by kernel_rfl) (by kernel_rfl) (fun _ _ _ h => h) (Or.inl ⟨by rfl, ?_⟩) ?_
                    rotate_left
                    · intro W _
                      go_simp
                      try with_reducible rfl
                    rotate_left
                    try simp only [Act.put, List.setIfInBounds_toArray, List.set_cons_zero, List.set_cons_succ]
                    refine wpAnyG_take0 (i := 12) (oi := ⟨_, _, _, _, _, _⟩) (v := ?_) rfl (by kernel_rfl) (by kernel_rfl) (by kernel_rfl) (fun _ _ _ h => h) (Or.inl ⟨by rfl, ?_⟩) ?_
                    rotate_left
                    · intro W _
                      go_simp
                      try with_reducible rfl
                    rotate_left
                    try simp only [Act.put, List.setIfInBounds_toArray, List.set_cons_zero, List.set_cons_succ]
                    refine wpAnyG_take0 (i := 13) (oi := ⟨_, _, _, _, _, _⟩) (v := ?_) rfl (by kernel_rfl) (by kernel_rfl) (by kernel_rfl) (fun _ _ _ h => h) (Or.inl ⟨by rfl, ?_⟩) ?_
                    rotate_left
                    · intro W _
                      go_simp
                      try with_reducible rfl
                    rotate_left
                    try simp only [Act.put, List.setIfInBounds_toArray, List.set_cons_zero, List.set_cons_succ]
                    refine wpAnyG_ready (rs := [15]) (by kernel_rfl) (by simp) ?_
                    refine AllReadyG.cons (o := ⟨_, _, _, _, _, _⟩) rfl (fun K hK => ?_) AllReadyG.nil
                    go_simp
                    have hz := heap_alloc_new y2 (.cells #[.int .i64 0, .int .i64 0] 25)
                    have hgz := HB.out.size
                    have hlt := (Array.getElem?_eq_some_iff.1 H14.out).1
                    replace H14 := Lib.hid ((Below.heap_alloc y2 (.cells #[.int .i64 0, .int .i64 0] 25) _ hlt).trans H14.out)
                    replace HB := Lib.hid (HB.out.alloc HB.out.size (.cells #[.int .i64 0, .int .i64 0] 25))
                    refine hK.out _ (y2.alloc (.cells #[.int .i64 0, .int .i64 0] 25)) (fun _ _ => HSn.out _ HB.out) ?_
                    clear hK K
                    try simp only [Act.put, List.setIfInBounds_toArray, List.set_cons_zero, List.set_cons_succ]
                    generalize y2.alloc (.cells #[.int .i64 0, .int .i64 0] 25) = y3 at *
                    obtain ⟨b15, hbk⟩ : ∃ b, b = y2.heap.size := ⟨_, rfl⟩
                    rw [← hbk]
                    rw [← hbk] at hz hgz
                    rw [← hbk] at hlt
                    have HNeq : Hid (b14 ≠ b15) := by show b14 ≠ b15; omega
                    clear hlt
                    have H15 := Lib.hid hz
                    have HG15 := Lib.hid hgz
                    clear hz hgz hbk
                    have e0 : y3.cell? ⟨b14, 0, none⟩ = some (.string ⟨#[]⟩) := (cell_of H14.out 0).1
                    have e1 : y3.cell? ⟨b14, 1, none⟩ = some (.string ⟨#[]⟩) := (cell_of H14.out 1).1
                    have e2 : y3.cell? ⟨b14, 2, none⟩ = some (.string ⟨#[]⟩) := (cell_of H14.out 2).1
                    have f0 := (cell_of H14.out 0).2
                    have f1 := (cell_of H14.out 1).2
                    have f2 := (cell_of H14.out 2).2
                    refine wpAnyG_take0 (i := 16) (oi := ⟨_, _, _, _, _, _⟩) (v := ?_) rfl (by kernel_rfl) (by kernel_rfl) (by kernel_rfl) (fun _ _ _ h => h) (Or.inl ⟨by rfl, ?_⟩) ?_
                    rotate_left
                    · intro W _
                      go_simp
                      try with_reducible rfl
                    rotate_left
                    try simp only [Act.put, List.setIfInBounds_toArray, List.set_cons_zero, List.set_cons_succ]
                    refine wpAnyG_ready (rs := [17]) (by kernel_rfl) (by simp) ?_
                    refine AllReadyG.cons (o := ⟨_, _, _, _, _, _⟩) rfl (fun K hK => ?_) AllReadyG.nil
                    go_simp
                    refine hK.out _ (set3 y3 b14 (.string k7) (.string s7) (.string v7)) (fun h => absurd h (by decide)) ?_
                    clear hK K e0 e1 e2 f0 f1 f2
                    try simp only [Act.put, List.setIfInBounds_toArray, List.set_cons_zero, List.set_cons_succ]
                    have N14 := Lib.hid (set3_heap (x := .string k7) (y := .string s7) (z := .string v7) H14.out)
                    have N15 := Lib.hid ((set3_other y3 b14 (.string k7) (.string s7) (.string v7) HNeq.out.symm).trans H15.out)
                    have NB := Lib.hid (set3_below (x := .string k7) (y := .string s7) (z := .string v7) HB.out HG14.out)
                    generalize set3 y3 b14 (.string k7) (.string s7) (.string v7) = zs at *
                    have e0 : zs.cell? ⟨b15, 0, none⟩ = some (.int .i64 0) := (cell_of N15.out 0).1
                    have e1 : zs.cell? ⟨b15, 1, none⟩ = some (.int .i64 0) := (cell_of N15.out 1).1
                    have f0 := (cell_of N15.out 0).2
                    have f1 := (cell_of N15.out 1).2
                    refine wpAnyG_ready (rs := [18]) (by kernel_rfl) (by simp) ?_
                    refine AllReadyG.cons (o := ⟨_, _, _, _, _, _⟩) rfl (fun K hK => ?_) AllReadyG.nil
                    go_simp
                    refine hK.out _ (set2 zs b15 (.int .i64 p7) (.int .i64 c7)) (fun h => absurd h (by decide)) ?_
                    clear hK K e0 e1 f0 f1
                    try simp only [Act.put, List.setIfInBounds_toArray, List.set_cons_zero, List.set_cons_succ]
                    refine wpAnyG_take0 (i := 19) (oi := ⟨_, _, _, _, _, _⟩) (v := ?_) rfl (by kernel_rfl) (by kernel_rfl) (by kernel_rfl) (fun _ _ _ h => h) (Or.inl ⟨by rfl, ?_⟩) ?_
                    rotate_left
                    · intro W _
                      go_simp
                      try with_reducible rfl
                    rotate_left
                    try simp only [Act.put, List.setIfInBounds_toArray, List.set_cons_zero, List.set_cons_succ]
                    refine wpAnyG_done (by kernel_rfl) ?_ _
                    go_wp2
                    go_meet
                    exact ⟨b14, b15, a7, k7, s7, v7, p7, c7, e7, rfl, rfl, rfl, (set2_other zs b15 _ _ HNeq.out).trans N14.out, set2_heap N15.out, HRd.out, set2_below NB.out HG15.out⟩
                  refine AllReadyG.cons (o := ⟨_, _, _, _, _, _⟩) rfl (fun K hK => ?_) AllReadyG.nil
                  go_simp
                  have hz := heap_alloc_new y1 (.cells #[.int .i64 0, .int .i64 0] 25)
                  have hgz := HB.out.size
                  have hlt := (Array.getElem?_eq_some_iff.1 H14.out).1
                  replace H14 := Lib.hid ((Below.heap_alloc y1 (.cells #[.int .i64 0, .int .i64 0] 25) _ hlt).trans H14.out)
                  replace HB := Lib.hid (HB.out.alloc HB.out.size (.cells #[.int .i64 0, .int .i64 0] 25))
                  refine hK.out _ (y1.alloc (.cells #[.int .i64 0, .int .i64 0] 25)) (fun _ _ => HSn.out _ HB.out) ?_
                  clear hK K
                  try simp only [Act.put, List.setIfInBounds_toArray, List.set_cons_zero, List.set_cons_succ]
                  generalize y1.alloc (.cells #[.int .i64 0, .int .i64 0] 25) = y2 at *
                  obtain ⟨b15, hbk⟩ : ∃ b, b = y1.heap.size := ⟨_, rfl⟩
                  rw [← hbk]
                  rw [← hbk] at hz hgz
                  rw [← hbk] at hlt
                  have HNeq : Hid (b14 ≠ b15) := by show b14 ≠ b15; omega
                  clear hlt
                  have H15 := Lib.hid hz
                  have HG15 := Lib.hid hgz
                  clear hz hgz hbk
                  refine wpAnyG_ready (rs := [8]) (by kernel_rfl) (by simp) ?_
                  refine AllReadyG.cons (o := ⟨_, _, _, _, _, _⟩) rfl (fun K hK => ?_) AllReadyG.nil
                  go_simp
                  go_at_call 16
                  have HA := Lib.hid (rread_any y2 (.slice A8 N8 K8) l8 (H8.out.below HB.out (Nat.le_refl _)))
                  refine HA.out.mono ?_
                  rintro r y3 ⟨a7, k7, s7, v7, p7, c7, e7, hrd, rfl, hb7⟩
                  clear HA
                  have HRd := Lib.hid hrd
                  clear hrd
                  replace H14 := Lib.hid ((hb7.block _ (Array.getElem?_eq_some_iff.1 H14.out).1).trans H14.out)
                  replace H15 := Lib.hid ((hb7.block _ (Array.getElem?_eq_some_iff.1 H15.out).1).trans H15.out)
                  replace HB := Lib.hid (HB.out.trans (hb7.mono HB.out.size))
                  clear hb7
                  go_wp2_with fail
                  refine hK.out _ _ (fun _ _ => HSn.out _ HB.out) ?_
                  clear hK K
                  try simp only [Act.put, List.setIfInBounds_toArray, List.set_cons_zero, List.set_cons_succ]
                  refine wpAnyG_take0 (i := 9) (oi := ⟨_, _, _, _, _, _⟩) (v := ?_) rfl (by kernel_rfl) (by kernel_rfl) (by kernel_rfl) (fun _ _ _ h => h) (Or.inl ⟨by rfl, ?_⟩) ?_
                  rotate_left
                  · intro W _
                    go_simp
                    try with_reducible rfl
                  rotate_left
                  try simp only [Act.put, List.setIfInBounds_toArray, List.set_cons_zero, List.set_cons_succ]
                  refine wpAnyG_take0 (i := 10) (oi := ⟨_, _, _, _, _, _⟩) (v := ?_) rfl (by kernel_rfl) (by kernel_rfl) (by kernel_rfl) (fun _ _ _ h => h) (Or.inl ⟨by rfl, ?_⟩) ?_
                  rotate_left
                  · intro W _
                    go_simp
                    try with_reducible rfl
                  rotate_left
                  try simp only [Act.put, List.setIfInBounds_toArray, List.set_cons_zero, List.set_cons_succ]
                  refine wpAnyG_take0 (i := 11) (oi := ⟨_, _, _, _, _, _⟩) (v := ?_) rfl (by kernel_rfl) (by kernel_rfl) (by kernel_rfl) (fun _ _ _ h => h) (Or.inl ⟨by rfl, ?_⟩) ?_
                  rotate_left
                  · intro W _
                    go_simp
                    try with_reducible rfl
                  rotate_left
                  try simp only [Act.put, List.setIfInBounds_toArray, List.set_cons_zero, List.set_cons_succ]
                  refine wpAnyG_take0 (i := 12) (oi := ⟨_, _, _, _, _, _⟩) (v := ?_) rfl (by kernel_rfl) (by kernel_rfl) (by kernel_rfl) (fun _ _ _ h => h) (Or.inl ⟨by rfl, ?_⟩) ?_
                  rotate_left
                  · intro W _
                    go_simp
                    try with_reducible rfl
                  rotate_left
                  try simp only [Act.put, List.setIfInBounds_toArray, List.set_cons_zero, List.set_cons_succ]
                  refine wpAnyG_take0 (i := 13) (oi := ⟨_, _, _, _, _, _⟩) (v := ?_) rfl (by kernel_rfl) (by kernel_rfl) (by kernel_rfl) (fun _ _ _ h => h) (Or.inl ⟨by rfl, ?_⟩) ?_
                  rotate_left
                  · intro W _
                    go_simp
                    try with_reducible rfl
                  rotate_left
                  try simp only [Act.put, List.setIfInBounds_toArray, List.set_cons_zero, List.set_cons_succ]
                  have e0 : y3.cell? ⟨b14, 0, none⟩ = some (.string ⟨#[]⟩) := (cell_of H14.out 0).1
                  have e1 : y3.cell? ⟨b14, 1, none⟩ = some (.string ⟨#[]⟩) := (cell_of H14.out 1).1
                  have e2 : y3.cell? ⟨b14, 2, none⟩ = some (.string ⟨#[]⟩) := (cell_of H14.out 2).1
                  have f0 := (cell_of H14.out 0).2
                  have f1 := (cell_of H14.out 1).2
                  have f2 := (cell_of H14.out 2).2
                  refine wpAnyG_take0 (i := 16) (oi := ⟨_, _, _, _, _, _⟩) (v := ?_) rfl (by kernel_rfl) (by kernel_rfl) (by kernel_rfl) (fun _ _ _ h => h) (Or.inl ⟨by rfl, ?_⟩) ?_
                  rotate_left
                  · intro W _
                    go_simp
                    try with_reducible rfl
                  rotate_left
                  try simp only [Act.put, List.setIfInBounds_toArray, List.set_cons_zero, List.set_cons_succ]
                  refine wpAnyG_ready (rs := [17]) (by kernel_rfl) (by simp) ?_
                  refine AllReadyG.cons (o := ⟨_, _, _, _, _, _⟩) rfl (fun K hK => ?_) AllReadyG.nil
                  go_simp
                  refine hK.out _ (set3 y3 b14 (.string k7) (.string s7) (.string v7)) (fun h => absurd h (by decide)) ?_
                  clear hK K e0 e1 e2 f0 f1 f2
                  try simp only [Act.put, List.setIfInBounds_toArray, List.set_cons_zero, List.set_cons_succ]
                  have N14 := Lib.hid (set3_heap (x := .string k7) (y := .string s7) (z := .string v7) H14.out)
                  have N15 := Lib.hid ((set3_other y3 b14 (.string k7) (.string s7) (.string v7) HNeq.out.symm).trans H15.out)
                  have NB := Lib.hid (set3_below (x := .string k7) (y := .string s7) (z := .string v7) HB.out HG14.out)
                  generalize set3 y3 b14 (.string k7) (.string s7) (.string v7) = zs at *
                  have e0 : zs.cell? ⟨b15, 0, none⟩ = some (.int .i64 0) := (cell_of N15.out 0).1
                  have e1 : zs.cell? ⟨b15, 1, none⟩ = some (.int .i64 0) := (cell_of N15.out 1).1
                  have f0 := (cell_of N15.out 0).2
                  have f1 := (cell_of N15.out 1).2
                  refine wpAnyG_ready (rs := [18]) (by kernel_rfl) (by simp) ?_
                  refine AllReadyG.cons (o := ⟨_, _, _, _, _, _⟩) rfl (fun K hK => ?_) AllReadyG.nil
                  go_simp
                  refine hK.out _ (set2 zs b15 (.int .i64 p7) (.int .i64 c7)) (fun h => absurd h (by decide)) ?_
                  clear hK K e0 e1 f0 f1
                  try simp only [Act.put, List.setIfInBounds_toArray, List.set_cons_zero, List.set_cons_succ]
                  refine wpAnyG_take0 (i := 19) (oi := ⟨_, _, _, _, _, _⟩) (v := ?_) rfl (by kernel_rfl) (by kernel_rfl) (by kernel_rfl) (fun _ _ _ h => h) (Or.inl ⟨by rfl, ?_⟩) ?_
                  rotate_left
                  · intro W _
                    go_simp
                    try with_reducible rfl
                  rotate_left
                  try simp only [Act.put, List.setIfInBounds_toArray, List.set_cons_zero, List.set_cons_succ]
                  refine wpAnyG_done (by kernel_rfl) ?_ _
                  go_wp2
                  go_meet
                  exact ⟨b14, b15, a7, k7, s7, v7, p7, c7, e7, rfl, rfl, rfl, (set2_other zs b15 _ _ HNeq.out).trans N14.out, set2_heap N15.out, HRd.out, set2_below NB.out HG15.out⟩
                refine AllReadyG.cons (o := ⟨_, _, _, _, _, _⟩) rfl (fun K hK => ?_) AllReadyG.nil
                go_simp
                have hz := heap_alloc_new z0 (.cells #[.int .i64 0, .int .i64 0] 25)
                have hgz := HB.out.size
                replace HB := Lib.hid (HB.out.alloc HB.out.size (.cells #[.int .i64 0, .int .i64 0] 25))
                refine hK.out _ (z0.alloc (.cells #[.int .i64 0, .int .i64 0] 25)) (fun _ _ => HSn.out _ HB.out) ?_
                clear hK K
                try simp only [Act.put, List.setIfInBounds_toArray, List.set_cons_zero, List.set_cons_succ]
                generalize z0.alloc (.cells #[.int .i64 0, .int .i64 0] 25) = y1 at *
                obtain ⟨b15, hbk⟩ : ∃ b, b = z0.heap.size := ⟨_, rfl⟩
                rw [← hbk]
                rw [← hbk] at hz hgz
                have H15 := Lib.hid hz
                have HG15 := Lib.hid hgz
                clear hz hgz hbk
                refine wpAnyG_ready (rs := [8, 14]) (by kernel_rfl) (by simp) ?_
                refine AllReadyG.cons (o := ⟨_, _, _, _, _, _⟩) rfl (fun K hK => ?_) ?_
                · go_simp
                  go_at_call 16
                  have HA := Lib.hid (rread_any y1 (.slice A8 N8 K8) l8 (H8.out.below HB.out (Nat.le_refl _)))
                  refine HA.out.mono ?_
                  rintro r y2 ⟨a7, k7, s7, v7, p7, c7, e7, hrd, rfl, hb7⟩
                  clear HA
                  have HRd := Lib.hid hrd
                  clear hrd
                  replace H15 := Lib.hid ((hb7.block _ (Array.getElem?_eq_some_iff.1 H15.out).1).trans H15.out)
                  replace HB := Lib.hid (HB.out.trans (hb7.mono HB.out.size))
                  clear hb7
                  go_wp2_with fail
                  refine hK.out _ _ (fun _ _ => HSn.out _ HB.out) ?_
                  clear hK K
                  try simp only [Act.put, List.setIfInBounds_toArray, List.set_cons_zero, List.set_cons_succ]
                  refine wpAnyG_take0 (i := 9) (oi := ⟨_, _, _, _, _, _⟩) (v := ?_) rfl (by kernel_rfl) (by kernel_rfl) (by kernel_rfl) (fun _ _ _ h => h) (Or.inl ⟨by rfl, ?_⟩) ?_
                  rotate_left
                  · intro W _
                    go_simp
                    try with_reducible rfl
                  rotate_left
                  try simp only [Act.put, List.setIfInBounds_toArray, List.set_cons_zero, List.set_cons_succ]
                  refine wpAnyG_take0 (i := 10) (oi := ⟨_, _, _, _, _, _⟩) (v := ?_) rfl (by kernel_rfl) (by kernel_rfl) (by kernel_rfl) (fun _ _ _ h => h) (Or.inl ⟨by rfl, ?_⟩) ?_
                  rotate_left
                  · intro W _
                    go_simp
                    try with_reducible rfl
                  rotate_left
                  try simp only [Act.put, List.setIfInBounds_toArray, List.set_cons_zero, List.set_cons_succ]
                  refine wpAnyG_take0 (i := 11) (oi := ⟨_, _, _, _, _, _⟩) (v := ?_) rfl (by kernel_rfl) (by kernel_rfl) (by kernel_rfl) (fun _ _ _ h => h) (Or.inl ⟨by rfl, ?_⟩) ?_
                  rotate_left
                  · intro W _
                    go_simp
                    try with_reducible rfl
                  rotate_left
                  try simp only [Act.put, List.setIfInBounds_toArray, List.set_cons_zero, List.set_cons_succ]
                  refine wpAnyG_take0 (i := 12) (oi := ⟨_, _, _, _, _, _⟩) (v := ?_) rfl (by kernel_rfl) (by kernel_rfl) (by kernel_rfl) (fun _ _ _ h => h) (Or.inl ⟨by rfl, ?_⟩) ?_
                  rotate_left
                  · intro W _
                    go_simp
                    try with_reducible rfl
                  rotate_left
                  try simp only [Act.put, List.setIfInBounds_toArray, List.set_cons_zero, List.set_cons_succ]
                  refine wpAnyG_take0 (i := 13) (oi := ⟨_, _, _, _, _, _⟩) (v := ?_) rfl (by kernel_rfl) (by kernel_rfl) (by kernel_rfl) (fun _ _ _ h => h) (Or.inl ⟨by rfl, ?_⟩) ?_
                  rotate_left
                  · intro W _
                    go_simp
                    try with_reducible rfl
                  rotate_left
                  try simp only [Act.put, List.setIfInBounds_toArray, List.set_cons_zero, List.set_cons_succ]
                  refine wpAnyG_ready (rs := [14]) (by kernel_rfl) (by simp) ?_
                  refine AllReadyG.cons (o := ⟨_, _, _, _, _, _⟩) rfl (fun K hK => ?_) AllReadyG.nil
                  go_simp
                  have hz := heap_alloc_new y2 (.cells #[.string ⟨#[]⟩, .string ⟨#[]⟩, .string ⟨#[]⟩] 52)
                  have hgz := HB.out.size
                  have hlt := (Array.getElem?_eq_some_iff.1 H15.out).1
                  replace H15 := Lib.hid ((Below.heap_alloc y2 (.cells #[.string ⟨#[]⟩, .string ⟨#[]⟩, .string ⟨#[]⟩] 52) _ hlt).trans H15.out)
                  replace HB := Lib.hid (HB.out.alloc HB.out.size (.cells #[.string ⟨#[]⟩, .string ⟨#[]⟩, .string ⟨#[]⟩] 52))
                  refine hK.out _ (y2.alloc (.cells #[.string ⟨#[]⟩, .string ⟨#[]⟩, .string ⟨#[]⟩] 52)) (fun _ _ => HSn.out _ HB.out) ?_
                  clear hK K
                  try simp only [Act.put, List.setIfInBounds_toArray, List.set_cons_zero, List.set_cons_succ]
                  generalize y2.alloc (.cells #[.string ⟨#[]⟩, .string ⟨#[]⟩, .string ⟨#[]⟩] 52) = y3 at *
                  obtain ⟨b14, hbk⟩ : ∃ b, b = y2.heap.size := ⟨_, rfl⟩
                  rw [← hbk]
                  rw [← hbk] at hz hgz
                  rw [← hbk] at hlt
                  have HNeq : Hid (b14 ≠ b15) := by show b14 ≠ b15; omega
                  clear hlt
                  have H14 := Lib.hid hz
                  have HG14 := Lib.hid hgz
                  clear hz hgz hbk
                  have e0 : y3.cell? ⟨b14, 0, none⟩ = some (.string ⟨#[]⟩) := (cell_of H14.out 0).1
                  have e1 : y3.cell? ⟨b14, 1, none⟩ = some (.string ⟨#[]⟩) := (cell_of H14.out 1).1
                  have e2 : y3.cell? ⟨b14, 2, none⟩ = some (.string ⟨#[]⟩) := (cell_of H14.out 2).1
                  have f0 := (cell_of H14.out 0).2
                  have f1 := (cell_of H14.out 1).2
                  have f2 := (cell_of H14.out 2).2
                  refine wpAnyG_take0 (i := 16) (oi := ⟨_, _, _, _, _, _⟩) (v := ?_) rfl (by kernel_rfl) (by kernel_rfl) (by kernel_rfl) (fun _ _ _ h => h) (Or.inl ⟨by rfl, ?_⟩) ?_
                  rotate_left
                  · intro W _
                    go_simp
                    try with_reducible rfl
                  rotate_left
                  try simp only [Act.put, List.setIfInBounds_toArray, List.set_cons_zero, List.set_cons_succ]
                  refine wpAnyG_ready (rs := [17]) (by kernel_rfl) (by simp) ?_
                  refine AllReadyG.cons (o := ⟨_, _, _, _, _, _⟩) rfl (fun K hK => ?_) AllReadyG.nil
                  go_simp
                  refine hK.out _ (set3 y3 b14 (.string k7) (.string s7) (.string v7)) (fun h => absurd h (by decide)) ?_
                  clear hK K e0 e1 e2 f0 f1 f2
                  try simp only [Act.put, List.setIfInBounds_toArray, List.set_cons_zero, List.set_cons_succ]
                  have N14 := Lib.hid (set3_heap (x := .string k7) (y := .string s7) (z := .string v7) H14.out)
                  have N15 := Lib.hid ((set3_other y3 b14 (.string k7) (.string s7) (.string v7) HNeq.out.symm).trans H15.out)
                  have NB := Lib.hid (set3_below (x := .string k7) (y := .string s7) (z := .string v7) HB.out HG14.out)
                  generalize set3 y3 b14 (.string k7) (.string s7) (.string v7) = zs at *
                  have e0 : zs.cell? ⟨b15, 0, none⟩ = some (.int .i64 0) := (cell_of N15.out 0).1
                  have e1 : zs.cell? ⟨b15, 1, none⟩ = some (.int .i64 0) := (cell_of N15.out 1).1
                  have f0 := (cell_of N15.out 0).2
                  have f1 := (cell_of N15.out 1).2
                  refine wpAnyG_ready (rs := [18]) (by kernel_rfl) (by simp) ?_
                  refine AllReadyG.cons (o := ⟨_, _, _, _, _, _⟩) rfl (fun K hK => ?_) AllReadyG.nil
                  go_simp
                  refine hK.out _ (set2 zs b15 (.int .i64 p7) (.int .i64 c7)) (fun h => absurd h (by decide)) ?_
                  clear hK K e0 e1 f0 f1
                  try simp only [Act.put, List.setIfInBounds_toArray, List.set_cons_zero, List.set_cons_succ]
                  refine wpAnyG_take0 (i := 19) (oi := ⟨_, _, _, _, _, _⟩) (v := ?_) rfl (by kernel_rfl) (by kernel_rfl) (by kernel_rfl) (fun _ _ _ h => h) (Or.inl ⟨by rfl, ?_⟩) ?_
                  rotate_left
                  · intro W _
                    go_simp
                    try with_reducible rfl
                  rotate_left
                  try simp only [Act.put, List.setIfInBounds_toArray, List.set_cons_zero, List.set_cons_succ]
                  refine wpAnyG_done (by kernel_rfl) ?_ _
                  go_wp2
                  go_meet
                  exact ⟨b14, b15, a7, k7, s7, v7, p7, c7, e7, rfl, rfl, rfl, (set2_other zs b15 _ _ HNeq.out).trans N14.out, set2_heap N15.out, HRd.out, set2_below NB.out HG15.out⟩
                refine AllReadyG.cons (o := ⟨_, _, _, _, _, _⟩) rfl (fun K hK => ?_) AllReadyG.nil
                go_simp
                have hz := heap_alloc_new y1 (.cells #[.string ⟨#[]⟩, .string ⟨#[]⟩, .string ⟨#[]⟩] 52)
                have hgz := HB.out.size
                have hlt := (Array.getElem?_eq_some_iff.1 H15.out).1
                replace H15 := Lib.hid ((Below.heap_alloc y1 (.cells #[.string ⟨#[]⟩, .string ⟨#[]⟩, .string ⟨#[]⟩] 52) _ hlt).trans H15.out)
                replace HB := Lib.hid (HB.out.alloc HB.out.size (.cells #[.string ⟨#[]⟩, .string ⟨#[]⟩, .string ⟨#[]⟩] 52))
                refine hK.out _ (y1.alloc (.cells #[.string ⟨#[]⟩, .string ⟨#[]⟩, .string ⟨#[]⟩] 52)) (fun _ _ => HSn.out _ HB.out) ?_
                clear hK K
                try simp only [Act.put, List.setIfInBounds_toArray, List.set_cons_zero, List.set_cons_succ]
                generalize y1.alloc (.cells #[.string ⟨#[]⟩, .string ⟨#[]⟩, .string ⟨#[]⟩] 52) = y2 at *
                obtain ⟨b14, hbk⟩ : ∃ b, b = y1.heap.size := ⟨_, rfl⟩
                rw [← hbk]
                rw [← hbk] at hz hgz
                rw [← hbk] at hlt
                have HNeq : Hid (b14 ≠ b15) := by show b14 ≠ b15; omega
                clear hlt
                have H14 := Lib.hid hz
                have HG14 := Lib.hid hgz
                clear hz hgz hbk
                refine wpAnyG_ready (rs := [8]) (by kernel_rfl) (by simp) ?_
                refine AllReadyG.cons (o := ⟨_, _, _, _, _, _⟩) rfl (fun K hK => ?_) AllReadyG.nil
                go_simp
                go_at_call 16
                have HA := Lib.hid (rread_any y2 (.slice A8 N8 K8) l8 (H8.out.below HB.out (Nat.le_refl _)))
                refine HA.out.mono ?_
                rintro r y3 ⟨a7, k7, s7, v7, p7, c7, e7, hrd, rfl, hb7⟩
                clear HA
                have HRd := Lib.hid hrd
                clear hrd
                replace H14 := Lib.hid ((hb7.block _ (Array.getElem?_eq_some_iff.1 H14.out).1).trans H14.out)
                replace H15 := Lib.hid ((hb7.block _ (Array.getElem?_eq_some_iff.1 H15.out).1).trans H15.out)
                replace HB := Lib.hid (HB.out.trans (hb7.mono HB.out.size))
                clear hb7
                go_wp2_with fail
                refine hK.out _ _ (fun _ _ => HSn.out _ HB.out) ?_
                clear hK K
                try simp only [Act.put, List.setIfInBounds_toArray, List.set_cons_zero, List.set_cons_succ]
                refine wpAnyG_take0 (i := 9) (oi := ⟨_, _, _, _, _, _⟩) (v := ?_) rfl (by kernel_rfl) (by kernel_rfl) (by kernel_rfl) (fun _ _ _ h => h) (Or.inl ⟨by rfl, ?_⟩) ?_
                rotate_left
                · intro W _
                  go_simp
                  try with_reducible rfl
                rotate_left
                try simp only [Act.put, List.setIfInBounds_toArray, List.set_cons_zero, List.set_cons_succ]
                refine wpAnyG_take0 (i := 10) (oi := ⟨_, _, _, _, _, _⟩) (v := ?_) rfl (by kernel_rfl) (by kernel_rfl) (by kernel_rfl) (fun _ _ _ h => h) (Or.inl ⟨by rfl, ?_⟩) ?_
                rotate_left
                · intro W _
                  go_simp
                  try with_reducible rfl
                rotate_left
                try simp only [Act.put, List.setIfInBounds_toArray, List.set_cons_zero, List.set_cons_succ]
                refine wpAnyG_take0 (i := 11) (oi := ⟨_, _, _, _, _, _⟩) (v := ?_) rfl (by kernel_rfl) (by kernel_rfl) (by kernel_rfl) (fun _ _ _ h => h) (Or.inl ⟨by rfl, ?_⟩) ?_
                rotate_left
                · intro W _
                  go_simp
                  try with_reducible rfl
                rotate_left
                try simp only [Act.put, List.setIfInBounds_toArray, List.set_cons_zero, List.set_cons_succ]
                refine wpAnyG_take0 (i := 12) (oi := ⟨_, _, _, _, _, _⟩) (v := ?_) rfl (by kernel_rfl) (by kernel_rfl) (by kernel_rfl) (fun _ _ _ h => h) (Or.inl ⟨by rfl, ?_⟩) ?_
                rotate_left
                · intro W _
                  go_simp
                  try with_reducible rfl
                rotate_left
                try simp only [Act.put, List.setIfInBounds_toArray, List.set_cons_zero, List.set_cons_succ]
                refine wpAnyG_take0 (i := 13) (oi := ⟨_, _, _, _, _, _⟩) (v := ?_) rfl (by kernel_rfl) (by kernel_rfl) (by kernel_rfl) (fun _ _ _ h => h) (Or.inl ⟨by rfl, ?_⟩) ?_
                rotate_left
                · intro W _
                  go_simp
                  try with_reducible rfl
                rotate_left
                try simp only [Act.put, List.setIfInBounds_toArray, List.set_cons_zero, List.set_cons_succ]
                have e0 : y3.cell? ⟨b14, 0, none⟩ = some (.string ⟨#[]⟩) := (cell_of H14.out 0).1
                have e1 : y3.cell? ⟨b14, 1, none⟩ = some (.string ⟨#[]⟩) := (cell_of H14.out 1).1
                have e2 : y3.cell? ⟨b14, 2, none⟩ = some (.string ⟨#[]⟩) := (cell_of H14.out 2).1
                have f0 := (cell_of H14.out 0).2
                have f1 := (cell_of H14.out 1).2
                have f2 := (cell_of H14.out 2).2
                refine wpAnyG_take0 (i := 16) (oi := ⟨_, _, _, _, _, _⟩) (v := ?_) rfl (by kernel_rfl) (by kernel_rfl) (by kernel_rfl) (fun _ _ _ h => h) (Or.inl ⟨by rfl, ?_⟩) ?_
                rotate_left
                · intro W _
                  go_simp
                  try with_reducible rfl
                rotate_left
                try simp only [Act.put, List.setIfInBounds_toArray, List.set_cons_zero, List.set_cons_succ]
                refine wpAnyG_ready (rs := [17]) (by kernel_rfl) (by simp) ?_
                refine AllReadyG.cons (o := ⟨_, _, _, _, _, _⟩) rfl (fun K hK => ?_) AllReadyG.nil
                go_simp
                refine hK.out _ (set3 y3 b14 (.string k7) (.string s7) (.string v7)) (fun h => absurd h (by decide)) ?_
                clear hK K e0 e1 e2 f0 f1 f2
                try simp only [Act.put, List.setIfInBounds_toArray, List.set_cons_zero, List.set_cons_succ]
                have N14 := Lib.hid (set3_heap (x := .string k7) (y := .string s7) (z := .string v7) H14.out)
                have N15 := Lib.hid ((set3_other y3 b14 (.string k7) (.string s7) (.string v7) HNeq.out.symm).trans H15.out)
                have NB := Lib.hid (set3_below (x := .string k7) (y := .string s7) (z := .string v7) HB.out HG14.out)
                generalize set3 y3 b14 (.string k7) (.string s7) (.string v7) = zs at *
                have e0 : zs.cell? ⟨b15, 0, none⟩ = some (.int .i64 0) := (cell_of N15.out 0).1
                have e1 : zs.cell? ⟨b15, 1, none⟩ = some (.int .i64 0) := (cell_of N15.out 1).1
                have f0 := (cell_of N15.out 0).2
                have f1 := (cell_of N15.out 1).2
                refine wpAnyG_ready (rs := [18]) (by kernel_rfl) (by simp) ?_
                refine AllReadyG.cons (o := ⟨_, _, _, _, _, _⟩) rfl (fun K hK => ?_) AllReadyG.nil
                go_simp
                refine hK.out _ (set2 zs b15 (.int .i64 p7) (.int .i64 c7)) (fun h => absurd h (by decide)) ?_
                clear hK K e0 e1 f0 f1
                try simp only [Act.put, List.setIfInBounds_toArray, List.set_cons_zero, List.set_cons_succ]
                refine wpAnyG_take0 (i := 19) (oi := ⟨_, _, _, _, _, _⟩) (v := ?_) rfl (by kernel_rfl) (by kernel_rfl) (by kernel_rfl) (fun _ _ _ h => h) (Or.inl ⟨by rfl, ?_⟩) ?_
                rotate_left
                · intro W _
                  go_simp
                  try with_reducible rfl
                rotate_left
                try simp only [Act.put, List.setIfInBounds_toArray, List.set_cons_zero, List.set_cons_succ]
                refine wpAnyG_done (by kernel_rfl) ?_ _
                go_wp2
                go_meet
                exact ⟨b14, b15, a7, k7, s7, v7, p7, c7, e7, rfl, rfl, rfl, (set2_other zs b15 _ _ HNeq.out).trans N14.out, set2_heap N15.out, HRd.out, set2_below NB.out HG15.out⟩
              case rest =>
                rename World => wz
                obtain ⟨b22, b23, a2, k2, s2, v2, p2, c2, e2, rfl, rfl, rfl, h22, h23, hrd, hbc⟩ := hcut.out
                clear hcut
                obtain ⟨hp, hb⟩ := HPc.out
                have HPz : Hid (P3 wz g (fun m : Nat => aps (m : Int) s0 (L.take (i + 1)) 0) ∧ Below w6.heap.size w6 wz) := ⟨hp.below hbc, hb.trans (hbc.mono hb.size)⟩
                have H19z := Lib.hid ((hbc.block _ (Array.getElem?_eq_some_iff.1 H19.out).1).trans H19.out)
                have H22 := Lib.hid h22
                have HR2 := Lib.hid hrd
                have hpl : placeB (bp : Int) ((bc : Nat) : Int) = true := by unfold placeB; simp; omega
                obtain ⟨m1, m2, m3, m4, m5, m6⟩ := moves_at (ap : Int) (bp : Int) ac bc hac4 hbc4 hpl (fun h => HNe.out ⟨by omega, h.2⟩) (rowL ky ⟨#[]⟩ ⟨#[]⟩)
                rw [← HLd.out] at m1 m2 m3 m4 m5 m6
                have hl1 := HL1.out
                have hl2 := HL8.out
                clear hp hb h22 h23 hrd hbc HPc H18 H19 H8 HL1 HL8 x0 x1 x2 hA3 hB4 HEs HLe HLn HE6 HI6
                have hii : i = 0 ∨ i = 1 ∨ i = 2 := by omega
                rcases hii with rfl | rfl | rfl
                · rw [show l9 = rowL ky ⟨#[]⟩ ⟨#[]⟩ from hl1.trans m1] at HR1
                  rw [show l8 = [] from hl2.trans m2] at HR2
                  obtain ⟨rfl, -⟩ := HR1.out.det (.row ky ⟨#[]⟩ ⟨#[]⟩ HRm.out rfl)
                  obtain ⟨rfl, -⟩ := HR2.out.det (.empty (.inl rfl))
                  clear HR1 HR2 hl1 hl2 m1 m2 m3 m4 m5 m6 hpl
                  go_wp2
                  go_roundw
                  case rel => exact ⟨1, by omega, by go_num, HPz.out⟩
                  case measure => simp [RowKit.intOf]
                · rw [show l9 = stubL (bp : Int) (bc : Int) from hl1.trans m3] at HR1
                  rw [show l8 = rowL ky ⟨#[]⟩ ⟨#[]⟩ from hl2.trans m4] at HR2
                  obtain ⟨rfl, -, -, -, rfl, rfl, -⟩ := HR1.out.det (.stub (bp : Int) (bc : Int) hpl rfl)
                  obtain ⟨rfl, hk, -⟩ := HR2.out.det (.row ky ⟨#[]⟩ ⟨#[]⟩ HRm.out rfl)
                  have hkb := (HPz.out.2.block (g7 + 1) HG6.out).trans HKb.out
                  have y0 : wz.cell? ⟨g7 + 1, 0, none⟩ = some (.int .i64 (bp : Int)) := (cell_of hkb 0).1
                  have y1 : wz.cell? ⟨g7 + 1, 1, none⟩ = some (.int .i64 (bc : Int)) := (cell_of hkb 1).1
                  have z0 : wz.cell? ⟨b19, 0, none⟩ = some (.int .i64 (bp : Int)) := (cell_of H19z.out 0).1
                  have z1 : wz.cell? ⟨b19, 1, none⟩ = some (.int .i64 (bc : Int)) := (cell_of H19z.out 1).1
                  have k0 : wz.cell? ⟨b22, 0, none⟩ = some (.string ky) := by rw [← hk]; exact (cell_of H22.out 0).1
                  have hqm : q.tmod 26 = q % 26 := Int.tmod_eq_emod_of_nonneg hq.1
                  have hqw : IntKind.u8.wrap (97 + q % 26) = 97 + q % 26 := IntWalk.u8_in _ (by omega)
                  have hqy : bytesOk [97 + q % 26] := by
                    intro y hy
                    rw [List.mem_singleton] at hy
                    omega
                  have hkq := HKq.out
                  have cv : (convert 22 9 (.slice (some ⟨wz.heap.size, 0, none⟩) 1 1)).run Try.prog (wz.alloc (.cells #[.int .u8 (97 + q % 26)] 5)) = .ok (.string ky) (wz.alloc (.cells #[.int .u8 (97 + q % 26)] 5)) := by rw [hkq]; exact conv_slK (((blk_new wz [97 + q % 26]).pt (n := 1) (c := 1) rfl (Nat.le_refl _)).slK hqy)
                  have hbe : Below wz.heap.size wz (wz.alloc (.cells #[.int .u8 (97 + q % 26)] 5)) := (Below.refl _ _).alloc (Nat.le_refl _) _
                  have HPe : Hid (P3 (wz.alloc (.cells #[.int .u8 (97 + q % 26)] 5)) g (fun m : Nat => aps (m : Int) s0 (L.take (1 + 1)) 0) ∧ Below w6.heap.size w6 (wz.alloc (.cells #[.int .u8 (97 + q % 26)] 5))) := ⟨HPz.out.1.below hbe, HPz.out.2.trans (hbe.mono HPz.out.2.size)⟩
                  clear HR1 HR2 hl1 hl2 m1 m2 m3 m4 m5 m6 hpl hk hkb hqy hkq hbe H19z H22 HPz
                  go_wp2
                  go_roundw
                  case rel => exact ⟨2, by omega, by go_num, HPe.out⟩
                  case measure => simp [RowKit.intOf]
                · rw [show l9 = [] from hl1.trans m5] at HR1
                  rw [show l8 = rowL ky ⟨#[]⟩ ⟨#[]⟩ from hl2.trans m6] at HR2
                  obtain ⟨rfl, -⟩ := HR1.out.det (.empty (.inl rfl))
                  obtain ⟨rfl, -⟩ := HR2.out.det (.row ky ⟨#[]⟩ ⟨#[]⟩ HRm.out rfl)
                  clear HR1 HR2 hl1 hl2 m1 m2 m3 m4 m5 m6 hpl
                  go_wp2
                  go_roundw
                  case rel => exact ⟨3, by omega, by go_num, HPz.out⟩
                  case measure => simp [RowKit.intOf]
      · obtain rfl : i = 3 := by omega
        have hf := HBw.out.trans (hb.mono HBw.out.size)
        clear hp hb
        go_wp2
        go_ret
        exact ⟨rfl, hf⟩
end Go.Proofs.Ytmijdjlpfjfjoaa.Rx
