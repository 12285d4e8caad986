/- TileSubset: for every two lists of writes and every mask the law answers true; no condition. -/
import Derived.Test.YtimmbalmealkaaaSubP
namespace Go.Proofs.Ytimmbalmealkaaa.tileSubset
open Go.ChangeShapes Go.WideShapes Go.ChangeAt Go.RowKit

/-- The three arrays beside the disk: what was, what is, which are loose. -/
structure Sub (w : World) (p bn bo A B C : Nat) (wr : World) (was now : List Int) (lo : List Bool) : Prop where
  rest : Rest 44 w p bn bo A wr was
  atB : wr.heap[B]? = some (.cells (byteV now).toArray 44 (0, 0))
  atC : wr.heap[C]? = some (.cells (lo.map Value.bool).toArray 45 (0, 0))
  neB : ¬ Three p bn bo B
  neC : ¬ Three p bn bo C
  apart : A ≠ B ∧ A ≠ C ∧ B ≠ C
  baseB : w.heap.size ≤ B
  baseC : w.heap.size ≤ C
  lw : was.length = 10
  ln : now.length = 10
  ll : lo.length = 10
  okn : bytesOk now

section
variable {w wr w' : World} {p bn bo A B C : Nat} {was now : List Int} {lo : List Bool}
theorem Sub.ltB (h : Sub w p bn bo A B C wr was now lo) : B < wr.heap.size := (Array.getElem?_eq_some_iff.1 h.atB).1
theorem Sub.ltC (h : Sub w p bn bo A B C wr was now lo) : C < wr.heap.size := (Array.getElem?_eq_some_iff.1 h.atC).1
theorem Sub.cellB (h : Sub w p bn bo A B C wr was now lo) {n : Nat} (hn : n < now.length) : wr.cell? ⟨B, n, none⟩ = some (.int .u8 now[n]) := by
  rw [(cell_of h.atB n).1]; simp [byteV, hn]
theorem Sub.cellC (h : Sub w p bn bo A B C wr was now lo) {n : Nat} (hn : n < lo.length) : wr.cell? ⟨C, n, none⟩ = some (.bool lo[n]) := by
  rw [(cell_of h.atC n).1]; simp [hn]
theorem Sub.grown (h : Sub w p bn bo A B C wr was now lo) (hb : Below wr.heap.size wr w') : Sub w p bn bo A B C w' was now lo :=
  ⟨h.rest.grown hb, below_old hb h.atB (Nat.le_refl _), below_old hb h.atC (Nat.le_refl _), h.neB, h.neC, h.apart, h.baseB, h.baseC, h.lw, h.ln, h.ll, h.okn⟩
theorem Sub.fr (h : Sub w p bn bo A B C wr was now lo) (hf : Fr wr.heap.size (Three p bn bo) wr w') : Sub w p bn bo A B C w' was now lo :=
  ⟨h.rest.fr hf, (hf.block B h.ltB h.neB).trans h.atB, (hf.block C h.ltC h.neC).trans h.atC, h.neB, h.neC, h.apart, h.baseB, h.baseC, h.lw, h.ln, h.ll, h.okn⟩
theorem Sub.putA (h : Sub w p bn bo A B C wr was now lo) (k : Nat) {c : Int} (c0 : 0 ≤ c) (c1 : c < 256) : Sub w p bn bo A B C (wr.setCell ⟨A, k, none⟩ (.int .u8 c)) (was.set k c) now lo :=
  ⟨h.rest.put k c0 c1, (Below.heap_setCell _ _ _ _ h.apart.1.symm).trans h.atB, (Below.heap_setCell _ _ _ _ h.apart.2.1.symm).trans h.atC, h.neB, h.neC, h.apart, h.baseB, h.baseC, by rw [List.length_set]; exact h.lw, h.ln, h.ll, h.okn⟩
theorem Sub.copyB (h : Sub w p bn bo A B C wr was now lo) : Sub w p bn bo A B C (wr.setRow B (byteV was).toArray) was was lo := by
  have r := h.rest
  refine ⟨⟨r.ok, ?_, below_setRow r.below h.baseB _, r.own, r.base, r.ne⟩, ?_, ?_, h.neB, h.neC, h.apart, h.baseB, h.baseC, h.lw, h.lw, h.ll, r.ok⟩
  · rw [setRow_other _ _ _ _ h.apart.1]; exact r.at_
  · exact setRow_heap _ _ _ _ _ _ h.atB
  · rw [setRow_other _ _ _ _ h.apart.2.2.symm]; exact h.atC
theorem Sub.putBC (h : Sub w p bn bo A B C wr was now lo) (k : Nat) {c : Int} (c0 : 0 ≤ c) (c1 : c < 256) : Sub w p bn bo A B C ((wr.setCell ⟨B, k, none⟩ (.int .u8 c)).setCell ⟨C, k, none⟩ (.bool true)) was (now.set k c) (lo.set k true) := by
  have r := h.rest
  refine ⟨⟨r.ok, ?_, (r.below.setCell h.baseB _).setCell h.baseC _, r.own, r.base, r.ne⟩, ?_, ?_, h.neB, h.neC, h.apart, h.baseB, h.baseC, h.lw, by rw [List.length_set]; exact h.ln, by rw [List.length_set]; exact h.ll, ?_⟩
  · rw [Below.heap_setCell _ _ _ _ h.apart.2.1, Below.heap_setCell _ _ _ _ h.apart.1]; exact r.at_
  · rw [Below.heap_setCell _ _ _ _ h.apart.2.2, heap_setCell_same wr B k _ _ _ h.atB]
    simp [byteV, List.map_set]
  · rw [heap_setCell_same _ C k _ _ _ ((Below.heap_setCell _ _ _ _ h.apart.2.2.symm).trans h.atC)]
    simp [List.map_set]
  · intro x hx
    rcases List.mem_or_eq_of_mem_set hx with h1 | rfl
    · exact h.okn x h1
    · exact ⟨c0, c1⟩
end

theorem away1 {w : World} {p bn bo L : Nat} {d : Dk} (hd : DiskAt w p bn bo 0 d) (hc : Calm d 10) (hne : ¬ Three p bn bo L) (k : Nat) (v : Value) : DiskAt (w.setCell ⟨L, k, none⟩ v) p bn bo 0 d :=
  hd.away (fun k hk => Below.heap_setCell _ _ _ _ (fun (e : k = L) => hne (e ▸ hk))) (hc.slB _ _)

def S1 (w : World) (p bn bo A B C : Nat) (wr : World) (was : List Int) : Prop := ∃ d, DiskAt wr p bn bo 0 d ∧ Calm d 10 ∧ Says d was ∧ Sub w p bn bo A B C wr was (List.replicate 10 0) (List.replicate 10 false)
def S2 (w : World) (p bn bo A B C : Nat) (was : List Int) (wr : World) : Prop := ∃ d now lo, DiskAt wr p bn bo 0 d ∧ Calm d 10 ∧ Says d now ∧ Had d was lo ∧ Same was now lo ∧ Sub w p bn bo A B C wr was now lo

def S3 (w : World) (p bn bo A B C : Nat) (was now : List Int) (lo : List Bool) (d : Dk) (wr : World) : Prop := DiskAt wr p bn bo 0 d ∧ Calm d 10 ∧ Sub w p bn bo A B C wr was now lo

theorem s3_grown {w wr w' : World} {p bn bo A B C : Nat} {was now : List Int} {lo : List Bool} {d : Dk} (h : S3 w p bn bo A B C was now lo d wr) (hb : Below wr.heap.size wr w') : S3 w p bn bo A B C was now lo d w' :=
  ⟨h.1.kept (fun k hk => hb.block k hk), h.2.1, h.2.2.grown hb⟩

def z10 : Array Value := (byteV (List.replicate 10 0)).toArray
def f10 : Array Value := ((List.replicate 10 false).map Value.bool).toArray

theorem begin10 {w w2 : World} {p bn bo : Nat} (hD : DiskAt w2 p bn bo 0 (.fresh 10)) (hB : Below w.heap.size w w2) (hO : Own w.heap.size p bn bo) (hl : p < w2.heap.size ∧ bn < w2.heap.size ∧ bo < w2.heap.size) :
    S1 w p bn bo w2.heap.size (w2.heap.size + 1) (w2.heap.size + 1 + 1) (((w2.alloc (.cells z10 44)).alloc (.cells z10 44)).alloc (.cells f10 45)) (List.replicate 10 0) := by
  have e1 : (w2.alloc (.cells z10 44)).heap.size = w2.heap.size + 1 := by simp
  have e2 : ((w2.alloc (.cells z10 44)).alloc (.cells z10 44)).heap.size = w2.heap.size + 1 + 1 := by simp
  have hb : Below w2.heap.size w2 (((w2.alloc (.cells z10 44)).alloc (.cells z10 44)).alloc (.cells f10 45)) := fresh_below w2 _ _ _
  have hz := hB.size
  refine ⟨_, hD.kept (fun k hk => hb.block k hk), calm_fresh 10, says_fresh 10 10, ⟨⟨by unfold bytesOk; simp, ?_, hB.trans (hb.mono hz), hO, hz, by rintro (e | e | e) <;> omega⟩, ?_, ?_, by rintro (e | e | e) <;> omega, by rintro (e | e | e) <;> omega, ⟨by omega, by omega, by omega⟩, by omega, by omega, by simp, by simp, by simp, by unfold bytesOk; simp⟩⟩
  · rw [Below.heap_alloc _ _ _ (by omega), Below.heap_alloc _ _ _ (by omega)]; exact heap_alloc_new w2 _
  · rw [Below.heap_alloc _ _ _ (by omega), ← e1]; exact heap_alloc_new _ _
  · rw [← e2]; exact heap_alloc_new _ _

set_option maxRecDepth 100000 in
set_option maxHeartbeats 8000000 in
theorem walk (v v2 : Value) (l l2 : List Int) (m : Nat) (hm : m < 65536) (w : World) (hv : SlK .u8 w v l) (hv2 : SlK .u8 w v2 l2) : Calls Try.prog 4 #[v, v2, .int .u16 m] w fun e w' => e = .returned (.bool true) ∧ Below w.heap.size w w' := by
  obtain ⟨p0, cap, rfl, hx, hp0, hcell⟩ := sl_u8 hv
  have HX := Lib.hid hx
  have HC := Lib.hid hcell
  have HP := Lib.hid hp0
  clear hx hcell hp0 hv
  obtain ⟨p1, cap2, rfl, hx, hp0, hcell⟩ := sl_u8 hv2
  have HX2 := Lib.hid hx
  have HC2 := Lib.hid hcell
  have HP2 := Lib.hid hp0
  clear hx hcell hp0 hv2
  by_cases h12 : 12 < l.length
  · go_enter Try.func4, Try.ntmps4
    go_wp2_with fail
    refine (begun_true w).mono ?_
    rintro e w1 ⟨rfl, hB1⟩
    go_wp2_with fail
    go_ret
    exact ⟨rfl, hB1⟩
  · have h12b : decide ((12 : Int) < (l.length : Int)) = false := by simp; omega
    by_cases h12' : 12 < l2.length
    · go_enter Try.func4, Try.ntmps4
      go_wp2_with fail
      refine (begun_true w).mono ?_
      rintro e w1 ⟨rfl, hB1⟩
      go_wp2_with fail
      go_ret
      exact ⟨rfl, hB1⟩
    · have h12c : decide ((12 : Int) < (l2.length : Int)) = false := by simp; omega
      go_enter Try.func4, Try.ntmps4
      go_wp2_with fail
      refine (begun_true w).mono ?_
      rintro e w1 ⟨rfl, hB1⟩
      have hz1 : w.heap.size ≤ w1.heap.size := hB1.size
      go_wp2_with fail
      refine (new_any w1 10).mono ?_
      rintro e w2 ⟨rfl, hD2, hB2⟩
      rw [show clampT 10 = 10 from rfl] at hD2
      have hl2 := hD2.lt
      have hO : Own w.heap.size (w1.heap.size + 1 + 1) w1.heap.size (w1.heap.size + 1) := ⟨by omega, by omega, by omega⟩
      have hB2' : Below w.heap.size w w2 := hB1.trans (hB2.mono hz1)
      have hS := begin10 hD2 hB2' hO hl2
      rw [show z10 = #[.int .u8 0, .int .u8 0, .int .u8 0, .int .u8 0, .int .u8 0, .int .u8 0, .int .u8 0, .int .u8 0, .int .u8 0, .int .u8 0] from rfl, show f10 = #[.bool false, .bool false, .bool false, .bool false, .bool false, .bool false, .bool false, .bool false, .bool false, .bool false] from rfl] at hS
      generalize w1.heap.size + 1 + 1 = p at *
      generalize w1.heap.size + 1 = bo at *
      generalize w1.heap.size = bn at *
      clear hB1 hB2 hD2 hB2' hl2 hO hz1
      go_wp2_with fail
      generalize hC : w2.heap.size + 1 + 1 = C at *
      generalize hB : w2.heap.size + 1 = B at *
      generalize w2.heap.size = A at *
      clear hB hC
      go_loopw [11] (fun i wr => ∃ (j : Nat) (was : List Int), j ≤ l.length ∧ i = .int .i64 j ∧ S1 w p bn bo A B C wr was) (fun i _ => l.length - (intOf i).toNat)
      case atStart => exact ⟨0, _, by omega, rfl, hS⟩
      case round =>
        obtain ⟨j, was, hj, rfl, hT⟩ := hrel
        clear hS
        by_cases hlt : j < l.length
        · obtain ⟨a0, rfl⟩ : ∃ a0, p0 = some a0 := by
            cases p0
            · have := HP.out rfl; rw [this] at hlt; simp at hlt
            · exact ⟨_, rfl⟩
          obtain ⟨hsp, hab, hcell⟩ := HC.out _ rfl
          obtain ⟨ab, ao, _⟩ := a0
          cases hsp
          have hcj := hcell j hlt
          have hxj := HX.out _ (List.getElem_mem hlt)
          generalize l[j] = x at hcj hxj
          obtain ⟨y, rfl⟩ := Int.eq_ofNat_of_zero_le hxj.1
          have hy : y < 256 := by omega
          obtain ⟨d, hd, dC, dS, hR⟩ := hT
          have hm10 := Nat.mod_lt y (show 0 < 10 by omega)
          have hLc := hR.rest.cell (n := y % 10) (by rw [hR.lw]; omega)
          have hLf := hR.rest.fz (y % 10)
          generalize was[y % 10]'_ = lo at hLc
          change ab < w.heap.size at hab
          have hcw : wr.cell? ⟨ab, ao + j, none⟩ = some (.int .u8 y) := by rw [← hcj]; exact hR.rest.below.cell (p := ⟨ab, ao + j, none⟩) hab
          have hR3 := hR.putA (y % 10) (c := (j : Int) + 1) (by omega) (by omega)
          have hd3 := away1 hd dC hR.rest.ne (y % 10) (.int .u8 ((j : Int) + 1))
          have dS3 := dS.store (y % 10) ((j : Int) + 1)
          clear hcell hcj hxj hR hd
          go_wp2_with fail
          generalize wr.setCell ⟨A, y % 10, none⟩ (.int .u8 ((j : Int) + 1)) = w3 at *
          have hj0 : (0 : Int) ≤ (j : Int) + 1 := by omega
          have hj1 : (j : Int) + 1 < 256 := by omega
          clear hLc hLf hcw dS
          refine (full_b _ _).mono ?_
          rintro e w4 ⟨gn, rfl, hb4, hg4⟩
          have hd4 := hd3.kept (fun k hk => hb4.block k hk)
          have hs4 := slB_of hg4 (rep_len _)
          have hR4 := hR3.grown hb4
          clear hb4 hg4 hd3 hR3
          go_wp2_with fail
          refine (write_plain w4 hd4 dC.dead _ (by omega) (by rw [dC.tiles]; omega) _ _ hs4 (rep_len _) (rep_ok _ hj0 hj1) dC.set).mono ?_
          rintro e w5 ⟨rfl, hD5, hF5⟩
          have hD5' : DiskAt w5 p bn bo 0 (d.store ((y % 10 : Nat) : Int) (blkOf (rep ((j : Int) + 1)))) := by rw [show ((y % 10 : Nat) : Int) = (y : Int) % 10 by omega]; exact hD5
          have HS5 : Hid (S1 w p bn bo A B C w5 _) := ⟨_, hD5', dC.store _ _, dS3, hR4.fr hF5⟩
          clear hD5' hD5 hF5 hR4 hd4 hs4 dS3 dC
          go_wp2_with fail
          go_roundw
          case rel => exact ⟨j + 1, _, by omega, by go_num, HS5.out⟩
          case measure => simp [intOf]; omega
        · obtain rfl : j = l.length := by omega
          obtain ⟨d, hd, dC, dS, hR⟩ := hT
          go_wp2_with fail
          refine (sync_plain wr hd dC.dead dC.set).mono ?_
          rintro e w3 ⟨rfl, hD3, hF3⟩
          have hR3 := hR.fr hF3
          clear hd hR hF3
          obtain ⟨cw, hcw⟩ : ∃ cw, (byteV was).toArray = cw := ⟨_, rfl⟩
          have hsz : cw.size = 10 := by rw [← hcw]; simp [byteV, hR3.lw]
          have hat := hR3.rest.at_
          rw [hcw] at hat
          have hcs : (storeCells ⟨B, 0, none⟩ cw.toList).run Try.prog w3 = .ok () (w3.setRow B cw) := by
            have := run_storeCells_from (P := Try.prog) B 44 cw.toList 0 _ w3 hR3.atB (by simp [byteV, hsz]) (by rw [← hcw]; simpa using byteV_one was)
            simpa using this
          have hd4 : DiskAt (w3.setRow B cw) p bn bo 0 d.synced := hD3.away (fun k hk => setRow_other w3 B k cw (fun (e : k = B) => hR3.neB (e ▸ hk))) (dC.synced.slB _ _)
          have hR4 : Sub w p bn bo A B C (w3.setRow B cw) was was (List.replicate 10 false) := by
            rw [← hcw]
            exact hR3.copyB
          have HS4 : Hid (S2 w p bn bo A B C was (w3.setRow B cw)) := ⟨_, was, _, hd4, dC.synced, dS, had_none d was 10, fun _ _ => rfl, hR4⟩
          have HAT := Lib.hid hat
          clear hD3 hR3 hd4 hR4 hat hcw dC dS
          go_wp2_with (with_reducible refine wpList_load_row rfl 44 (.tmp 8) rfl A rfl 44 cw (0, 0) _ HAT.out Try.underlying44 rfl (by rw [hsz]; kernel_rfl) ?_)
          generalize w3.setRow B cw = w4 at *
          clear hcs
          go_loopw [13] (fun i wr => ∃ j : Nat, j ≤ l2.length ∧ i = .int .i64 j ∧ S2 w p bn bo A B C was wr) (fun i _ => l2.length - (intOf i).toNat)
          case atStart => exact ⟨0, by omega, rfl, HS4.out⟩
          case round =>
            obtain ⟨j, hj, rfl, hT⟩ := hrel
            clear HS4
            by_cases hlt : j < l2.length
            · obtain ⟨a0, rfl⟩ : ∃ a0, p1 = some a0 := by
                cases p1
                · have := HP2.out rfl; rw [this] at hlt; simp at hlt
                · exact ⟨_, rfl⟩
              obtain ⟨hsp, hab, hcell⟩ := HC2.out _ rfl
              obtain ⟨ab, ao, _⟩ := a0
              cases hsp
              have hcj := hcell j hlt
              have hxj := HX2.out _ (List.getElem_mem hlt)
              generalize l2[j] = x at hcj hxj
              obtain ⟨y, rfl⟩ := Int.eq_ofNat_of_zero_le hxj.1
              have hy : y < 256 := by omega
              obtain ⟨d2, now, lo, hd, dC, dS, dH, dE, hR⟩ := hT
              have hm10 := Nat.mod_lt y (show 0 < 10 by omega)
              have hLc := hR.cellB (n := y % 10) (by rw [hR.ln]; omega)
              have hLf := (cell_of hR.atB (y % 10)).2
              have hOc := hR.cellC (n := y % 10) (by rw [hR.ll]; omega)
              have hOf := (cell_of hR.atC (y % 10)).2
              generalize now[y % 10]'_ = xn at hLc
              generalize lo[y % 10]'_ = xl at hOc
              change ab < w.heap.size at hab
              have hBC : B ≠ C := hR.apart.2.2
              have hOc3 : (wr.setCell ⟨B, y % 10, none⟩ (.int .u8 (100 + (j : Int)))).cell? ⟨C, y % 10, none⟩ = some (.bool xl) := by rw [← hOc]; exact World.cell?_of_block (Below.heap_setCell _ _ _ _ hBC.symm)
              have hOf3 : (wr.setCell ⟨B, y % 10, none⟩ (.int .u8 (100 + (j : Int)))).frozen? ⟨C, y % 10, none⟩ = false := by rw [← hOf]; exact World.frozen?_of_block (Below.heap_setCell _ _ _ _ hBC.symm)
              have hcw : wr.cell? ⟨ab, ao + j, none⟩ = some (.int .u8 y) := by rw [← hcj]; exact hR.rest.below.cell (p := ⟨ab, ao + j, none⟩) hab
              have hR3 := hR.putBC (y % 10) (c := 100 + (j : Int)) (by omega) (by omega)
              have hd3 := away1 (away1 hd dC hR.neB (y % 10) (.int .u8 (100 + (j : Int)))) dC hR.neC (y % 10) (.bool true)
              have dS3 := dS.store (y % 10) (100 + (j : Int))
              have dH3 := had_step dH dS dE (k := y % 10) (by rw [hR.ll]; omega) (by rw [hR.ln]; omega) (blkOf (rep (100 + (j : Int))))
              have dE3 := same_step dE (k := y % 10) (by rw [hR.ll]; omega) (100 + (j : Int))
              clear hcell hcj hxj hR hd
              go_wp2_with fail
              generalize (wr.setCell ⟨B, y % 10, none⟩ (.int .u8 (100 + (j : Int)))).setCell ⟨C, y % 10, none⟩ (.bool true) = w5 at *
              have hj0 : (0 : Int) ≤ 100 + (j : Int) := by omega
              have hj1 : 100 + (j : Int) < 256 := by omega
              clear hLc hLf hOc hOf hOc3 hOf3 hcw dS dH dE
              refine (full_b _ _).mono ?_
              rintro e w6 ⟨gn, rfl, hb6, hg6⟩
              have hd6 := hd3.kept (fun k hk => hb6.block k hk)
              have hs6 := slB_of hg6 (rep_len _)
              have hR6 := hR3.grown hb6
              clear hb6 hg6 hd3 hR3
              go_wp2_with fail
              refine (write_plain w6 hd6 dC.dead _ (by omega) (by rw [dC.tiles]; omega) _ _ hs6 (rep_len _) (rep_ok _ hj0 hj1) dC.set).mono ?_
              rintro e w7 ⟨rfl, hD7, hF7⟩
              have hD7' : DiskAt w7 p bn bo 0 (d2.store ((y % 10 : Nat) : Int) (blkOf (rep (100 + (j : Int))))) := by rw [show ((y % 10 : Nat) : Int) = (y : Int) % 10 by omega]; exact hD7
              have HS7 : Hid (S2 w p bn bo A B C was w7) := ⟨_, _, _, hD7', dC.store _ _, dS3, dH3, dE3, hR6.fr hF7⟩
              clear hD7' hD7 hF7 hR6 hd6 hs6 dS3 dH3 dE3 dC
              go_wp2_with fail
              go_roundw
              case rel => exact ⟨j + 1, by omega, by go_num, HS7.out⟩
              case measure => simp [intOf]; omega
            · obtain rfl : j = l2.length := by omega
              obtain ⟨d2, now, lo, hd, dC, dS, dH, dE, hR⟩ := hT
              go_wp2_with fail
              have hs3 := slB_new wr [(m : Int) % 256, (m : Int) / 256] 5 (by simp)
              have hd3 := hd.kept (fun k hk => Below.heap_alloc wr (.cells #[.int .u8 ((m : Int) % 256), .int .u8 ((m : Int) / 256)] 5) k hk)
              have hR3 := hR.grown (w' := wr.alloc (.cells #[.int .u8 ((m : Int) % 256), .int .u8 ((m : Int) / 256)] 5)) ((Below.refl _ _).alloc (Nat.le_refl _) _)
              refine (crash_to _ hd3 hs3 (by unfold bytesOk; simp; omega)).mono ?_
              rintro e w5 ⟨rfl, d5, hc5, hD5, hF5⟩
              have hd5 := subset_crash dH hc5
              have lw := hR.lw
              have ln := hR.ln
              have ll := hR.ll
              have hnow5 := fun i hi => subset_now (ms := [(m : Int) % 256, (m : Int) / 256]) dH dS dE lw ln ll (i := i) hi
              rw [← hd5] at hnow5
              have hR5 := hR3.fr hF5
              have hcalm : Calm { d5 with dead := false } 10 := by rw [hd5]; exact ⟨dC.tiles, rfl, rfl, rfl, rfl⟩
              clear hF5 hc5 hd5 hs3 hd3 hR3 dH dE dS dC hd hR
              go_wp2_with fail
              refine (power_any w5 hD5).mono ?_
              rintro e w6 ⟨rfl, hw6⟩
              have hD6 : DiskAt w6 p bn bo 0 { d5 with dead := false } := by
                rw [hw6]
                have ok := hD5.ok
                exact hD5.poke 3 _ rfl rfl rfl hD5.mask ⟨ok.lo, ok.hi, ok.now, ok.old, ok.llo, ok.lhi, ok.mok⟩
              have hR6 : Sub w p bn bo A B C w6 was now lo := by
                rw [hw6]
                exact hR5.fr ((Fr.refl _ _ _).setCell (p := ⟨p, 3, none⟩) (Or.inl (Or.inl rfl)) _)
              have HN := Lib.hid hnow5
              have HS6 : Hid (S3 w p bn bo A B C was now lo { d5 with dead := false } w6) := ⟨hD6, hcalm, hR6⟩
              clear hw6 hD5 hR5 hD6 hR6 hcalm hnow5
              go_wp2_with fail
              go_loopw [15, 16] (fun r i wq => ∃ n : Nat, n ≤ 10 ∧ i = .int .i64 n ∧ r = .int .i64 (rank lo n) ∧ S3 w p bn bo A B C was now lo { d5 with dead := false } wq) (fun _ i _ => 10 - (intOf i).toNat)
              case atStart => exact ⟨0, by omega, rfl, rfl, HS6.out⟩
              case round =>
                obtain ⟨n, hn, rfl, rfl, hT⟩ := hrel
                clear HS6
                by_cases hn10 : n < 10
                · obtain ⟨hd, hcalm, hR⟩ := hT
                  have hnow := HN.out n hn10
                  have hA := hR.rest.cell (n := n) (by omega)
                  have hBc := hR.cellB (n := n) (by omega)
                  have hCc := hR.cellC (n := n) (by omega)
                  have hlo : lo[n]'(by omega) = isLo lo n := by simp [isLo, ll, hn10]
                  rw [hlo] at hCc
                  have hrk := rank_le lo n
                  have hrs := rank_succ lo n
                  have hbit := bit_16 m hm (rank lo n) (by omega)
                  rw [hbit] at hnow
                  have HT : Hid (S3 w p bn bo A B C was now lo { d5 with dead := false } wr) := ⟨hd, hcalm, hR⟩
                  generalize was[n]'_ = xa at hA hnow
                  generalize now[n]'_ = xb at hBc hnow
                  obtain ⟨r', hr'⟩ : ∃ r', rank lo (n + 1) = r' := ⟨_, rfl⟩
                  rw [hr'] at hrs
                  have HR1 := Lib.hid hr'
                  clear hr'
                  generalize rank lo n = r at *
                  generalize hisl : isLo lo n = bl at *
                  clear hlo hisl hd hcalm hR hbit
                  obtain ⟨want, hwant⟩ : ∃ want : Int, (if bl = true ∧ (bits BinOp.and IntKind.u16 ((m : Int) / 2 ^ r) 1 == 1) = true then xb else xa) = want := ⟨_, rfl⟩
                  rw [hwant] at hnow
                  have HNW := Lib.hid hnow
                  have HW := Lib.hid hwant
                  have HRS := Lib.hid hrs
                  clear hnow hwant hrs
                  go_upto_if 106 with fail
                  go_cut [15, 17] (fun s t wx => s = .int .i64 r' ∧ t = .int .u8 want ∧ wx = wr)
                  case first =>
                    cases bl with
                    | false =>
                      have e1 := HW.out
                      rw [if_neg (by simp)] at e1
                      have e2 := HRS.out
                      rw [if_neg (by simp)] at e2
                      subst e1
                      obtain rfl : r' = r := by omega
                      go_wp2_with fail
                      go_meet
                      exact ⟨rfl, rfl, rfl⟩
                    | true =>
                      have e2 := HRS.out
                      rw [if_pos rfl] at e2
                      subst e2
                      cases hb : (bits BinOp.and IntKind.u16 ((m : Int) / 2 ^ r) 1 == 1) with
                      | true =>
                        have e1 := HW.out
                        rw [hb, if_pos ⟨rfl, rfl⟩] at e1
                        subst e1
                        go_wp2_with fail
                        go_meet
                        exact ⟨by go_num, rfl, rfl⟩
                      | false =>
                        have e1 := HW.out
                        rw [hb, if_neg (by simp)] at e1
                        subst e1
                        go_wp2_with fail
                        go_meet
                        exact ⟨by go_num, rfl, rfl⟩
                  case rest =>
                    obtain ⟨rfl, rfl, rfl⟩ := hcut
                    obtain ⟨hd, hcalm, hR⟩ := HT.out
                    obtain ⟨tx, htx⟩ : ∃ tx, bstr (rep want) = tx := ⟨_, rfl⟩
                    have HX3 := Lib.hid htx
                    clear hR htx hA hBc hCc
                    go_wp2_with fail
                    refine (read_ok _ hd hcalm.dead n (by omega) (by rw [hcalm.tiles]; omega) (rep want) HNW.out (rep_len want)).mono ?_
                    rintro e w8 ⟨rfl, hw8⟩
                    have HT8 : Hid (S3 w p bn bo A B C was now lo { d5 with dead := false } w8) := s3_grown HT.out (by rw [hw8]; exact (Below.refl _ _).alloc (Nat.le_refl _) _)
                    have hg8 : w8.heap[wc.heap.size]? = some (.cells (byteV (rep want)).toArray 70 (0, 0)) := by rw [hw8]; exact heap_alloc_new wc _
                    clear hw8 hd hcalm HT
                    generalize wc.heap.size = gx at *
                    go_upto_region 37 with fail
                    go_cut [132] (fun t wx => t = .bool false ∧ S3 w p bn bo A B C was now lo { d5 with dead := false } wx)
                    case first =>
                      have v1 := conv_all (g := gx) (t := 70) (rep_len want) HX3.out w8.drew hg8
                      go_region_with (go_at_call 24; refine (full_b _ _).mono ?_; rintro e w9 ⟨gn, rfl, hb9, hg9⟩; have v2 := conv_all (rep_len want) HX3.out w9 hg9; have v3 := conv_all (rep_len want) HX3.out w9 (below_old hb9 hg8 (Nat.le_refl _)))
                      all_goals (go_wp2_with fail; go_meet; exact ⟨rfl, s3_grown HT8.out (below_undrew hb9)⟩)
                    case rest =>
                      obtain ⟨rfl, hTr⟩ := hcut
                      go_wp2_with fail
                      go_roundw
                      case rel => exact ⟨n + 1, by omega, by go_num, by rw [← HR1.out], hTr⟩
                      case measure => simp [intOf]; omega
                · obtain rfl : n = 10 := by omega
                  have HB := Lib.hid hT.2.2.rest.below
                  clear hT
                  go_wp2_with fail
                  go_ret
                  exact ⟨rfl, HB.out⟩

theorem own : ownKnob Try.prog.godebug = none := by kernel_rfl
theorem laidOut : laidOutB Try.prog = true := by kernel_rfl

set_option maxRecDepth 100000 in
theorem lifted (os : Os) (started : os.Started) (H : Type) (enc : TypeId × Value → H) :
    ReturnsInHanded {} Try.checked os 4 .any (Rows.tileSubsetSpec.pre6 enc Try.prog Try.f4 Rows.tileSubsetRow.domain false) (Rows.tileSubsetSpec.post enc Try.prog Try.f4 false true false false) := by
  refine returnsInHanded_of_change (C := Try.checked) own started (by kernel_rfl) Try.func4
    (ChangeSpec.witness6 (enc := enc) (C := Try.checked) false ⟨#[], #[.slice none 0 0, .slice none 0 0, .int .u16 0], []⟩ 8 (by kernel_rfl) (by kernel_rfl) (by kernel_rfl) (by kernel_rfl)) ?_
  intro W base args ds gs before hval0 hW hcnd _
  have hval : ∀ (j : Nat) t v, Try.f4.params[j]? = some t → args[j]? = some v → Value.okWide Try.prog W .any base t v := hval0
  have hW' := hW
  obtain ⟨p, q, hA0, hV, rfl, hfz, hnd⟩ := hW
  obtain ⟨rfl, rfl⟩ := trodVars_none hV
  have hA : DataW.TrodAll enc Try.prog W 0 (fun _ => true) true Try.f4.params.toList args.toList ds p := hA0
  rw [Try.params4] at hA hval
  obtain ⟨v0, vs0, d0, ds0, p0, q0, hargs, rfl, rfl, h0, r0⟩ := trodAll_cons hA
  obtain ⟨v1, vs1, d1, ds1, p1, q1, rfl, rfl, rfl, h1, r1⟩ := trodAll_cons r0
  obtain ⟨v2, vs2, d2, ds2, p2, q2, rfl, rfl, rfl, h2, r2⟩ := trodAll_cons r1
  obtain ⟨rfl, rfl, rfl⟩ := trodAll_nil r2
  obtain rfl : args = #[v0, v1, v2] := by cases args; simp_all
  have ok0 := hval 0 28 v0 rfl rfl
  have ok1 := hval 1 28 v1 rfl rfl
  obtain ⟨a2, rfl, rfl, rfl, w2⟩ := open_int Try.underlying43 (hval 2 43 v2 rfl rfl) h2
  obtain ⟨l, hl⟩ := open_sl Try.underlying28 Try.underlying5 (by kernel_rfl) ok0 h0
  obtain ⟨l2, hl2⟩ := open_sl Try.underlying28 Try.underlying5 (by kernel_rfl) ok1 h1
  have b2 := bounds_u16 w2
  obtain ⟨n, rfl⟩ := Int.eq_ofNat_of_zero_le b2.1
  refine (walk v0 v1 l l2 n (by omega) W hl hl2).mono fun e W' ⟨he, hg⟩ => ?_
  subst he
  exact ⟨_, rfl, law_post laidOut Try.underlying4 rfl (by rw [Try.params4]; intro t ht; simp at ht; rcases ht with rfl | rfl <;> exact ⟨by kernel_rfl, of_decide_eq_true (by kernel_rfl)⟩) rfl hW' rfl hg⟩

theorem proved : Rows.TileSubsetSaid :=
  OpenClaim.holds_of_wide 4 Try.f4 rfl rfl rfl rfl rfl rfl rfl ⟨rfl, rfl, rfl, rfl, rfl⟩ rfl rfl rfl rfl rfl (by kernel_rfl) Try.func4 (by kernel_rfl)
    (of_decide_eq_true (by kernel_rfl)) (by unfold Func.isWrapper; first | (rw [if_pos (by decide +kernel)]; kernel_rfl) | (rw [if_neg (by decide +kernel)]; exact ⟨rfl, rfl⟩))
    (fun os started H enc _ => lifted os started H enc)
#print axioms proved

end Go.Proofs.Ytimmbalmealkaaa.tileSubset
