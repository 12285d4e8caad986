/- WaitWays' walk. -/
import Derived.Test.YtcfibmbeojdifaaWtZ
namespace Go.Proofs.Ytcfibmbeojdifaa
open Go.RowKit Go.Maps Go.WideMaps

def q8 (ps : List (Int × Int)) : List (Int × Int) := ps.map fun q => (q.1 % 8, q.2 % 8)
theorem q8_bd {ps : List (Int × Int)} {x y : Int} (h : (x, y) ∈ q8 ps) : 0 ≤ x ∧ x < 8 ∧ 0 ≤ y ∧ y < 8 := by
  obtain ⟨q, _, e⟩ := List.mem_map.1 h
  obtain ⟨rfl, rfl⟩ := Prod.mk.inj e
  exact ⟨Int.emod_nonneg _ (by decide), Int.emod_lt_of_pos _ (by decide), Int.emod_nonneg _ (by decide), Int.emod_lt_of_pos _ (by decide)⟩
theorem q8_snoc {ps : List (Int × Int)} {i : Nat} (h : i < ps.length) : q8 (ps.take (i + 1)) = q8 (ps.take i) ++ [(ps[i].1 % 8, ps[i].2 % 8)] := by
  unfold q8
  rw [← List.take_append_getElem h, List.map_append]
  rfl

set_option maxRecDepth 100000 in
set_option maxHeartbeats 2000000 in
theorem ways_walk (w : World) (v : Value) (ps : List (Int × Int)) (hv : RdE w v 2 (ps.map pV)) (hbd : ∀ q ∈ ps, (0 ≤ q.1 ∧ q.1 ≤ 255) ∧ 0 ≤ q.2 ∧ q.2 ≤ 255) : Calls Try.prog 5 #[v] w fun e w' => e = .returned (.bool true) ∧ Below w.heap.size w w' := by
  have CB := begun_any w
  obtain ⟨A, ca, rfl, hA⟩ := hv
  rw [List.length_map]
  have HA : Hid (∀ i (hi : i < ps.length), ∃ g o, A = some ⟨g, o, none⟩ ∧ g < w.heap.size ∧ w.cell? ⟨g, o + i * 2, none⟩ = some (.int .u8 ps[i].1) ∧ w.cell? ⟨g, o + i * 2 + 1, none⟩ = some (.int .u8 ps[i].2)) := fun i hi => by
    obtain ⟨g, o, e, hg, hc⟩ := hA i (by rw [List.length_map]; exact hi)
    have c0 := hc 0 (by decide)
    have c1 := hc 1 (by decide)
    rw [List.getElem_map] at c0 c1
    exact ⟨g, o, e, hg, c0, c1⟩
  have HBD := Lib.hid hbd
  clear hA hbd
  go_enter Try.func5, Try.ntmps5
  go_upto_region 3 with (first | (go_at_call 7; refine CB.mono ?_; rintro e w0 ⟨rfl, hb0⟩))
  have HB0 := Lib.hid hb0
  clear CB hb0
  by_cases h1 : 30 < ps.length
  · have h1' : (30 : Int) < (ps.length : Int) := by omega
    go_wp2
    go_ret
    exact ⟨rfl, HB0.out⟩
  have h1' : ¬ (30 : Int) < (ps.length : Int) := by omega
  go_upto_region 5 with fail
  have CN := new_gr w0
  go_upto_region 6 with (first | (go_at_call 8; refine CN.mono ?_; rintro e w1 ⟨rfl, h1, hb1⟩))
  go_upto_region 9 with fail
  have hWy := wy_start w1
  have a1 : Below w1.heap.size w1 ((w1.alloc (.cells #[.slice none 0 0, .slice none 0 0, .slice none 0 0, .slice none 0 0, .slice none 0 0, .slice none 0 0, .slice none 0 0, .slice none 0 0] 40)).alloc (.cells #[.bool false, .bool false, .bool false, .bool false, .bool false, .bool false, .bool false, .bool false, .bool false, .bool false, .bool false, .bool false, .bool false, .bool false, .bool false, .bool false, .bool false, .bool false, .bool false, .bool false, .bool false, .bool false, .bool false, .bool false, .bool false, .bool false, .bool false, .bool false, .bool false, .bool false, .bool false, .bool false, .bool false, .bool false, .bool false, .bool false, .bool false, .bool false, .bool false, .bool false, .bool false, .bool false, .bool false, .bool false, .bool false, .bool false, .bool false, .bool false, .bool false, .bool false, .bool false, .bool false, .bool false, .bool false, .bool false, .bool false, .bool false, .bool false, .bool false, .bool false, .bool false, .bool false, .bool false, .bool false] 42)) := ((Below.refl _ w1).alloc (Nat.le_refl _) _).alloc (by simp) _
  have HLEN := Lib.hid (show ps.length ≤ 30 by omega)
  have HW1 : Hid (Below w.heap.size w w1 ∧ w.heap.size ≤ w0.heap.size) := ⟨HB0.out.trans (hb1.mono HB0.out.size), HB0.out.size⟩
  have HBP : Hid (w0.heap.size < w1.heap.size) := h1.m.out.lt
  have H1 := Lib.hid h1
  clear h1 hb1 HB0 CN
  generalize (w1.alloc (.cells #[.slice none 0 0, .slice none 0 0, .slice none 0 0, .slice none 0 0, .slice none 0 0, .slice none 0 0, .slice none 0 0, .slice none 0 0] 40)).alloc (.cells #[.bool false, .bool false, .bool false, .bool false, .bool false, .bool false, .bool false, .bool false, .bool false, .bool false, .bool false, .bool false, .bool false, .bool false, .bool false, .bool false, .bool false, .bool false, .bool false, .bool false, .bool false, .bool false, .bool false, .bool false, .bool false, .bool false, .bool false, .bool false, .bool false, .bool false, .bool false, .bool false, .bool false, .bool false, .bool false, .bool false, .bool false, .bool false, .bool false, .bool false, .bool false, .bool false, .bool false, .bool false, .bool false, .bool false, .bool false, .bool false, .bool false, .bool false, .bool false, .bool false, .bool false, .bool false, .bool false, .bool false, .bool false, .bool false, .bool false, .bool false, .bool false, .bool false, .bool false, .bool false] 42) = w2 at *
  have HPQ : Hid (w1.heap.size ≤ w1.heap.size + 1) := Nat.le_succ _
  generalize hQ : w1.heap.size + 2 = Q at *
  generalize hpc : w1.heap.size + 1 = pc at *
  generalize hpo : w1.heap.size = po at *
  generalize w0.heap.size + 1 = p at *
  generalize w0.heap.size = B at *
  have HPN := Lib.hid hpo
  have HA1 := Lib.hid a1
  have R0 : Hid (∃ (i : Nat) (S : Nat → Value), i ≤ ps.length ∧ Value.int .i64 0 = .int .i64 (i : Int) ∧ Wy w2 w2 Q po pc S (onL (q8 (ps.take i))) (cI (q8 (ps.take i)))) := ⟨0, _, Nat.zero_le _, rfl, hWy⟩
  clear hWy a1 hQ hpc hpo h1'
  go_loopw [6, 7, 8] (fun iv _ _ wr => Hid (∃ (i : Nat) (S : Nat → Value), i ≤ ps.length ∧ iv = .int .i64 (i : Int) ∧ Wy wr w2 Q po pc S (onL (q8 (ps.take i))) (cI (q8 (ps.take i))))) (fun iv _ _ _ => ps.length - ivN iv)
  case atStart => exact R0
  case round =>
    obtain ⟨i, S, hi, rfl, hW⟩ := hrel.out
    clear hrel R0
    by_cases hlt : i < ps.length
    · obtain ⟨g, o, rfl, hg, hx, hy⟩ := HA.out i hlt
      have hbw : Below w.heap.size w wr := HW1.out.1.trans ((HA1.out.trans (hW.fr.below (B' := po) (by have := hW.hpo; omega) (fun k hk => by rcases hk with rfl | rfl; exact Nat.le_refl _; exact HPQ.out))).mono (by have := HBP.out; have := HW1.out.2; omega))
      have hcx := (hbw.cell (p := ⟨g, o + i * 2, none⟩) hg).trans hx
      have hcy := (hbw.cell (p := ⟨g, o + i * 2 + 1, none⟩) hg).trans hy
      obtain ⟨⟨hx0, hx1⟩, hy0, hy1⟩ := HBD.out ps[i] (List.getElem_mem hlt)
      have hsn := q8_snoc hlt
      have hql : (q8 (ps.take i)).length ≤ 30 := by simp [q8]; have := HLEN.out; omega
      generalize ps[i].1 = x at *
      generalize ps[i].2 = y at *
      have hz0 : 0 ≤ x % 8 := Int.emod_nonneg _ (by decide)
      have hz1 : x % 8 < 8 := Int.emod_lt_of_pos _ (by decide)
      have hz2 : 0 ≤ y % 8 := Int.emod_nonneg _ (by decide)
      have hz3 : y % 8 < 8 := Int.emod_lt_of_pos _ (by decide)
      generalize hxa : x % 8 = a' at *
      generalize hyb : y % 8 = b' at *
      obtain ⟨a, rfl⟩ : ∃ a : Nat, a' = (a : Int) := ⟨a'.toNat, by omega⟩
      obtain ⟨b, rfl⟩ : ∃ b : Nat, b' = (b : Int) := ⟨b'.toNat, by omega⟩
      have ha8 : a < 8 := by omega
      have hb8 : b < 8 := by omega
      have hltI : (i : Int) < (ps.length : Int) := by omega
      have hi0 : (0 : Int) ≤ (i : Int) := by omega
      have hib : (i : Int) ≤ 30 := by have := HLEN.out; omega
      have HW := Lib.hid hW
      have HI := Lib.hid hlt
      have HSN := Lib.hid hsn
      have HQL := Lib.hid hql
      clear hW hsn hbw hi hlt hx hy hg hql
      go_upto_region 11 with fail
      go_region
      have hW3 := HW.out.drew
      clear hcx hcy HW hx0 hx1 hy0 hy1 hxa hyb
      generalize wr.drew = w3 at *
      generalize q8 (ps.take i) = L at *
      obtain ⟨pt, cp, hSa⟩ := (hW3.sl a ha8).form
      have hco := hW3.oncell ha8
      rw [hSa] at hco
      have hcell := hco.1
      have hlen := Nat.le_trans (onL_length L a) HQL.out
      have hown := hW3.sl a ha8
      rw [hSa] at hown
      obtain ⟨ii, hii, hy0, hy1, hy2⟩ := info_parts infoI64
      have HW3 := Lib.hid hW3
      have HS := Lib.hid hown
      have HSA := Lib.hid hSa
      have HLA := Lib.hid hlen
      have HA8 : Hid (a < 8 ∧ b < 8) := ⟨ha8, hb8⟩
      have HSZ := Lib.hid hW3.size
      clear hW3 hown hSa hlen hco
      generalize hM : onL L a = M at *
      have HM := Lib.hid hM
      clear hM
      go_wp2_with (first
        | (at_builtin; refine wpList_append_own_at _ rfl _ _ 30 rfl Q 3 ii (.int .i64 0) 1 8 Try.underlying30 hii hy0 hy1 hy2 rfl (by decide) _ _ _ rfl (HS.out.alloc _) ⟨w3.heap.size, 0, none⟩ 1 1 [.int .i64 (b : Int)] rfl ?e2 ?e3 ?e4 ?e5 ?e6 ?e7 ?_))
      case e2 => rfl
      case e3 => exact news_one w3 b
      case e4 => intro u hu; obtain rfl := List.mem_singleton.1 hu; rfl
      case e5 => have := HLA.out; unfold maxLen; omega
      case e6 => have := HLA.out; omega
      case e7 => have := HSZ.out; simp only [Array.size_push, World.alloc]; omega
      intro v' w6 hown6 hgrow _ hat
      have hown6' : SlR w6 Q v' (M ++ [(b : Int)]) := by
        unfold SlR intV
        rw [List.length_append, List.map_append]
        exact hown6
      obtain ⟨pt', cp', hv'⟩ := hown6'.form
      rw [show (M ++ [(b : Int)]).length = M.length + 1 by simp] at hv'
      subst hv'
      have hW7 := HW3.out.append HA8.out.1 (b := (b : Int)) (v' := .slice pt' (M.length + 1) cp') (w6 := w6) (by rw [HM.out]; exact hown6) (by rw [HSA.out]; exact hgrow) (by rw [HSA.out, show (w3.alloc (.cells #[.int .i64 (b : Int)] 3)).heap.size = w3.heap.size + 1 by simp]; exact hat)
      have hpo6 : w6.heap[po]? = w3.heap[po]? := (hgrow.block po (by have := HW3.out.hpo; have := HSZ.out; simp; omega) (fun e => by have := (HS.out.lt po e.symm).1; have := HW3.out.hpo; omega)).trans (Below.heap_alloc _ _ _ (by have := HW3.out.hpo; have := HSZ.out; omega))
      have hc6 := (World.cell?_of_block (a := ⟨po, a, none⟩) hpo6).trans hcell
      have hf6 := (World.frozen?_of_block (a := ⟨po, a, none⟩) hpo6).trans (HW3.out.oncell HA8.out.1).2
      have HW7 := Lib.hid hW7
      clear hown6 hown6' hgrow hat hW7 hpo6 hcell hii hy0 hy1 hy2
      go_upto_region 13 with fail
      generalize hw7 : w6.setCell ⟨po, a, none⟩ (.slice pt' (M.length + 1) cp') = w7 at *
      have hcn := HW7.out.cncell HA8.out.1 HA8.out.2
      rw [Nat.mul_comm] at hcn
      have hcc := hcn.1
      have hcf := hcn.2
      clear hw7 hcn hc6 hf6
      have HR : Hid (∀ (u : Bool), u = (cI L a b || (a != b)) → (∃ (i' : Nat) (S' : Nat → Value), i' ≤ ps.length ∧ Value.int .i64 ((i : Int) + 1) = .int .i64 (i' : Int) ∧ Wy (w7.setCell ⟨pc, a * 8 + b, none⟩ (.bool u)).drew w2 Q po pc S' (onL (q8 (ps.take i'))) (cI (q8 (ps.take i')))) ∧ ps.length - ivN (.int .i64 ((i : Int) + 1)) < ps.length - ivN (.int .i64 (i : Int))) := fun u hu => by
        refine ⟨⟨i + 1, upd S a (.slice pt' (M.length + 1) cp'), HI.out, rfl, ?_⟩, by have := HI.out; simp only [ivN]; omega⟩
        have h8 := (HW7.out.put HA8.out.1 HA8.out.2 u).drew
        rw [Nat.mul_comm 8 a] at h8
        rw [HSN.out]
        refine h8.congr (fun x _ => rfl) (fun x _ => ?_) (fun x y _ _ => ?_)
        · rw [onL_snoc]; unfold upd
          by_cases e : x = a
          · subst e; simp
          · rw [if_neg e, if_neg e]
        · rw [cI_snoc, hu]
      clear HW3 HW7 HSN HM HLA HS HSA HSZ
      cases hc : cI L a b with
      | true =>
        rw [hc] at hcc
        have hu := HR.out true (by rw [hc]; rfl)
        have HU := Lib.hid hu
        clear HR hu hc
        go_region
        go_wp2_with fail
        exact HU.out
      | false =>
        rw [hc] at hcc
        by_cases e : a = b
        · subst e
          have HU := Lib.hid (HR.out false (by rw [hc]; simp))
          clear HR hc
          have eI : ((a : Int) != (a : Int)) = false := by simp
          go_region
          go_wp2_with fail
          exact HU.out
        · have eI : ¬ (a : Int) = (b : Int) := by omega
          have HU := Lib.hid (HR.out true (by rw [hc]; simp [e]))
          clear HR hc e
          go_region
          go_wp2_with fail
          rw [show ((a : Int) != (b : Int)) = true by simp [eI]]
          exact HU.out
    · obtain rfl : i = ps.length := by omega
      rw [List.take_length] at hW
      have HLN := Lib.hid (show (q8 ps).length ≤ 30 by simp [q8]; exact HLEN.out)
      have HQB : Hid (∀ x y, (x, y) ∈ q8 ps → 0 ≤ x ∧ x < 8 ∧ 0 ≤ y ∧ y < 8) := fun _ _ h => q8_bd h
      have hGB : Below w1.heap.size w1 wr := by
        rw [HPN.out]
        exact HA1.out.trans (hW.fr.below (B' := po) (Nat.le_of_lt hW.hpo) (fun k hk => by rcases hk with rfl | rfl; exact Nat.le_refl _; exact HPQ.out))
      have hG := H1.out.on_ hGB
      have hBw : Below w.heap.size w wr := HW1.out.1.trans (hGB.mono (by rw [HPN.out]; have := HBP.out; have := HW1.out.2; omega))
      obtain ⟨w3, hw3⟩ : ∃ w3, w3 = wr := ⟨_, rfl⟩
      have R1 : Hid (∃ (i m : Nat) (ob : Lit → Option Nat), i ≤ 8 ∧ Value.int .i64 0 = .int .i64 (i : Int) ∧ m ≤ 40 * i ∧ GrAt wr B p B m (wE (q8 ps) i) ob ∧ Tn w3 wr B (fun _ => none) ob) :=
        ⟨0, 0, _, by decide, rfl, Nat.le_refl _, hG.eqv fun x y => ⟨fun h => (by cases h), fun h => by
          obtain ⟨h1, h2, _⟩ := mem_wE.1 h
          have := (q8_bd h1).1
          omega⟩, by rw [hw3]; exact Tn.ofBelow _ _ (Below.refl _ _)⟩
      have HW := Lib.hid hW
      have HBW := Lib.hid hBw
      have HPB : Hid (p < po) := by have := H1.out.plt; rw [HPN.out] at this; exact this
      rw [← hw3] at HW HBW
      clear hW hG hGB hBw hi hlt H1 HA1 HPN HA
      generalize q8 ps = L at *
      go_upto_region 15 with fail
      go_loopw [9] (fun iv wr => Hid (∃ (i m : Nat) (ob : Lit → Option Nat), i ≤ 8 ∧ iv = .int .i64 (i : Int) ∧ m ≤ 40 * i ∧ GrAt wr B p B m (wE L i) ob ∧ Tn w3 wr B (fun _ => none) ob)) (fun iv _ => 8 - ivN iv)
      case atStart => exact R1
      case round =>
        obtain ⟨i, m, ob, hi, rfl, hm, h, ht⟩ := hrel.out
        clear hrel R1
        by_cases hlt : i < 8
        · have hblk : ∀ k, k < Q → k ≠ B → wr.heap[k]? = w3.heap[k]? := fun k hk hn => ht.fr.block k (Nat.lt_of_lt_of_le hk HW.out.size) fun e => hn (mmb_none e)
          have hBQ : B < Q := Nat.lt_trans HBP.out HW.out.hpo
          have hc := (World.cell?_of_block (a := ⟨po, i, none⟩) (hblk po HW.out.hpo (by have := HBP.out; omega))).trans (HW.out.oncell hlt).1
          have hS : SlR wr Q (S i) (onL L i) := (HW.out.sl i hlt).kept (row := some B) ⟨ht.fr.os, ht.fr.tape, ht.fr.output, ht.fr.size, fun k hk hn => ht.fr.block k hk fun e => hn (by rw [mmb_none e])⟩ (Or.inr fun e => by have := ((HW.out.sl i hlt).lt B e).1; omega)
          have hol := Nat.le_trans (onL_length L i) HLN.out
          have CS := set_any _ h (by omega) (x := (i : Int)) (wf_small (by omega) (by omega)) (show (onL L i).length < 1000 by omega) (fun y hy => by obtain ⟨_, _, h3, h4⟩ := HQB.out _ _ (mem_onL.1 hy); exact wf_small (by omega) (by omega)) hS.rd
          obtain ⟨A3, c3, hSi⟩ := hS.form
          rw [hSi] at hc CS
          have hltI : (i : Int) < 8 := by omega
          have hi0 : (0 : Int) ≤ (i : Int) := by omega
          have HT := Lib.hid ht
          have HI : Hid (i < 8 ∧ m ≤ 40 * i ∧ (onL L i).length ≤ 30) := ⟨hlt, hm, hol⟩
          clear hblk hBQ hS hol h ht hi hm hlt hSi
          go_wp2_with (first | (go_at_call 13; refine CS.mono ?_; rintro e w5 ⟨rfl, ob5, h5, _, ht5⟩))
          exact ⟨⟨i + 1, m + (onL L i).length + 1, ob5, HI.out.1, rfl, by have := HI.out; omega, h5.eqv fun x y => wE_set L i x y, HT.out.trans ht5⟩, by have := HI.out; simp only [ivN]; omega⟩
        · obtain rfl : i = 8 := by omega
          rw [show ((8 : Nat) : Int) = 8 from rfl]
          have hpc4 : wr.heap[pc]? = w3.heap[pc]? := ht.fr.block pc (Nat.lt_of_lt_of_le HW.out.hpc HW.out.size) fun e => by have := mmb_none e; have := HBP.out; have := HPQ.out; omega
          have C0 : Cn wr wr pc (cI L) := ⟨by obtain ⟨c2, h21, h22, h23⟩ := HW.out.cn; exact ⟨c2, hpc4.trans h21, h22, h23⟩, Fr.refl _ _ _⟩
          have HNP : Hid (∀ d, MMb B ob d ∨ d = p → d ≠ pc) := fun d hd e => by
            subst e
            have h1 := HPQ.out
            have h2 := HPB.out
            have h3 := HW.out.hpc
            have h4 := HW.out.size
            have h5 := HBP.out
            rcases hd with hd | hd
            · rcases ht.mem _ hd with e | e
              · have := mmb_none e; omega
              · omega
            · omega
          have HG := Lib.hid h
          have HB4 : Hid (Below w.heap.size w wr) := HBW.out.trans (ht.fr.below HBW.out.size (fun k hk => by rw [mmb_none hk]; exact HW1.out.2))
          have HM4 := Lib.hid (show m < 100000 by omega)
          have HPC : Hid (w.heap.size ≤ pc) := by have := HPQ.out; have := HBP.out; have := HW1.out.2; exact (show w.heap.size ≤ pc by omega)
          have HES : Hid ((wE L 8).length < 100000) := Nat.lt_of_le_of_lt (wE_length _ _) (by have := HLN.out; omega)
          obtain ⟨w4, hw4⟩ : ∃ w4, w4 = wr := ⟨_, rfl⟩
          have R2 : Hid (∃ (k : Nat) (C : Nat → Nat → Bool), k ≤ 8 ∧ Value.int .i64 0 = .int .i64 (k : Int) ∧ Cn wr w4 pc C ∧ Wsh (wE L 8) k C) := ⟨0, _, by decide, rfl, by rw [hw4]; exact C0, wsh_start L⟩
          rw [← hw4] at HG HB4
          have HEB : Hid (∀ x y, (x, y) ∈ wE L 8 → ∃ b : Nat, y = (b : Int) ∧ b < 8) := fun _ _ h => wE_bd HQB.out h
          clear h ht hpc4 C0 hi hm hlt HW HBW HPB HW1 HBP HPQ HQB HLN HLEN hw4
          generalize wE L 8 = E at *
          go_upto_region 19 with fail
          go_loopw [10, 11, 12] (fun kv _ _ wr => Hid (∃ (k : Nat) (C : Nat → Nat → Bool), k ≤ 8 ∧ kv = .int .i64 (k : Int) ∧ Cn wr w4 pc C ∧ Wsh E k C)) (fun kv _ _ _ => 8 - ivN kv)
          case atStart => exact R2
          case round =>
            obtain ⟨k, C, hk, rfl, hC, hS⟩ := hrel.out
            clear hrel R2
            by_cases hkt : k < 8
            · have hkI : (k : Int) < 8 := by omega
              have hk0 : (0 : Int) ≤ (k : Int) := by omega
              have HK := Lib.hid hkt
              have R3 : Hid (∃ (i : Nat) (C : Nat → Nat → Bool), i ≤ 8 ∧ Value.int .i64 0 = .int .i64 (i : Int) ∧ Cn wr w4 pc C ∧ WshM E k (8 * i) C) := ⟨0, C, by decide, rfl, hC, WshM.start hS⟩
              clear hC hS hk hkt
              go_upto_region 22 with fail
              go_loopw [11, 12] (fun iv _ wr => Hid (∃ (i : Nat) (C : Nat → Nat → Bool), i ≤ 8 ∧ iv = .int .i64 (i : Int) ∧ Cn wr w4 pc C ∧ WshM E k (8 * i) C)) (fun iv _ _ => 8 - ivN iv)
              case atStart => exact R3
              case round =>
                obtain ⟨i, C, hi, rfl, hC, hS⟩ := hrel.out
                clear hrel R3
                by_cases hit : i < 8
                · have hiI : (i : Int) < 8 := by omega
                  have hi0 : (0 : Int) ≤ (i : Int) := by omega
                  have HI := Lib.hid hit
                  have R4 : Hid (∃ (j : Nat) (C : Nat → Nat → Bool), j ≤ 8 ∧ Value.int .i64 0 = .int .i64 (j : Int) ∧ Cn wr w4 pc C ∧ WshM E k (8 * i + j) C) := ⟨0, C, by decide, rfl, hC, hS⟩
                  clear hC hS hi hit
                  go_upto_region 25 with fail
                  go_loopw [12] (fun jv wr => Hid (∃ (j : Nat) (C : Nat → Nat → Bool), j ≤ 8 ∧ jv = .int .i64 (j : Int) ∧ Cn wr w4 pc C ∧ WshM E k (8 * i + j) C)) (fun jv _ => 8 - ivN jv)
                  case atStart => exact R4
                  case round =>
                    obtain ⟨j, C, hj, rfl, hC, hS⟩ := hrel.out
                    clear hrel R4
                    by_cases hjt : j < 8
                    · have hjI : (j : Int) < 8 := by omega
                      have hj0 : (0 : Int) ≤ (j : Int) := by omega
                      have HJ := Lib.hid hjt
                      have hc1 := hC.cell HI.out hjt
                      have hc2 := (hC.cell HI.out HK.out).1
                      have hc3 := (hC.cell HK.out hjt).1
                      have hd := hc1.1
                      have hf := hc1.2
                      have HR : Hid (∀ u : Bool, u = (C i j || C i k && C k j) → (∃ (j' : Nat) (C' : Nat → Nat → Bool), j' ≤ 8 ∧ Value.int .i64 ((j : Int) + 1) = .int .i64 (j' : Int) ∧ Cn (wr.setCell ⟨pc, i * 8 + j, none⟩ (.bool u)).drew w4 pc C' ∧ WshM E k (8 * i + j') C') ∧ 8 - ivN (.int .i64 ((j : Int) + 1)) < 8 - ivN (.int .i64 (j : Int))) := fun u hu =>
                        ⟨⟨j + 1, _, hjt, rfl, hC.put HI.out hjt u, by rw [hu]; exact hS.step HK.out HI.out hjt⟩, by have := HJ.out; simp only [ivN]; omega⟩
                      clear hC hS hj hjt hc1
                      cases h1 : C i j with
                      | true =>
                        rw [h1] at hd
                        have HU := Lib.hid (HR.out true (by rw [h1]; rfl))
                        clear HR hc2 hc3 h1
                        go_upto_region 27 with fail
                        go_region
                        go_wp2_with fail
                        exact HU.out
                      | false =>
                        rw [h1] at hd
                        cases h2 : C i k with
                        | false =>
                          rw [h2] at hc2
                          have HU := Lib.hid (HR.out false (by rw [h1, h2]; rfl))
                          clear HR hc3 h1 h2
                          go_upto_region 27 with fail
                          go_region
                          go_wp2_with fail
                          exact HU.out
                        | true =>
                          rw [h2] at hc2
                          have HU := Lib.hid (HR.out (C k j) (by rw [h1, h2]; rfl))
                          clear HR h1 h2
                          generalize C k j = u at *
                          go_upto_region 27 with fail
                          go_region
                          go_wp2_with fail
                          exact HU.out
                    · obtain rfl : j = 8 := by omega
                      have HU : Hid ((∃ (i' : Nat) (C : Nat → Nat → Bool), i' ≤ 8 ∧ Value.int .i64 ((i : Int) + 1) = .int .i64 (i' : Int) ∧ Cn wr w4 pc C ∧ WshM E k (8 * i') C) ∧ 8 - ivN (.int .i64 ((i : Int) + 1)) < 8 - ivN (.int .i64 (i : Int))) := ⟨⟨i + 1, C, HI.out, rfl, hC, hS⟩, by have := HI.out; simp only [ivN]; omega⟩
                      clear hC hS hj hjt
                      rw [show ((8 : Nat) : Int) = 8 from rfl]
                      go_wp2
                      exact HU.out
                · obtain rfl : i = 8 := by omega
                  have HU : Hid ((∃ (k' : Nat) (C : Nat → Nat → Bool), k' ≤ 8 ∧ Value.int .i64 ((k : Int) + 1) = .int .i64 (k' : Int) ∧ Cn wr w4 pc C ∧ Wsh E k' C) ∧ 8 - ivN (.int .i64 ((k : Int) + 1)) < 8 - ivN (.int .i64 (k : Int))) := ⟨⟨k + 1, C, HK.out, rfl, hC, hS.done⟩, by have := HK.out; simp only [ivN]; omega⟩
                  clear hC hS hi hit
                  rw [show ((8 : Nat) : Int) = 8 from rfl]
                  go_wp2
                  exact HU.out
            · obtain rfl : k = 8 := by omega
              rw [show ((8 : Nat) : Int) = 8 from rfl]
              have hG5 : GrAt wr B p B m E ob := HG.out.kept hC.fr.size fun d hd => hC.fr.block d (by rcases hd with hd | rfl; exact HG.out.m.lt hd; exact HG.out.plt) (HNP.out d hd)
              have hB5 : Below w.heap.size w wr := HB4.out.trans (hC.fr.below HB4.out.size (fun k hk => by rw [hk]; exact HPC.out))
              have HG5 := Lib.hid hG5
              have HB5 := Lib.hid hB5
              have HC5 : Hid (∀ i, i < 8 → wr.cell? ⟨pc, i * 8 + i, none⟩ = some (.bool (C i i)) ∧ cyB E (i : Int) = C i i) := fun i hi => ⟨(hC.cell hi hi).1, wsh_cy HEB.out hS hi⟩
              have HPL : Hid (pc < wr.heap.size) := by obtain ⟨c2, h21, _⟩ := hC.cn; exact (Array.getElem?_eq_some_iff.1 h21).1
              obtain ⟨w5, hw5⟩ : ∃ w5, w5 = wr := ⟨_, rfl⟩
              have R5 : Hid (∃ i : Nat, i ≤ 8 ∧ Value.int .i64 0 = .int .i64 (i : Int) ∧ Below w5.heap.size w5 wr) := ⟨0, by decide, rfl, by rw [hw5]; exact Below.refl _ _⟩
              rw [← hw5] at HG5 HB5 HC5 HPL
              clear hC hS hG5 hB5 hkt hk HG HB4 HNP HPC HEB hw5
              go_upto_region 29 with fail
              go_loopw [13] (fun iv wr => Hid (∃ i : Nat, i ≤ 8 ∧ iv = .int .i64 (i : Int) ∧ Below w5.heap.size w5 wr)) (fun iv _ => 8 - ivN iv)
              case atStart => exact R5
              case round =>
                obtain ⟨i, hi, rfl, hb⟩ := hrel.out
                clear hrel R5
                by_cases hit : i < 8
                · have hiI : (i : Int) < 8 := by omega
                  have hi0 : (0 : Int) ≤ (i : Int) := by omega
                  have HI := Lib.hid hit
                  have hcl := (hb.cell (p := ⟨pc, i * 8 + i, none⟩) HPL.out).trans (HC5.out i hit).1
                  have CC := cycle_any wr.drew (HG5.out.on_ (hb.trans ((Below.refl _ wr).drew.mono hb.size))) HES.out (who := (i : Int)) (wf_small (by omega) (by omega))
                  rw [(HC5.out i hit).2] at CC
                  have hpl := HPL.out
                  have hpw : pc < wr.heap.size := Nat.lt_of_lt_of_le HPL.out hb.size
                  have HB := Lib.hid hb
                  clear hi hit hb
                  generalize C i i = u at *
                  go_upto_region 31 with fail
                  go_region_with (go_at_call 17; refine CC.mono ?_; rintro e w6 ⟨rfl, hb6⟩; have hc6 : w6.cell? ⟨pc, i * 8 + i, none⟩ = some (.bool u) := (hb6.cell (p := ⟨pc, i * 8 + i, none⟩) hpw).trans hcl)
                  all_goals (
                    have HU : Hid ((∃ i' : Nat, i' ≤ 8 ∧ Value.int .i64 ((i : Int) + 1) = .int .i64 (i' : Int) ∧ Below w5.heap.size w5 w6) ∧ 8 - ivN (.int .i64 ((i : Int) + 1)) < 8 - ivN (.int .i64 (i : Int))) :=
                      ⟨⟨i + 1, HI.out, rfl, HB.out.trans ((((Below.refl _ wr).drew).trans hb6).mono HB.out.size)⟩, by have := HI.out; simp only [ivN]; omega⟩
                    clear CC hcl hc6 hb6 hpl hpw
                    go_wp2_with fail
                    exact HU.out)
                · obtain rfl : i = 8 := by omega
                  have HB := Lib.hid hb
                  rw [show ((8 : Nat) : Int) = 8 from rfl]
                  clear hb hi hit
                  go_wp2
                  go_ret
                  exact ⟨rfl, HB5.out.trans (HB.out.mono HB5.out.size)⟩
end Go.Proofs.Ytcfibmbeojdifaa
