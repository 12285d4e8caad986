/- PoolNone, a part. -/
import Derived.Test.YtljbhdldfffpfaaGreatQn35
import Derived.Test.YtljbhdldfffpfaaGreatShelf
import Derived.Test.YtljbhdldfffpfaaGreatQn21
import Derived.Maps.OwnSet
namespace Go.Proofs.YtljbhdldfffpfaaGreat.Hp
open Go.RowKit Go.Proofs.YtljbhdldfffpfaaGreat Go.Proofs.YtljbhdldfffpfaaGreat.Lf Go.Maps Go.Sort Go.Shelf

theorem sortsP (m : Nat) : AnyZI.SortsIn Tryz.prog Tryz.sortedA_ren Fence.wide m :=
  ⟨fun blk off cap ss W hH hblk hsz => callsIn_wide.2 (Tryz.slices_Sort_int blk off cap ss W hH hblk hsz),
   fun p cap W => callsIn_wide.2 (Tryz.slices_Sort_int_none p cap W)⟩
theorem keysM (w : World) (mb : Option Nat) : Calls Tryz.prog 52 #[.map mb] w fun e w' => e = .returned (.func (.func 84) #[] #[.pointer (some ⟨w.heap.size, 0, none⟩)]) ∧ w' = w.alloc (.cells #[.map mb] 100) :=
  (callsIn_wide (n := 5)).1 (AnyZI.keys_in Tryz.keysA Fence.wide 5 trivial rfl mb w)
/-- The keys of a map, ascending. -/
def LsOf (m : Int → Option Value) (ls : List Int) : Prop := ls.Pairwise (· < ·) ∧ ∀ x, x ∈ ls ↔ (m x).isSome = true
theorem sortM (w : World) {bm : Nat} {recs : Int → Option Value} (h : fm w Tryz.prog 3 bm recs) (hrec : Rec1 recs) :
    Calls Tryz.prog 51 #[.func (.func 84) #[] #[.pointer (some ⟨w.heap.size, 0, none⟩)]] (w.alloc (.cells #[.map (some bm)] 100)) fun e w' => ∃ (v : Value) (ls : List Int), e = .returned v ∧ LsOf recs ls ∧ ls.length ≤ 1000 ∧ ((v = .slice none 0 0 ∧ ls = []) ∨ ∃ gl cap, v = .slice (some ⟨gl, 0, none⟩) ls.length cap ∧ w.heap.size ≤ gl ∧ ∀ j (h : j < ls.length), w'.cell? ⟨gl, j, none⟩ = some (.int .i64 ls[j])) ∧ Below w.heap.size w w' := by
  obtain ⟨D, hD, hm⟩ := h
  have hs := size_bound hD law3 Tryz.underlying100 Tryz.underlying3 (zI w) (N := 1000) (fun i hi => by
    rw [← hm i] at hi
    obtain ⟨u, hu⟩ := Option.isSome_iff_exists.1 hi
    have := (hrec i u hu).1
    omega)
  have hkf := keys_facts hD law3 Tryz.underlying3
  have hseq : SeqGives Fence.wide 2 Tryz.prog 84 #[.pointer (some ⟨w.heap.size, 0, none⟩)] encZ (fun ss => ss.Perm (intKeys D)) (size D) (w.alloc (.cells #[.map (some bm)] 100)) :=
    AnyZI.keys_gives (ρ := Tryz.keysA_ren) { Tryz.keysA with } Fence.wide _ trivial rfl (by omega) w.heap.size bm (size D) D _ (by simp) (by simp) (by
      obtain ⟨es, clock, hb, Ft, hs, hD⟩ := hD
      exact ⟨es, clock, (Below.heap_alloc _ _ bm (Array.getElem?_eq_some_iff.1 hb).1).trans hb, Ft, hs, hD⟩)
  have cS := AnyZI.sorted_in Tryz.sortedA Fence.wide 5 trivial trivial trivial trivial rfl (by omega) (sortsP _) (enters_of Tryz.func83 (by kernel_rfl) rfl) 84 #[.pointer (some ⟨w.heap.size, 0, none⟩)] trivial (enters_of Tryz.func84 (by kernel_rfl) rfl) _ _ (by unfold maxLen; omega) (by omega) _ hseq
  change CallsIn _ _ Tryz.prog 51 _ _ _ at cS
  refine ((callsIn_wide (n := 5)).1 cS).mono ?_
  rintro e w' ⟨v, ss, rfl, hp, hrow, hnil, hb⟩
  have hpl : (ss.mergeSort (fun x y => decide (x ≤ y))).Perm (intKeys D) := (List.mergeSort_perm _ _).trans hp
  have hll : (ss.mergeSort (fun x y => decide (x ≤ y))).length = ss.length := (List.mergeSort_perm _ _).length_eq
  have hpw : (ss.mergeSort (fun x y => decide (x ≤ y))).Pairwise (fun x y => decide (x ≤ y) = true) := List.pairwise_mergeSort (fun a b c h1 h2 => by simp at *; omega) (fun a b => by simp; omega) ss
  have hnd : (ss.mergeSort (fun x y => decide (x ≤ y))).Nodup := hpl.nodup_iff.2 hkf.1
  generalize ss.mergeSort (fun x y => decide (x ≤ y)) = ls at hpl hll hpw hnd hrow
  refine ⟨v, ls, rfl, ⟨?_, fun x => ?_⟩, ?_, ?_, ((Below.refl _ w).alloc (Nat.le_refl _) _).trans (hb.mono (by simp))⟩
  · refine (hpw.and hnd).imp fun {a b} hab => ?_
    have h1 := hab.1
    have h2 := hab.2
    simp at h1
    omega
  · rw [hpl.mem_iff, hkf.2.1 x]
    constructor
    · intro hx
      have hxm : x ∈ intKeys D := (hkf.2.1 x).2 hx
      rw [hm x, ← (look_atF hD law3 Tryz.underlying100 Tryz.underlying3 (zI w) (intKeys_wf hD Tryz.underlying3 x hxm)).2.2]
      exact hx
    · intro hx
      obtain ⟨u, hu⟩ := Option.isSome_iff_exists.1 hx
      have h1 := (hrec x u hu).1
      rw [hm x] at hx
      rw [(look_atF hD law3 Tryz.underlying100 Tryz.underlying3 (zI w) (WalkArith.wf_i64 (by omega))).2.2]
      exact hx
  · rw [hpl.length_eq, hkf.2.2]; exact hs
  · obtain ⟨_, hr⟩ := hrow
    rw [← hll] at hr
    rcases hr with ⟨rfl, h0⟩ | ⟨gl, cap, cur, rfl, hB, hg, _, _, _, htake⟩
    · exact Or.inl ⟨rfl, List.eq_nil_of_length_eq_zero h0⟩
    · refine Or.inr ⟨gl, cap, rfl, Nat.le_trans (by simp) hB, fun j hj => ?_⟩
      rw [(cell_of hg j).1]
      have e1 : (cur.toList.take (ls.length * 1))[j]? = some (.int .i64 ls[j]) := by rw [htake]; simp [encZ, hj]
      rw [List.getElem?_take, if_pos (by omega)] at e1
      simpa using e1
theorem infoDt : (Tryz.prog.info? 74).map (fun i => (i.zero, i.size, i.bytes)) = some (some (.agg #[.int .i64 0, .int .i64 0]), 2, 16) := by kernel_rfl
def rcOf (m : Int → Option Value) (k : Int) : Int := match m k with | some (.int _ z) => z | _ => 0
def dtC (m : Int → Option Value) (k : Int) : List Value := [.int .i64 k, .int .i64 (rcOf m k)]
def DtRel (w : World) (p : Nat) (x : Po) (gl : Nat) (ls : List Int) (k : Nat) (v : Value) (wr : World) : Prop := PoAt wr p x ∧ (∀ j (h : j < ls.length), wr.cell? ⟨gl, j, none⟩ = some (.int .i64 ls[j])) ∧ Below w.heap.size w wr ∧ wr.ownsRow (gl + 1) 74 2 v k ((ls.take k).flatMap (dtC x.recs)) ∧ w.heap.size ≤ gl ∧ (gl < wr.heap.size ∨ ls = [])
def DtPost (w : World) (x : Po) (e : Ending) (w' : World) : Prop := ∃ A c ls, e = .returned (.slice A ls.length c) ∧ LsOf x.recs ls ∧ ls.length ≤ 1000 ∧ w'.ownsRow w.heap.size 74 2 (.slice A ls.length c) ls.length (ls.flatMap (dtC x.recs)) ∧ Below w.heap.size w w'
theorem news2 (w : World) (a b : Value) (t : TypeId) : ∀ j u, [a, b][j]? = some u → (w.alloc (.cells #[a, b] t)).cell? ((⟨w.heap.size, 0, none⟩ : Addr).add j) = some u := by
  intro j u hu
  have e2 : (⟨w.heap.size, 0, none⟩ : Addr).add j = ⟨w.heap.size, j, none⟩ := by unfold Addr.add; split <;> simp_all
  rw [e2, (cell_of (heap_alloc_new w (.cells #[a, b] t)) j).1]
  simpa using hu
theorem dt_shape {w : World} {B sz n : Nat} {e : TypeId} {v : Value} {xs : List Value} (h : w.ownsRow B e sz v n xs) : ∃ A cp, v = .slice A n cp := by
  rcases h.2 with ⟨rfl, rfl⟩ | ⟨g, cap, cur, rfl, _⟩
  · exact ⟨none, 0, rfl⟩
  · exact ⟨_, _, rfl⟩
theorem dt_mono {w : World} {B B' sz n : Nat} {e : TypeId} {v : Value} {xs : List Value} (h : w.ownsRow B e sz v n xs) (hB : B' ≤ B) : w.ownsRow B' e sz v n xs := by
  obtain ⟨h1, ⟨e, h2⟩ | ⟨g, cap, cur, e, a, r⟩⟩ := h
  · exact ⟨h1, .inl ⟨e, h2⟩⟩
  · exact ⟨h1, .inr ⟨g, cap, cur, e, Nat.le_trans hB a, r⟩⟩

set_option maxRecDepth 100000 in
set_option maxHeartbeats 2000000 in
theorem dirty_any (w : World) {p : Nat} {x : Po} (hx : PoAt w p x) (hrec : Rec1 x.recs) : Calls Tryz.prog 18 #[.pointer (some ⟨p, 0, none⟩)] w (DtPost w x) := by
  have c5 := hx.c5
  have HK := Lib.hid (keysM w (some x.bm))
  have HS := Lib.hid (sortM w hx.map hrec)
  have HX := Lib.hid hx
  have HREC := Lib.hid hrec
  clear hx hrec
  go_enter Tryz.func18, Tryz.ntmps18
  go_upto_region 4 with fail
  go_wp2_with fail
  refine HK.out.mono ?_
  rintro e w1 ⟨rfl, hw1⟩
  obtain rfl := hw1.symm
  clear hw1
  go_wp2_with fail
  refine HS.out.mono ?_
  rintro e w2 ⟨v, ls, rfl, hls, hln, hv, hb⟩
  have HLS := Lib.hid hls
  have HLN := Lib.hid hln
  have HB2 := Lib.hid hb
  have HX2 := Lib.hid (HX.out.on hb)
  clear hls hln hb HK HS c5
  rcases hv with ⟨rfl, hl0⟩ | ⟨gl, cap, rfl, hgl, hcell⟩
  · subst hl0
    go_wp2_with fail
    go_loopw [3, 15] (fun dv iv wr => dv = .slice none 0 0 ∧ iv = .int .i64 0 ∧ Hid (Below w.heap.size w wr)) (fun _ _ _ => 0)
    case atStart => exact ⟨rfl, rfl, HB2⟩
    case round =>
      obtain ⟨rfl, rfl, HB⟩ := hrel
      go_wp2
      go_ret
      exact ⟨none, 0, [], rfl, HLS.out, Nat.zero_le _, ⟨rfl, .inl ⟨rfl, rfl⟩⟩, HB.out⟩
  · have hw2 : gl < w2.heap.size ∨ ls = [] := by
      cases ls with
      | nil => exact .inr rfl
      | cons a r => exact .inl (block_lt_of_cell (hcell 0 (by simp)))
    have H0 : Hid (DtRel w p x gl ls 0 (.slice none 0 0) w2) := ⟨HX2.out, hcell, HB2.out, ⟨rfl, .inl ⟨rfl, rfl⟩⟩, hgl, hw2⟩
    clear hgl hcell hw2 HB2 HX2
    obtain ⟨ii, hi, hz0, hz1, hz2⟩ := info_parts infoDt
    have HII := Lib.hid (And.intro hi (And.intro hz0 (And.intro hz1 hz2)))
    clear hi hz0 hz1 hz2
    go_wp2_with fail
    go_loopw [3, 15] (fun dv iv wr => ∃ (k : Nat) (A : Option Addr) (c : Nat), k ≤ ls.length ∧ dv = .slice A k c ∧ iv = .int .i64 (k : Int) ∧ Hid (DtRel w p x gl ls k (.slice A k c) wr)) (fun _ iv _ => ls.length - (RowKit.intOf iv).toNat)
    case atStart => exact ⟨0, none, 0, Nat.zero_le _, rfl, rfl, H0⟩
    case round =>
      obtain ⟨k, A, c, hk, rfl, rfl, HR⟩ := hrel
      clear H0
      by_cases hlt : k < ls.length
      · obtain ⟨hx, hcl, hb, ho, hgl, hgw⟩ := HR.out
        clear HR
        have hgw : gl < wr.heap.size := hgw.resolve_right (fun e => by rw [e] at hlt; cases hlt)
        have y0 : wr.cell? ⟨gl, k, none⟩ = some (.int .i64 ls[k]) := hcl k hlt
        obtain ⟨a, ha⟩ : ∃ a, a = ls[k] := ⟨_, rfl⟩
        rw [← ha] at y0
        have hsome : (x.recs a).isSome = true := (HLS.out.2 a).1 (by rw [ha]; exact List.getElem_mem hlt)
        obtain ⟨u, hu⟩ := Option.isSome_iff_exists.1 hsome
        obtain ⟨ha1, z, rfl⟩ := HREC.out a u hu
        have hz : rcOf x.recs a = z := by unfold rcOf; rw [hu]
        have k1 := hx.map.look law3 Tryz.underlying100 Tryz.underlying3 (zI wr) (WalkArith.wf_i64 (n := a) (by omega))
        rw [hu] at k1
        simp only [Option.getD_some] at k1
        have c5 := hx.c5
        have i1 : (0 : Int) ≤ (k : Int) := by omega
        have i2 : (k : Int) < (ls.length : Int) := by omega
        have hwr : IntKind.i64.wrap ((k : Int) + 1) = (k : Int) + 1 := IntWalk.i64_in _ (by have := HLN.out; omega)
        have hba : Below wr.heap.size wr (wr.alloc (.cells #[.int .i64 a, .int .i64 z] 74)) := (Below.refl _ _).alloc (Nat.le_refl _) _
        have HXr := Lib.hid hx
        have HCL := Lib.hid hcl
        have HB := Lib.hid hb
        have HOW := Lib.hid (own_bel ho hba)
        have HGL := Lib.hid (And.intro hgl hgw)
        have HBA := Lib.hid hba
        have HLT := Lib.hid hlt
        have HTK : Hid ((ls.take (k + 1)).flatMap (dtC x.recs) = (ls.take k).flatMap (dtC x.recs) ++ [.int .i64 a, .int .i64 z]) := by
          show (ls.take (k + 1)).flatMap (dtC x.recs) = _
          rw [List.take_succ_eq_append_getElem hlt, List.flatMap_append, ← ha]
          simp [dtC, hz]
        obtain ⟨hi, hz0, hz1, hz2⟩ := HII.out
        clear hx hcl hb ho hba hgl hgw hsome hu ha hz hlt hk ha1
        go_upto_region 8 with (at_builtin; refine wpList_append_own _ rfl _ _ 52 rfl (gl + 1) 74 ii (.agg #[.int .i64 0, .int .i64 0]) 2 16 Tryz.underlying52 hi hz0 hz1 hz2 rfl (by decide) _ k _ rfl HOW.out ⟨wr.heap.size, 0, none⟩ 1 1 [.int .i64 a, .int .i64 z] rfl rfl (news2 wr _ _ _) (fun u hu => by simp at hu; rcases hu with rfl | rfl <;> rfl) (by unfold maxLen; have := HLN.out; have := HLT.out; omega) (by have := HLN.out; have := HLT.out; omega) (by have := HGL.out.2; simp; omega) ?_; intro v' w7 ho hg _)
        obtain ⟨A7, c7, rfl⟩ := dt_shape ho
        have hrow : ∀ b, (Value.slice A k c).ownBlock = some b → gl + 1 ≤ b := fun b e => (HOW.out.lt b e).1
        have hb7 : Below w.heap.size w w7 := (HB.out.trans (HBA.out.mono HB.out.size)).grown hg (Nat.le_trans HB.out.size HBA.out.size) (fun b e => by have := hrow b e; have := HGL.out.1; omega)
        have hd7 : Hid (DtRel w p x gl ls (k + 1) (.slice A7 (k + 1) c7) w7) := ⟨HX.out.on hb7, fun j hj => by
            rw [← HCL.out j hj]
            have hlt2 : gl < (wr.alloc (.cells #[.int .i64 a, .int .i64 z] 74)).heap.size := Nat.lt_of_lt_of_le HGL.out.2 HBA.out.size
            exact World.cell?_of_block ((hg.block gl hlt2 (fun e => by have := hrow gl e.symm; omega)).trans (HBA.out.block gl HGL.out.2)), hb7, by rw [HTK.out]; exact ho, HGL.out.1, .inl (Nat.lt_of_lt_of_le HGL.out.2 (Nat.le_trans HBA.out.size hg.size))⟩
        clear ho hg hrow hb7 HXr HCL HB HOW HGL HBA HTK c5 k1 y0 hi hz0 hz1 hz2
        go_wp2
        go_roundw
        case rel => exact ⟨k + 1, A7, c7, HLT.out, rfl, by go_num, hd7⟩
        case measure => simp [RowKit.intOf]; have := HLT.out; omega
      · obtain rfl : k = ls.length := by omega
        obtain ⟨hx, hcl, hb, ho, hgl, hgw⟩ := HR.out
        have i2 : ¬ (ls.length : Int) < (ls.length : Int) := by omega
        rw [List.take_length] at ho
        have HE := Lib.hid (And.intro hb (dt_mono ho (by omega : w.heap.size ≤ gl + 1)))
        clear HR hx hcl hb ho hgl hgw hlt hk
        go_wp2
        go_ret
        exact ⟨A, c, ls, rfl, HLS.out, HLN.out, HE.out.2, HE.out.1⟩
end Go.Proofs.YtljbhdldfffpfaaGreat.Hp
namespace Go.Proofs.YtljbhdldfffpfaaGreat
open Go.RowKit Go.Maps

theorem unf_nil : unf [] = none := rfl
end Go.Proofs.YtljbhdldfffpfaaGreat
namespace Go.Proofs.YtljbhdldfffpfaaGreat
open Go.RowKit Go.Maps

theorem bel_fr {w w1 w2 : World} {S : Nat → Prop} (h : Below w.heap.size w w1) (hf : Fr w1.heap.size S w1 w2) (hS : ∀ k, S k → w.heap.size ≤ k) : Below w.heap.size w w2 :=
  h.trans ⟨hf.os, hf.tape, hf.output, hf.size, fun k hk => hf.block k (Nat.lt_of_lt_of_le hk h.size) (fun e => by have := hS k e; omega)⟩
theorem TrAt.away {w w' : World} {p bm bn bo g : Nat} {t : Tr} {d : Dk} (h : LogAt w p bm t bn bo g d) (hf : Fr w.heap.size (Three t.dp bn bo) w w') : TrAt w' p bm t :=
  ⟨(hf.block p h.tr.lt.1 (fun e => h.sep p e (Or.inl rfl))).trans h.tr.bx, h.tr.mp.of_block (hf.block bm h.tr.lt.2 (fun e => h.sep bm e (Or.inr rfl))), h.tr.ok, h.tr.ne⟩
/-- A disk that is new. -/
theorem fresh_dk {w : World} {p bn bo : Nat} {n : Int} (h : DiskAt w p bn bo 0 (.fresh n)) : DkAt w p bn bo 0 (.fresh n) := ⟨h, rfl, rfl, rfl, rfl⟩
def zT : Nat → List Int := fun _ => List.replicate 64 0
theorem fresh_has (n i : Int) : (Dk.fresh n).has i (List.replicate 64 0) := ⟨zb_eq, by simp, fun x hx => by rw [List.eq_of_mem_replicate hx]; omega⟩
theorem rd_zT : ∀ K, rdL zT K 0 = []
  | 0 => rfl
  | _ + 1 => rfl
theorem opT_nil (pd : Nat) (f : Int) (K : Nat) : opT pd f K [] = ⟨pd, f, K, [], 0, 0⟩ := rfl
theorem scan_nil : scan [] = [] := scan_none unf_nil

end Go.Proofs.YtljbhdldfffpfaaGreat
namespace Go.Proofs.YtljbhdldfffpfaaGreat.Hp
open Go.RowKit Go.Proofs.YtljbhdldfffpfaaGreat Go.Proofs.YtljbhdldfffpfaaGreat.Lf Go.Maps

theorem fm_drop {P : Program} {k t e b : Nat} {m : Int → Option Value} {w : World} (h : fm w P k b m) (K : Go.Maps.Keyed P k) (ht : P.underlying t = some (.map k e)) (hk : P.underlying k = some (.int .i64)) {i : Int} (hw : (Lit.int .i64 i).wf = true) :
    ∃ w', (∀ ty, (Builtin.delete_ #[t, k] ty #[.map (some b), .int .i64 i]).run P w = .ok (.tuple #[]) w') ∧ fm w' P k b (Go.Proofs.YtljbhdldfffpfaaGreat.upd m i none) ∧ w.mapTurned w' b := by
  obtain ⟨D, hD, hm⟩ := h
  obtain ⟨w', r1, r2, r3⟩ := hD.drop K ht (keyOf_int_mk hk hw) 0
  refine ⟨w', fun ty => r1, ⟨_, owns_size r2, fun j => ?_⟩, r3⟩
  unfold Go.Proofs.YtljbhdldfffpfaaGreat.upd
  by_cases e : j = i
  · subst e
    rw [if_pos rfl]
    unfold atF
    rw [atKey_del_same]
  · rw [if_neg e, hm j]
    unfold atF
    rw [atKey_del_other (by intro h; exact e (by simpa using h))]
theorem wpList_delete_run {P : Program} {o : Oper} {ops : Array Oper} {rest : List Oper} {a : Act} {Q : Exit → Act → World → Prop} (w : World) (hg : o.guard = none) (mo x : Operand) (t k : TypeId) (hop : o.op = Op.call { callee := Callee.builtin Builtin.delete, args := #[mo, x], argTypes := #[t, k] })
    (mv key : Value) (hm : a.eval mo = mv) (hx : a.eval x = key) (w' : World) (hrun : ∀ ty, (Builtin.delete_ #[t, k] ty #[mv, key]).run P w = .ok (.tuple #[]) w')
    (hK : wpList P ops Q rest (a.put o.dst (.tuple #[])) w') : wpList P ops Q (o :: rest) a w := by
  refine wpList_plain hg fun K' hK' => ?_
  unfold Oper.wp
  simp [execOp, hop, resolve, invoke, builtin, hm, hx, hrun, Result.andThen]
  exact hK' _ _ hK
theorem wf_n {n : Nat} (h : n ≤ 1000) : (Lit.int .i64 (n : Int)).wf = true := by
  simp only [Lit.wf, Bool.and_eq_true, decide_eq_true_eq]
  have hmin : IntKind.i64.min = -9223372036854775808 := rfl
  have hmax : IntKind.i64.max = 9223372036854775807 := rfl
  omega

theorem flush_bad (w : World) {p : Nat} {x : Po} (hx : PoAt w p x) (n : Int) (hn : hasB x.pages n = false) : Calls Tryz.prog 21 #[.pointer (some ⟨p, 0, none⟩), .int .i64 n] w fun e w' => e = .returned (.int .i64 1) ∧ w' = w := by
  have hh := has_any w hx n
  rw [hn] at hh
  have HH := Lib.hid hh
  clear hh hx
  go_enter Tryz.func21, Tryz.ntmps21
  go_wp2_with (go_at_call 54; refine HH.out.mono ?_; rintro e w' ⟨rfl, hw⟩; obtain rfl := hw.symm; clear hw)
  go_ret
  exact ⟨rfl, rfl⟩
theorem flush_clean (w : World) {p : Nat} {x : Po} (hx : PoAt w p x) (n : Nat) (hn : n < x.pages) (hr : x.recs n = none) : Calls Tryz.prog 21 #[.pointer (some ⟨p, 0, none⟩), .int .i64 (n : Int)] w fun e w' => e = .returned (.int .i64 0) ∧ w' = w := by
  have hh := has_any w hx n
  rw [show hasB x.pages n = true from by unfold hasB; simp; omega] at hh
  have HH := Lib.hid hh
  have c5 := hx.c5
  have hsp := hx.sp
  have k1 := hx.map.look_ok law3 Tryz.underlying100 Tryz.underlying3 (zI w) (wf_n (by omega : n ≤ 1000))
  rw [hr] at k1
  simp only [Option.getD_none, Option.isSome_none] at k1
  clear hh hx hr hsp hn
  go_enter Tryz.func21, Tryz.ntmps21
  go_wp2_with (go_at_call 54; refine HH.out.mono ?_; rintro e w' ⟨rfl, hw⟩; obtain rfl := hw.symm; clear hw)
  go_ret
  exact ⟨rfl, rfl⟩
/-- What Force does to the disk. -/
def Fo (t : Tr) (d d1 : Dk) : Prop := (t.stable = t.count ∧ d1 = d) ∨ Done t d d1 t.tiles.toNat
theorem force2 (w : World) {q bm bn bo g : Nat} {t : Tr} {d : Dk} (h : LogAt w q bm t bn bo g d) : Calls Tryz.prog 56 #[.pointer (some ⟨q, 0, none⟩)] w fun e w' => e = .returned (.int .i64 0) ∧ ∃ d1, LogAt w' q bm { t with stable := t.count } bn bo g d1 ∧ Fo t d d1 ∧ Fr w.heap.size (Five q bm t.dp bn bo) w w' := by
  by_cases hc : t.stable = t.count
  · refine (force_no w h.tr hc).mono ?_
    rintro e w' ⟨rfl, hb⟩
    refine ⟨rfl, d, ?_, .inl ⟨hc, rfl⟩, Fr.ofB hb⟩
    rw [tr_same t hc]
    exact h.kept fun k hk => hb.block k hk
  · refine (force_any w h).mono ?_
    rintro e w' ⟨rfl, d1, h1, h2, h3⟩
    exact ⟨rfl, d1, h1, .inr (h2 hc), h3⟩
end Go.Proofs.YtljbhdldfffpfaaGreat.Hp
