/- The lock table: Holders, Locks. -/
import Derived.Test.YtlphbnjoopaboaaDoorLkG
import Derived.Shelf.AbstractIn
namespace Go.Proofs.YtlphbnjoopaboaaDoor
open Go.RowKit Go.Maps Go.WideMaps Go.Sort Go.Shelf

theorem sortsA (m : Nat) : AnyZI.SortsIn Tryd.prog Tryd.sortedA_ren Fence.wide m :=
  ⟨fun blk off cap ss W hH hblk hsz => callsIn_wide.2 (Tryd.slices_Sort_int blk off cap ss W hH hblk hsz),
   fun p cap W => callsIn_wide.2 (Tryd.slices_Sort_int_none p cap W)⟩
theorem sortsB (m : Nat) : AnyZ.SortsIn Tryd.prog Tryd.sortedB_ren Fence.wide m :=
  ⟨fun blk off cap ss W hH hblk hsz => callsIn_wide.2 (Tryd.slices_Sort_string blk off cap ss W hH hblk hsz),
   fun p cap W => callsIn_wide.2 (Tryd.slices_Sort_string_none p cap W)⟩

set_option maxHeartbeats 1000000 in
theorem holders_raw (w : World) (p bm c : Nat) (s : ByteArray) (c0 : w.cell? ⟨p, 0, none⟩ = some (.map (some bm))) (k1 : (Instr.lookup 33 (.map (some bm)) (.string s) false).run Tryd.prog w = .ok (.map (some c)) w)
    (D0 : DataW Value) (nn : Nat) (hown : w.ownsMap Tryd.prog 3 tokR c nn D0) (hmax : size D0 ≤ maxLen) (hbytes : size D0 * 8 ≤ 140737488355328) :
    Calls Tryd.prog 8 #[.pointer (some ⟨p, 0, none⟩), .string s] w fun e w' => ∃ (v : Value) (ss : List Int), e = .returned v ∧ ss.Perm (intKeys D0) ∧
      w'.ownsRow w.heap.size 3 1 v ss.length ((ss.mergeSort (fun x y => decide (x ≤ y))).map encZ) ∧ (v = .slice none 0 0 ↔ ss = []) ∧ Below w.heap.size w w' := by
  refine (callsIn_wide (n := 6)).1 ?_
  have hbl := hown.lt
  have hseq : SeqGives Fence.wide 2 Tryd.prog 25 #[.pointer (some ⟨w.heap.size, 0, none⟩)] encZ (fun ss => ss.Perm (intKeys D0)) (size D0) (w.alloc (.cells #[.map (some c)] 45)) :=
    AnyZI.keys_gives (ρ := Tryd.keysA_ren) { Tryd.keysA with } Fence.wide _ trivial rfl (by omega) w.heap.size c nn D0 _ (by simp) (by simp) (by
      obtain ⟨es, clock, hb, Ft, hs, hD⟩ := hown
      exact ⟨es, clock, (Below.heap_alloc _ _ c hbl).trans hb, Ft, hs, hD⟩)
  have cK : ∀ mb W, CallsIn Fence.wide 5 Tryd.prog 15 #[.map mb] W fun e w' => e = .returned (.func (.func 25) #[] #[.pointer (some ⟨W.heap.size, 0, none⟩)]) ∧ w' = W.alloc (.cells #[.map mb] 45) := fun mb W => AnyZI.keys_in Tryd.keysA Fence.wide 5 trivial rfl mb W
  have cS := AnyZI.sorted_in Tryd.sortedA Fence.wide 5 trivial trivial trivial trivial rfl (by omega) (sortsA _) (enters_of Tryd.func21 (by kernel_rfl) rfl) 25 #[.pointer (some ⟨w.heap.size, 0, none⟩)] trivial (enters_of Tryd.func25 (by kernel_rfl) rfl) _ _ hmax hbytes _ hseq
  change CallsIn _ _ Tryd.prog 14 _ _ _ at cS
  have hfK : Fence.wide.fn 15 := trivial
  have hfS : Fence.wide.fn 14 := trivial
  refine callsIn_of_wp Tryd.func8 rfl trivial ?_ rfl
  simp only [Tryd.ntmps8, List.size_toArray, List.length_cons, List.length_nil, Nat.reduceAdd, Nat.reduceSub, Array.replicate_succ, Array.replicate_zero, List.push_toArray, List.append_toArray, List.nil_append, List.cons_append]
  gi_wp2_with (first
    | (gi_at_call 15; refine (cK _ _).mono ?_; rintro e w' ⟨rfl, rfl⟩)
    | (gi_at_call 14; refine cS.mono ?_; rintro e w' ⟨v, ss, rfl, hS, hrow, hnil, hb⟩))
  go_ret
  exact ⟨v, ss, rfl, hS, ownsRow_base_a hrow (by simp), hnil, ((Below.refl _ w).alloc (Nat.le_refl _) _).trans (hb.mono (by simp))⟩

theorem has_some {P : Program} {k t e b n : Nat} {w : World} {D : DataW Value} (h : w.ownsMap P k tokR b n D) (K : Keyed P k) (ht : P.underlying t = some (.map k e)) {z : Value} (hz : (zeroValue e).run P w = .ok z w) (l : Lit) : has D l = (atL D l).isSome := by
  cases hh : has D l with
  | false => unfold atL; rw [atKey_of_not_has hh]; rfl
  | true =>
    obtain ⟨es, hD, hko⟩ := h.keysOf
    subst hD
    rw [has_eq, List.any_eq_true] at hh
    obtain ⟨p, hp, hs⟩ := hh
    have e1 : p.1 = l := by
      by_cases e : p.1 = l
      · exact e
      · rw [sameKey_ne e] at hs; cases hs
    obtain ⟨v, hv⟩ := hko p hp
    rw [e1] at hv
    have h2 := (look_at h K ht hz hv).2
    rw [← h2, has_eq]
    exact (List.any_eq_true.2 ⟨p, hp, hs⟩).symm

/-- Those who hold something on s: how many they are. -/
theorem holders_any (w : World) {B p bm bn n : Nat} {M N : Lit → Lit → Option Value} {om on : Lit → Option Nat} (h : LkAt w B p bm bn n M N om on) {s : ByteArray} (hs : s.size ≤ maxLen) (hn : n ≤ 1000) {c : Nat} (ho : om (sL s) = some c) {L : List Int} (hL : L.Nodup) (hLm : ∀ x, x ∈ L ↔ (M (sL s) (iL x)).isSome = true) :
    Calls Tryd.prog 8 #[.pointer (some ⟨p, 0, none⟩), .string s] w fun e w' => ∃ pt cap, e = .returned (.slice pt L.length cap) ∧ Below w.heap.size w w' := by
  have k1 := h.m.out.look kS Tryd.underlying33 (zM1 w) (keyS hs)
  rw [ho] at k1
  simp only [Option.map_some, Option.getD_some] at k1
  obtain ⟨D, hown, hD⟩ := h.m.inn _ _ ho
  have hsz := hown.size_le
  obtain ⟨es, hE, hpw, _⟩ := hown.entries kI
  obtain ⟨es', hE', hko⟩ := hown.keysOf
  obtain rfl : es = es' := by rw [hE] at hE'; simpa using hE'
  have hperm : L.Perm (intKeys D) := by
    subst hE
    refine perm_intKeys hpw (fun p hp => by obtain ⟨v, hv⟩ := hko p hp; obtain ⟨x, _, hx, _⟩ := Maps.keyOf_i64 Tryd.underlying3 hv; exact ⟨x, hx⟩) hL fun x => ?_
    rw [hLm x, hD (iL x) trivial, ← has_some hown kI Tryd.underlying45 (zI w)]
    rfl
  refine (holders_raw w p bm c s h.c0 k1 D n hown (by unfold maxLen; omega) (by omega)).mono fun e w' ⟨v, ss, he, hp, hrow, _, hb⟩ => ?_
  obtain ⟨pt, cap, rfl⟩ := owns_slice hrow
  exact ⟨pt, cap, by rw [(hperm.trans hp.symm).length_eq]; exact he, hb⟩

set_option maxHeartbeats 1000000 in
/-- The one name on which i holds something. -/
theorem locks_one (w : World) {B p bm bn n : Nat} {M N : Lit → Lit → Option Value} {om on : Lit → Option Nat} (h : LkAt w B p bm bn n M N om on) {s : ByteArray} (hs : s.size ≤ 1000) {i : Int} (hi : (Lit.int .i64 i).wf = true) (hn : n ≤ 1000) {c : Nat} (ho : on (iL i) = some c) (hone : ∀ l, (N (iL i) l).isSome = true ↔ l = sL s) :
    Calls Tryd.prog 10 #[.pointer (some ⟨p, 0, none⟩), .int .i64 i] w fun e w' => ∃ g cap, e = .returned (.slice (some ⟨g, 0, none⟩) 1 cap) ∧ w'.cell? ⟨g, 0, none⟩ = some (.string s) ∧ Below w.heap.size w w' := by
  have k1 := h.nn.out.look kI Tryd.underlying34 (zM2 w) (keyI hi)
  rw [ho] at k1
  simp only [Option.map_some, Option.getD_some] at k1
  obtain ⟨D, hown, hD⟩ := h.nn.inn _ _ ho
  have hsz := hown.size_le
  obtain ⟨es, hE, hpw, _⟩ := hown.entries kS
  obtain ⟨es', hE', hko⟩ := hown.keysOf
  obtain rfl : es = es' := by rw [hE] at hE'; simpa using hE'
  have hperm : [s.data.toList].Perm (strKeys D) := by
    subst hE
    refine perm_strKeys hpw (fun p hp => by obtain ⟨v, hv⟩ := hko p hp; obtain ⟨x, _, hx, _⟩ := Maps.keyOf_str Tryd.underlying9 hv; exact ⟨x, hx⟩) (by simp) fun x => ?_
    rw [has_some hown kS Tryd.underlying50 (zU w), ← hD (.string x) trivial, hone]
    simp [sL]
  have c1 := h.c1
  clear h
  have hbl := hown.lt
  have hseq : SeqGives Fence.wide 2 Tryd.prog 28 #[.pointer (some ⟨w.heap.size, 0, none⟩)] encStr (fun ss => ss.Perm (strKeys D)) (size D) (w.alloc (.cells #[.map (some c)] 50)) :=
    AnyZ.keys_gives (ρ := Tryd.keysB_ren) { Tryd.keysB with } Fence.wide _ trivial rfl (by omega) w.heap.size c n D _ (by simp) (by simp) (by
      obtain ⟨es, clock, hb, Ft, hs, hD⟩ := hown
      exact ⟨es, clock, (Below.heap_alloc _ _ c hbl).trans hb, Ft, hs, hD⟩)
  have cK : ∀ mb W, CallsIn Fence.wide 5 Tryd.prog 17 #[.map mb] W fun e w' => e = .returned (.func (.func 28) #[] #[.pointer (some ⟨W.heap.size, 0, none⟩)]) ∧ w' = W.alloc (.cells #[.map mb] 50) := fun mb W => AnyZ.keys_in Tryd.keysB Fence.wide 5 trivial rfl mb W
  have cS := AnyZ.sorted_in Tryd.sortedB Fence.wide 5 trivial trivial trivial trivial rfl (by omega) (sortsB _) (enters_of Tryd.func27 (by kernel_rfl) rfl) 28 #[.pointer (some ⟨w.heap.size, 0, none⟩)] trivial (enters_of Tryd.func28 (by kernel_rfl) rfl) _ _ (by unfold maxLen; omega) (by omega) _ hseq
  change CallsIn _ _ Tryd.prog 16 _ _ _ at cS
  have cK1 := (callsIn_wide (n := 5)).1 (cK (some c) w)
  have cS1 := (callsIn_wide (n := 5)).1 cS
  have HP := Lib.hid hperm
  clear cK cS hseq hbl hperm hko hE hE' hpw hsz hown hD ho hone hi hn
  go_enter Tryd.func10, Tryd.ntmps10
  go_upto_region 4 with (first
    | (go_at_call 17; refine cK1.mono ?_; rintro e w' ⟨rfl, hw⟩; obtain rfl := hw.symm; clear hw)
    | (go_at_call 16; refine cS1.mono ?_; rintro e w1 ⟨v, ss, rfl, hS, hrow, hnil, hb⟩))
  obtain rfl : ss = [s.data.toList] := List.perm_singleton.1 (hS.trans HP.out.symm)
  rw [List.mergeSort_singleton] at hrow
  rcases hrow.2 with ⟨hn0, _⟩ | ⟨g, cap, cur, hv, hbase, hbk, h1, h2, h3, h4⟩
  · exact absurd (hnil.1 hn0) (by simp)
  simp only [List.length_singleton] at hv
  subst hv
  have hw0 : (w.alloc (.cells #[.map (some c)] 50)).heap.size = w.heap.size + 1 := by simp
  have hge : w.heap.size ≤ g := by rw [hw0] at hbase; omega
  have hb1 : Below w.heap.size w w1 := ((Below.refl _ w).alloc (Nat.le_refl _) _).trans (hb.mono (by simp))
  have hcell : w1.cell? ⟨g, 0, none⟩ = some (.string s) := by
    have := hrow.cellAt 0 (by simp)
    simpa [encStr] using this
  have hfz := hrow.frozenAt 0
  have hgl := (Array.getElem?_eq_some_iff.1 hbk).1
  have HROW := Lib.hid hrow
  have HB1 := Lib.hid hb1
  have HBK := Lib.hid hbk
  have HGE : Hid (w.heap.size ≤ g ∧ g < w1.heap.size) := ⟨hge, hgl⟩
  clear hrow hb1 hge hgl hbk h1 h2 h3 h4 hbase hw0 hb hnil hS HP cK1 cS1 c1 k1
  go_wp2_with fail
  refine wp_loop_rounds 2 ?_
  rw [rounds_succ]
  go_wp2_with (first | (go_at_call 18; refine (clone_any _ hs).mono ?_; rintro e w2 ⟨rfl, hb2⟩; have hbk2 := (hb2.block g HGE.out.2).trans HBK.out; have hc2 : w2.cell? ⟨g, 0, none⟩ = some (.string s) := (hb2.cell (p := ⟨g, 0, none⟩) HGE.out.2).trans hcell; have hf2 := (cell_of hbk2 0).2; have HB2 := Lib.hid hb2; have HBK2 := Lib.hid hbk2; clear hbk2 hb2))
  rw [rounds_succ]
  go_wp2
  go_ret
  refine ⟨g, cap, rfl, ?_, ?_⟩
  · rw [(cell_of (heap_setCell_same _ g 0 _ _ _ HBK2.out) 0).1]
    have hcur := (cell_of HBK2.out 0).1
    rw [hc2] at hcur
    have hlt : 0 < cur.size := by
      by_cases e : 0 < cur.size
      · exact e
      · rw [Array.getElem?_eq_none (by omega)] at hcur; cases hcur
    simp [hlt]
  · exact (HB1.out.trans (HB2.out.mono HB1.out.size)).grown (show w2.grownBy (w2.setCell ⟨g, 0, none⟩ (.string s)) (some g) from ⟨rfl, rfl, rfl, by simp, fun k _ hk => heap_setCell_other _ ⟨g, 0, none⟩ k _ (fun e => hk (by simp [e]))⟩) (Nat.le_trans HB1.out.size HB2.out.size) (fun k hk => by cases hk; exact HGE.out.1)
end Go.Proofs.YtlphbnjoopaboaaDoor
