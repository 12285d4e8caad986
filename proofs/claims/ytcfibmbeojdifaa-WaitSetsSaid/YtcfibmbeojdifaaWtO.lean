/- The graph in memory: On. -/
import Derived.Test.YtcfibmbeojdifaaWtS
import Derived.Test.YtcfibmbeojdifaaShelf
import Derived.Lib.SlKeysI
import Derived.Shelf.AbstractIn
namespace Go.Proofs.Ytcfibmbeojdifaa
open Go.RowKit Go.Maps Go.WideMaps Go.Sort Go.Shelf

def intV (l : List Int) : List Value := l.map (Value.int .i64)
def SlR (w : World) (B : Nat) (v : Value) (L : List Int) : Prop := w.ownsRow B 3 1 v L.length (intV L)
theorem SlR.shape {w : World} {B : Nat} {v : Value} {L : List Int} (h : SlR w B v L) : (L = [] ∧ v = .slice none 0 0) ∨ ∃ g cap cur, v = .slice (some ⟨g, 0, none⟩) L.length cap ∧ B ≤ g ∧ g < w.heap.size ∧ w.heap[g]? = some (.cells cur 3 (0, 0)) ∧ ∀ j (hj : j < L.length), cur[j]? = some (.int .i64 L[j]) := by
  rcases h.2 with ⟨h1, h0⟩ | ⟨g, cap, cur, hv, hbase, hbk, h1, h2, h3, h4⟩
  · exact Or.inl ⟨List.eq_nil_of_length_eq_zero h0, h1⟩
  · refine Or.inr ⟨g, cap, cur, hv, hbase, (Array.getElem?_eq_some_iff.1 hbk).1, hbk, fun j hj => ?_⟩
    have e : (cur.toList.take (L.length * 1))[j]? = some (.int .i64 L[j]) := by
      rw [h4]
      simp only [intV, List.getElem?_map, List.getElem?_eq_getElem hj]
      rfl
    rw [List.getElem?_take, if_pos (by omega)] at e
    simpa using e
theorem SlR.rd {w : World} {B : Nat} {v : Value} {L : List Int} (h : SlR w B v L) : RdI w v L := by
  rcases h.shape with ⟨rfl, rfl⟩ | ⟨g, cap, cur, rfl, _, hg, hbk, hc⟩
  · exact rdI_nil w none 0
  · refine ⟨_, _, rfl, fun j hj => ⟨g, 0, rfl, hg, ?_⟩⟩
    rw [Nat.zero_add, (cell_of hbk j).1]
    exact hc j hj
theorem SlR.form {w : World} {B : Nat} {v : Value} {L : List Int} (h : SlR w B v L) : ∃ A c, v = .slice A L.length c := by
  obtain ⟨A, c, h, _⟩ := h.rd
  exact ⟨A, c, h⟩

theorem sortsA (m : Nat) : AnyZI.SortsIn Try.prog Try.sortedA_ren Fence.wide m :=
  ⟨fun blk off cap ss W hH hblk hsz => callsIn_wide.2 (Try.slices_Sort_int blk off cap ss W hH hblk hsz),
   fun p cap W => callsIn_wide.2 (Try.slices_Sort_int_none p cap W)⟩

set_option maxHeartbeats 1000000 in
theorem on_raw (w : World) (p b : Nat) (o : Option Nat) (x : Int) (c0 : w.cell? ⟨p, 0, none⟩ = some (.map (some b))) (k1 : (Instr.lookup 48 (.map (some b)) (.int .i64 x) false).run Try.prog w = .ok (.map o) w)
    (S : List Int → Prop) (N : Nat) (hmax : N ≤ maxLen) (hbytes : N * 8 ≤ 140737488355328)
    (hseq : SeqGives Fence.wide 2 Try.prog 25 #[.pointer (some ⟨w.heap.size, 0, none⟩)] encZ S N (w.alloc (.cells #[.map o] 52))) :
    Calls Try.prog 15 #[.pointer (some ⟨p, 0, none⟩), .int .i64 x] w fun e w' => ∃ (v : Value) (ss : List Int), e = .returned v ∧ S ss ∧
      w'.ownsRow w.heap.size 3 1 v ss.length ((ss.mergeSort (fun x y => decide (x ≤ y))).map encZ) ∧ Below w.heap.size w w' := by
  have cK : ∀ mb W, CallsIn Fence.wide 5 Try.prog 21 #[.map mb] W fun e w' => e = .returned (.func (.func 25) #[] #[.pointer (some ⟨W.heap.size, 0, none⟩)]) ∧ w' = W.alloc (.cells #[.map mb] 52) := fun mb W => AnyZI.keys_in Try.keysA Fence.wide 5 trivial rfl mb W
  have cS := AnyZI.sorted_in Try.sortedA Fence.wide 5 trivial trivial trivial trivial rfl (by omega) (sortsA _) (enters_of Try.func24 (by kernel_rfl) rfl) 25 #[.pointer (some ⟨w.heap.size, 0, none⟩)] trivial (enters_of Try.func25 (by kernel_rfl) rfl) _ _ hmax hbytes _ hseq
  change CallsIn _ _ Try.prog 20 _ _ _ at cS
  have cK1 := (callsIn_wide (n := 5)).1 (cK o w)
  have cS1 := (callsIn_wide (n := 5)).1 cS
  clear cK cS hseq hmax hbytes
  go_enter Try.func15, Try.ntmps15
  go_wp2_with (first
    | (go_at_call 21; refine cK1.mono ?_; rintro e w' ⟨rfl, hw⟩; obtain rfl := hw.symm; clear hw)
    | (go_at_call 20; refine cS1.mono ?_; rintro e w1 ⟨v, ss, rfl, hS, hrow, hnil, hb⟩))
  go_ret
  exact ⟨v, ss, rfl, hS, ownsRow_base_a hrow (by simp), ((Below.refl _ w).alloc (Nat.le_refl _) _).trans (hb.mono (by simp))⟩

theorem has_some {P : Program} {k t e b n : Nat} {w : World} {D : DataW Value} (h : w.ownsMap P k tokR b n D) (K : Keyed P k) (ht : P.underlying t = some (.map k e)) {z : Value} (hz : (zeroValue e).run P w = .ok z w) (l : Lit) : has D l = (atL D l).isSome := by
  cases hh : has D l with
  | false => unfold atL; rw [atKey_of_not_has hh]; rfl
  | true =>
    obtain ⟨es, hD, hko⟩ := h.keysOf
    subst hD
    rw [has_eq, List.any_eq_true] at hh
    obtain ⟨p, hp, hs⟩ := hh
    have e1 : p.1 = l := by
      by_cases e : p.1 = l
      · exact e
      · rw [sameKey_ne e] at hs; cases hs
    obtain ⟨v, hv⟩ := hko p hp
    rw [e1] at hv
    have h2 := (look_at h K ht hz hv).2
    rw [← h2, has_eq]
    exact (List.any_eq_true.2 ⟨p, hp, hs⟩).symm

/-- What comes sorted is the row. -/
theorem sorted_row {es : List (Int × Int)} {x : Int} {ss : List Int} (hp : (rowL es x).Perm ss) : ss.mergeSort (fun x y => decide (x ≤ y)) = rowL es x := by
  have hr := rowL_row es x
  have hq := List.mergeSort_perm ss fun x y => decide (x ≤ y)
  have hpw : (ss.mergeSort (fun x y => decide (x ≤ y))).Pairwise (fun x y => decide (x ≤ y) = true) := List.pairwise_mergeSort (fun a b c h1 h2 => by simp at *; omega) (fun a b => by simp; omega) ss
  have hnd := (hq.trans hp.symm).nodup_iff.2 hr.nodup
  refine rising_eq ((hpw.and hnd).imp fun {a b} hab => ?_) hr.up fun y => (hq.trans hp.symm).mem_iff
  have h1 := hab.1
  have h2 := hab.2
  simp at h1
  omega

theorem on_any (w : World) {B p b n : Nat} {es : List (Int × Int)} {ob : Lit → Option Nat} (h : GrAt w B p b n es ob) (hn : n < 100000) {x : Int} (hx : Wf x) :
    Calls Try.prog 15 #[.pointer (some ⟨p, 0, none⟩), .int .i64 x] w fun e w' => ∃ v, e = .returned v ∧ SlR w' w.heap.size v (rowL es x) ∧ Below w.heap.size w w' := by
  have k1 := h.look hx
  cases ho : ob (iL x) with
  | none =>
    rw [ho] at k1
    refine (on_raw w p b none x h.c0 k1 (fun ss => ss = []) 0 (Nat.zero_le _) (by omega) (AnyZI.keys_gives_nil { Try.keysA with } Fence.wide _ trivial rfl w.heap.size _ (by simp) (by simp))).mono fun e w' ⟨v, ss, he, hs, hrow, hb⟩ => ?_
    subst hs
    have e0 : rowL es x = [] := by
      refine List.eq_nil_iff_forall_not_mem.2 fun y hy => ?_
      have := gF_in (((rowL_row es x).iff y).1 hy)
      rw [h.m.non _ ho] at this
      cases this
    refine ⟨v, he, ?_, hb⟩
    rw [e0]
    simp only [List.mergeSort_nil] at hrow
    exact hrow
  | some c =>
    rw [ho] at k1
    obtain ⟨D, hown, hD⟩ := h.m.inn _ _ ho
    have hsz := hown.size_le
    have hbl := hown.lt
    obtain ⟨fs, hE, hpw, _⟩ := hown.entries kI
    obtain ⟨fs', hE', hko⟩ := hown.keysOf
    obtain rfl : fs = fs' := by rw [hE] at hE'; simpa using hE'
    have hperm : (rowL es x).Perm (intKeys D) := by
      subst hE
      refine perm_intKeys hpw (fun p hp => by obtain ⟨v, hv⟩ := hko p hp; obtain ⟨x, _, hx, _⟩ := Maps.keyOf_i64 Try.underlying3 hv; exact ⟨x, hx⟩) (rowL_row es x).nodup fun y => ?_
      rw [has_some hown kI Try.underlying52 (zU w), ← hD (.int .i64 y) trivial, (rowL_row es x).iff y]
      exact gF_iff.symm
    have hseq : SeqGives Fence.wide 2 Try.prog 25 #[.pointer (some ⟨w.heap.size, 0, none⟩)] encZ (fun ss => ss.Perm (intKeys D)) (size D) (w.alloc (.cells #[.map (some c)] 52)) :=
      AnyZI.keys_gives (ρ := Try.keysA_ren) { Try.keysA with } Fence.wide _ trivial rfl (by omega) w.heap.size c n D _ (by simp) (by simp) (by
        obtain ⟨es, clock, hb, Ft, hs, hD⟩ := hown
        exact ⟨es, clock, (Below.heap_alloc _ _ c hbl).trans hb, Ft, hs, hD⟩)
    refine (on_raw w p b (some c) x h.c0 k1 _ _ (by unfold maxLen; omega) (by omega) hseq).mono fun e w' ⟨v, ss, he, hs, hrow, hb⟩ => ?_
    have hp2 := hperm.trans hs.symm
    refine ⟨v, he, ?_, hb⟩
    unfold SlR
    rw [hp2.length_eq, ← sorted_row hp2]
    exact hrow
end Go.Proofs.Ytcfibmbeojdifaa
