/- Loose: the keys of the other map, sorted. -/
import Derived.Test.YthhnmpobkekbbaaGreatOps
import Derived.Test.YthhnmpobkekbbaaGreatShelf
namespace Go.Proofs.YthhnmpobkekbbaaGreat
open Go.RowKit Go.Maps Go.Sort Go.Shelf

theorem sortsA (m : Nat) : AnyZI.SortsIn Tryz.prog Tryz.sortedA_ren Fence.wide m :=
  ⟨fun blk off cap ss W hH hblk hsz => callsIn_wide.2 (Tryz.slices_Sort_int blk off cap ss W hH hblk hsz),
   fun p cap W => callsIn_wide.2 (Tryz.slices_Sort_int_none p cap W)⟩

set_option maxHeartbeats 1000000 in
theorem loose_raw (w : World) (p bo : Nat) (c2 : w.cell? ⟨p, 2, none⟩ = some (.map (some bo))) (D0 : DataW Value) (nn : Nat) (hown : w.ownsMap Tryz.prog 3 tokR bo nn D0) (hmax : size D0 ≤ maxLen) (hbytes : size D0 * 8 ≤ 140737488355328) :
    Calls Tryz.prog 41 #[.pointer (some ⟨p, 0, none⟩)] w fun e w' => ∃ (v : Value) (ss : List Int), e = .returned v ∧ ss.Perm (intKeys D0) ∧
      w'.ownsRow w.heap.size 3 1 v ss.length ((ss.mergeSort (fun x y => decide (x ≤ y))).map encZ) ∧ (v = .slice none 0 0 ↔ ss = []) ∧ Below w.heap.size w w' := by
  refine (callsIn_wide (n := 6)).1 ?_
  have hbl := hown.lt
  have hseq : SeqGives Fence.wide 2 Tryz.prog 90 #[.pointer (some ⟨w.heap.size, 0, none⟩)] encZ (fun ss => ss.Perm (intKeys D0)) (size D0) (w.alloc (.cells #[.map (some bo)] 71)) :=
    AnyZI.keys_gives (ρ := Tryz.keysA_ren) { Tryz.keysA with } Fence.wide _ trivial rfl (by omega) w.heap.size bo nn D0 _ (by simp) (by simp) (by
      obtain ⟨es, clock, hb, Ft, hs, hD⟩ := hown
      exact ⟨es, clock, (Below.heap_alloc _ _ bo hbl).trans hb, Ft, hs, hD⟩)
  have cK : ∀ mb W, CallsIn Fence.wide 5 Tryz.prog 69 #[.map mb] W fun e w' => e = .returned (.func (.func 90) #[] #[.pointer (some ⟨W.heap.size, 0, none⟩)]) ∧ w' = W.alloc (.cells #[.map mb] 71) := fun mb W => AnyZI.keys_in Tryz.keysA Fence.wide 5 trivial rfl mb W
  have cS := AnyZI.sorted_in Tryz.sortedA Fence.wide 5 trivial trivial trivial trivial rfl (by omega) (sortsA _) (enters_of Tryz.func89 (by kernel_rfl) rfl) 90 #[.pointer (some ⟨w.heap.size, 0, none⟩)] trivial (enters_of Tryz.func90 (by kernel_rfl) rfl) _ _ hmax hbytes _ hseq
  change CallsIn _ _ Tryz.prog 68 _ _ _ at cS
  have hfK : Fence.wide.fn 69 := trivial
  have hfS : Fence.wide.fn 68 := trivial
  refine callsIn_of_wp Tryz.func41 rfl trivial ?_ rfl
  simp only [Tryz.ntmps41, List.size_toArray, List.length_cons, List.length_nil, Nat.reduceAdd, Nat.reduceSub, Array.replicate_succ, Array.replicate_zero, List.push_toArray, List.append_toArray, List.nil_append, List.cons_append]
  gi_wp2_with (first
    | (gi_at_call 69; refine (cK _ _).mono ?_; rintro e w' ⟨rfl, rfl⟩)
    | (gi_at_call 68; refine cS.mono ?_; rintro e w' ⟨v, ss, rfl, hS, hrow, hnil, hb⟩))
  go_ret
  exact ⟨v, ss, rfl, hS, ownsRow_base_a hrow (by simp), hnil, ((Below.refl _ w).alloc (Nat.le_refl _) _).trans (hb.mono (by simp))⟩

def IsLoose (d : Dk) (ls : List Int) : Prop := ls.Pairwise (· < ·) ∧ ∀ x, x ∈ ls ↔ (d.old x).isSome = true

/-- A slice of ints, in a block from B on. -/
def IntSl (w : World) (v : Value) (ls : List Int) (B : Nat) : Prop := (v = .slice none 0 0 ∧ ls = []) ∨ ∃ gl cap, v = .slice (some ⟨gl, 0, none⟩) ls.length cap ∧ B ≤ gl ∧ ∀ j (h : j < ls.length), w.cell? ⟨gl, j, none⟩ = some (.int .i64 ls[j])

theorem loose_any (w : World) {p bn bo g : Nat} {d : Dk} (h : DiskAt w p bn bo g d) :
    Calls Tryz.prog 41 #[.pointer (some ⟨p, 0, none⟩)] w fun e w' => ∃ (v : Value) (ls : List Int), e = .returned v ∧ IsLoose d ls ∧ ls.length ≤ 2000 ∧ IntSl w' v ls w.heap.size ∧ Below w.heap.size w w' := by
  obtain ⟨D, hD, hm⟩ := h.old
  have hs := size_bound hD law3 Tryz.underlying71 Tryz.underlying3 (zeroB w) (N := 2000) (fun i hi => by
    rw [← hm i] at hi
    obtain ⟨u, hu⟩ := Option.isSome_iff_exists.1 hi
    have := h.ok.old i u hu
    have := h.ok.hi
    omega)
  have hkf := keys_facts hD law3 Tryz.underlying3
  refine (loose_raw w p bo h.c2 D _ hD (by unfold maxLen; omega) (by omega)).mono fun e w' ⟨v, ss, he, hp, hrow, _, hb⟩ => ?_
  have hpl : (ss.mergeSort (fun x y => decide (x ≤ y))).Perm (intKeys D) := (List.mergeSort_perm _ _).trans hp
  have hll : (ss.mergeSort (fun x y => decide (x ≤ y))).length = ss.length := (List.mergeSort_perm _ _).length_eq
  have hpw : (ss.mergeSort (fun x y => decide (x ≤ y))).Pairwise (fun x y => decide (x ≤ y) = true) := List.pairwise_mergeSort (fun a b c h1 h2 => by simp at *; omega) (fun a b => by simp; omega) ss
  have hnd : (ss.mergeSort (fun x y => decide (x ≤ y))).Nodup := hpl.nodup_iff.2 hkf.1
  generalize ss.mergeSort (fun x y => decide (x ≤ y)) = ls at hpl hll hpw hnd hrow
  refine ⟨v, ls, he, ⟨?_, fun x => ?_⟩, ?_, ?_, hb⟩
  · refine (hpw.and hnd).imp fun {a b} hab => ?_
    have h1 := hab.1
    have h2 := hab.2
    simp at h1
    omega
  · rw [hpl.mem_iff, hkf.2.1 x]
    constructor
    · intro hx
      have hxm : x ∈ intKeys D := (hkf.2.1 x).2 hx
      rw [hm x, ← (look_atF hD law3 Tryz.underlying71 Tryz.underlying3 (zeroB w) (intKeys_wf hD Tryz.underlying3 x hxm)).2.2]
      exact hx
    · intro hx
      obtain ⟨u, hu⟩ := Option.isSome_iff_exists.1 hx
      have h1 := h.ok.old x u hu
      have h2 := h.ok.hi
      rw [hm x] at hx
      rw [(look_atF hD law3 Tryz.underlying71 Tryz.underlying3 (zeroB w) (WalkArith.wf_i64 (by omega))).2.2]
      exact hx
  · rw [hpl.length_eq, hkf.2.2]; exact hs
  · obtain ⟨_, hr⟩ := hrow
    rw [← hll] at hr
    rcases hr with ⟨rfl, h0⟩ | ⟨gl, cap, cur, rfl, hB, hg, _, _, _, htake⟩
    · exact Or.inl ⟨rfl, List.eq_nil_of_length_eq_zero h0⟩
    · refine Or.inr ⟨gl, cap, rfl, hB, fun j hj => ?_⟩
      rw [(cell_of hg j).1]
      have e1 : (cur.toList.take (ls.length * 1))[j]? = some (.int .i64 ls[j]) := by rw [htake]; simp [encZ, hj]
      rw [List.getElem?_take, if_pos (by omega)] at e1
      simpa using e1
end Go.Proofs.YthhnmpobkekbbaaGreat
