/- Text as bytes in new memory; one more note at the end of a row. -/
import Derived.Test.YthcndifbegmbkaaUdP
import Derived.Lib.ConvBytes
import Derived.Lib.SlKeysI
import Derived.Maps.AppendAt
namespace Go.Proofs.Ythcndifbegmbkaa.Ud
open Go.RowKit

theorem bstr_data (l : List Int) : (bstr l).data.toList = l.map (fun n => UInt8.ofNat n.toNat) := by
  have h := bstr_list l ByteArray.empty
  unfold bstr
  rw [h]
  simp
theorem bstr_sz (l : List Int) : (bstr l).size = l.length := by
  have h := congrArg List.length (bstr_data l)
  have e : (bstr l).data.toList.length = (bstr l).size := Array.length_toList
  rw [e, List.length_map] at h
  exact h
theorem below_bytes {B : Nat} {w : World} (hB : B ≤ w.heap.size) (e : TypeId) (s : ByteArray) : Below B w (Lib.bytesWorld w e s) :=
  ⟨rfl, rfl, rfl, by rw [Lib.bytesWorld_size]; omega, fun k hk => Lib.bytesWorld_at_old w e s k (by omega)⟩
theorem conv_new (W : World) {l : List Int} (hok : bytesOk l) : ∃ q W', (convert 9 24 (.string (bstr l))).run Try.prog W = .ok (.slice (some ⟨W.heap.size, 0, none⟩) l.length q) W' ∧ SlU W' (.slice (some ⟨W.heap.size, 0, none⟩) l.length q) l ∧ Below W.heap.size W W' := by
  have h := Lib.run_convert_string_bytes (P := Try.prog) W 9 24 5 (bstr l) Try.underlying9 Try.underlying24 Try.underlying5
  rw [bstr_sz] at h
  refine ⟨_, _, h, ⟨⟨some ⟨W.heap.size, 0, none⟩, _, rfl, grownCap_ge _ _ _ _, fun x hx => ?_, (fun e => by cases e), fun a ha => ?_⟩, fun a n c e => ?_⟩, below_bytes (Nat.le_refl _) _ _⟩
  · have := hok x hx
    simp only [Lit.wf, Bool.and_eq_true, decide_eq_true_eq]
    have hmin : IntKind.u8.min = 0 := rfl
    have hmax : IntKind.u8.max = 255 := rfl
    omega
  · cases ha
    refine ⟨rfl, by rw [Lib.bytesWorld_size]; exact Nat.lt_succ_self _, fun j hj => ?_⟩
    show (Lib.bytesWorld W 5 (bstr l)).cell? ⟨W.heap.size, 0 + j, none⟩ = _
    rw [Nat.zero_add, Lib.bytesWorld_cell W 5 (bstr l) j (by rw [bstr_sz]; exact hj), bstr_data]
    have hx := hok l[j] (List.getElem_mem hj)
    rw [List.getD_eq_getElem?_getD, List.getElem?_map, List.getElem?_eq_getElem hj]
    simp only [Option.map_some, Option.getD_some, UInt8.toNat_ofNat']
    rw [Nat.mod_eq_of_lt (by omega)]
    congr 2
    omega
  · cases e
    exact ⟨_, _, Lib.bytesWorld_at_new W 5 (bstr l)⟩
theorem one_new (W : World) {x : Int} (hx : 0 ≤ x ∧ x < 256) : SlU (W.alloc (.cells #[.int .u8 x] 5)) (.slice (some ⟨W.heap.size, 0, none⟩) 1 1) [x] :=
  ⟨(Blk.pt (l := [x]) (blk_new W [x]) rfl (Nat.le_refl _)).slK (fun y hy => by obtain rfl := List.mem_singleton.1 hy; exact hx), fun a n c e => by cases e; exact ⟨_, _, heap_alloc_new W _⟩⟩
theorem infoEn : (Try.prog.info? 30).map (fun i => (i.zero, i.size, i.bytes)) = some (some (.agg zE), 16, 224) := by kernel_rfl
/-- One note appended. -/
theorem push_any {w wr0 : World} {gc : Nat} {nv : Value} {c : Nat → List Int} {ns : List Nt} (h : Wh w wr0 gc nv c ns) (x : Nt) (hx : x.1.kind = 1 → SlU wr0 (s1V x) x.1.old) (hn : ns.length ≤ 1000) :
    ∃ A q wr', (Builtin.append_ #[38, 38] 38 #[nv, .slice (some ⟨wr0.heap.size, 0, none⟩) 1 1]).run Try.prog (wr0.alloc (.cells (ntC x) 30)) = .ok (.slice A (ns.length + 1) q) wr' ∧ Wh w wr' gc (.slice A (ns.length + 1) q) c (ns ++ [x]) ∧ (∀ (b : Nat) cs t fr, wr0.heap[b]? = some (.cells cs t fr) → b < w.heap.size ∨ ¬ nv.ownBlock = some b → wr'.heap[b]? = some (.cells cs t fr)) ∧ ∀ v l, SlU wr0 v l → SlU wr' v l := by
  have hb : Below wr0.heap.size wr0 (wr0.alloc (.cells (ntC x) 30)) := (Below.refl _ _).alloc (Nat.le_refl _) _
  have h' := h.on hb
  obtain ⟨i, hi, hz0, hz1, hz2⟩ := info_parts infoEn
  obtain ⟨v', wr', hr, ho, hg, -, -⟩ := run_append_own_at (P := Try.prog) (wr0.alloc (.cells (ntC x) 30)) w.heap.size 38 38 30 i (.agg zE) 16 224 Try.underlying38 hi hz0 hz1 hz2 rfl (by decide) nv ns.length (ns.flatMap ntV) h'.own ⟨wr0.heap.size, 0, none⟩ 1 1 (ntV x) (ntV_len x) (fun j u hu => by
    have e2 : (⟨wr0.heap.size, 0, none⟩ : Addr).add j = ⟨wr0.heap.size, j, none⟩ := by unfold Addr.add; split <;> simp_all
    rw [e2, (cell_of (heap_alloc_new wr0 (.cells (ntC x) 30)) j).1, ← Array.getElem?_toList]
    exact hu) (ntV_one x) (by unfold maxLen; omega) (by omega) h'.low.size
  obtain ⟨A, m, q, rfl⟩ := own_shape ho
  obtain rfl := own_n ho
  refine ⟨A, q, wr', hr, h'.push x ho hg (fun hk => (hx hk).on hb), fun b cs t fr hc hor => ?_, fun v l hs => (hs.on hb).keep hg.size (fun b cs fr hc => hg.block b (Array.getElem?_eq_some_iff.1 hc).1 (fun e => ?_))⟩
  · have hlt : b < wr0.heap.size := (Array.getElem?_eq_some_iff.1 hc).1
    rw [hg.block b (Nat.lt_of_lt_of_le hlt hb.size) (fun e => ?_), hb.block b hlt, hc]
    rcases hor with hor | hor
    · have := (h'.own.lt b e.symm).1
      omega
    · exact hor e.symm
  · obtain ⟨cs', hc'⟩ := own_ty h'.own e.symm
    exact ty_ne hc hc' (by decide) rfl
end Go.Proofs.Ythcndifbegmbkaa.Ud
