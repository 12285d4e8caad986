/- UndoWhole: what stays from round to round. -/
import Derived.Test.YthcndifbegmbkaaUdQ
import Derived.ChangeKeysEq
import Derived.Deep.CutBlock
import Derived.Deep.DeepCutAuto
namespace Go.Proofs.Ythcndifbegmbkaa.Ud
open Go.RowKit

def z4 : Array Value := #[.string ⟨#[]⟩, .string ⟨#[]⟩, .string ⟨#[]⟩, .string ⟨#[]⟩]
theorem in_z4 (W : World) : (Op.equalIn 10000 37 (.agg z4) (.agg z4)).run Try.prog W = .ok true W := by
  obtain ⟨i, hi⟩ : ∃ i, Try.prog.info? 9 = some i := by
    cases h : Try.prog.info? 9 with
    | none => exact absurd (show (Try.prog.info? 9).isSome = true by kernel_rfl) (by rw [h]; simp)
    | some i => exact ⟨i, rfl⟩
  have hm : (List.range 4).mapM (fun i => Try.prog.keyLits 5 9 ((z4.toList.drop (i * Try.prog.cellsOf 9)).take (Try.prog.cellsOf 9))) = some [[.string []], [.string []], [.string []], [.string []]] := by kernel_rfl
  obtain ⟨r, hr, hiff⟩ := run_eqItems_plain W 9998 (show Try.prog.plainKey 9 = true by kernel_rfl) z4 z4 (List.range 4) _ _ hm hm
  rw [show (10000 : Nat) = 9999 + 1 from rfl, run_equalIn_array W 9999 z4 z4 Try.underlying37 hi, show (9999 : Nat) = 9998 + 1 from rfl, hr]
  have hrt := hiff.2 rfl
  rw [hrt]
theorem cV_0 (l : List Int) : cV (cst l 0) = z4 := rfl
/-- The notes behind i sets. -/
def Fw (l : List Int) (w wr : World) (gc : Nat) (nv : Value) (i : Nat) : Prop := ∃ ns : List Nt, Wh w wr gc nv (cst l i) ns ∧ ns.length = i ∧ ∀ j (h : j < ns.length), (ns[j]).1 = setE l j
/-- The notes when r sets stand still: first all n sets, then what took n, n - 1 .. r + 1 back. -/
structure Bw (l : List Int) (n : Nat) (w wr : World) (gc : Nat) (nv : Value) (r N : Nat) (ns : List Nt) : Prop where
  h : Wh w wr gc nv (cst l r) ns
  len : ns.length = N
  sets : ∀ j (h : j < ns.length), j < n → (ns[j]).1 = setE l j
  backs : ∀ j (h : j < ns.length), n ≤ j → (ns[j]).1.kind = 2 ∧ (ns[j]).1.next = ((2 * n - 1 - j : Nat) : Int)
theorem Fw.bw {l : List Int} {w wr : World} {gc : Nat} {nv : Value} {n : Nat} (h : Fw l w wr gc nv n) : ∃ ns, Bw l n w wr gc nv n n ns := by
  obtain ⟨ns, h1, h2, h3⟩ := h
  exact ⟨ns, h1, h2, fun j hj _ => h3 j hj, fun j hj hn => by omega⟩
theorem Fw.push {l : List Int} {w wr' : World} {gc : Nat} {nv' : Value} {i : Nat} {ns : List Nt} (h2 : ns.length = i) (h3 : ∀ j (h : j < ns.length), (ns[j]).1 = setE l j) {p1 p2 : Sp} (h : Wh w wr' gc nv' (cst l (i + 1)) (ns ++ [(setE l i, p1, p2)])) : Fw l w wr' gc nv' (i + 1) := by
  refine ⟨_, h, by simp [h2], fun j hj => ?_⟩
  rw [List.getElem_append]
  split
  · exact h3 j _
  · rename_i hge
    have : j = i := by simp at hj; omega
    subst this
    simp [h2]
theorem Bw.on {l : List Int} {n : Nat} {w wr wr' : World} {gc : Nat} {nv : Value} {r N : Nat} {ns : List Nt} (b : Bw l n w wr gc nv r N ns) (hb : Below wr.heap.size wr wr') : Bw l n w wr' gc nv r N ns := ⟨b.h.on hb, b.len, b.sets, b.backs⟩
theorem own_SlU {w : World} {B : Nat} {v : Value} {l : List Int} (h : w.ownsRow B 5 1 v l.length (byteV l)) (hok : bytesOk l) : SlU w v l :=
  ⟨own_slK h hok, fun a n c e => by
    subst e
    obtain ⟨cs, hc⟩ := own_ty h (b := a.block) (by obtain ⟨_, ⟨e, _⟩ | ⟨g, cap, cur, e, _⟩⟩ := h; cases e; cases e; rfl)
    exact ⟨cs, _, hc⟩⟩
/-- What is next behind the last note. -/
theorem Bw.nx {l : List Int} {n : Nat} {w wr : World} {gc : Nat} {nv : Value} {r N : Nat} {ns : List Nt} (b : Bw l n w wr gc nv r N ns) (hN : N + r = 2 * n) (hr : r ≤ n) {P : Nat} (hP : N = P + 1) (hp : P < ns.length) : nxE (ns[P]).1 (N : Int) = (r : Int) := by
  by_cases h : P < n
  · rw [b.sets P hp h]
    have : N = r := by omega
    show (if (1 : Int) = 1 then (N : Int) else _) = _
    rw [if_pos rfl, this]
  · obtain ⟨h1, h2⟩ := b.backs P hp (by omega)
    unfold nxE
    rw [if_neg (by rw [h1]; decide), if_pos h1, h2]
    congr 1
    omega
theorem Bw.push {l : List Int} {n : Nat} {w wr wr' : World} {gc : Nat} {nv nv' : Value} {R N : Nat} {ns : List Nt} (b : Bw l n w wr gc nv (R + 1) N ns) (hN : N + (R + 1) = 2 * n) {p1 p2 : Sp} {last : Int} (h : Wh w wr' gc nv' (cst l R) (ns ++ [(bkE (setE l R) last, p1, p2)])) (hr : R + 1 ≤ n) : Bw l n w wr' gc nv' R (N + 1) (ns ++ [(bkE (setE l R) last, p1, p2)]) := by
  refine ⟨h, by simp [b.len], fun j hj hn => ?_, fun j hj hn => ?_⟩
  · rw [List.getElem_append]
    split
    · exact b.sets j _ hn
    · rename_i hge
      have := b.len
      omega
  · rw [List.getElem_append]
    split
    · exact b.backs j _ hn
    · rename_i hge
      have h1 := b.len
      have : j = N := by simp at hj; omega
      subst this
      simp only [h1, Nat.sub_self, List.getElem_cons_zero]
      refine ⟨rfl, ?_⟩
      show ((R : Nat) : Int) = _
      congr 1
      omega
end Go.Proofs.Ythcndifbegmbkaa.Ud
