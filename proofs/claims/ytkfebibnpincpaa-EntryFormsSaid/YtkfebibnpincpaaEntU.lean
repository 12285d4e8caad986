/- The reader: cells. -/
import Derived.Test.YtkfebibnpincpaaEntQ
import Derived.Deep.RegionWith
namespace Go.Proofs.Ytkfebibnpincpaa
open Go.RowKit

theorem dr_len (l : List Int) (k : Nat) : (dr l k).length = l.length - k := List.length_drop
/-- What is copied out of the bytes that are left, and what is left then. -/
theorem cel_out {w : World} {l : List Int} {A : Option Addr} {c : Nat} (hp : SlK .u8 w (.slice A l.length c) l) (hn : l.length ≤ 200000) :
    ∃ A' m' c' w', (∀ ty, (Builtin.append_ #[24, 24] ty #[.slice none 0 0, .slice A l.length c]).run Try.prog w = .ok (.slice A' m' c') w') ∧ w'.ownsRow w.heap.size 5 1 (.slice A' m' c') l.length (byteV l) ∧ Below w.heap.size w w' := by
  obtain ⟨v', w', hr, ho, hg, _⟩ := run_append_sl (xs := []) (World.ownsRow_nil w w.heap.size 5 1) hp (by rw [Nat.zero_add]; exact hn) (Nat.le_refl _)
  obtain ⟨A', m', c', rfl⟩ := own_shape ho
  refine ⟨A', m', c', w', hr, by simpa using ho, ⟨hg.os, hg.tape, hg.output, hg.size, fun k hk => hg.block k hk (by simp [Value.ownBlock])⟩⟩
theorem own_set {w : World} {B p i n : Nat} {v x : Value} {xs : List Value} {e : TypeId} {sz : Nat} (h : w.ownsRow B e sz v n xs) (hp : p < B) : (w.setCell ⟨p, i, none⟩ x).ownsRow B e sz v n xs :=
  own_at h fun k hk => setCell_far _ _ _ _ (fun e => by have := (h.lt k hk).1; omega)
/-- What cell leaves. -/
def CelPost (w0 w : World) (p : Nat) (l : List Int) (e : Ending) (w' : World) : Prop := ∃ A m c sv', e = .returned (.slice A m c) ∧ w'.ownsRow w.heap.size 5 1 (.slice A m c) (celR l).1.length (byteV (celR l).1) ∧ RS w0 w' p sv' (celR l).2 ∧ Rd p w w'

set_option maxRecDepth 100000 in
set_option maxHeartbeats 1000000 in
theorem rcell_any {w0 w : World} {p : Nat} {sv : Value} {l : List Int} (h : RS w0 w p sv l) :
    Calls Try.prog 54 #[.pointer (some ⟨p, 0, none⟩)] w (CelPost w0 w p l) := by
  have hb := numR_bd h.sl.ok 1
  obtain ⟨k, hk⟩ : ∃ k : Nat, numR l 1 = (k : Int) := ⟨(numR l 1).toNat, by omega⟩
  have hk3 : k < 256 := by have := hb.2; omega
  have e1 : (celR l).1 = (dr l 1).take k := by
    show (l.drop 1).take (celN l) = (l.drop 1).take k
    unfold celN
    rw [hk, Int.toNat_natCast, ← List.take_eq_take_min]
  have e2 : (celR l).2 = dr (dr l 1) k := by
    show (l.drop 1).drop (celN l) = (l.drop 1).drop k
    unfold celN
    rw [hk, Int.toNat_natCast]
    rcases Nat.le_total k (l.drop 1).length with h | h
    · rw [Nat.min_eq_left h]
    · rw [List.drop_eq_nil_of_le h, Nat.min_eq_right h, List.drop_length]
  have HK := Lib.hid hk
  have HE1 := Lib.hid e1
  have HE2 := Lib.hid e2
  have HH := Lib.hid h
  clear hb hk e1 e2 h
  go_enter Try.func54, Try.ntmps54
  go_wp2_with fail
  refine (rnum_any HH.out 1 (by omega)).mono ?_
  rintro e w1 ⟨rfl, s1, h1, g1⟩
  rw [HK.out]
  have H1 := Lib.hid h1
  have G1 := Lib.hid g1
  clear h1 g1
  go_wp2_with fail
  refine (cut_any H1.out k (by omega)).mono ?_
  rintro e w2 ⟨A, c, s2, rfl, hm, h2, g2⟩
  have hl : ((dr l 1).take k).length ≤ k := List.length_take_le _ _
  obtain ⟨A3, m3, c3, w3, hr, ho, hb⟩ := cel_out (hm.below h2.bel h2.le) (by omega)
  have HR := Lib.hid hr
  have HO := Lib.hid ho
  have HB := Lib.hid hb
  have H2 := Lib.hid h2
  have G2 := Lib.hid g2
  clear hm h2 g2 hr ho hb hl
  generalize hmm : ((dr l 1).take k).length = n at *
  go_wp2_with (at_builtin; refine Lib.wpList_append_run _ rfl _ _ _ _ rfl _ _ rfl rfl _ _ (HR.out _) ?_)
  go_ret
  subst hmm
  refine ⟨A3, m3, c3, s2, rfl, ?_, ?_, ?_⟩
  · rw [HE1.out]
    exact HO.out.mono (Nat.le_trans G1.out.size G2.out.size)
  · rw [HE2.out]
    exact H2.out.on HB.out
  · exact G1.out.trans (G2.out.trans (Rd.of_below HB.out))
end Go.Proofs.Ytkfebibnpincpaa
