/- The reference's done, Write, Sync. -/
import Derived.Test.YtliakndgbfbicaaRcw
namespace Go.Proofs.Ytliakndgbfbicaa
open Go.RowKit Go.Maps

def bstr (l : List Int) : ByteArray := l.foldl (fun r n => r.push (UInt8.ofNat n.toNat)) ByteArray.empty
theorem conv_slB {W : World} {v : Value} {l : List Int} {g : Nat} (h : SlB W v l g) : (convert 28 9 v).run Try.prog W = .ok (.string (bstr l)) W := by
  obtain ⟨p, len, cap, rfl, rfl, h1, h2, h3, h4⟩ := h
  rw [run_convert_bytes_string W 28 9 5 _ _ _ Try.underlying28 Try.underlying5 Try.underlying9]
  cases p with
  | none =>
    obtain rfl := h3 rfl
    rfl
  | some a =>
    refine run_bytesToString W _ _ _ l ?_
    have := run_loadCells_list (P := Try.prog) W a (byteV l) (fun j v hv => by
      have hj : j < l.length := by have := (List.getElem?_eq_some_iff.1 hv).1; simpa [byteV] using this
      obtain ⟨rfl, hs, hc⟩ := h4 a rfl (by intro e; rw [e] at hj; cases hj)
      obtain ⟨ab, ao, asp⟩ := a
      cases hs
      have h2 : (⟨ab, ao, none⟩ : Addr).add j = ⟨ab, ao + j, none⟩ := by unfold Addr.add; split <;> simp_all
      rw [h2]
      have := hc j hj
      simp only at this
      rw [this]
      simp [byteV] at hv
      obtain ⟨x, hx, rfl⟩ := hv
      rw [List.getElem?_eq_getElem hj] at hx
      cases hx
      rfl)
    simpa [byteV] using this

def Rf.put (d : Rf) (i : Nat) (s : ByteArray) : Rf := { d with now := updN d.now i s, wet := updN d.wet i true }
def Rf.less (d : Rf) : Rf := { d with at_ := d.at_ - 1 }

section
variable {w : World} {r gn gw gt gm : Nat} {vn vw vt : Value} {d : Rf}
theorem rdone_no (w : World) (r : Nat) : Calls Try.prog 27 #[.pointer (some ⟨r, 0, none⟩), .bool false] w fun e w' => e = .returned (.int .i64 0) ∧ w' = w := by
  go_enter Try.func27, Try.ntmps27
  go_wp2
  go_ret
  exact ⟨rfl, rfl⟩

theorem rdone_yes (h : RfAt w r gn gw gt gm vn vw vt d) : Calls Try.prog 27 #[.pointer (some ⟨r, 0, none⟩), .bool true] w fun e w' => e = .returned (.int .i64 2) ∧ RfAt w' r gn gw gt gm vn vw vt (d.crashed d.mask) ∧ Fr w.heap.size (Four r gn gw gt) w w' := by
  have hx : ¬ Four r gn gw gt gm := by
    obtain ⟨n1, n2, n3, n4, n5, n6, n7, n8, n9, n10⟩ := h.ne
    rintro (e | e | e | e)
    · exact n7 e
    · exact n8 e
    · exact n9 e
    · exact n10 e
  have HC := Lib.hid (rcrash h h.mask h.mok hx)
  have c6 := h.c6
  clear h hx
  go_enter Try.func27, Try.ntmps27
  go_wp2_with fail
  refine HC.out.mono ?_
  rintro e w' ⟨rfl, h1, h2⟩
  go_wp2
  go_ret
  exact ⟨rfl, h1, h2⟩

theorem RfAt.puts (h : RfAt w r gn gw gt gm vn vw vt d) (i : Nat) (s : ByteArray) : RfAt ((w.setCell ⟨gn, i, none⟩ (.string s)).setCell ⟨gt, i, none⟩ (.bool true)) r gn gw gt gm vn vw vt (d.put i s) :=
  (h.putNow (i := i) s).putWet (i := i) true
theorem RfAt.lesser (h : RfAt w r gn gw gt gm vn vw vt d) (h0 : 0 ≤ d.at_) : RfAt (w.setCell ⟨r, 5, none⟩ (.int .i64 (d.at_ - 1))) r gn gw gt gm vn vw vt d.less :=
  h.poke 5 _ rfl rfl rfl rfl rfl h.mask (fun e => by have := h.ok e; show -1 ≤ d.at_ - 1 ∧ d.at_ - 1 ≤ _; omega) h.mok

theorem rwrite_off (h : RfAt w r gn gw gt gm vn vw vt d) (ho : d.off = true) (i : Int) (sv : Value) : Calls Try.prog 8 #[.pointer (some ⟨r, 0, none⟩), .int .i64 i, sv] w fun e w' => e = .returned (.int .i64 2) ∧ w' = w := by
  have c3 := h.c3
  rw [ho] at c3
  clear h
  go_enter Try.func8, Try.ntmps8
  go_wp2
  go_ret
  exact ⟨rfl, rfl⟩

theorem rwrite_bad (h : RfAt w r gn gw gt gm vn vw vt d) (ho : d.off = false) (i : Int) (p0 : Option Addr) (len cap : Nat) (hi : ¬ (0 ≤ i ∧ i < d.k) ∨ len ≠ 64) : Calls Try.prog 8 #[.pointer (some ⟨r, 0, none⟩), .int .i64 i, .slice p0 len cap] w fun e w' => e = .returned (.int .i64 1) ∧ w' = w := by
  have c3 := h.c3
  rw [ho] at c3
  have c0 := h.c0
  obtain ⟨p, c, rfl, _, _, _⟩ := h.sn
  clear h
  go_enter Try.func8, Try.ntmps8
  by_cases a : i < 0
  · go_wp2
    go_ret
    exact ⟨rfl, rfl⟩
  · have d1 : decide (i < 0) = false := by simpa using a
    by_cases b : (d.k : Int) ≤ i
    · clear hi
      go_wp2
      go_ret
      exact ⟨rfl, rfl⟩
    · have d2 : decide ((d.k : Int) ≤ i) = false := by simpa using b
      have d3 : ¬ ((len : Int) = 64) := by omega
      clear hi
      go_wp2
      go_ret
      exact ⟨rfl, rfl⟩
end
end Go.Proofs.Ytliakndgbfbicaa
