/- SheetTorn: for all two numbers of 16 bits and all two bytes the law answers true; no condition. -/
import Derived.Test.YtmaamneebdejhaaBeg
import Derived.Test.YtmaamneebdejhaaRow
namespace Go.Proofs.Ytmaamneebdejhaa.sheetTorn
open Go.ChangeShapes Go.WideShapes Go.ChangeAt Go.RowKit

def z120 : List Int := List.replicate 120 0
theorem rep_ok {n : Nat} {c : Int} (h0 : 0 ≤ c) (h1 : c < 256) : bytesOk (List.replicate n c) := by
  intro x hx
  rw [List.mem_replicate] at hx
  omega

theorem pads {c d : Int} {j : Nat} (hj : j < (pad ((List.replicate 120 c).take 60) ++ pad ((List.replicate 120 d).drop 60)).length) : (pad ((List.replicate 120 c).take 60) ++ pad ((List.replicate 120 d).drop 60))[j] = if j < 60 then c else d := by
  have e1 : pad ((List.replicate 120 c).take 60) = List.replicate 60 c := by simp [pad]
  have e2 : pad ((List.replicate 120 d).drop 60) = List.replicate 60 d := by simp [pad]
  simp only [e1, e2] at hj ⊢
  rw [List.getElem_append]
  simp only [List.length_replicate, List.getElem_replicate]
  split <;> rfl

set_option maxRecDepth 100000 in
set_option maxHeartbeats 2000000 in
theorem walk (w : World) (m n c d : Int) (m0 : 0 ≤ m) (m1 : m < 65536) (n0 : 0 ≤ n) (n1 : n < 65536) (c0 : 0 ≤ c) (c1 : c < 256) (d0 : 0 ≤ d) (d1 : d < 256) : Calls Try.prog 7 #[.int .u16 m, .int .u16 n, .int .u8 c, .int .u8 d] w fun e w' => e = .returned (.bool true) ∧ Below w.heap.size w w' := by
  have hz : ∀ W, (zeroValue 36).run Try.prog W = .ok (.agg (byteV (z120)).toArray) W := fun _ => by kernel_rfl
  go_enter Try.func7, Try.ntmps7
  go_wp2_with fail
  refine (begun_true w).mono ?_
  rintro e w1 ⟨rfl, hB1⟩
  go_wp2
  have bx : BlkT 36 ((w1.alloc (.cells (byteV (z120)).toArray 36)).alloc (.cells (byteV (z120)).toArray 36)) w1.heap.size (fil 120 c 0) := (Below.heap_alloc _ _ _ (by simp)).trans (heap_alloc_new _ _)
  have bY : BlkT 36 ((w1.alloc (.cells (byteV (z120)).toArray 36)).alloc (.cells (byteV (z120)).toArray 36)) (w1.heap.size + 1) (fil 120 d 0) := by
    have := heap_alloc_new (w1.alloc (.cells (byteV (z120)).toArray 36)) (.cells (byteV (z120)).toArray 36)
    rw [show (w1.alloc (.cells (byteV (z120)).toArray 36)).heap.size = w1.heap.size + 1 by simp] at this
    exact this
  have hB2 : Below w.heap.size w ((w1.alloc (.cells (byteV (z120)).toArray 36)).alloc (.cells (byteV (z120)).toArray 36)) := (hB1.alloc hB1.size _).alloc (by have := hB1.size; simp; omega) _
  have hx : w.heap.size ≤ w1.heap.size := hB1.size
  have hne : w1.heap.size + 1 ≠ w1.heap.size := by omega
  have hy : w.heap.size ≤ w1.heap.size + 1 := by omega
  generalize ((w1.alloc (.cells (byteV (z120)).toArray 36)).alloc (.cells (byteV (z120)).toArray 36)) = w2 at *
  generalize w1.heap.size + 1 = y at *
  generalize w1.heap.size = x at *
  clear hB1
  go_loopw [11] (fun i wr => ∃ k : Nat, k ≤ 120 ∧ i = .int .i64 k ∧ BlkT 36 wr x (fil 120 c k) ∧ BlkT 36 wr y (fil 120 d k) ∧ Below w.heap.size w wr) (fun i _ => 120 - (intOf i).toNat)
  case atStart => exact ⟨0, by omega, rfl, bx, bY, hB2⟩
  case round =>
    obtain ⟨k, hk, rfl, kx, ky, hbl⟩ := hrel
    by_cases hlt : k < 120
    · have e1 := kx.cell (j := k) (by rw [fil_len _ hk]; exact hlt)
      have f1 := (cell_of kx k).2
      have ky' := ky.other (g := x) (i := k) (v := .int .u8 c) hne
      have e2 := ky'.cell (j := k) (by rw [fil_len _ hk]; exact hlt)
      have f2 := (cell_of ky' k).2
      rw [fil_get _ hlt] at e1 e2
      have n1' := (kx.set k c).other (g := y) (i := k) (v := .int .u8 d) hne.symm
      have n2' := ky'.set k d
      rw [fil_set _ hlt] at n1' n2'
      have hb2 := (hbl.setCell (p := ⟨x, k, none⟩) hx (.int .u8 c)).setCell (p := ⟨y, k, none⟩) hy (.int .u8 d)
      have K1 := Lib.hid n1'
      have K2 := Lib.hid n2'
      have K3 := Lib.hid hb2
      clear n1' n2' hb2 ky' hbl
      go_wp2
      go_roundw
      case rel => exact ⟨k + 1, by omega, by go_num, K1.out, K2.out, K3.out⟩
      case measure => simp [intOf]; omega
    · obtain rfl : k = 120 := by omega
      rw [fil_all] at kx ky
      go_wp2_with fail
      have okc : bytesOk (List.replicate 120 c) := rep_ok c0 c1
      have okd : bytesOk (List.replicate 120 d) := rep_ok d0 d1
      refine (put_ok wr m m0 (by omega) _ _ ((kx.pt (by simp) (Nat.le_refl _)).slK okc) (by simp)).mono ?_
      rintro e w3 ⟨ga, gb, rfl, _, _, hb3, ka, _⟩
      have hb3' := hbl.trans (hb3.mono hbl.size)
      have ky3 := ky.old hb3 ky.lt
      clear hb3 kx ky hbl
      go_wp2_with fail
      refine (put_ok w3 n n0 (by omega) _ _ ((ky3.pt (by simp) (Nat.le_refl _)).slK okd) (by simp)).mono ?_
      rintro e w4 ⟨gp, gq, rfl, _, _, hb4, _, kq⟩
      have hb4' := hb3'.trans (hb4.mono hb3'.size)
      have ka4 := ka.old hb4 ka.lt
      clear hb4 ky3 hb3' ka
      go_wp2_with fail
      by_cases hmn : m = n
      · subst hmn
        refine (take_same w4 ka4 kq m0 (by omega) (ok_take okc _) (ok_drop okd _) (by simp) (by simp) rfl).mono ?_
        rintro e w5 ⟨g, cap, rfl, a1, a2, a3, a4, a5, hb5⟩
        have hb5' := hb4'.trans (hb5.mono hb4'.size)
        have v0 := a5 0 (by simp [pad])
        have v1 := a5 59 (by simp [pad])
        have v2 := a5 60 (by simp [pad])
        have v3 := a5 119 (by simp [pad])
        rw [pads] at v0 v1 v2 v3
        simp only [Nat.reduceLT, if_true, if_false] at v0 v1 v2 v3
        clear a5 hb5 hb4' ka4 kq
        go_wp2
        go_ret
        exact ⟨rfl, hb5'⟩
      · refine (take_unlike w4 ka4 kq m0 (by omega) n0 (by omega) (ok_take okc _) (ok_drop okd _) (by simp) (by simp) hmn).mono ?_
        rintro e w5 ⟨rfl, rfl⟩
        go_wp2
        go_ret
        exact ⟨rfl, hb4'⟩

theorem own : ownKnob Try.prog.godebug = none := by kernel_rfl
theorem laidOut : laidOutB Try.prog = true := by kernel_rfl

set_option maxRecDepth 100000 in
theorem lifted (os : Os) (started : os.Started) (H : Type) (enc : TypeId × Value → H) :
    ReturnsInHanded {} Try.checked os 7 .any (Rows.sheetTornSpec.pre6 enc Try.prog Try.f7 Rows.sheetTornRow.domain false) (Rows.sheetTornSpec.post enc Try.prog Try.f7 false true false false) := by
  refine returnsInHanded_of_change (C := Try.checked) own started (by kernel_rfl) Try.func7
    (ChangeSpec.witness6 (enc := enc) (C := Try.checked) false ⟨#[], #[.int .u16 0, .int .u16 0, .int .u8 0, .int .u8 0], []⟩ 8 (by kernel_rfl) (by kernel_rfl) (by kernel_rfl) (by kernel_rfl)) ?_
  intro W base args ds gs before hval0 hW hcnd _
  have hval : ∀ (j : Nat) t v, Try.f7.params[j]? = some t → args[j]? = some v → Value.okWide Try.prog W .any base t v := hval0
  have hW' := hW
  obtain ⟨p, q, hA0, hV, rfl, hfz, hnd⟩ := hW
  obtain ⟨rfl, rfl⟩ := trodVars_none hV
  have hA : DataW.TrodAll enc Try.prog W 0 (fun _ => true) true Try.f7.params.toList args.toList ds p := hA0
  rw [Try.params7] at hA hval
  obtain ⟨v0, vs0, d0, ds0, p0, q0, hargs, rfl, rfl, h0, r0⟩ := trodAll_cons hA
  obtain ⟨v1, vs1, d1, ds1, p1, q1, rfl, rfl, rfl, h1, r1⟩ := trodAll_cons r0
  obtain ⟨v2, vs2, d2, ds2, p2, q2, rfl, rfl, rfl, h2, r2⟩ := trodAll_cons r1
  obtain ⟨v3, vs3, d3, ds3, p3, q3, rfl, rfl, rfl, h3, r3⟩ := trodAll_cons r2
  obtain ⟨rfl, rfl, rfl⟩ := trodAll_nil r3
  obtain rfl : args = #[v0, v1, v2, v3] := by cases args; simp_all
  obtain ⟨a0, rfl, rfl, rfl, w0⟩ := open_int Try.underlying35 (hval 0 35 v0 rfl rfl) h0
  obtain ⟨a1, rfl, rfl, rfl, w1⟩ := open_int Try.underlying35 (hval 1 35 v1 rfl rfl) h1
  obtain ⟨a2, rfl, rfl, rfl, w2⟩ := open_int Try.underlying5 (hval 2 5 v2 rfl rfl) h2
  obtain ⟨a3, rfl, rfl, rfl, w3⟩ := open_int Try.underlying5 (hval 3 5 v3 rfl rfl) h3
  have b0 := bounds_u16 w0
  have b1 := bounds_u16 w1
  have b2 := bounds_u8 w2
  have b3 := bounds_u8 w3
  refine (walk W a0 a1 a2 a3 b0.1 (by omega) b1.1 (by omega) b2.1 (by omega) b3.1 (by omega)).mono fun e W' ⟨he, hg⟩ => ?_
  subst he
  exact ⟨_, rfl, law_post laidOut Try.underlying4 rfl (by rw [Try.params7]; intro t ht; simp at ht; rcases ht with rfl | rfl <;> exact ⟨by kernel_rfl, of_decide_eq_true (by kernel_rfl)⟩) rfl hW' rfl hg⟩

theorem proved : Rows.SheetTornSaid :=
  OpenClaim.holds_of_wide 7 Try.f7 rfl rfl rfl rfl rfl rfl rfl ⟨rfl, rfl, rfl, rfl, rfl⟩ rfl rfl rfl rfl rfl (by kernel_rfl) Try.func7 (by kernel_rfl)
    (of_decide_eq_true (by kernel_rfl)) (by unfold Func.isWrapper; first | (rw [if_pos (by decide +kernel)]; kernel_rfl) | (rw [if_neg (by decide +kernel)]; exact ⟨rfl, rfl⟩))
    (fun os started H enc _ => lifted os started H enc)
#print axioms proved

end Go.Proofs.Ytmaamneebdejhaa.sheetTorn
