/- SheetBytes: for every number of 32 bits and every slice of bytes the law answers true; no condition. -/
import Derived.Test.YtmaamneebdejhaaBeg
import Derived.Test.YtmaamneebdejhaaRow
namespace Go.Proofs.Ytmaamneebdejhaa.sheetBytes
open Go.ChangeShapes Go.WideShapes Go.ChangeAt Go.RowKit

theorem tile_at {w : World} {g : Nat} {n : Int} {l : List Int} (h : Blk w g (tileL n l)) {j : Nat} (hj : j < 60) (hl : l.length ≤ 60) : w.cell? ⟨g, 4 + j, none⟩ = some (.int .u8 (l.getD j 0)) ∧ w.frozen? ⟨g, 4 + j, none⟩ = false := by
  refine ⟨?_, (cell_of h _).2⟩
  have e := h.cell (j := 4 + j) (by rw [tile_len _ hl]; omega)
  rw [e]
  congr 2
  have e2 : (tileL n l)[4 + j]? = some (l.getD j 0) := by
    show (head n ++ (l ++ List.replicate (60 - l.length) 0))[4 + j]? = _
    rw [List.getElem?_append_right (by simp [head])]
    simp only [head, List.length_cons, List.length_nil, Nat.zero_add, Nat.reduceAdd, Nat.add_sub_cancel_left]
    by_cases hh : j < l.length
    · rw [List.getElem?_append_left hh, List.getD_eq_getElem?_getD, List.getElem?_eq_getElem hh]; rfl
    · rw [List.getElem?_append_right (by omega), List.getElem?_replicate, if_pos (by omega), List.getD_eq_getElem?_getD, List.getElem?_eq_none (by omega)]; rfl
  rw [List.getElem?_eq_getElem (by rw [tile_len _ hl]; omega)] at e2
  simpa using e2

theorem getD_take {l : List Int} {j : Nat} (hj : j < 60) : (l.take 60).getD j 0 = l.getD j 0 := by
  simp [List.getD_eq_getElem?_getD, hj]
theorem getD_drop (l : List Int) (j : Nat) : (l.drop 60).getD j 0 = l.getD (60 + j) 0 := by
  simp [List.getD_eq_getElem?_getD, List.getElem?_drop]

set_option maxRecDepth 100000 in
set_option maxHeartbeats 2000000 in
theorem walk (w : World) (m : Int) (m0 : 0 ≤ m) (m1 : m < 4294967296) (v : Value) (l : List Int) (h : SlK .u8 w v l) : Calls Try.prog 6 #[.int .u32 m, v] w fun e w' => e = .returned (.bool true) ∧ Below w.heap.size w w' := by
  have HK := Lib.hid h
  obtain ⟨p, cap, rfl, h1, h2, h3, h4⟩ := h
  have H3 := Lib.hid h3
  have H4 := Lib.hid h4
  clear h2 h3 h4
  go_enter Try.func6, Try.ntmps6
  go_wp2_with fail
  refine (begun_true w).mono ?_
  rintro e w1 ⟨rfl, hB1⟩
  by_cases hlen : 120 < l.length
  · go_wp2
    go_ret
    exact ⟨rfl, hB1⟩
  · go_wp2_with fail
    have n0 : 0 ≤ m % 2147483648 := by omega
    have n1 : m % 2147483648 < 2147483648 := by omega
    generalize m % 2147483648 = n at *
    refine (put_ok w1 n n0 n1 _ l (HK.out.below hB1 (Nat.le_refl _)) (by omega)).mono ?_
    rintro e w2 ⟨ga, gb, rfl, _, _, hb2, ka, kb⟩
    have hB2 := hB1.trans (hb2.mono hB1.size)
    clear hb2 hB1
    go_wp2
    go_loopw [9] (fun i wr => ∃ k : Nat, k ≤ 4 ∧ i = .int .i64 k ∧ w2 = wr) (fun i _ => 4 - (intOf i).toNat)
    case atStart => exact ⟨0, by omega, rfl, rfl⟩
    case round =>
      obtain ⟨k, hk, rfl, rfl⟩ := hrel
      by_cases hlt : k < 4
      · have e1 := (cell_of ka k).1
        have e2 := (cell_of kb k).1
        obtain rfl | rfl | rfl | rfl : k = 0 ∨ k = 1 ∨ k = 2 ∨ k = 3 := by omega
        · rw [show (byteV (tileL n (List.take 60 l))).toArray[0]? = some (.int .u8 (n / 16777216)) from rfl] at e1
          rw [show (byteV (tileL n (List.drop 60 l))).toArray[0]? = some (.int .u8 (n / 16777216)) from rfl] at e2
          go_wp2
          exact ⟨⟨1, by omega, rfl, trivial⟩, by simp [intOf]⟩
        · rw [show (byteV (tileL n (List.take 60 l))).toArray[1]? = some (.int .u8 (n / 65536 % 256)) from rfl] at e1
          rw [show (byteV (tileL n (List.drop 60 l))).toArray[1]? = some (.int .u8 (n / 65536 % 256)) from rfl] at e2
          go_wp2
          exact ⟨⟨2, by omega, rfl, trivial⟩, by simp [intOf]⟩
        · rw [show (byteV (tileL n (List.take 60 l))).toArray[2]? = some (.int .u8 (n / 256 % 256)) from rfl] at e1
          rw [show (byteV (tileL n (List.drop 60 l))).toArray[2]? = some (.int .u8 (n / 256 % 256)) from rfl] at e2
          go_wp2
          exact ⟨⟨3, by omega, rfl, trivial⟩, by simp [intOf]⟩
        · rw [show (byteV (tileL n (List.take 60 l))).toArray[3]? = some (.int .u8 (n % 256)) from rfl] at e1
          rw [show (byteV (tileL n (List.drop 60 l))).toArray[3]? = some (.int .u8 (n % 256)) from rfl] at e2
          go_wp2
          exact ⟨⟨4, by omega, rfl, trivial⟩, by simp [intOf]⟩
      · obtain rfl : k = 4 := by omega
        go_wp2
        go_loopw [11] (fun i wr => ∃ k : Nat, k ≤ 120 ∧ i = .int .i64 k ∧ w2 = wr) (fun i _ => 120 - (intOf i).toNat)
        case atStart => exact ⟨0, by omega, rfl, rfl⟩
        case round =>
          obtain ⟨k, hk, rfl, rfl⟩ := hrel
          by_cases hlt : k < 120
          · have q1 := fun j hj => tile_at (j := j) ka hj (by simp; omega)
            have q2 := fun j hj => tile_at (j := j) kb hj (by simp; omega)
            by_cases h60 : k < 60
            · have hm : (k : Int) % 60 = k := by omega
              obtain ⟨e1, f1⟩ := q1 k h60
              rw [getD_take h60] at e1
              by_cases hkl : k < l.length
              · obtain ⟨a, rfl⟩ : ∃ a, p = some a := by
                  cases p with
                  | none => have := (H3.out rfl).1; subst this; simp at hkl
                  | some a => exact ⟨a, rfl⟩
                obtain ⟨hs, hbl, hc⟩ := H4.out a rfl
                obtain ⟨b, off, asp⟩ := a
                cases hs
                have e5 := (World.cell?_of_block (hB2.block b hbl)).trans (hc k hkl)
                rw [List.getD_eq_getElem?_getD, List.getElem?_eq_getElem hkl, Option.getD_some] at e1
                clear hc
                clear q1 q2
                go_wp2
                go_roundw
                case rel => exact ⟨k + 1, by omega, by go_num, trivial⟩
                case measure => simp [intOf]; omega
              · rw [List.getD_eq_getElem?_getD, List.getElem?_eq_none (by omega), Option.getD_none] at e1
                clear q1 q2
                go_wp2
                go_roundw
                case rel => exact ⟨k + 1, by omega, by go_num, trivial⟩
                case measure => simp [intOf]; omega
            · obtain ⟨j, rfl⟩ : ∃ j, k = 60 + j := ⟨k - 60, by omega⟩
              have hm : ((60 + j : Nat) : Int) % 60 = j := by omega
              have hm2 : (60 + (j : Int)) % 60 = j := by omega
              obtain ⟨e1, f1⟩ := q1 j (by omega)
              obtain ⟨e2, f2⟩ := q2 j (by omega)
              rw [getD_drop] at e2
              by_cases hkl : 60 + j < l.length
              · obtain ⟨a, rfl⟩ : ∃ a, p = some a := by
                  cases p with
                  | none => have := (H3.out rfl).1; subst this; simp at hkl
                  | some a => exact ⟨a, rfl⟩
                obtain ⟨hs, hbl, hc⟩ := H4.out a rfl
                obtain ⟨b, off, asp⟩ := a
                cases hs
                have e5 := (World.cell?_of_block (hB2.block b hbl)).trans (hc (60 + j) hkl)
                rw [List.getD_eq_getElem?_getD, List.getElem?_eq_getElem hkl, Option.getD_some] at e2
                clear hc
                clear q1 q2
                go_wp2
                go_roundw
                case rel => exact ⟨60 + j + 1, by omega, by go_num, trivial⟩
                case measure => simp [intOf]; omega
              · rw [List.getD_eq_getElem?_getD, List.getElem?_eq_none (by omega), Option.getD_none] at e2
                clear q1 q2
                go_wp2
                go_roundw
                case rel => exact ⟨60 + j + 1, by omega, by go_num, trivial⟩
                case measure => simp [intOf]; omega
          · obtain rfl : k = 120 := by omega
            go_wp2
            go_ret
            exact ⟨rfl, hB2⟩

theorem own : ownKnob Try.prog.godebug = none := by kernel_rfl
theorem laidOut : laidOutB Try.prog = true := by kernel_rfl

set_option maxRecDepth 100000 in
theorem lifted (os : Os) (started : os.Started) (H : Type) (enc : TypeId × Value → H) :
    ReturnsInHanded {} Try.checked os 6 .any (Rows.sheetBytesSpec.pre6 enc Try.prog Try.f6 Rows.sheetBytesRow.domain false) (Rows.sheetBytesSpec.post enc Try.prog Try.f6 false true false false) := by
  refine returnsInHanded_of_change (C := Try.checked) own started (by kernel_rfl) Try.func6
    (ChangeSpec.witness6 (enc := enc) (C := Try.checked) false ⟨#[], #[.int .u32 0, .slice none 0 0], []⟩ 8 (by kernel_rfl) (by kernel_rfl) (by kernel_rfl) (by kernel_rfl)) ?_
  intro W base args ds gs before hval0 hW hcnd _
  have hval : ∀ (j : Nat) t v, Try.f6.params[j]? = some t → args[j]? = some v → Value.okWide Try.prog W .any base t v := hval0
  have hW' := hW
  obtain ⟨p, q, hA0, hV, rfl, hfz, hnd⟩ := hW
  obtain ⟨rfl, rfl⟩ := trodVars_none hV
  have hA : DataW.TrodAll enc Try.prog W 0 (fun _ => true) true Try.f6.params.toList args.toList ds p := hA0
  rw [Try.params6] at hA hval
  obtain ⟨v0, vs0, d0, ds0, p0, q0, hargs, rfl, rfl, h0, r0⟩ := trodAll_cons hA
  obtain ⟨v1, vs1, d1, ds1, p1, q1, rfl, rfl, rfl, h1, r1⟩ := trodAll_cons r0
  obtain ⟨rfl, rfl, rfl⟩ := trodAll_nil r1
  obtain rfl : args = #[v0, v1] := by cases args; simp_all
  obtain ⟨a0, rfl, rfl, rfl, w0⟩ := open_int Try.underlying32 (hval 0 32 v0 rfl rfl) h0
  have ok1 := hval 1 22 v1 rfl rfl
  have b0 := bounds_u32 w0
  obtain ⟨l, hl⟩ := open_sl Try.underlying22 Try.underlying5 (by kernel_rfl) ok1 h1
  refine (walk W a0 b0.1 (by omega) v1 l hl).mono fun e W' ⟨he, hg⟩ => ?_
  subst he
  exact ⟨_, rfl, law_post laidOut Try.underlying4 rfl (by rw [Try.params6]; intro t ht; simp at ht; rcases ht with rfl | rfl <;> exact ⟨by kernel_rfl, of_decide_eq_true (by kernel_rfl)⟩) rfl hW' rfl hg⟩

theorem proved : Rows.SheetBytesSaid :=
  OpenClaim.holds_of_wide 6 Try.f6 rfl rfl rfl rfl rfl rfl rfl ⟨rfl, rfl, rfl, rfl, rfl⟩ rfl rfl rfl rfl rfl (by kernel_rfl) Try.func6 (by kernel_rfl)
    (of_decide_eq_true (by kernel_rfl)) (by unfold Func.isWrapper; first | (rw [if_pos (by decide +kernel)]; kernel_rfl) | (rw [if_neg (by decide +kernel)]; exact ⟨rfl, rfl⟩))
    (fun os started H enc _ => lifted os started H enc)
#print axioms proved

end Go.Proofs.Ytmaamneebdejhaa.sheetBytes
