/- Pages. -/
import Derived.Test.YtmijdjlpfjfjoaaRdG
import Derived.Maps.AppendAt
namespace Go.Proofs.Ytmijdjlpfjfjoaa.Rx
open Go.RowKit Go.Shelf
attribute [local go_sem] Oper.semAt_some

/-- Thirty-two marks. -/
def mkA (F : Nat → Bool) : Array Value := ((List.range 32).map fun i => Value.bool (F i)).toArray
theorem mkA_size (F : Nat → Bool) : (mkA F).size = 32 := by simp [mkA]
theorem mkA_get (F : Nat → Bool) {k : Nat} (hk : k < 32) : (mkA F)[k]? = some (.bool (F k)) := by simp [mkA, hk]
theorem mkA_set (F : Nat → Bool) {k : Nat} : (mkA F).setIfInBounds k (.bool true) = mkA (fun i => F i || decide (k = i)) := by
  apply Array.ext
  · simp [mkA]
  · intro i h1 h2
    have hi : i < 32 := by simpa [mkA] using h2
    rw [Array.getElem_setIfInBounds (by simpa [mkA] using hi)]
    by_cases e : k = i
    · subst e; simp [mkA]
    · simp [mkA, e]
theorem infoA : (Try.prog.info? 69).map (·.size) = some 32 := by kernel_rfl
theorem infoA2 (F : Nat → Bool) : (Try.prog.info? 69).map (·.size) = some (mkA F).size := by rw [mkA_size]; exact infoA
theorem infoBo : (Try.prog.info? 4).map (·.size) = some 1 := by kernel_rfl
theorem ixA (W : World) (F : Nat → Bool) {k : Nat} (hk : k < 32) : (Instr.index 69 (.agg (mkA F)) (.int .i64 (k : Int))).run Try.prog W = .ok (.bool (F k)) W := by
  obtain ⟨i, hi, hz⟩ := Option.map_eq_some_iff.1 infoBo
  have hm := mkA_get F hk
  simp [Instr.index, isAgg, sizeOf, typeInfo, hi, hz, run_underlying Try.underlying69, run_underlying Try.underlying4, asIntOf, go_sem, hm, hk]
theorem zA : (#[.bool false, .bool false, .bool false, .bool false, .bool false, .bool false, .bool false, .bool false, .bool false, .bool false, .bool false, .bool false, .bool false, .bool false, .bool false, .bool false, .bool false, .bool false, .bool false, .bool false, .bool false, .bool false, .bool false, .bool false, .bool false, .bool false, .bool false, .bool false, .bool false, .bool false, .bool false, .bool false] : Array Value) = mkA (fun _ => false) := rfl
theorem mkA_congr {F G : Nat → Bool} (h : ∀ i, i < 32 → F i = G i) : mkA F = mkA G := by
  unfold mkA
  congr 1
  exact List.map_congr_left fun i hi => by rw [h i (List.mem_range.1 hi)]
theorem infoInt : (Try.prog.info? 3).map (fun i => (i.zero, i.size, i.bytes)) = some (some (.int .i64 0), 1, 8) := by kernel_rfl
/-- The marked ones among the first k. -/
def pk (l : List Gv) (k : Nat) : List Nat := (List.range k).filter fun n => tch l (n : Int)
theorem pk_t {l : List Gv} {k : Nat} (h : tch l (k : Int) = true) : pk l (k + 1) = pk l k ++ [k] := by simp [pk, List.range_succ, h]
theorem pk_f {l : List Gv} {k : Nat} (h : tch l (k : Int) = false) : pk l (k + 1) = pk l k := by simp [pk, List.range_succ, h]
theorem pk_len (l : List Gv) (k : Nat) : (pk l k).length ≤ k := by have := List.length_filter_le (fun n => tch l ((n : Nat) : Int)) (List.range k); rw [List.length_range] at this; exact this
theorem own_slG {w : World} {B k n : Nat} {e : TypeId} {v : Value} {xs : List Value} (h : w.ownsRow B e k v n xs) : ∃ p c, v = .slice p n c := by
  obtain ⟨h1, ⟨e, h2⟩ | ⟨q, cap, cur, e, a, b, r⟩⟩ := h
  · subst h2; exact ⟨_, _, e⟩
  · exact ⟨_, _, e⟩
theorem own_baseG {w : World} {B B' k n : Nat} {e : TypeId} {v : Value} {xs : List Value} (h : w.ownsRow B' e k v n xs) (hB : B ≤ B') : w.ownsRow B e k v n xs := by
  obtain ⟨h1, h2 | ⟨q, cap, cur, e, a, r⟩⟩ := h
  · exact ⟨h1, .inl h2⟩
  · exact ⟨h1, .inr ⟨q, cap, cur, e, Nat.le_trans hB a, r⟩⟩
theorem own_blk {w : World} {B k n : Nat} {e : TypeId} {v : Value} {xs : List Value} (h : w.ownsRow B e k v n xs) : ∀ b, v.ownBlock = some b → B ≤ b := by
  obtain ⟨h1, ⟨rfl, h2⟩ | ⟨q, cap, cur, rfl, a, r⟩⟩ := h
  · intro b hb; cases hb
  · intro b hb; cases hb; exact a
def intV (l : List Nat) : List Value := l.map fun (n : Nat) => Value.int .i64 (n : Int)

set_option maxRecDepth 100000 in
set_option maxHeartbeats 4000000 in
theorem pages_in (w : World) (e : En) (x : Ex) (hE : EnIn w e x) :
    CallsIn Fence.wide 8 Try.prog 12 #[.agg (enC e x)] w fun r w' => ∃ v, r = .returned v ∧ w'.ownsRow w.heap.size 3 1 v (pgs (tl e)).length (intV (pgs (tl e))) ∧ Below w.heap.size w w' := by
  have HE := Lib.hid hE
  clear hE
  refine callsIn_of_wp_marks Try.func12 rfl trivial ?_ rfl
  simp only [Try.ntmps12, List.size_toArray, List.length_cons, List.length_nil, Nat.reduceAdd, Nat.reduceSub, Array.replicate_succ, Array.replicate_zero, List.push_toArray, List.append_toArray, List.nil_append, List.cons_append]
  have s1 : (w.alloc (.cells (enC e x) 31)).heap.size = w.heap.size + 1 := by simp
  have hB1 : Below w.heap.size w (w.alloc (.cells (enC e x) 31)) := (Below.refl _ _).alloc (Nat.le_refl _) _
  have hB2 : Below w.heap.size w ((w.alloc (.cells (enC e x) 31)).alloc (.cells #[.bool false, .bool false, .bool false, .bool false, .bool false, .bool false, .bool false, .bool false, .bool false, .bool false, .bool false, .bool false, .bool false, .bool false, .bool false, .bool false, .bool false, .bool false, .bool false, .bool false, .bool false, .bool false, .bool false, .bool false, .bool false, .bool false, .bool false, .bool false, .bool false, .bool false, .bool false, .bool false] 69)) := hB1.alloc (by omega) _
  have hX : ((w.alloc (.cells (enC e x) 31)).alloc (.cells #[.bool false, .bool false, .bool false, .bool false, .bool false, .bool false, .bool false, .bool false, .bool false, .bool false, .bool false, .bool false, .bool false, .bool false, .bool false, .bool false, .bool false, .bool false, .bool false, .bool false, .bool false, .bool false, .bool false, .bool false, .bool false, .bool false, .bool false, .bool false, .bool false, .bool false, .bool false, .bool false] 69)).heap[w.heap.size]? = some (.cells (enC e x) 31 (0, 0)) := (Below.heap_alloc _ _ _ (by omega)).trans (heap_alloc_new w _)
  have hA : ((w.alloc (.cells (enC e x) 31)).alloc (.cells #[.bool false, .bool false, .bool false, .bool false, .bool false, .bool false, .bool false, .bool false, .bool false, .bool false, .bool false, .bool false, .bool false, .bool false, .bool false, .bool false, .bool false, .bool false, .bool false, .bool false, .bool false, .bool false, .bool false, .bool false, .bool false, .bool false, .bool false, .bool false, .bool false, .bool false, .bool false, .bool false] 69)).heap[w.heap.size + 1]? = some (.cells (mkA fun _ => false) 69 (0, 0)) := by
    have := heap_alloc_new (w.alloc (.cells (enC e x) 31)) (.cells #[.bool false, .bool false, .bool false, .bool false, .bool false, .bool false, .bool false, .bool false, .bool false, .bool false, .bool false, .bool false, .bool false, .bool false, .bool false, .bool false, .bool false, .bool false, .bool false, .bool false, .bool false, .bool false, .bool false, .bool false, .bool false, .bool false, .bool false, .bool false, .bool false, .bool false, .bool false, .bool false] 69)
    rwa [s1, zA] at this
  have hS2 : ((w.alloc (.cells (enC e x) 31)).alloc (.cells #[.bool false, .bool false, .bool false, .bool false, .bool false, .bool false, .bool false, .bool false, .bool false, .bool false, .bool false, .bool false, .bool false, .bool false, .bool false, .bool false, .bool false, .bool false, .bool false, .bool false, .bool false, .bool false, .bool false, .bool false, .bool false, .bool false, .bool false, .bool false, .bool false, .bool false, .bool false, .bool false] 69)).heap.size = w.heap.size + 2 := by simp
  have HX := Lib.hid hX
  have H2 := Lib.hid (And.intro hB2 (And.intro hA hS2))
  have HI := Lib.hid (infoE2 e x)
  clear s1 hB1 hB2 hX hA hS2
  gi_wp2_with (first
    | (with_reducible refine wpListIn_load_row rfl 31 (.tmp 1) rfl w.heap.size rfl 31 _ (0, 0) _ HX.out Try.underlying31 rfl HI.out ?_)
    | (refine ⟨trivial, ?_⟩; gi_at_call 23; refine (touched_in _ _ _ _).mono ?_; rintro r w1 ⟨rfl, rfl⟩))
  obtain ⟨hB2, hA, hS2⟩ := H2.out
  generalize ((w.alloc (.cells (enC e x) 31)).alloc (.cells #[.bool false, .bool false, .bool false, .bool false, .bool false, .bool false, .bool false, .bool false, .bool false, .bool false, .bool false, .bool false, .bool false, .bool false, .bool false, .bool false, .bool false, .bool false, .bool false, .bool false, .bool false, .bool false, .bool false, .bool false, .bool false, .bool false, .bool false, .bool false, .bool false, .bool false, .bool false, .bool false] 69)) = w2 at *
  clear H2 HX HI
  have hXb : Bx (w2.alloc (enO e x)) w2.heap.size e x := ⟨heap_alloc_new w2 _⟩
  have hB3 : Below w.heap.size w (w2.alloc (enO e x)) := hB2.alloc (by omega) _
  have hS3 : (w2.alloc (enO e x)).heap.size = w.heap.size + 3 := by simp [hS2]
  have hA3 : (w2.alloc (enO e x)).heap[w.heap.size + 1]? = some (.cells (mkA fun _ => false) 69 (0, 0)) := (Below.heap_alloc _ _ _ (by omega)).trans hA
  rw [show clo (w.heap.size + 1 + 1) = .func (.func 29) #[] #[.pointer (some ⟨w2.heap.size, 0, none⟩)] from by rw [hS2]; rfl]
  generalize w2.alloc (enO e x) = w3 at *
  generalize w2.heap.size = b at *
  clear hB2 hA
  have HS := Lib.hid (And.intro hS2 hS3)
  clear hS2 hS3
  refine wpIn_range_tells rfl (by omega) (gf := 29) (lb := #[.pointer (some ⟨b, 0, none⟩)]) rfl trivial (enters_of Try.func29 (by kernel_rfl) rfl)
    (touched_tells _ (by omega) b e x w w3 HE.out hB3 hXb) Kp.trans (fun W l o' hl => Kp.book (by have := HS.out; omega) (by have := HS.out; omega) hl) (fun _ => rfl)
    (fun pre W => W.heap[w.heap.size + 1]? = some (.cells (mkA fun i => tch (tls pre) (i : Int)) 69 (0, 0)) ∧ Below w.heap.size w W ∧ w.heap.size + 3 ≤ W.heap.size)
    (fun _ _ _ => False)
    (OwnFrom.and (Own.from (obj_own _ _ _) _) (OwnFrom.and (ownFrom_below (Nat.le_refl _) (by have := HS.out; omega)) (own_size _ _)))
    (fun c => fun _ _ _ _ h _ _ => h)
    ⟨hA3, hB3, by have := HS.out; omega⟩
    (fun t a' W => ∃ Bv, w.heap.size + 2 < Bv ∧ BoxR W Bv t.p t.c ∧ a' = { tmps := #[.agg (enC e x), .pointer (some ⟨w.heap.size, 0, none⟩), .slice none 0 0, .pointer (some ⟨w.heap.size + 1, 0, none⟩), .pointer (some ⟨Bv, 0, none⟩), undef, undef, undef, .agg (enC e x), .func (.func 29) #[] #[.pointer (some ⟨b, 0, none⟩)], .agg #[.int .i64 t.p, .int .i64 t.c], .slice t.A t.l.length t.k, undef, undef, undef, undef, undef, undef, undef, undef, undef, undef, undef, undef, undef, undef, undef, undef, undef, undef, undef, undef, undef, undef, undef], defers := [] })
    (fun t a' _ X Y row hs hg hr => by obtain ⟨Bv, h1, h2, h3⟩ := hs; exact ⟨Bv, h1, obj_own Bv (fun (_ : Unit) => #[.int .i64 t.p, .int .i64 t.c]) 25 () X Y row h2 hg (fun r e => (hr r e).2), h3⟩)
    ?assign ?body ?done ?stop
  case assign =>
    rintro l pre t W K ⟨hA2, hB2, hZ2⟩ _ hK
    unfold encT
    gi_wp2
    have hal := fun o => (Below.refl W.heap.size W).alloc (Nat.le_refl _) o
    exact hK _ _ ((KeepsOthers.alloc _ _).from _) (Kp.of_below (hal _) hB2.size (by have := HS.out; omega)) ⟨((hal _).block _ (by omega)).trans hA2, hB2.alloc hB2.size _, by simp; omega⟩ ⟨W.heap.size, by omega, heap_alloc_new _ _, rfl⟩
  case body =>
    rintro l pre t a' W hl ⟨hA2, hB2, hZ2⟩ ⟨Bv, hBv, bX, rfl⟩
    obtain ⟨p, hp⟩ : ∃ p : Int, p = t.p := ⟨_, rfl⟩
    rw [← hp] at bX ⊢
    have x0 := (cell_of bX 0).1
    have x0' : W.cell? ⟨Bv, 0, none⟩ = some (.int .i64 p) := x0
    have H2 := Lib.hid (And.intro hA2 (And.intro hB2 hZ2))
    have HP := Lib.hid hp
    have HG := Lib.hid (tls_snoc pre t)
    clear hp hB2 hZ2 bX hBv x0
    by_cases h0 : 0 ≤ p
    · by_cases h4 : p < 32
      · obtain ⟨i, rfl⟩ : ∃ i : Nat, p = (i : Int) := ⟨p.toNat, by omega⟩
        have hi : i < 32 := by omega
        have x4 : W.cell? ⟨w.heap.size + 1, i, none⟩ = some (.bool (tch (tls pre) (i : Int))) := (cell_of hA2 i).1.trans (mkA_get _ hi)
        have f4 : W.frozen? ⟨w.heap.size + 1, i, none⟩ = false := (cell_of hA2 i).2
        clear hA2
        gi_wp2
        obtain ⟨hA2, hB2, hZ2⟩ := H2.out
        refine ⟨(KeepsOthers.setCell _ _ _).from _, ⟨(Below.refl _ _).setCell (p := ⟨w.heap.size + 1, i, none⟩) (by show w.heap.size ≤ w.heap.size + 1; omega) _, Below.heap_setCell _ _ _ _ (by have := HS.out; show b ≠ w.heap.size + 1; omega)⟩, ?_, hB2.setCell (p := ⟨w.heap.size + 1, i, none⟩) (by show w.heap.size ≤ w.heap.size + 1; omega) _, by simp; omega⟩
        rw [heap_setCell_same W (w.heap.size + 1) i _ _ _ hA2, mkA_set _, HG.out]
        rw [mkA_congr (G := fun j => tch (tls pre ++ [t.t]) (j : Int)) fun j _ => by
          rw [tch_snoc]
          show (_ || _) = (_ || decide (t.p = (j : Int)))
          rw [← HP.out]
          congr 1
          exact decide_eq_decide.2 ⟨fun h => by rw [h], fun h => by omega⟩]
      · clear hA2
        gi_wp2
        obtain ⟨hA2, hB2, hZ2⟩ := H2.out
        refine ⟨KeepsFrom.of_below (Below.refl _ _), Kp.refl _ _ _, ?_, hB2, hZ2⟩
        rw [HG.out]
        rw [mkA_congr (G := fun j => tch (tls pre) (j : Int)) fun j hj => by
          rw [tch_snoc]
          show (_ || decide (t.p = (j : Int))) = _
          rw [← HP.out, decide_eq_false (by omega), Bool.or_false]]
        exact hA2
    · clear hA2
      gi_wp2
      obtain ⟨hA2, hB2, hZ2⟩ := H2.out
      refine ⟨KeepsFrom.of_below (Below.refl _ _), Kp.refl _ _ _, ?_, hB2, hZ2⟩
      rw [HG.out]
      rw [mkA_congr (G := fun j => tch (tls pre) (j : Int)) fun j hj => by
          rw [tch_snoc]
          show (_ || decide (t.p = (j : Int))) = _
          rw [← HP.out, decide_eq_false (by omega), Bool.or_false]]
      exact hA2
  case done =>
    rintro D ys W hD hys ⟨hA2, hB2, hZ2⟩ hK
    rw [hys] at hA2
    obtain ⟨ii, hii, hy0, hy1, hy2⟩ := info_parts infoInt
    have HXA := Lib.hid hA2
    have HIA := Lib.hid (infoA2 fun i => tch (tl e) (i : Int))
    have H2 := Lib.hid (And.intro hB2 (And.intro hZ2 (And.intro hD hK)))
    clear hA2 hB2 hZ2 hD hK hys
    gi_wp2_with (with_reducible refine wpListIn_load_row rfl 69 (.tmp 3) rfl (w.heap.size + 1) rfl 69 _ (0, 0) _ HXA.out Try.underlying69 rfl HIA.out ?_)
    clear HXA HIA
    gi_loopw [5, 24] (fun v i wr => Hid (∃ k : Nat, k ≤ 32 ∧ i = .int .i64 (k : Int) ∧ wr.ownsRow W.heap.size 3 1 v (pk (tl e) k).length (intV (pk (tl e) k)) ∧ Below W.heap.size W wr ∧ Below w.heap.size w wr)) (fun _ i _ => 32 - (RowKit.intOf i).toNat)
    case atStart => exact ⟨0, by omega, rfl, World.ownsRow_nil _ _ _ _, Below.refl _ _, H2.out.1⟩
    case round =>
      obtain ⟨k, hk, rfl, ho, hb, hbw⟩ := hrel.out
      clear hrel
      by_cases hlt : k < 32
      · have ix := ixA wr (fun i => tch (tl e) (i : Int)) hlt
        cases hq : tch (tl e) (k : Int) with
        | true =>
          obtain ⟨A, c, rfl⟩ := own_slG ho
          simp only [hq] at ix
          have HO := Lib.hid ho
          have HB := Lib.hid (And.intro hb hbw)
          have HL := Lib.hid (pk_len (tl e) k)
          have HT := Lib.hid (pk_t hq)
          have hsz := hb.size
          clear ho hb hbw hq
          gi_wp2_with (gi_at_builtin; refine wpListIn_append_own _ rfl _ _ 40 rfl W.heap.size 3 ii (.int .i64 0) 1 8 Try.underlying40 hii hy0 hy1 hy2 rfl (by decide) _ _ _ rfl (HO.out.alloc _) ⟨wr.heap.size, 0, none⟩ 1 1 [.int .i64 (k : Int)] rfl rfl (cell_one_new _ _ _) (by simp [Value.oneCell']) (by have := HL.out; unfold maxLen; omega) (by have := HL.out; omega) (by simp; omega) ?_; intro v' w5 ho5 hg5 _; obtain ⟨A5, c5, rfl⟩ := own_slG ho5)
          have H5 : Hid (w5.ownsRow W.heap.size 3 1 (.slice A5 ((pk (tl e) k).length + 1) c5) (pk (tl e) (k + 1)).length (intV (pk (tl e) (k + 1))) ∧ Below W.heap.size W w5 ∧ Below w.heap.size w w5) := by
            have hal : Below wr.heap.size wr (wr.alloc (.cells #[.int .i64 (k : Int)] 3)) := (Below.refl _ _).alloc (Nat.le_refl _) _
            have hb1 : Below W.heap.size wr (wr.alloc (.cells #[.int .i64 (k : Int)] 3)) := hal.mono HB.out.1.size
            have hg6 : (wr.alloc (.cells #[.int .i64 (k : Int)] 3)).grownBy w5 (Value.slice A (pk (tl e) k).length c).ownBlock := hg5
            have hb2 := HB.out.1.trans (hb1.grown hg6 (Nat.le_trans hsz hal.size) (fun b e => own_blk HO.out b e))
            have hz := H2.out.1.size
            refine ⟨?_, hb2, H2.out.1.trans (hb2.mono hz)⟩
            rw [HT.out, List.length_append]
            show w5.ownsRow _ _ _ _ ((pk (tl e) k).length + 1) (intV (pk (tl e) k ++ [k]))
            rw [show intV (pk (tl e) k ++ [k]) = intV (pk (tl e) k) ++ [.int .i64 (k : Int)] by simp [intV]]
            exact ho5
          clear ho5 hg5 ix
          gi_wp2
          go_roundw
          case rel => exact ⟨k + 1, by omega, by go_num, H5.out⟩
          case measure => simp [RowKit.intOf]; omega
        | false =>
          simp only [hq] at ix
          have HO := Lib.hid (show wr.ownsRow W.heap.size 3 1 _ (pk (tl e) (k + 1)).length (intV (pk (tl e) (k + 1))) by rw [pk_f hq]; exact ho)
          have HB := Lib.hid (And.intro hb hbw)
          clear ho hb hbw hq
          gi_wp2
          go_roundw
          case rel => exact ⟨k + 1, by omega, by go_num, HO.out, HB.out⟩
          case measure => simp [RowKit.intOf]; omega
      · obtain rfl : k = 32 := by omega
        have HO := Lib.hid ho
        have HB := Lib.hid (And.intro hb hbw)
        clear ho hb hbw
        gi_wp2
        obtain ⟨hB2, hZ2, hD, hK⟩ := H2.out
        have hK2 := (HB.out.1.block D (Array.getElem?_eq_some_iff.1 hK).1).trans hK
        refine ⟨by simp, .inl ⟨_, _, rfl, run_takeDeferred hK2, ?_⟩⟩
        exact ⟨_, results_tmp rfl _ _ _, _, rfl, own_baseG (ownsRow_putObj HO.out _ hK2 rfl) hB2.size, HB.out.2.trans (belowK_b (w := w) (Nat.le_refl _) wr D _ (.deferred none) (by have := HS.out; omega) hK2 rfl rfl)⟩
  case stop =>
    rintro D c pre W hD hSp hF hK
    exact hF.elim
end Go.Proofs.Ytmijdjlpfjfjoaa.Rx
