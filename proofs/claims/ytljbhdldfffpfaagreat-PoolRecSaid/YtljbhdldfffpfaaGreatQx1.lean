/- PoolRec, a part. -/
import Derived.Test.YtljbhdldfffpfaaGreatQn38
import Derived.WalkKit
import Derived.ProofKit
import Derived.OpenShut
import Derived.Below
import Derived.Carry
import Derived.WalkSpells
import Derived.Lib.Hide
import Derived.Lib.AppendZerosOnto
import Derived.Lib.SliceRun
import Derived.Laws.CopyOwn
import Derived.Laws.BytesString
import Derived.OwnWalk
import Derived.Deep.LoopGhost
import Derived.Deep.DeepCutAuto
import Derived.Deep.RegionWith
import Derived.BigQuiet
import Derived.Laws.Rows
import Derived.Deep.Onto
import Derived.Deep.CutBlock
namespace Go.Proofs.YtljbhdldfffpfaaGreat
open Go.ChangeShapes Go.WideShapes Go.ChangeAt Go.RowKit
variable {H : Type} {enc : TypeId × Value → H} {P : Program}
theorem slice_ok {t e : TypeId} {w : World} {b : Nat} {a : Addr} {len cap : Nat} (ht : P.underlying t = some (.slice e)) (hok : Value.okWide P w .any b t (.slice (some a) len cap)) : a.spot = none ∧ a.block < w.heap.size := by
  simp only [Value.okWide, ht, Cell.okWide, Cell.ok, World.has] at hok
  obtain ⟨_, _, _, hs, row, cells, hsh, _⟩ := hok
  refine ⟨hs, ?_⟩
  unfold World.shape? at hsh
  cases hh : w.heap[a.block]? with
  | none => rw [hh] at hsh; cases hsh
  | some o => exact (Array.getElem?_eq_some_iff.1 hh).1
theorem open_sl {t e : TypeId} {q : IntKind} {w : World} {base : Nat} {v : Value} {d : DataW H} {ps : List MemPlace} {b : Nat} {sp : Nat → Bool} {held : Bool} (ht : P.underlying t = some (.slice e)) (he : P.underlying e = some (.int q)) (hc : P.cellsOf e = 1)
    (hok : Value.okWide P w .any b t v) (h : DataW.Trod enc P w base sp held t v d ps) : ∃ l, SlK q w v l := by
  obtain ⟨a0, len, cap, rfl⟩ := okWide_slice ht hok
  obtain ⟨fuel, hf⟩ := h
  rcases open_ints ht he hc hf with ⟨hcs, _⟩ | ⟨a, len', cap', zs, hcs, _, hl, _, hz, _, hcell, hwz⟩
  · simp [Value.cells] at hcs
    obtain ⟨rfl, rfl, rfl⟩ := hcs
    exact ⟨[], none, 0, rfl, by simp, by simp, (fun _ => ⟨rfl, rfl⟩), (fun a e => by cases e)⟩
  · simp [Value.cells] at hcs
    obtain ⟨rfl, rfl, rfl⟩ := hcs
    obtain ⟨hs, hbl⟩ := slice_ok ht hok
    have hle : len ≤ zs.length := by rw [hz]; split <;> omega
    have hlen : (zs.take len).length = len := by simp; omega
    refine ⟨zs.take len, some a, cap, by rw [hlen], by rw [hlen]; exact hl, fun x hx => hwz x (List.mem_of_mem_take hx), (fun e => by cases e), fun b e => ?_⟩
    cases e
    refine ⟨hs, hbl, fun j hj => ?_⟩
    have h1 := hcell j (by omega)
    have h2 : a.add j = ⟨a.block, a.off + j, none⟩ := by
      obtain ⟨ab, ao, asp⟩ := a
      cases hs
      unfold Addr.add
      split
      · rename_i e; subst e; rfl
      · rfl
    rw [h2] at h1
    rw [h1]
    simp [List.getD_eq_getElem?_getD, show j < zs.length by omega]
end Go.Proofs.YtljbhdldfffpfaaGreat
namespace Go.Proofs.YtljbhdldfffpfaaGreat
open Go.RowKit
theorem blk_new (w : World) (l : List Int) : Blk (w.alloc (.cells (byteV l).toArray 5)) w.heap.size l := heap_alloc_new w _
end Go.Proofs.YtljbhdldfffpfaaGreat
namespace Go.Proofs.YtljbhdldfffpfaaGreat
open Go.RowKit
open Go.RowKit
open Go.RowKit
set_option maxRecDepth 100000 in
set_option maxHeartbeats 1000000 in
theorem put_any (w : World) (e : Ent) {s1 s2 s3 s4 s5 s6 : Value} (hs : EntS w s1 s2 s3 s4 s5 s6 e) (hi : EntI e) :
    Calls Tryz.prog 75 #[.agg (entC e s1 s2 s3 s4 s5 s6)] w fun r w' => ∃ A m c, r = .returned (.slice A m c) ∧ w'.ownsRow w.heap.size 5 1 (.slice A m c) (putL e).length (byteV (putL e)) ∧ Below w.heap.size w w' := by
  obtain ⟨A1, c1, A2, c2, A3, c3, A4, c4, A5, c5, A6, c6, rfl, rfl, rfl, rfl, rfl, rfl⟩ := hs.form
  obtain ⟨W, hW⟩ : ∃ W, W = w.alloc (entO e (.slice A1 e.old.length c1) (.slice A2 e.new.length c2) (.slice A3 e.moves.length c3) (.slice A4 e.lives.length c4) (.slice A5 e.dirty.length c5) (.slice A6 e.opens.length c6)) := ⟨_, rfl⟩
  have hb0 : Below w.heap.size w W := by rw [hW]; exact (Below.refl _ _).alloc (Nat.le_refl _) _
  have hsz : w.heap.size ≤ W.heap.size := hb0.size
  have HBX : Hid (W.heap[w.heap.size]? = some (.cells (entC e (.slice A1 e.old.length c1) (.slice A2 e.new.length c2) (.slice A3 e.moves.length c3) (.slice A4 e.lives.length c4) (.slice A5 e.dirty.length c5) (.slice A6 e.opens.length c6)) 55 (0, 0))) := by
    rw [hW]; exact heap_alloc_new w _
  have HS := Lib.hid (hs.below hb0 (Nat.le_refl _))
  have HI := Lib.hid hi
  have HB0 := Lib.hid hb0
  have HSZ := Lib.hid hsz
  clear hs hi hb0 hsz
  show Calls _ _ #[.agg #[.int .i64 e.kind, .int .i64 e.txn, .int .i64 e.unit, .int .i64 e.half, .int .i64 e.prev, .int .i64 e.next, .int .i64 e.ap, .int .i64 e.ac, .int .i64 e.tp, .int .i64 e.tc, _, _, _, _, _, _]] _ _
  go_enter Tryz.func75, Tryz.ntmps75
  go_upto_region 1 with (fail)
  show Code.wp _ _ _ _ (w.alloc (entO e (.slice A1 e.old.length c1) (.slice A2 e.new.length c2) (.slice A3 e.moves.length c3) (.slice A4 e.lives.length c4) (.slice A5 e.dirty.length c5) (.slice A6 e.opens.length c6)))
  rw [← hW]
  clear hW
  go_wp2_with (with_reducible refine wpList_load_row rfl 55 (.tmp 1) rfl w.heap.size rfl 55 _ (0, 0) _ HBX.out Tryz.underlying55 rfl (infoEntC ..) ?_)
  refine (encode_any W e HS.out HI.out).mono ?_
  rintro r w3 ⟨A, m, c, rfl, ho, hb⟩
  have HO := Lib.hid ho
  have HB := Lib.hid hb
  clear ho hb
  go_wp2
  go_ret
  exact ⟨A, m, c, rfl, HO.out.mono HSZ.out, HB0.out.trans (HB.out.mono HSZ.out)⟩
end Go.Proofs.YtljbhdldfffpfaaGreat
namespace Go.Proofs.YtljbhdldfffpfaaGreat
open Go.RowKit
open Go.RowKit
open Go.RowKit
open Go.RowKit Go.Maps
open Go.RowKit Go.Maps
theorem t_entL_ge {e : Ent} (h : entB e = true) : 21 ≤ (entL e).length := by
  simp only [entB, Bool.and_eq_true] at h
  obtain ⟨⟨⟨⟨⟨⟨⟨⟨⟨⟨⟨⟨⟨⟨hk, h1⟩, h2⟩, h3⟩, h4⟩, h5⟩, h6⟩, h7⟩, h9⟩, ho⟩, hn⟩, hm⟩, hl⟩, hd⟩, hp⟩ := h
  have l1 : ∀ {α : Type} {f : α → List Int} {xs : List α} {B : α → Bool}, lstB B xs = true → 1 ≤ (lstL f xs).length := fun hb => by
    simp only [lstB, Bool.and_eq_true, decide_eq_true_eq] at hb
    unfold lstL
    rw [if_pos hb.1, List.length_append, numL_len]
    omega
  have c1 : ∀ {c : List Int}, celOk c = true → 1 ≤ (celL c).length := fun hb => by
    unfold celL
    rw [if_pos hb, List.length_append, numL_len]
    omega
  have := l1 (f := mvL) hm; have := l1 (f := lvL) hl; have := l1 (f := dtL) hd; have := l1 (f := opL) hp; have := c1 ho; have := c1 hn
  unfold entL plL
  simp only [List.length_append, numL_len]
  omega
theorem t_flat_le {α : Type} {f : α → List Int} {N : Nat} (xs : List α) (h : ∀ x ∈ xs, (f x).length ≤ N) : (xs.flatMap f).length ≤ xs.length * N := by
  induction xs with
  | nil => simp
  | cons x t ih =>
    have a := h x (List.mem_cons_self ..)
    have b := ih fun y hy => h y (List.mem_cons_of_mem _ hy)
    rw [List.flatMap_cons, List.length_append, List.length_cons, Nat.add_mul]
    omega
theorem t_lst_le {α : Type} {f : α → List Int} {B : α → Bool} {N : Nat} {xs : List α} (hb : lstB B xs = true) (h : ∀ x, B x = true → (f x).length ≤ N) : (lstL f xs).length ≤ 1 + 40 * N := by
  simp only [lstB, Bool.and_eq_true, decide_eq_true_eq, List.all_eq_true] at hb
  unfold lstL
  rw [if_pos hb.1, List.length_append, numL_len]
  have := t_flat_le xs fun x hx => h x (hb.2 x hx)
  have := Nat.mul_le_mul_right N hb.1
  omega
theorem t_entL_le {e : Ent} (h : entB e = true) : (entL e).length ≤ 10000 := by
  simp only [entB, Bool.and_eq_true] at h
  obtain ⟨⟨⟨⟨⟨⟨⟨⟨⟨⟨⟨⟨⟨⟨hk, h1⟩, h2⟩, h3⟩, h4⟩, h5⟩, h6⟩, h7⟩, h9⟩, ho⟩, hn⟩, hm⟩, hl⟩, hd⟩, hp⟩ := h
  have c1 : ∀ {c : List Int}, celOk c = true → (celL c).length ≤ 27 := fun hb => by
    unfold celL
    rw [if_pos hb, List.length_append, numL_len]
    simp only [celOk, Bool.or_eq_true, decide_eq_true_eq] at hb
    omega
  have := c1 ho
  have := c1 hn
  have := t_lst_le (f := mvL) (N := 4) hm fun x _ => by simp [mvL, plL, numL_len]
  have := t_lst_le (f := lvL) (N := 8) hl fun x _ => by simp [lvL, numL_len]
  have := t_lst_le (f := dtL) (N := 4) hd fun x _ => by simp [dtL, numL_len]
  have := t_lst_le (f := opL) (N := 164) hp fun x hx => by
    simp only [opB, Bool.and_eq_true] at hx
    have := t_lst_le (f := mvL) (N := 4) hx.2 fun x _ => by simp [mvL, plL, numL_len]
    unfold opL
    simp only [List.length_append, numL_len]
    omega
  unfold entL plL
  simp only [List.length_append, numL_len]
  omega
set_option maxRecDepth 100000 in
theorem left_any (w : World) {p bm : Nat} {t : Tr} (h : TrAt w p bm t) : Calls Tryz.prog 46 #[.pointer (some ⟨p, 0, none⟩)] w fun e w' => e = .returned (.int .i64 (t.tiles * 63 - t.S.length)) ∧ Below w.heap.size w w' := by
  have h0 := h.ok.t0
  have h1 := h.ok.t1
  have h2 := h.ok.len
  have x2 : w.drew.cell? ⟨p, 2, none⟩ = some (.int .i64 t.tiles) := h.c 2
  have x4 : w.drew.cell? ⟨p, 4, none⟩ = some (.int .i64 t.S.length) := h.c 4
  obtain ⟨n, hn⟩ : ∃ n : Int, n = t.S.length := ⟨_, rfl⟩
  obtain ⟨k, hk⟩ : ∃ k : Int, k = t.tiles := ⟨_, rfl⟩
  rw [← hn] at x4 h2 ⊢
  rw [← hk] at x2 h0 h1 h2 ⊢
  have hn0 : 0 ≤ n := by omega
  have t1 : IntKind.i64.wrap (k * 63) = k * 63 := IntWalk.i64_in _ (by omega)
  have t2 : IntKind.i64.wrap (k * 63 - n) = k * 63 - n := IntWalk.i64_in _ (by omega)
  clear hn hk
  go_enter Tryz.func46, Tryz.ntmps46
  go_wp2
  go_region
  all_goals go_wp2
  all_goals go_ret
  all_goals exact ⟨rfl, (Below.refl _ _).drew⟩
end Go.Proofs.YtljbhdldfffpfaaGreat
namespace Go.Proofs.YtljbhdldfffpfaaGreat
open Go.RowKit
/-- The frame of a body. -/
def frB (b : List Int) : List Int := [((b.length / 256 : Nat) : Int), ((b.length % 256 : Nat) : Int)] ++ b ++ [(sumP b).1, (sumP b).2]
def frL (e : Ent) : List Int := if entB e = true then frB (entL e) else []
theorem frB_len (b : List Int) : (frB b).length = b.length + 4 := by unfold frB; simp
theorem frB_ok {b : List Int} (h : bytesOk b) (hl : b.length < 65536) : bytesOk (frB b) := by
  intro x hx
  unfold frB at hx
  have hp := sumP_bd b
  rcases List.mem_append.1 hx with hx | hx
  · rcases List.mem_append.1 hx with hx | hx
    · simp at hx
      rcases hx with rfl | rfl <;> omega
    · exact h x hx
  · simp at hx
    rcases hx with rfl | rfl <;> omega
theorem frL_yes {e : Ent} (h : entB e = true) : frL e = frB (entL e) := if_pos h
theorem frL_no {e : Ent} (h : entB e = false) : frL e = [] := by unfold frL; rw [h]; rfl
set_option maxRecDepth 100000 in
set_option maxHeartbeats 1000000 in
theorem frame_any (w : World) (e : Ent) {s1 s2 s3 s4 s5 s6 : Value} (hs : EntS w s1 s2 s3 s4 s5 s6 e) (hi : EntI e) :
    Calls Tryz.prog 45 #[.agg (entC e s1 s2 s3 s4 s5 s6)] w fun r w' => ∃ A m c, r = .returned (.slice A m c) ∧ w'.ownsRow w.heap.size 5 1 (.slice A m c) (frL e).length (byteV (frL e)) ∧ Below w.heap.size w w' := by
  obtain ⟨A1, c1, A2, c2, A3, c3, A4, c4, A5, c5, A6, c6, rfl, rfl, rfl, rfl, rfl, rfl⟩ := hs.form
  obtain ⟨W, hW⟩ : ∃ W, W = w.alloc (entO e (.slice A1 e.old.length c1) (.slice A2 e.new.length c2) (.slice A3 e.moves.length c3) (.slice A4 e.lives.length c4) (.slice A5 e.dirty.length c5) (.slice A6 e.opens.length c6)) := ⟨_, rfl⟩
  have hb0 : Below w.heap.size w W := by rw [hW]; exact (Below.refl _ _).alloc (Nat.le_refl _) _
  have hsz : w.heap.size ≤ W.heap.size := hb0.size
  have HBX : Hid (W.heap[w.heap.size]? = some (.cells (entC e (.slice A1 e.old.length c1) (.slice A2 e.new.length c2) (.slice A3 e.moves.length c3) (.slice A4 e.lives.length c4) (.slice A5 e.dirty.length c5) (.slice A6 e.opens.length c6)) 55 (0, 0))) := by
    rw [hW]; exact heap_alloc_new w _
  have HZI := Lib.hid (infoEntC e (.slice A1 e.old.length c1) (.slice A2 e.new.length c2) (.slice A3 e.moves.length c3) (.slice A4 e.lives.length c4) (.slice A5 e.dirty.length c5) (.slice A6 e.opens.length c6))
  have HP := Lib.hid (put_any W e (hs.below hb0 (Nat.le_refl _)) hi)
  have HOK := Lib.hid (fun h : entB e = true => (show bytesOk (putL e) by rw [putL_yes h]; exact entL_okE hs.old.ok hs.new.ok))
  have HB0 := Lib.hid hb0
  have HSZ := Lib.hid hsz
  show Calls _ _ #[.agg #[.int .i64 e.kind, .int .i64 e.txn, .int .i64 e.unit, .int .i64 e.half, .int .i64 e.prev, .int .i64 e.next, .int .i64 e.ap, .int .i64 e.ac, .int .i64 e.tp, .int .i64 e.tc, _, _, _, _, _, _]] _ _
  clear hs hi hb0 hsz
  go_enter Tryz.func45, Tryz.ntmps45
  go_upto_region 1 with (fail)
  show Code.wp _ _ _ _ (w.alloc (entO e (.slice A1 e.old.length c1) (.slice A2 e.new.length c2) (.slice A3 e.moves.length c3) (.slice A4 e.lives.length c4) (.slice A5 e.dirty.length c5) (.slice A6 e.opens.length c6)))
  rw [← hW]
  clear hW
  go_wp2_with (with_reducible refine wpList_load_row rfl 55 (.tmp 1) rfl w.heap.size rfl 55 _ (0, 0) _ HBX.out Tryz.underlying55 rfl HZI.out ?_)
  refine HP.out.mono ?_
  rintro r w2 ⟨A, m, c, rfl, ho, hb2⟩
  have hm := own_n ho
  cases hB : entB e with
  | false =>
    rw [putL_no hB] at hm
    have HFR := Lib.hid (frL_no hB)
    have hb := HB0.out.trans (hb2.mono HSZ.out)
    have HB2 := Lib.hid hb
    subst hm
    clear ho hb hb2
    go_wp2
    go_ret
    exact ⟨none, 0, 0, rfl, by rw [HFR.out]; exact World.ownsRow_nil _ _ _ _, HB2.out⟩
  | true =>
    have hok := HOK.out hB
    have hfr := frL_yes hB
    rw [putL_yes hB] at ho hok hm
    have hge := t_entL_ge hB
    have hle := t_entL_le hB
    obtain ⟨L, hL⟩ : ∃ L, L = entL e := ⟨_, rfl⟩
    rw [← hL] at ho hok hge hle hm hfr
    have HFR := Lib.hid hfr
    clear hfr
    subst hm
    have hsl : SlK .u8 w2 (.slice A L.length c) L := own_slK ho hok
    have HSL := Lib.hid hsl
    have HB2 := Lib.hid (HB0.out.trans (hb2.mono HSZ.out))
    have HS := Lib.hid (sums_any w2 hsl (by omega))
    have hb := sumP_bd L
    clear ho hok hsl hL hb2 hB HOK HP HBX HZI
    go_upto_region 4 with (fail)
    go_wp2_with fail
    refine HS.out.mono ?_
    rintro r w3 ⟨rfl, hw3⟩
    obtain rfl := hw3.symm
    clear hw3
    obtain ⟨P, hP⟩ : ∃ P, P = (sumP L).1 := ⟨_, rfl⟩
    obtain ⟨Q, hQ⟩ : ∃ Q, Q = (sumP L).2 := ⟨_, rfl⟩
    rw [← hP, ← hQ] at hb ⊢
    have HPQ := Lib.hid (And.intro hP hQ)
    clear hP hQ HS
    have hC : Calls Tryz.prog 77 #[.slice (some ⟨w2.heap.size + 1 + 1, 0, none⟩) 3 3] (((w2.alloc (.cells #[.int .u8 ((L.length : Int) / 256), .int .u8 ((L.length : Int) % 256)] 5)).alloc (.cells #[.int .u8 P, .int .u8 Q] 5)).alloc (.cells #[.slice (some ⟨w2.heap.size, 0, none⟩) 2 2, .slice A L.length c, .slice (some ⟨w2.heap.size + 1, 0, none⟩) 2 2] 33)) fun r w' => ∃ A m c, r = .returned (.slice A m c) ∧ w'.ownsRow w.heap.size 5 1 (.slice A m c) (frB L).length (byteV (frB L)) ∧ Below w.heap.size w w' := by
      obtain ⟨O1, hO1⟩ : ∃ O, O = Obj.cells #[.int .u8 ((L.length : Int) / 256), .int .u8 ((L.length : Int) % 256)] 5 := ⟨_, rfl⟩
      obtain ⟨O2, hO2⟩ : ∃ O, O = Obj.cells #[.int .u8 P, .int .u8 Q] 5 := ⟨_, rfl⟩
      obtain ⟨O3, hO3⟩ : ∃ O, O = Obj.cells #[.slice (some ⟨w2.heap.size, 0, none⟩) 2 2, .slice A L.length c, .slice (some ⟨w2.heap.size + 1, 0, none⟩) 2 2] 33 := ⟨_, rfl⟩
      rw [← hO1, ← hO2, ← hO3]
      have hs1 : (w2.alloc O1).heap.size = w2.heap.size + 1 := by simp
      have hs2 : ((w2.alloc O1).alloc O2).heap.size = w2.heap.size + 1 + 1 := by simp
      have hB : Below w2.heap.size w2 (((w2.alloc O1).alloc O2).alloc O3) := (((Below.refl _ _).alloc (Nat.le_refl _) _).alloc (by omega) _).alloc (by omega) _
      have g3 : (((w2.alloc O1).alloc O2).alloc O3).heap[w2.heap.size + 1 + 1]? = some O3 := by rw [← hs2]; exact heap_alloc_new _ _
      have g2 : (((w2.alloc O1).alloc O2).alloc O3).heap[w2.heap.size + 1]? = some O2 := by
        rw [Below.heap_alloc _ _ _ (by omega)]
        rw [← hs1]; exact heap_alloc_new _ _
      have g1 : (((w2.alloc O1).alloc O2).alloc O3).heap[w2.heap.size]? = some O1 := by
        rw [Below.heap_alloc _ _ _ (by omega), Below.heap_alloc _ _ _ (by omega)]
        exact heap_alloc_new _ _
      generalize ((w2.alloc O1).alloc O2).alloc O3 = W3 at *
      have e0 : [[(L.length : Int) / 256, (L.length : Int) % 256], L, [P, Q]].flatten = frB L := by
        unfold frB
        rw [← HPQ.out.1, ← HPQ.out.2]
        simp
      rw [hO3] at g3
      have q : Pt W3 (.slice A L.length c) L := (HSL.out.below hB (Nat.le_refl _)).pt (fun e => by rw [e] at hge; simp at hge)
      have q1 : Pt W3 (.slice (some ⟨w2.heap.size, 0, none⟩) 2 2) [(L.length : Int) / 256, (L.length : Int) % 256] := by
        rw [hO1] at g1
        exact Blk.pt (l := [(L.length : Int) / 256, (L.length : Int) % 256]) g1 rfl (Nat.le_refl _)
      have q2 : Pt W3 (.slice (some ⟨w2.heap.size + 1, 0, none⟩) 2 2) [P, Q] := by
        rw [hO2] at g2
        exact Blk.pt (l := [P, Q]) g2 rfl (Nat.le_refl _)
      refine (concat_any W3 (w2.heap.size + 1 + 1) 33 [_, _, _] [[(L.length : Int) / 256, (L.length : Int) % 256], L, [P, Q]] g3 rfl ?_ (by rw [e0, frB_len]; omega) (by simp)).mono ?_
      · intro j h h'
        match j, h with
        | 0, _ => exact q1
        | 1, _ => exact q
        | 2, _ => exact q2
      · rintro r w' ⟨v, rfl, ho, hb⟩
        rw [e0] at ho
        obtain ⟨A9, m9, c9, rfl⟩ := own_shape ho
        have hw : Below w.heap.size w W3 := HB2.out.trans (hB.mono HB2.out.size)
        exact ⟨A9, m9, c9, rfl, ⟨ho.1, ho.2.imp id (fun ⟨g, cap, cur, r1, r2, r⟩ => ⟨g, cap, cur, r1, Nat.le_trans hw.size r2, r⟩)⟩, hw.trans (hb.mono hw.size)⟩
    have HC := Lib.hid hC
    clear hC
    go_upto_region 5 with (fail)
    go_wp2_with fail
    refine HC.out.mono ?_
    rintro r w4 ⟨A4, m4, c4, rfl, ho, hb4⟩
    have HO := Lib.hid ho
    have HB4 := Lib.hid hb4
    clear ho hb4 HC
    go_wp2
    go_ret
    exact ⟨A4, m4, c4, rfl, by rw [HFR.out]; exact HO.out, HB4.out⟩
end Go.Proofs.YtljbhdldfffpfaaGreat
namespace Go.Proofs.YtljbhdldfffpfaaGreat
open Go.RowKit Go.Maps
open Go.RowKit Go.Maps
open Go.RowKit Go.Maps
/-- What Append answers, and what it makes of a log. -/
def apE (t : Tr) (e : Ent) : Int := if entB e = false then 1 else if 63 * t.tiles < ((t.S.length + (frL e).length : Nat) : Int) then 5 else 0
def apN (t : Tr) (e : Ent) : Int := if apE t e = 0 then t.count + 1 else 0
def apT (t : Tr) (e : Ent) : Tr := if apE t e = 0 then { t with S := t.S ++ frL e, count := t.count + 1 } else t
theorem frL_ok {e : Ent} (h1 : bytesOk e.old) (h2 : bytesOk e.new) : bytesOk (frL e) := by
  cases hB : entB e with
  | true =>
    rw [frL_yes hB]
    exact frB_ok (entL_okE h1 h2) (by have := t_entL_le hB; omega)
  | false => rw [frL_no hB]; exact fun x hx => by cases hx
def ApPost (w : World) (p bm : Nat) (t : Tr) (e : Ent) (r : Ending) (w' : World) : Prop := r = .returned (.tuple #[.int .i64 (apN t e), .int .i64 (apE t e)]) ∧ TrAt w' p bm (apT t e) ∧ Fr w.heap.size (Two p bm) w w'
set_option maxRecDepth 100000 in
set_option maxHeartbeats 1000000 in
theorem append_any (w : World) {p bm : Nat} {t : Tr} (h : TrAt w p bm t) (e : Ent) {s1 s2 s3 s4 s5 s6 : Value} (hs : EntS w s1 s2 s3 s4 s5 s6 e) (hi : EntI e) :
    Calls Tryz.prog 16 #[.pointer (some ⟨p, 0, none⟩), .agg (entC e s1 s2 s3 s4 s5 s6)] w (ApPost w p bm t e) := by
  obtain ⟨A1, c1, A2, c2, A3, c3, A4, c4, A5, c5, A6, c6, rfl, rfl, rfl, rfl, rfl, rfl⟩ := hs.form
  obtain ⟨W, hW⟩ : ∃ W, W = w.alloc (entO e (.slice A1 e.old.length c1) (.slice A2 e.new.length c2) (.slice A3 e.moves.length c3) (.slice A4 e.lives.length c4) (.slice A5 e.dirty.length c5) (.slice A6 e.opens.length c6)) := ⟨_, rfl⟩
  have hb0 : Below w.heap.size w W := by rw [hW]; exact (Below.refl _ _).alloc (Nat.le_refl _) _
  have hsz : w.heap.size ≤ W.heap.size := hb0.size
  have HBX : Hid (W.heap[w.heap.size]? = some (.cells (entC e (.slice A1 e.old.length c1) (.slice A2 e.new.length c2) (.slice A3 e.moves.length c3) (.slice A4 e.lives.length c4) (.slice A5 e.dirty.length c5) (.slice A6 e.opens.length c6)) 55 (0, 0))) := by
    rw [hW]; exact heap_alloc_new w _
  have HZI := Lib.hid (infoEntC e (.slice A1 e.old.length c1) (.slice A2 e.new.length c2) (.slice A3 e.moves.length c3) (.slice A4 e.lives.length c4) (.slice A5 e.dirty.length c5) (.slice A6 e.opens.length c6))
  have HP := Lib.hid (frame_any W e (hs.below hb0 (Nat.le_refl _)) hi)
  have HOK := Lib.hid (frL_ok hs.old.ok hs.new.ok)
  have HB0 := Lib.hid hb0
  have HSZ := Lib.hid hsz
  have HT := Lib.hid h
  show Calls _ _ #[_, .agg #[.int .i64 e.kind, .int .i64 e.txn, .int .i64 e.unit, .int .i64 e.half, .int .i64 e.prev, .int .i64 e.next, .int .i64 e.ap, .int .i64 e.ac, .int .i64 e.tp, .int .i64 e.tc, _, _, _, _, _, _]] _ _
  clear hs hi hb0 hsz h
  go_enter Tryz.func16, Tryz.ntmps16
  go_upto_region 1 with (fail)
  show Code.wp _ _ _ _ (w.alloc (entO e (.slice A1 e.old.length c1) (.slice A2 e.new.length c2) (.slice A3 e.moves.length c3) (.slice A4 e.lives.length c4) (.slice A5 e.dirty.length c5) (.slice A6 e.opens.length c6)))
  rw [← hW]
  clear hW
  go_wp2_with (with_reducible refine wpList_load_row rfl 55 (.tmp 3) rfl w.heap.size rfl 55 _ (0, 0) _ HBX.out Tryz.underlying55 rfl HZI.out ?_)
  refine HP.out.mono ?_
  rintro r w2 ⟨A, m, c, rfl, ho, hb2⟩
  have hm := own_n ho
  have hbw : Below w.heap.size w w2 := HB0.out.trans (hb2.mono HSZ.out)
  have HB2 := Lib.hid hbw
  have ht2 : TrAt w2 p bm t := HT.out.kept fun k hk => hbw.block k hk
  cases hB : entB e with
  | false =>
    have e1 : apE t e = 1 := if_pos hB
    have e2 : apN t e = 0 := by unfold apN; rw [e1]; rfl
    have e3 : apT t e = t := by unfold apT; rw [e1]; rfl
    have HE := Lib.hid (And.intro e1 (And.intro e2 e3))
    have HT2 := Lib.hid ht2
    rw [frL_no hB] at hm
    subst hm
    clear ho hb2 hbw ht2 hB e1 e2 e3 HP HOK
    go_wp2
    go_ret2
    obtain ⟨e1, e2, e3⟩ := HE.out
    exact ⟨by rw [e1, e2]; rfl, by rw [e3]; exact HT2.out, below_fr HB2.out⟩
  | true =>
    have hfl : (frL e).length = (entL e).length + 4 := by rw [frL_yes hB, frB_len]
    have hge := t_entL_ge hB
    have hle := t_entL_le hB
    have HSL := Lib.hid (own_slK ho HOK.out)
    have HL := Lib.hid (left_any w2 ht2)
    have h1 := ht2.ok.t1
    have h0 := ht2.ok.t0
    have h2 := ht2.ok.len
    have h3 := ht2.ok.c0
    have h4 := ht2.ok.c1
    have HBT := Lib.hid hB
    have HT2 := Lib.hid ht2
    obtain ⟨N, hN⟩ : ∃ N, N = (frL e).length := ⟨_, rfl⟩
    obtain ⟨K, hK⟩ : ∃ K, K = t.tiles * 63 - t.S.length := ⟨_, rfl⟩
    have hN0 : 0 < N := by omega
    rw [← hK] at HL
    rw [← hN] at hm
    subst hm
    have HN := Lib.hid hN
    have HK := Lib.hid hK
    clear ho hb2 hbw ht2 hB hfl hge hle hN hK HP HBX HZI
    by_cases hfit : K < (m : Int)
    · have e1 : apE t e = 5 := by
        unfold apE
        rw [if_neg (by rw [HBT.out]; decide), if_pos (by rw [← HN.out]; have := HK.out; omega)]
      have e2 : apN t e = 0 := by unfold apN; rw [e1]; rfl
      have e3 : apT t e = t := by unfold apT; rw [e1]; rfl
      have HE := Lib.hid (And.intro e1 (And.intro e2 e3))
      clear e1 e2 e3
      go_wp2_with fail
      refine HL.out.mono ?_
      rintro r w3 ⟨rfl, hb3⟩
      have HT3 := Lib.hid (HT2.out.kept fun k hk => hb3.block k hk)
      have HB3 := Lib.hid (HB2.out.trans (hb3.mono HB2.out.size))
      clear hb3 HL
      go_wp2
      go_ret2
      obtain ⟨e1, e2, e3⟩ := HE.out
      exact ⟨by rw [e1, e2]; rfl, by rw [e3]; exact HT3.out, below_fr HB3.out⟩
    · have e1 : apE t e = 0 := by
        unfold apE
        rw [if_neg (by rw [HBT.out]; decide), if_neg (by rw [← HN.out]; have := HK.out; omega)]
      have e2 : apN t e = t.count + 1 := by unfold apN; rw [e1]; rfl
      have e3 : apT t e = { t with S := t.S ++ frL e, count := t.count + 1 } := by unfold apT; rw [e1]; rfl
      have HE := Lib.hid (And.intro e1 (And.intro e2 e3))
      have HFIT : Hid (((t.S.length + (frL e).length : Nat) : Int) ≤ 63 * t.tiles) := Lib.hid (by rw [← HN.out]; have := HK.out; omega)
      clear e1 e2 e3
      go_wp2_with fail
      refine HL.out.mono ?_
      rintro r w3 ⟨rfl, hb3⟩
      have HT3 := Lib.hid (HT2.out.kept fun k hk => hb3.block k hk)
      have HB3 := Lib.hid (HB2.out.trans (hb3.mono HB2.out.size))
      have HA := Lib.hid (add_any w3 HT3.out (HSL.out.below hb3 (Nat.le_refl _)) HFIT.out)
      have hcb : t.count ≤ 126000 := by omega
      clear hb3 HL h0 h1 h2 h4
      go_upto_region 6 with (fail)
      go_wp2_with fail
      refine HA.out.mono ?_
      rintro r w4 ⟨rfl, ht4, hf4⟩
      have x5 : w4.cell? ⟨p, 5, none⟩ = some (.int .i64 t.count) := ht4.c 5
      have z5 := ht4.fz 5
      have x5' : (w4.setCell ⟨p, 5, none⟩ (.int .i64 (t.count + 1))).cell? ⟨p, 5, none⟩ = some (.int .i64 (t.count + 1)) := by
        rw [(cell_of (heap_setCell_same w4 p 5 _ _ _ ht4.bx) 5).1]
        rfl
      have t1 : IntKind.i64.wrap (t.count + 1) = t.count + 1 := IntWalk.i64_in _ (by omega)
      have ht5 : TrAt (w4.setCell ⟨p, 5, none⟩ (.int .i64 (t.count + 1))) p bm { t with S := t.S ++ frL e, count := t.count + 1 } := by
        refine ⟨?_, ht4.mp.of_block (setCell_far _ _ _ _ (fun e => ht4.ne e.symm)), ⟨ht4.ok.ok, ht4.ok.f0, ht4.ok.f1, ht4.ok.t0, ht4.ok.t1, ht4.ok.len, by show 0 ≤ t.count + 1; omega, ?_⟩, ht4.ne⟩
        · rw [heap_setCell_same w4 p 5 _ _ _ ht4.bx]
          rfl
        · show t.count + 1 ≤ ((t.S ++ frL e).length : Int)
          have := HT3.out.ok.c1
          rw [List.length_append, ← HN.out]
          omega
      have hf5 : Fr w.heap.size (Two p bm) w (w4.setCell ⟨p, 5, none⟩ (.int .i64 (t.count + 1))) := ((below_fr HB3.out).trans hf4 HB3.out.size (fun x _ h => h)).setCell (Or.inl (Or.inl rfl)) _
      have HT5 := Lib.hid ht5
      have HF5 := Lib.hid hf5
      clear ht4 hf4 ht5 hf5 HA
      go_wp2
      go_ret2
      obtain ⟨e1, e2, e3⟩ := HE.out
      exact ⟨by rw [e1, e2]; rfl, by rw [e3]; exact HT5.out, HF5.out⟩
end Go.Proofs.YtljbhdldfffpfaaGreat
namespace Go.Proofs.YtljbhdldfffpfaaGreat
open Go.RowKit Go.Maps
open Go.RowKit Go.Maps
/-- An entry that says that a transaction has ended. -/
def eEnd (x : Int) : Ent := ⟨5, x, 0, 0, 0, 0, 0, 0, 0, 0, [], [], [], [], [], []⟩
theorem eEnd_I {x : Int} (h : 0 ≤ x ∧ x < 256) : EntI (eEnd x) := by
  have z : I64 0 := ⟨by decide, by decide⟩
  have y : I64 5 := ⟨by decide, by decide⟩
  have u : I64 x := ⟨by omega, by omega⟩
  exact ⟨y, u, z, z, z, z, z, z, z, z, (fun m hm => by cases hm), (fun m hm => by cases hm), (fun m hm => by cases hm), (fun m hm => by cases hm)⟩
theorem nil_ents (w : World) (e : Ent) (h1 : e.old = []) (h2 : e.new = []) (h3 : e.moves = []) (h4 : e.lives = []) (h5 : e.dirty = []) (h6 : e.opens = []) : EntS w (.slice none 0 0) (.slice none 0 0) (.slice none 0 0) (.slice none 0 0) (.slice none 0 0) (.slice none 0 0) e := by
  have h := (ent0_F w 0).entS
  exact ⟨by rw [h1]; exact h.old, by rw [h2]; exact h.new, by rw [h3]; exact h.moves, by rw [h4]; exact h.lives, by rw [h5]; exact h.dirty, by rw [h6]; exact h.opens⟩
theorem LogAt.app {w w' : World} {p bm bn bo g : Nat} {t t' : Tr} {d : Dk} (h : LogAt w p bm t bn bo g d) (ht : TrAt w' p bm t') (hf : Fr w.heap.size (Two p bm) w w') (e1 : t'.dp = t.dp) (e2 : t'.first = t.first) (e3 : t'.tiles = t.tiles) : LogAt w' p bm t' bn bo g d :=
  ⟨ht, by rw [e1]; exact h.dk.on fun k hk => hf.block k (h.dk.lt hk) (fun e => h.sep k hk e), by rw [e1]; exact h.sep, by rw [e2, e3]; exact h.fit⟩
end Go.Proofs.YtljbhdldfffpfaaGreat
