/- PoolNone, a part. -/
import Derived.Test.YtljbhdldfffpfaaGreatQn12
namespace Go.Proofs.YtljbhdldfffpfaaGreat
open Go.RowKit

theorem Els.at {w w' : World} {v : Value} {k : Nat} {xs : List (List Value)} (h : Els w v k xs) (hb : xs ≠ [] → ∀ b, v.ownBlock = some b → b < w.heap.size → w'.heap[b]? = w.heap[b]?) : Els w' v k xs := by
  obtain ⟨A, cap, rfl, h1, h2, h3⟩ := h
  refine ⟨A, cap, rfl, h1, h2, fun a ha hne => ?_⟩
  obtain ⟨h5, h6, h7⟩ := h3 a ha hne
  subst ha
  have e := hb hne a.block rfl h6
  refine ⟨h5, ?_, fun i j hi hj => ?_⟩
  · by_cases h0 : a.block < w'.heap.size
    · exact h0
    · rw [Array.getElem?_eq_none (by omega), Array.getElem?_eq_getElem h6] at e
      cases e
  · rw [← h7 i j hi hj]
    exact World.cell?_of_block e

/-- What an open unit's reading leaves. -/
def OPost (w0 w : World) (p : Nat) (l : List Int) (e : Ending) (w' : World) : Prop := ∃ A c sv', e = .returned (.agg #[.int .i64 (opR l).1.1, .slice A (opR l).1.2.2.length c, .int .i64 (opR l).1.2.1]) ∧ Els w' (.slice A (opR l).1.2.2.length c) 4 ((opR l).1.2.2.map mvV) ∧ (∀ b, (Value.slice A (opR l).1.2.2.length c).ownBlock = some b → w.heap.size ≤ b) ∧ RS w0 w' p sv' (opR l).2 ∧ Rd p w w'

set_option maxRecDepth 100000 in
set_option maxHeartbeats 1000000 in
theorem ropen_any {w0 w : World} {p : Nat} {sv : Value} {l : List Int} (h : RS w0 w p sv l) :
    Calls Tryz.prog 159 #[.pointer (some ⟨p, 0, none⟩)] w (OPost w0 w p l) := by
  have HH0 := Lib.hid (Hr.init h #[.int .i64 0, .slice none 0 0, .int .i64 0] 209)
  clear h
  go_enter Tryz.func159, Tryz.ntmps159
  go_wp2_with fail
  refine (rnum_any HH0.out.rs 2 (by omega)).mono ?_
  rintro e w1 ⟨rfl, s1, h1, g1⟩
  have H1 := HH0.out.step h1 g1
  have c0 : w1.cell? ⟨w.heap.size, 0, none⟩ = some (.int .i64 0) := H1.c 0
  have f0 := H1.f 0
  have HH1 := Lib.hid (H1.put (cs' := #[.int .i64 (numR l 2), .slice none 0 0, .int .i64 0]) 0 (.int .i64 (numR l 2)) rfl)
  clear h1 g1 H1
  go_wp2_with fail
  refine (rnum_any HH1.out.rs 1 (by omega)).mono ?_
  rintro e w2 ⟨rfl, s1, h1, g1⟩
  rw [dr_dr] at h1
  have H1 := HH1.out.step h1 g1
  have c2 : w2.cell? ⟨w.heap.size, 2, none⟩ = some (.int .i64 0) := H1.c 2
  have f2 := H1.f 2
  have HH2 := Lib.hid (H1.put (cs' := #[.int .i64 (numR l 2), .slice none 0 0, .int .i64 (numR (dr l 2) 1)]) 2 (.int .i64 (numR (dr l 2) 1)) rfl)
  clear h1 g1 H1 c0 f0
  go_wp2_with fail
  refine (rmoves_any HH2.out.rs).mono ?_
  rintro e w3 ⟨A, c, s1, rfl, hE, hO, h1, g1⟩
  obtain ⟨n, hn⟩ : ∃ n, n = (lstR mvR (dr l (2 + 1))).1.length := ⟨_, rfl⟩
  rw [← hn] at hE hO ⊢
  have H1 := HH2.out.step h1 g1
  have hq : w.heap.size < (w2.setCell ⟨w.heap.size, 2, none⟩ (.int .i64 (numR (dr l 2) 1))).heap.size := HH2.out.lt
  have c1 : w3.cell? ⟨w.heap.size, 1, none⟩ = some (.slice none 0 0) := H1.c 1
  have f1 := H1.f 1
  have HH3 := Lib.hid (H1.put (cs' := #[.int .i64 (numR l 2), .slice A n c, .int .i64 (numR (dr l 2) 1)]) 1 (.slice A n c) rfl)
  have HE3 := Lib.hid (hE.at (w' := w3.setCell ⟨w.heap.size, 1, none⟩ (.slice A n c)) (fun _ b hb _ => setCell_far _ _ _ _ (by have := hO b hb; omega)))
  have HO3 : Hid (∀ b, (Value.slice A n c).ownBlock = some b → w.heap.size ≤ b) := fun b hb => by have := hO b hb; omega
  have HN := Lib.hid hn
  clear h1 g1 H1 c2 f2 hE hO hn hq
  have HB := Lib.hid HH3.out.bx
  have HE := Lib.hid (setRow_self _ _ _ _ _ HH3.out.bx)
  have HF := Lib.hid (show (Tryz.prog.info? 209).map (·.size) = some (#[.int .i64 (numR l 2), .slice A n c, .int .i64 (numR (dr l 2) 1)] : Array Value).size from infoOpen)
  have HA := Lib.hid (show (#[.int .i64 (numR l 2), .slice A n c, .int .i64 (numR (dr l 2) 1)] : Array Value).all (·.oneCell') = true from by simp [Value.oneCell'])
  go_upto_region 4 with (fail)
  generalize w3.setCell ⟨w.heap.size, 1, none⟩ (.slice A n c) = wz at *
  clear c1 f1
  go_wp2_with (first
    | (with_reducible refine wpList_load_row rfl 209 (.tmp 2) rfl w.heap.size rfl 209 _ (0, 0) _ HB.out Tryz.underlying209 rfl HF.out ?_)
    | (with_reducible refine wpList_store_row rfl 209 (.tmp 2) (.tmp 12) rfl w.heap.size _ rfl rfl 209 _ HB.out HF.out rfl HA.out ?_))
  rw [HE.out]
  refine bodyPost_ret (v := .agg #[.int .i64 (numR l 2), .slice A n c, .int .i64 (numR (dr l 2) 1)]) ?_ rfl ?_
  · exact results_cell_row Tryz.results159 _ _ _ _ _ _ _ rfl HB.out Tryz.underlying209 rfl HF.out
  · have hn := HN.out
    subst hn
    exact ⟨A, c, s1, rfl, HE3.out, HO3.out, HH3.out.rs, HH3.out.rd⟩

/-- Open units in memory, all from block B on. -/
def OpF (w : World) (B : Nat) (sv : Value) (ops : List Opn) : Prop := ∃ os : List (Opn × Value), ops = os.map Prod.fst ∧ Els w sv 3 (os.map opV) ∧ (∀ b, sv.ownBlock = some b → B ≤ b) ∧ ∀ o ∈ os, Els w o.2 4 (o.1.2.2.map mvV) ∧ (o.1.2.2 ≠ [] → ∀ b, o.2.ownBlock = some b → B ≤ b)
theorem OpF.opAt {w : World} {B : Nat} {sv : Value} {ops : List Opn} (h : OpF w B sv ops) : OpAt w sv ops := by
  obtain ⟨os, e, h1, _, h2⟩ := h
  exact ⟨os, e, h1, fun o ho => (h2 o ho).1⟩
theorem OpF.at {w w' : World} {B : Nat} {sv : Value} {ops : List Opn} (h : OpF w B sv ops) (hb : ∀ b, B ≤ b → b < w.heap.size → w'.heap[b]? = w.heap[b]?) : OpF w' B sv ops := by
  obtain ⟨os, e, h1, h3, h2⟩ := h
  refine ⟨os, e, h1.at fun _ b hbb hlt => hb b (h3 b hbb) hlt, h3, fun o ho => ⟨(h2 o ho).1.at fun hne b hbb hlt => hb b ((h2 o ho).2 (fun e => hne (by rw [e]; rfl)) b hbb) hlt, (h2 o ho).2⟩⟩

def LOPost (w0 w : World) (p : Nat) (r : List Opn × List Int) (e : Ending) (w' : World) : Prop := ∃ A c sv', e = .returned (.slice A r.1.length c) ∧ OpF w' w.heap.size (.slice A r.1.length c) r.1 ∧ RS w0 w' p sv' r.2 ∧ Rd p w w'

def LORel (w0 w : World) (p : Nat) (l : List Int) (n : Nat) (v i : Value) (wr : World) : Prop :=
  ∃ (j : Nat) (A : Option Addr) (m c : Nat) (sv : Value) (os : List (Opn × Value)), j ≤ n ∧ i = .int .i64 j ∧ v = .slice A m c ∧ wr.ownsRow w.heap.size 209 3 (.slice A m c) j (os.flatMap opV) ∧ (nR opR j l).1 = os.map Prod.fst ∧
    (∀ o ∈ os, Els wr o.2 4 (o.1.2.2.map mvV) ∧ (o.1.2.2 ≠ [] → ∀ b, o.2.ownBlock = some b → w.heap.size ≤ b ∧ b < wr.heap.size ∧ (Value.slice A m c).ownBlock ≠ some b)) ∧ RS w0 wr p sv (nR opR j l).2 ∧ Rd p w wr

theorem Els.blk {w : World} {v : Value} {k : Nat} {xs : List (List Value)} (h : Els w v k xs) (hne : xs ≠ []) {b : Nat} (hb : v.ownBlock = some b) : b < w.heap.size := by
  obtain ⟨A, cap, rfl, h1, h2, h3⟩ := h
  cases A with
  | none => cases hb
  | some a =>
    cases hb
    exact (h3 a rfl hne).2.1

theorem infoROpen : (Tryz.prog.info? 209).map (fun i => (i.zero, i.size, i.bytes)) = some (some (.agg #[.int .i64 0, .slice none 0 0, .int .i64 0]), 3, 40) := by kernel_rfl
set_option maxRecDepth 100000 in
set_option maxHeartbeats 1000000 in
theorem ropens_any {w0 w : World} {p : Nat} {sv : Value} {l : List Int} (h : RS w0 w p sv l) :
    Calls Tryz.prog 158 #[.pointer (some ⟨p, 0, none⟩), .func (.func 159) #[] #[]] w (LOPost w0 w p (lstR opR l)) := by
  obtain ⟨i, hi, hz0, hz1, hz2⟩ := info_parts infoROpen
  have hok := h.sl.ok
  have hb := numR_bd hok 1
  have hlt := h.lt
  obtain ⟨n, hn⟩ : ∃ n : Nat, numR l 1 = n := ⟨(numR l 1).toNat, by omega⟩
  have HL : Hid (lstR opR l = nR opR n (dr l 1)) := by
    show lstR opR l = _
    unfold lstR
    rw [hn]
    rfl
  have hn2 : n < 256 := by have := hb.2; omega
  have HH := Lib.hid h
  clear h hok hb
  go_enter Tryz.func158, Tryz.ntmps158
  go_wp2_with fail
  refine (rnum_any HH.out 1 (by omega)).mono ?_
  rintro e w1 ⟨he, s1, h1, g1⟩
  rw [hn] at he
  subst he
  have H1 : Hid (LORel w0 w p (dr l 1) n (.slice none 0 0) (.int .i64 0) w1) := ⟨0, none, 0, 0, s1, [], Nat.zero_le _, rfl, rfl, World.ownsRow_nil _ _ _ _, rfl, (fun o ho => by cases ho), h1, g1⟩
  clear h1 g1
  go_wp2
  go_loopw [5, 8] (fun v i wr => LORel w0 w p (dr l 1) n v i wr) (fun _ i _ => n - (RowKit.intOf i).toNat)
  case atStart => exact H1.out
  case round =>
    obtain ⟨j, A, m, c, s2, os, hj, rfl, rfl, ho, hos, hin, h2, g2⟩ := hrel
    have HO := Lib.hid ho
    have H2 := Lib.hid h2
    have G2 := Lib.hid g2
    have HOS := Lib.hid hos
    have HIN := Lib.hid hin
    clear ho h2 g2 hos hin
    by_cases hjn : j < n
    · go_wp2_with fail
      refine (ropen_any H2.out).mono ?_
      rintro e w3 ⟨A3, c3, s3, he, hE, hB, h3, g3⟩
      obtain ⟨⟨a0, a1, a2⟩, hm⟩ : ∃ m, m = (opR (nR opR j (dr l 1)).2).1 := ⟨_, rfl⟩
      rw [← hm] at he hE hB
      replace he : e = .returned (.agg #[.int .i64 a0, .slice A3 a2.length c3, .int .i64 a1]) := he
      subst he
      have hsz : w.heap.size ≤ w3.heap.size := Nat.le_trans G2.out.size g3.size
      have hsame : ∀ b, w.heap.size ≤ b → b < wr.heap.size → w3.heap[b]? = wr.heap[b]? := fun b h1 h2 => g3.block b h2 (by omega)
      have ho3 : w3.ownsRow w.heap.size 209 3 (.slice A m c) j (os.flatMap opV) := own_at HO.out fun k hk => hsame k (HO.out.lt k hk).1 (HO.out.lt k hk).2
      have hin3 : ∀ o ∈ os ++ [((a0, a1, a2), Value.slice A3 a2.length c3)], Els w3 o.2 4 (o.1.2.2.map mvV) ∧ (o.1.2.2 ≠ [] → ∀ b, o.2.ownBlock = some b → w.heap.size ≤ b ∧ b < w3.heap.size ∧ (Value.slice A m c).ownBlock ≠ some b) := by
        intro o ho
        rcases List.mem_append.1 ho with ho | ho
        · obtain ⟨k1, k2⟩ := HIN.out o ho
          refine ⟨k1.at fun hne b hb hlt => hsame b (k2 (fun e => hne (by rw [e]; rfl)) b hb).1 hlt, fun hne b hb => ?_⟩
          obtain ⟨z1, z2, z3⟩ := k2 hne b hb
          exact ⟨z1, Nat.lt_of_lt_of_le z2 g3.size, z3⟩
        · obtain rfl : o = ((a0, a1, a2), Value.slice A3 a2.length c3) := by simpa using ho
          refine ⟨hE, fun hne b hb => ?_⟩
          have hne2 : (a2.map mvV) ≠ [] := fun e => hne (List.map_eq_nil_iff.1 e)
          have hbl := hE.blk hne2 hb
          have hge := hB b hb
          have := G2.out.size
          exact ⟨by omega, hbl, fun e => by have := (HO.out.lt b e).2; omega⟩
      have hoa : ∀ o, (w3.alloc o).ownsRow w.heap.size 209 3 (.slice A m c) j (os.flatMap opV) := fun o => ho3.alloc o
      have HOA := Lib.hid hoa
      have HA3 : Hid (∀ o, Below w3.heap.size w3 (w3.alloc o)) := fun o => (Below.refl _ _).alloc (Nat.le_refl _) _
      have H3 := Lib.hid h3
      have G3 := Lib.hid g3
      have HM := Lib.hid hm
      have HZ := Lib.hid hsz
      have HI3 := Lib.hid hin3
      clear ho3 hoa h3 g3 hm hsz hin3 hsame hE hB
      go_wp2_with (at_builtin; refine wpList_append_lies _ rfl _ _ 53 rfl w.heap.size 209 i (.agg #[.int .i64 0, .slice none 0 0, .int .i64 0]) 3 40 Tryz.underlying53 hi hz0 hz1 hz2 rfl (by decide) (.slice A m c) j _ rfl (HOA.out _) ⟨w3.heap.size, 0, none⟩ 1 1 [.int .i64 a0, .slice A3 a2.length c3, .int .i64 a1] rfl rfl ?c1 ?c2 ?c3 ?c4 ?c5 ?c6 _ rfl ?_)
      case c1 => exact World.news_of_block (heap_alloc_new w3 _)
      case c2 => intro u hu; simp at hu; rcases hu with rfl | rfl | rfl <;> rfl
      case c3 => omega
      case c4 => unfold maxLen; omega
      case c5 => omega
      case c6 => simp; exact Nat.le_succ_of_le HZ.out
      intro g4 c4 w4 ho4 hg4 hv4 hl4
      have h4 := (H3.out.on (HA3.out _)).grow hg4 (fun k hk => by have := (HO.out.lt k hk).1; omega)
      have hr4 : LORel w0 w p (dr l 1) n (.slice (some ⟨g4, 0, none⟩) (j + 1) c4) (.int .i64 (j + 1)) w4 := by
        refine ⟨j + 1, _, _, _, s3, os ++ [((a0, a1, a2), Value.slice A3 a2.length c3)], hjn, rfl, rfl, ?_, ?_, fun o ho => ?_, h4.1, ((G2.out.trans G3.out).trans (Rd.of_below (HA3.out _))).grow hg4 (fun k hk => (HO.out.lt k hk).1)⟩
        · rw [List.flatMap_append]
          exact ho4
        · rw [List.map_append, ← HOS.out]
          show (nR opR j (dr l 1)).1 ++ [_] = _
          rw [← HM.out]
          rfl
        · obtain ⟨k1, k2⟩ := HI3.out o ho
          have hs : ∀ b, b < w3.heap.size → (Value.slice A m c).ownBlock ≠ some b → w4.heap[b]? = w3.heap[b]? := fun b h1 h2 => (hg4.block b (Nat.lt_of_lt_of_le h1 (HA3.out _).size) (fun e => h2 e.symm)).trans ((HA3.out _).block b h1)
          refine ⟨k1.at fun hne b hb hlt => hs b hlt (k2 (fun e => hne (by rw [e]; rfl)) b hb).2.2, fun hne b hb => ?_⟩
          obtain ⟨z1, z2, z3⟩ := k2 hne b hb
          refine ⟨z1, Nat.lt_of_lt_of_le z2 (Nat.le_trans (HA3.out _).size hg4.size), fun e => ?_⟩
          have e2 : g4 = b := by simpa [Value.ownBlock] using e
          rcases hv4 with h | h
          · exact z3 (by rw [h, e2])
          · have h5 : w3.heap.size ≤ g4 := by rw [h]; omega
            omega
      have HR4 := Lib.hid hr4
      clear ho4 hg4 hv4 hl4 h4 hr4
      go_wp2
      go_roundw
      all_goals first
        | exact HR4.out
        | (simp [RowKit.intOf]; omega)
    · obtain rfl : j = n := by omega
      have hm := own_n HO.out
      subst hm
      go_wp2
      go_ret
      have hlen : os.length = m := by have := congrArg List.length HOS.out; rw [nR_len, List.length_map] at this; omega
      have hE := own_els (f := opV) (fun _ => rfl) HO.out hlen
      refine ⟨A, c, s2, ?_, ?_, ?_, G2.out⟩
      · rw [HL.out, nR_len]; rfl
      · rw [HL.out, nR_len]
        exact ⟨os, HOS.out, hE.1, hE.2, fun o ho => ⟨(HIN.out o ho).1, fun hne b hb => ((HIN.out o ho).2 hne b hb).1⟩⟩
      · rw [HL.out]; exact H2.out

end Go.Proofs.YtljbhdldfffpfaaGreat
namespace Go.Proofs.YtljbhdldfffpfaaGreat
open Go.RowKit

/-- What lies from block B on is as it was. -/
structure Kpt (B : Nat) (w w' : World) : Prop where
  size : w.heap.size ≤ w'.heap.size
  block : ∀ b, B ≤ b → b < w.heap.size → w'.heap[b]? = w.heap[b]?
theorem Kpt.trans {B : Nat} {a b c : World} (h : Kpt B a b) (k : Kpt B b c) : Kpt B a c := ⟨Nat.le_trans h.size k.size, fun i hi hl => (k.block i hi (Nat.lt_of_lt_of_le hl h.size)).trans (h.block i hi hl)⟩
theorem Kpt.rd {p B : Nat} {w w' : World} (h : Rd p w w') (hB : p < B) : Kpt B w w' := ⟨h.size, fun b hb hl => h.block b hl (by omega)⟩
theorem Kpt.set {q i B : Nat} (w : World) (v : Value) (hB : q < B) : Kpt B w (w.setCell ⟨q, i, none⟩ v) := ⟨by simp, fun b hb _ => setCell_far _ _ _ _ (by omega)⟩
def SlF (w : World) (B : Nat) (sv : Value) (l : List Int) : Prop := SlK .u8 w sv l ∧ ∀ b, sv.ownBlock = some b → B ≤ b
def ElF (w : World) (B : Nat) (sv : Value) (k : Nat) (xs : List (List Value)) : Prop := Els w sv k xs ∧ ∀ b, sv.ownBlock = some b → B ≤ b
theorem SlF.at {w w' : World} {B : Nat} {sv : Value} {l : List Int} (h : SlF w B sv l) (hk : Kpt B w w') : SlF w' B sv l := by
  obtain ⟨⟨p, cap, rfl, h1, h2, h3, h4⟩, hf⟩ := h
  refine ⟨⟨p, cap, rfl, h1, h2, h3, fun a ha => ?_⟩, hf⟩
  obtain ⟨h5, h6, h7⟩ := h4 a ha
  subst ha
  have e := hk.block a.block (hf a.block rfl) h6
  refine ⟨h5, Nat.lt_of_lt_of_le h6 hk.size, fun j hj => ?_⟩
  rw [← h7 j hj]
  exact World.cell?_of_block e
theorem ElF.at {w w' : World} {B k : Nat} {sv : Value} {xs : List (List Value)} (h : ElF w B sv k xs) (hk : Kpt B w w') : ElF w' B sv k xs := ⟨h.1.at fun _ b hb hl => hk.block b (h.2 b hb) hl, h.2⟩
theorem OpF.kpt {w w' : World} {B : Nat} {sv : Value} {ops : List Opn} (h : OpF w B sv ops) (hk : Kpt B w w') : OpF w' B sv ops := h.at hk.block
theorem OpF.low {w : World} {B B' : Nat} {sv : Value} {ops : List Opn} (h : OpF w B sv ops) (hB : B' ≤ B) : OpF w B' sv ops := by
  obtain ⟨os, e, h1, h3, h2⟩ := h
  exact ⟨os, e, h1, fun b hb => Nat.le_trans hB (h3 b hb), fun o ho => ⟨(h2 o ho).1, fun hne b hb => Nat.le_trans hB ((h2 o ho).2 hne b hb)⟩⟩
theorem own_slF {w : World} {B B' n : Nat} {v : Value} {l : List Int} (h : w.ownsRow B 5 1 v n (byteV l)) (hok : bytesOk l) (hB : B' ≤ B) : SlF w B' v l := ⟨own_slK h hok, fun b hb => Nat.le_trans hB (h.lt b hb).1⟩
theorem celR_ok {l : List Int} (h : bytesOk l) : bytesOk (celR l).1 := ok_take (ok_drop h 1) _
theorem celR_len {l : List Int} {w : World} {B : Nat} {A : Option Addr} {m c : Nat} {k : Nat} (h : w.ownsRow B 5 1 (.slice A m c) k (byteV l)) (hk : k = l.length) : m = l.length := by rw [own_n h, hk]

/-- An entry that lies from block B on. -/
structure EntF (w : World) (B : Nat) (s1 s2 s3 s4 s5 s6 : Value) (e : Ent) : Prop where
  old : SlF w B s1 e.old
  new : SlF w B s2 e.new
  moves : ElF w B s3 4 (e.moves.map mvV)
  lives : ElF w B s4 4 (e.lives.map lvV)
  dirty : ElF w B s5 2 (e.dirty.map dtV)
  opens : OpF w B s6 e.opens
theorem EntF.entS {w : World} {B : Nat} {s1 s2 s3 s4 s5 s6 : Value} {e : Ent} (h : EntF w B s1 s2 s3 s4 s5 s6 e) : EntS w s1 s2 s3 s4 s5 s6 e := ⟨h.old.1.sw, h.new.1.sw, h.moves.1, h.lives.1, h.dirty.1, h.opens.opAt⟩
theorem EntF.at {w w' : World} {B : Nat} {s1 s2 s3 s4 s5 s6 : Value} {e : Ent} (h : EntF w B s1 s2 s3 s4 s5 s6 e) (hk : Kpt B w w') : EntF w' B s1 s2 s3 s4 s5 s6 e := ⟨h.old.at hk, h.new.at hk, h.moves.at hk, h.lives.at hk, h.dirty.at hk, h.opens.kpt hk⟩

/-- What an entry's reading leaves. -/
def RentPost (w0 w : World) (p : Nat) (l : List Int) (e : Ending) (w' : World) : Prop := ∃ s1 s2 s3 s4 s5 s6 sv', e = .returned (.agg (entC (entR l) s1 s2 s3 s4 s5 s6)) ∧ EntF w' (w.heap.size + 1) s1 s2 s3 s4 s5 s6 (entR l) ∧ RS w0 w' p sv' (r6 l).2 ∧ Rd p w w'

set_option maxRecDepth 100000 in
set_option maxHeartbeats 4000000 in
theorem rentry_any {w0 w : World} {p : Nat} {sv : Value} {l : List Int} (h : RS w0 w p sv l) :
    Calls Tryz.prog 126 #[.pointer (some ⟨p, 0, none⟩)] w (RentPost w0 w p l) := by
  have hlt := h.lt
  have HLT := Lib.hid hlt
  have HH0 := Lib.hid (Hr.init h #[.int .i64 0, .int .i64 0, .int .i64 0, .int .i64 0, .int .i64 0, .int .i64 0, .int .i64 0, .int .i64 0, .int .i64 0, .int .i64 0, .slice none 0 0, .slice none 0 0, .slice none 0 0, .slice none 0 0, .slice none 0 0, .slice none 0 0] 55)
  clear h hlt
  go_enter Tryz.func126, Tryz.ntmps126
  go_wp2_with fail
  refine (rnum_any HH0.out.rs 1 (by omega)).mono ?_
  rintro e w1 ⟨rfl, s1, h1, g1⟩
  have H1 := HH0.out.step h1 g1
  have c_0 : w1.cell? ⟨w.heap.size, 0, none⟩ = some (.int .i64 0) := H1.c 0
  have f_0 := H1.f 0
  have HH1 := Lib.hid (H1.put (cs' := #[.int .i64 (numR l 1), .int .i64 0, .int .i64 0, .int .i64 0, .int .i64 0, .int .i64 0, .int .i64 0, .int .i64 0, .int .i64 0, .int .i64 0, .slice none 0 0, .slice none 0 0, .slice none 0 0, .slice none 0 0, .slice none 0 0, .slice none 0 0]) 0 (.int .i64 (numR l 1)) rfl)
  clear h1 g1 H1
  go_wp2_with fail
  refine (rnum_any HH1.out.rs 1 (by omega)).mono ?_
  rintro e w2 ⟨rfl, s1, h1, g1⟩
  rw [dr_dr] at h1
  have H1 := HH1.out.step h1 g1
  have c_1 : w2.cell? ⟨w.heap.size, 1, none⟩ = some (.int .i64 0) := H1.c 1
  have f_1 := H1.f 1
  have HH2 := Lib.hid (H1.put (cs' := #[.int .i64 (numR l 1), .int .i64 (numR (dr l 1) 1), .int .i64 0, .int .i64 0, .int .i64 0, .int .i64 0, .int .i64 0, .int .i64 0, .int .i64 0, .int .i64 0, .slice none 0 0, .slice none 0 0, .slice none 0 0, .slice none 0 0, .slice none 0 0, .slice none 0 0]) 1 (.int .i64 (numR (dr l 1) 1)) rfl)
  clear h1 g1 H1 c_0 f_0
  go_wp2_with fail
  refine (rnum_any HH2.out.rs 2 (by omega)).mono ?_
  rintro e w3 ⟨rfl, s1, h1, g1⟩
  rw [dr_dr] at h1
  have H1 := HH2.out.step h1 g1
  have c_2 : w3.cell? ⟨w.heap.size, 2, none⟩ = some (.int .i64 0) := H1.c 2
  have f_2 := H1.f 2
  have HH3 := Lib.hid (H1.put (cs' := #[.int .i64 (numR l 1), .int .i64 (numR (dr l 1) 1), .int .i64 (numR (dr l 2) 2), .int .i64 0, .int .i64 0, .int .i64 0, .int .i64 0, .int .i64 0, .int .i64 0, .int .i64 0, .slice none 0 0, .slice none 0 0, .slice none 0 0, .slice none 0 0, .slice none 0 0, .slice none 0 0]) 2 (.int .i64 (numR (dr l 2) 2)) rfl)
  clear h1 g1 H1 c_1 f_1
  go_wp2_with fail
  refine (rnum_any HH3.out.rs 1 (by omega)).mono ?_
  rintro e w4 ⟨rfl, s1, h1, g1⟩
  rw [dr_dr] at h1
  have H1 := HH3.out.step h1 g1
  have c_3 : w4.cell? ⟨w.heap.size, 3, none⟩ = some (.int .i64 0) := H1.c 3
  have f_3 := H1.f 3
  have HH4 := Lib.hid (H1.put (cs' := #[.int .i64 (numR l 1), .int .i64 (numR (dr l 1) 1), .int .i64 (numR (dr l 2) 2), .int .i64 (numR (dr l 4) 1), .int .i64 0, .int .i64 0, .int .i64 0, .int .i64 0, .int .i64 0, .int .i64 0, .slice none 0 0, .slice none 0 0, .slice none 0 0, .slice none 0 0, .slice none 0 0, .slice none 0 0]) 3 (.int .i64 (numR (dr l 4) 1)) rfl)
  clear h1 g1 H1 c_2 f_2
  go_wp2_with fail
  refine (rnum_any HH4.out.rs 3 (by omega)).mono ?_
  rintro e w5 ⟨rfl, s1, h1, g1⟩
  rw [dr_dr] at h1
  have H1 := HH4.out.step h1 g1
  have c_4 : w5.cell? ⟨w.heap.size, 4, none⟩ = some (.int .i64 0) := H1.c 4
  have f_4 := H1.f 4
  have HH5 := Lib.hid (H1.put (cs' := #[.int .i64 (numR l 1), .int .i64 (numR (dr l 1) 1), .int .i64 (numR (dr l 2) 2), .int .i64 (numR (dr l 4) 1), .int .i64 (numR (dr l 5) 3), .int .i64 0, .int .i64 0, .int .i64 0, .int .i64 0, .int .i64 0, .slice none 0 0, .slice none 0 0, .slice none 0 0, .slice none 0 0, .slice none 0 0, .slice none 0 0]) 4 (.int .i64 (numR (dr l 5) 3)) rfl)
  clear h1 g1 H1 c_3 f_3
  go_wp2_with fail
  refine (rnum_any HH5.out.rs 3 (by omega)).mono ?_
  rintro e w6 ⟨rfl, s1, h1, g1⟩
  rw [dr_dr] at h1
  have H1 := HH5.out.step h1 g1
  have c_5 : w6.cell? ⟨w.heap.size, 5, none⟩ = some (.int .i64 0) := H1.c 5
  have f_5 := H1.f 5
  have HH6 := Lib.hid (H1.put (cs' := #[.int .i64 (numR l 1), .int .i64 (numR (dr l 1) 1), .int .i64 (numR (dr l 2) 2), .int .i64 (numR (dr l 4) 1), .int .i64 (numR (dr l 5) 3), .int .i64 (numR (dr l 8) 3), .int .i64 0, .int .i64 0, .int .i64 0, .int .i64 0, .slice none 0 0, .slice none 0 0, .slice none 0 0, .slice none 0 0, .slice none 0 0, .slice none 0 0]) 5 (.int .i64 (numR (dr l 8) 3)) rfl)
  clear h1 g1 H1 c_4 f_4
  go_wp2_with fail
  refine (rplace_any HH6.out.rs).mono ?_
  rintro e w7 ⟨he, s1, h1, g1⟩
  rw [show plV (dr l 11) = #[.int .i64 (numR (dr l 11) 1), .int .i64 (numR (dr l 12) 1)] from by unfold plV; rw [dr_dr]] at he
  subst he
  rw [dr_dr] at h1
  have H1 := HH6.out.step h1 g1
  have c_6 : w7.cell? ⟨w.heap.size, 6, none⟩ = some (.int .i64 0) := H1.c 6
  have f_6 := H1.f 6
  have c_7 : w7.cell? ⟨w.heap.size, 7, none⟩ = some (.int .i64 0) := H1.c 7
  have f_7 := H1.f 7
  have HH7 := Lib.hid ((H1.put (cs' := #[.int .i64 (numR l 1), .int .i64 (numR (dr l 1) 1), .int .i64 (numR (dr l 2) 2), .int .i64 (numR (dr l 4) 1), .int .i64 (numR (dr l 5) 3), .int .i64 (numR (dr l 8) 3), .int .i64 (numR (dr l 11) 1), .int .i64 0, .int .i64 0, .int .i64 0, .slice none 0 0, .slice none 0 0, .slice none 0 0, .slice none 0 0, .slice none 0 0, .slice none 0 0]) 6 (.int .i64 (numR (dr l 11) 1)) rfl).put (cs' := #[.int .i64 (numR l 1), .int .i64 (numR (dr l 1) 1), .int .i64 (numR (dr l 2) 2), .int .i64 (numR (dr l 4) 1), .int .i64 (numR (dr l 5) 3), .int .i64 (numR (dr l 8) 3), .int .i64 (numR (dr l 11) 1), .int .i64 (numR (dr l 12) 1), .int .i64 0, .int .i64 0, .slice none 0 0, .slice none 0 0, .slice none 0 0, .slice none 0 0, .slice none 0 0, .slice none 0 0]) 7 (.int .i64 (numR (dr l 12) 1)) rfl)
  clear h1 g1 H1 c_5 f_5
  go_wp2_with fail
  refine (rplace_any HH7.out.rs).mono ?_
  rintro e w8 ⟨he, s1, h1, g1⟩
  rw [show plV (dr l 13) = #[.int .i64 (numR (dr l 13) 1), .int .i64 (numR (dr l 14) 1)] from by unfold plV; rw [dr_dr]] at he
  subst he
  rw [dr_dr] at h1
  have H1 := HH7.out.step h1 g1
  have c_8 : w8.cell? ⟨w.heap.size, 8, none⟩ = some (.int .i64 0) := H1.c 8
  have f_8 := H1.f 8
  have c_9 : w8.cell? ⟨w.heap.size, 9, none⟩ = some (.int .i64 0) := H1.c 9
  have f_9 := H1.f 9
  have HH8 := Lib.hid ((H1.put (cs' := #[.int .i64 (numR l 1), .int .i64 (numR (dr l 1) 1), .int .i64 (numR (dr l 2) 2), .int .i64 (numR (dr l 4) 1), .int .i64 (numR (dr l 5) 3), .int .i64 (numR (dr l 8) 3), .int .i64 (numR (dr l 11) 1), .int .i64 (numR (dr l 12) 1), .int .i64 (numR (dr l 13) 1), .int .i64 0, .slice none 0 0, .slice none 0 0, .slice none 0 0, .slice none 0 0, .slice none 0 0, .slice none 0 0]) 8 (.int .i64 (numR (dr l 13) 1)) rfl).put (cs' := #[.int .i64 (numR l 1), .int .i64 (numR (dr l 1) 1), .int .i64 (numR (dr l 2) 2), .int .i64 (numR (dr l 4) 1), .int .i64 (numR (dr l 5) 3), .int .i64 (numR (dr l 8) 3), .int .i64 (numR (dr l 11) 1), .int .i64 (numR (dr l 12) 1), .int .i64 (numR (dr l 13) 1), .int .i64 (numR (dr l 14) 1), .slice none 0 0, .slice none 0 0, .slice none 0 0, .slice none 0 0, .slice none 0 0, .slice none 0 0]) 9 (.int .i64 (numR (dr l 14) 1)) rfl)
  clear h1 g1 H1 c_6 f_6 c_7 f_7
  go_wp2_with fail
  refine (rcell_any HH8.out.rs).mono ?_
  rintro e w9 ⟨A1, m1, c1, s1, rfl, ho, h1, g1⟩
  obtain rfl : m1 = (r1 l).1.length := celR_len ho rfl
  obtain ⟨n1, hn1⟩ : ∃ n, n = (r1 l).1.length := ⟨_, rfl⟩
  rw [← hn1] at ho ⊢
  replace h1 : RS w0 w9 p s1 (r1 l).2 := h1
  have H1 := HH8.out.step h1 g1
  have c_10 : w9.cell? ⟨w.heap.size, 10, none⟩ = some (.slice none 0 0) := H1.c 10
  have f_10 := H1.f 10
  have HH9 := Lib.hid (H1.put (cs' := #[.int .i64 (numR l 1), .int .i64 (numR (dr l 1) 1), .int .i64 (numR (dr l 2) 2), .int .i64 (numR (dr l 4) 1), .int .i64 (numR (dr l 5) 3), .int .i64 (numR (dr l 8) 3), .int .i64 (numR (dr l 11) 1), .int .i64 (numR (dr l 12) 1), .int .i64 (numR (dr l 13) 1), .int .i64 (numR (dr l 14) 1), .slice A1 n1 c1, .slice none 0 0, .slice none 0 0, .slice none 0 0, .slice none 0 0, .slice none 0 0]) 10 (.slice A1 n1 c1) rfl)
  have kS : Kpt (w.heap.size + 1) w9 (w9.setCell ⟨w.heap.size, 10, none⟩ (.slice A1 n1 c1)) := Kpt.set _ _ (by omega)
  have kR := (Kpt.rd g1 (show p < w.heap.size + 1 by have := HLT.out; omega)).trans kS
  have hqs : w.heap.size + 1 ≤ _ := HH8.out.lt
  have K1 : Hid (SlF (w9.setCell ⟨w.heap.size, 10, none⟩ (.slice A1 n1 c1)) (w.heap.size + 1) (.slice A1 n1 c1) (r1 l).1) := Lib.hid ((own_slF ho (celR_ok HH8.out.rs.sl.ok) hqs).at kS)
  clear ho kS kR hqs
  have HN1 := Lib.hid hn1
  clear hn1
  clear h1 g1 H1 c_8 f_8 c_9 f_9
  go_wp2_with fail
  refine (rcell_any HH9.out.rs).mono ?_
  rintro e w10 ⟨A2, m2, c2, s1, rfl, ho, h1, g1⟩
  obtain rfl : m2 = (r2 l).1.length := celR_len ho rfl
  obtain ⟨n2, hn2⟩ : ∃ n, n = (r2 l).1.length := ⟨_, rfl⟩
  rw [← hn2] at ho ⊢
  replace h1 : RS w0 w10 p s1 (r2 l).2 := h1
  have H1 := HH9.out.step h1 g1
  have c_11 : w10.cell? ⟨w.heap.size, 11, none⟩ = some (.slice none 0 0) := H1.c 11
  have f_11 := H1.f 11
  have HH10 := Lib.hid (H1.put (cs' := #[.int .i64 (numR l 1), .int .i64 (numR (dr l 1) 1), .int .i64 (numR (dr l 2) 2), .int .i64 (numR (dr l 4) 1), .int .i64 (numR (dr l 5) 3), .int .i64 (numR (dr l 8) 3), .int .i64 (numR (dr l 11) 1), .int .i64 (numR (dr l 12) 1), .int .i64 (numR (dr l 13) 1), .int .i64 (numR (dr l 14) 1), .slice A1 n1 c1, .slice A2 n2 c2, .slice none 0 0, .slice none 0 0, .slice none 0 0, .slice none 0 0]) 11 (.slice A2 n2 c2) rfl)
  have kS : Kpt (w.heap.size + 1) w10 (w10.setCell ⟨w.heap.size, 11, none⟩ (.slice A2 n2 c2)) := Kpt.set _ _ (by omega)
  have kR := (Kpt.rd g1 (show p < w.heap.size + 1 by have := HLT.out; omega)).trans kS
  have hqs : w.heap.size + 1 ≤ _ := HH9.out.lt
  have K1 := Lib.hid (K1.out.at kR)
  have K2 : Hid (SlF (w10.setCell ⟨w.heap.size, 11, none⟩ (.slice A2 n2 c2)) (w.heap.size + 1) (.slice A2 n2 c2) (r2 l).1) := Lib.hid ((own_slF ho (celR_ok HH9.out.rs.sl.ok) hqs).at kS)
  clear ho kS kR hqs
  have HN2 := Lib.hid hn2
  clear hn2
  clear h1 g1 H1 c_10 f_10
  go_wp2_with fail
  refine (rmoves_any HH10.out.rs).mono ?_
  rintro e w11 ⟨A3, c3, s1, he, hE, hO, h1, g1⟩
  obtain ⟨n3, hn3⟩ : ∃ n, n = (r3 l).1.length := ⟨_, rfl⟩
  replace he : e = .returned (.slice A3 (r3 l).1.length c3) := he
  rw [← hn3] at he
  subst he
  replace hE : Els w11 (.slice A3 (r3 l).1.length c3) 4 ((r3 l).1.map mvV) := hE
  replace hO : ∀ b, (Value.slice A3 (r3 l).1.length c3).ownBlock = some b → _ ≤ b := hO
  rw [← hn3] at hE hO
  replace h1 : RS w0 w11 p s1 (r3 l).2 := h1
  have H1 := HH10.out.step h1 g1
  have c_12 : w11.cell? ⟨w.heap.size, 12, none⟩ = some (.slice none 0 0) := H1.c 12
  have f_12 := H1.f 12
  have HH11 := Lib.hid (H1.put (cs' := #[.int .i64 (numR l 1), .int .i64 (numR (dr l 1) 1), .int .i64 (numR (dr l 2) 2), .int .i64 (numR (dr l 4) 1), .int .i64 (numR (dr l 5) 3), .int .i64 (numR (dr l 8) 3), .int .i64 (numR (dr l 11) 1), .int .i64 (numR (dr l 12) 1), .int .i64 (numR (dr l 13) 1), .int .i64 (numR (dr l 14) 1), .slice A1 n1 c1, .slice A2 n2 c2, .slice A3 n3 c3, .slice none 0 0, .slice none 0 0, .slice none 0 0]) 12 (.slice A3 n3 c3) rfl)
  have kS : Kpt (w.heap.size + 1) w11 (w11.setCell ⟨w.heap.size, 12, none⟩ (.slice A3 n3 c3)) := Kpt.set _ _ (by omega)
  have kR := (Kpt.rd g1 (show p < w.heap.size + 1 by have := HLT.out; omega)).trans kS
  have hqs : w.heap.size + 1 ≤ _ := HH10.out.lt
  have K1 := Lib.hid (K1.out.at kR)
  have K2 := Lib.hid (K2.out.at kR)
  have K3 : Hid (ElF (w11.setCell ⟨w.heap.size, 12, none⟩ (.slice A3 n3 c3)) (w.heap.size + 1) (.slice A3 n3 c3) 4 ((r3 l).1.map mvV)) := Lib.hid (ElF.at ⟨hE, fun b hb => Nat.le_trans hqs (hO b hb)⟩ kS)
  clear hE hO kS kR hqs
  have HN3 := Lib.hid hn3
  clear hn3
  clear h1 g1 H1 c_11 f_11
  go_wp2_with fail
  refine (rlives_any HH11.out.rs).mono ?_
  rintro e w12 ⟨A4, c4, s1, he, hE, hO, h1, g1⟩
  obtain ⟨n4, hn4⟩ : ∃ n, n = (r4 l).1.length := ⟨_, rfl⟩
  replace he : e = .returned (.slice A4 (r4 l).1.length c4) := he
  rw [← hn4] at he
  subst he
  replace hE : Els w12 (.slice A4 (r4 l).1.length c4) 4 ((r4 l).1.map lvV) := hE
  replace hO : ∀ b, (Value.slice A4 (r4 l).1.length c4).ownBlock = some b → _ ≤ b := hO
  rw [← hn4] at hE hO
  replace h1 : RS w0 w12 p s1 (r4 l).2 := h1
  have H1 := HH11.out.step h1 g1
  have c_13 : w12.cell? ⟨w.heap.size, 13, none⟩ = some (.slice none 0 0) := H1.c 13
  have f_13 := H1.f 13
  have HH12 := Lib.hid (H1.put (cs' := #[.int .i64 (numR l 1), .int .i64 (numR (dr l 1) 1), .int .i64 (numR (dr l 2) 2), .int .i64 (numR (dr l 4) 1), .int .i64 (numR (dr l 5) 3), .int .i64 (numR (dr l 8) 3), .int .i64 (numR (dr l 11) 1), .int .i64 (numR (dr l 12) 1), .int .i64 (numR (dr l 13) 1), .int .i64 (numR (dr l 14) 1), .slice A1 n1 c1, .slice A2 n2 c2, .slice A3 n3 c3, .slice A4 n4 c4, .slice none 0 0, .slice none 0 0]) 13 (.slice A4 n4 c4) rfl)
  have kS : Kpt (w.heap.size + 1) w12 (w12.setCell ⟨w.heap.size, 13, none⟩ (.slice A4 n4 c4)) := Kpt.set _ _ (by omega)
  have kR := (Kpt.rd g1 (show p < w.heap.size + 1 by have := HLT.out; omega)).trans kS
  have hqs : w.heap.size + 1 ≤ _ := HH11.out.lt
  have K1 := Lib.hid (K1.out.at kR)
  have K2 := Lib.hid (K2.out.at kR)
  have K3 := Lib.hid (K3.out.at kR)
  have K4 : Hid (ElF (w12.setCell ⟨w.heap.size, 13, none⟩ (.slice A4 n4 c4)) (w.heap.size + 1) (.slice A4 n4 c4) 4 ((r4 l).1.map lvV)) := Lib.hid (ElF.at ⟨hE, fun b hb => Nat.le_trans hqs (hO b hb)⟩ kS)
  clear hE hO kS kR hqs
  have HN4 := Lib.hid hn4
  clear hn4
  clear h1 g1 H1 c_12 f_12
  go_wp2_with fail
  refine (rdirtys_any HH12.out.rs).mono ?_
  rintro e w13 ⟨A5, c5, s1, he, hE, hO, h1, g1⟩
  obtain ⟨n5, hn5⟩ : ∃ n, n = (r5 l).1.length := ⟨_, rfl⟩
  replace he : e = .returned (.slice A5 (r5 l).1.length c5) := he
  rw [← hn5] at he
  subst he
  replace hE : Els w13 (.slice A5 (r5 l).1.length c5) 2 ((r5 l).1.map dtV) := hE
  replace hO : ∀ b, (Value.slice A5 (r5 l).1.length c5).ownBlock = some b → _ ≤ b := hO
  rw [← hn5] at hE hO
  replace h1 : RS w0 w13 p s1 (r5 l).2 := h1
  have H1 := HH12.out.step h1 g1
  have c_14 : w13.cell? ⟨w.heap.size, 14, none⟩ = some (.slice none 0 0) := H1.c 14
  have f_14 := H1.f 14
  have HH13 := Lib.hid (H1.put (cs' := #[.int .i64 (numR l 1), .int .i64 (numR (dr l 1) 1), .int .i64 (numR (dr l 2) 2), .int .i64 (numR (dr l 4) 1), .int .i64 (numR (dr l 5) 3), .int .i64 (numR (dr l 8) 3), .int .i64 (numR (dr l 11) 1), .int .i64 (numR (dr l 12) 1), .int .i64 (numR (dr l 13) 1), .int .i64 (numR (dr l 14) 1), .slice A1 n1 c1, .slice A2 n2 c2, .slice A3 n3 c3, .slice A4 n4 c4, .slice A5 n5 c5, .slice none 0 0]) 14 (.slice A5 n5 c5) rfl)
  have kS : Kpt (w.heap.size + 1) w13 (w13.setCell ⟨w.heap.size, 14, none⟩ (.slice A5 n5 c5)) := Kpt.set _ _ (by omega)
  have kR := (Kpt.rd g1 (show p < w.heap.size + 1 by have := HLT.out; omega)).trans kS
  have hqs : w.heap.size + 1 ≤ _ := HH12.out.lt
  have K1 := Lib.hid (K1.out.at kR)
  have K2 := Lib.hid (K2.out.at kR)
  have K3 := Lib.hid (K3.out.at kR)
  have K4 := Lib.hid (K4.out.at kR)
  have K5 : Hid (ElF (w13.setCell ⟨w.heap.size, 14, none⟩ (.slice A5 n5 c5)) (w.heap.size + 1) (.slice A5 n5 c5) 2 ((r5 l).1.map dtV)) := Lib.hid (ElF.at ⟨hE, fun b hb => Nat.le_trans hqs (hO b hb)⟩ kS)
  clear hE hO kS kR hqs
  have HN5 := Lib.hid hn5
  clear hn5
  clear h1 g1 H1 c_13 f_13
  go_wp2_with fail
  refine (ropens_any HH13.out.rs).mono ?_
  rintro e w14 ⟨A6, c6, s1, he, hE, h1, g1⟩
  obtain ⟨n6, hn6⟩ : ∃ n, n = (r6 l).1.length := ⟨_, rfl⟩
  replace he : e = .returned (.slice A6 (r6 l).1.length c6) := he
  rw [← hn6] at he
  subst he
  replace hE : OpF w14 _ (.slice A6 (r6 l).1.length c6) (r6 l).1 := hE
  rw [← hn6] at hE
  replace h1 : RS w0 w14 p s1 (r6 l).2 := h1
  have H1 := HH13.out.step h1 g1
  have c_15 : w14.cell? ⟨w.heap.size, 15, none⟩ = some (.slice none 0 0) := H1.c 15
  have f_15 := H1.f 15
  have HH14 := Lib.hid (H1.put (cs' := #[.int .i64 (numR l 1), .int .i64 (numR (dr l 1) 1), .int .i64 (numR (dr l 2) 2), .int .i64 (numR (dr l 4) 1), .int .i64 (numR (dr l 5) 3), .int .i64 (numR (dr l 8) 3), .int .i64 (numR (dr l 11) 1), .int .i64 (numR (dr l 12) 1), .int .i64 (numR (dr l 13) 1), .int .i64 (numR (dr l 14) 1), .slice A1 n1 c1, .slice A2 n2 c2, .slice A3 n3 c3, .slice A4 n4 c4, .slice A5 n5 c5, .slice A6 n6 c6]) 15 (.slice A6 n6 c6) rfl)
  have kS : Kpt (w.heap.size + 1) w14 (w14.setCell ⟨w.heap.size, 15, none⟩ (.slice A6 n6 c6)) := Kpt.set _ _ (by omega)
  have kR := (Kpt.rd g1 (show p < w.heap.size + 1 by have := HLT.out; omega)).trans kS
  have hqs : w.heap.size + 1 ≤ _ := HH13.out.lt
  have K1 := Lib.hid (K1.out.at kR)
  have K2 := Lib.hid (K2.out.at kR)
  have K3 := Lib.hid (K3.out.at kR)
  have K4 := Lib.hid (K4.out.at kR)
  have K5 := Lib.hid (K5.out.at kR)
  have K6 : Hid (OpF (w14.setCell ⟨w.heap.size, 15, none⟩ (.slice A6 n6 c6)) (w.heap.size + 1) (.slice A6 n6 c6) (r6 l).1) := Lib.hid ((hE.low hqs).kpt kS)
  clear hE kS kR hqs
  have HN6 := Lib.hid hn6
  clear hn6
  clear h1 g1 H1 c_14 f_14
  have HB := Lib.hid HH14.out.bx
  have HE := Lib.hid (setRow_self _ _ _ _ _ HH14.out.bx)
  have HF := Lib.hid (show (Tryz.prog.info? 55).map (·.size) = some (#[.int .i64 (numR l 1), .int .i64 (numR (dr l 1) 1), .int .i64 (numR (dr l 2) 2), .int .i64 (numR (dr l 4) 1), .int .i64 (numR (dr l 5) 3), .int .i64 (numR (dr l 8) 3), .int .i64 (numR (dr l 11) 1), .int .i64 (numR (dr l 12) 1), .int .i64 (numR (dr l 13) 1), .int .i64 (numR (dr l 14) 1), .slice A1 n1 c1, .slice A2 n2 c2, .slice A3 n3 c3, .slice A4 n4 c4, .slice A5 n5 c5, .slice A6 n6 c6] : Array Value).size from infoEnt)
  have HA := Lib.hid (show (#[.int .i64 (numR l 1), .int .i64 (numR (dr l 1) 1), .int .i64 (numR (dr l 2) 2), .int .i64 (numR (dr l 4) 1), .int .i64 (numR (dr l 5) 3), .int .i64 (numR (dr l 8) 3), .int .i64 (numR (dr l 11) 1), .int .i64 (numR (dr l 12) 1), .int .i64 (numR (dr l 13) 1), .int .i64 (numR (dr l 14) 1), .slice A1 n1 c1, .slice A2 n2 c2, .slice A3 n3 c3, .slice A4 n4 c4, .slice A5 n5 c5, .slice A6 n6 c6] : Array Value).all (·.oneCell') = true from by simp [Value.oneCell'])
  go_upto_region 15 with (fail)
  generalize (w14.setCell ⟨w.heap.size, 15, none⟩ (.slice A6 n6 c6)) = wz at *
  clear c_15 f_15
  go_wp2_with (first
    | (with_reducible refine wpList_load_row rfl 55 (.tmp 2) rfl w.heap.size rfl 55 _ (0, 0) _ HB.out Tryz.underlying55 rfl HF.out ?_)
    | (with_reducible refine wpList_store_row rfl 55 (.tmp 2) (.tmp 45) rfl w.heap.size _ rfl rfl 55 _ HB.out HF.out rfl HA.out ?_))
  rw [HE.out]
  refine bodyPost_ret (v := .agg #[.int .i64 (numR l 1), .int .i64 (numR (dr l 1) 1), .int .i64 (numR (dr l 2) 2), .int .i64 (numR (dr l 4) 1), .int .i64 (numR (dr l 5) 3), .int .i64 (numR (dr l 8) 3), .int .i64 (numR (dr l 11) 1), .int .i64 (numR (dr l 12) 1), .int .i64 (numR (dr l 13) 1), .int .i64 (numR (dr l 14) 1), .slice A1 n1 c1, .slice A2 n2 c2, .slice A3 n3 c3, .slice A4 n4 c4, .slice A5 n5 c5, .slice A6 n6 c6]) ?_ rfl ?_
  · exact results_cell_row Tryz.results126 _ _ _ _ _ _ _ rfl HB.out Tryz.underlying55 rfl HF.out
  · exact ⟨_, _, _, _, _, _, _, rfl, ⟨K1.out, K2.out, K3.out, K4.out, K5.out, K6.out⟩, HH14.out.rs, HH14.out.rd⟩

end Go.Proofs.YtljbhdldfffpfaaGreat
