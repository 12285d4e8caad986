/- The reader: open units. -/
import Derived.Test.YtemmhligohebfaaEntV
namespace Go.Proofs.Ytemmhligohebfaa
open Go.RowKit

theorem Els.at {w w' : World} {v : Value} {k : Nat} {xs : List (List Value)} (h : Els w v k xs) (hb : xs ≠ [] → ∀ b, v.ownBlock = some b → b < w.heap.size → w'.heap[b]? = w.heap[b]?) : Els w' v k xs := by
  obtain ⟨A, cap, rfl, h1, h2, h3⟩ := h
  refine ⟨A, cap, rfl, h1, h2, fun a ha hne => ?_⟩
  obtain ⟨h5, h6, h7⟩ := h3 a ha hne
  subst ha
  have e := hb hne a.block rfl h6
  refine ⟨h5, ?_, fun i j hi hj => ?_⟩
  · by_cases h0 : a.block < w'.heap.size
    · exact h0
    · rw [Array.getElem?_eq_none (by omega), Array.getElem?_eq_getElem h6] at e
      cases e
  · rw [← h7 i j hi hj]
    exact World.cell?_of_block e

/-- What an open unit's reading leaves. -/
def OPost (w0 w : World) (p : Nat) (l : List Int) (e : Ending) (w' : World) : Prop := ∃ A c sv', e = .returned (.agg #[.int .i64 (opR l).1.1, .slice A (opR l).1.2.2.length c, .int .i64 (opR l).1.2.1]) ∧ Els w' (.slice A (opR l).1.2.2.length c) 4 ((opR l).1.2.2.map mvV) ∧ (∀ b, (Value.slice A (opR l).1.2.2.length c).ownBlock = some b → w.heap.size ≤ b) ∧ RS w0 w' p sv' (opR l).2 ∧ Rd p w w'

set_option maxRecDepth 100000 in
set_option maxHeartbeats 1000000 in
theorem ropen_any {w0 w : World} {p : Nat} {sv : Value} {l : List Int} (h : RS w0 w p sv l) :
    Calls Try.prog 86 #[.pointer (some ⟨p, 0, none⟩)] w (OPost w0 w p l) := by
  have HH0 := Lib.hid (Hr.init h #[.int .i64 0, .slice none 0 0, .int .i64 0] 110)
  clear h
  go_enter Try.func86, Try.ntmps86
  go_wp2_with fail
  refine (rnum_any HH0.out.rs 2 (by omega)).mono ?_
  rintro e w1 ⟨rfl, s1, h1, g1⟩
  have H1 := HH0.out.step h1 g1
  have c0 : w1.cell? ⟨w.heap.size, 0, none⟩ = some (.int .i64 0) := H1.c 0
  have f0 := H1.f 0
  have HH1 := Lib.hid (H1.put (cs' := #[.int .i64 (numR l 2), .slice none 0 0, .int .i64 0]) 0 (.int .i64 (numR l 2)) rfl)
  clear h1 g1 H1
  go_wp2_with fail
  refine (rnum_any HH1.out.rs 1 (by omega)).mono ?_
  rintro e w2 ⟨rfl, s1, h1, g1⟩
  rw [dr_dr] at h1
  have H1 := HH1.out.step h1 g1
  have c2 : w2.cell? ⟨w.heap.size, 2, none⟩ = some (.int .i64 0) := H1.c 2
  have f2 := H1.f 2
  have HH2 := Lib.hid (H1.put (cs' := #[.int .i64 (numR l 2), .slice none 0 0, .int .i64 (numR (dr l 2) 1)]) 2 (.int .i64 (numR (dr l 2) 1)) rfl)
  clear h1 g1 H1 c0 f0
  go_wp2_with fail
  refine (rmoves_any HH2.out.rs).mono ?_
  rintro e w3 ⟨A, c, s1, rfl, hE, hO, h1, g1⟩
  obtain ⟨n, hn⟩ : ∃ n, n = (lstR mvR (dr l (2 + 1))).1.length := ⟨_, rfl⟩
  rw [← hn] at hE hO ⊢
  have H1 := HH2.out.step h1 g1
  have hq : w.heap.size < (w2.setCell ⟨w.heap.size, 2, none⟩ (.int .i64 (numR (dr l 2) 1))).heap.size := HH2.out.lt
  have c1 : w3.cell? ⟨w.heap.size, 1, none⟩ = some (.slice none 0 0) := H1.c 1
  have f1 := H1.f 1
  have HH3 := Lib.hid (H1.put (cs' := #[.int .i64 (numR l 2), .slice A n c, .int .i64 (numR (dr l 2) 1)]) 1 (.slice A n c) rfl)
  have HE3 := Lib.hid (hE.at (w' := w3.setCell ⟨w.heap.size, 1, none⟩ (.slice A n c)) (fun _ b hb _ => setCell_far _ _ _ _ (by have := hO b hb; omega)))
  have HO3 : Hid (∀ b, (Value.slice A n c).ownBlock = some b → w.heap.size ≤ b) := fun b hb => by have := hO b hb; omega
  have HN := Lib.hid hn
  clear h1 g1 H1 c2 f2 hE hO hn hq
  have HB := Lib.hid HH3.out.bx
  have HE := Lib.hid (setRow_self _ _ _ _ _ HH3.out.bx)
  have HF := Lib.hid (show (Try.prog.info? 110).map (·.size) = some (#[.int .i64 (numR l 2), .slice A n c, .int .i64 (numR (dr l 2) 1)] : Array Value).size from infoOpen)
  have HA := Lib.hid (show (#[.int .i64 (numR l 2), .slice A n c, .int .i64 (numR (dr l 2) 1)] : Array Value).all (·.oneCell') = true from by simp [Value.oneCell'])
  go_upto_region 4 with (fail)
  generalize w3.setCell ⟨w.heap.size, 1, none⟩ (.slice A n c) = wz at *
  clear c1 f1
  go_wp2_with (first
    | (with_reducible refine wpList_load_row rfl 110 (.tmp 2) rfl w.heap.size rfl 110 _ (0, 0) _ HB.out Try.underlying110 rfl HF.out ?_)
    | (with_reducible refine wpList_store_row rfl 110 (.tmp 2) (.tmp 12) rfl w.heap.size _ rfl rfl 110 _ HB.out HF.out rfl HA.out ?_))
  rw [HE.out]
  refine bodyPost_ret (v := .agg #[.int .i64 (numR l 2), .slice A n c, .int .i64 (numR (dr l 2) 1)]) ?_ rfl ?_
  · exact results_cell_row Try.results86 _ _ _ _ _ _ _ rfl HB.out Try.underlying110 rfl HF.out
  · have hn := HN.out
    subst hn
    exact ⟨A, c, s1, rfl, HE3.out, HO3.out, HH3.out.rs, HH3.out.rd⟩

/-- Open units in memory, all from block B on. -/
def OpF (w : World) (B : Nat) (sv : Value) (ops : List Opn) : Prop := ∃ os : List (Opn × Value), ops = os.map Prod.fst ∧ Els w sv 3 (os.map opV) ∧ (∀ b, sv.ownBlock = some b → B ≤ b) ∧ ∀ o ∈ os, Els w o.2 4 (o.1.2.2.map mvV) ∧ (o.1.2.2 ≠ [] → ∀ b, o.2.ownBlock = some b → B ≤ b)
theorem OpF.opAt {w : World} {B : Nat} {sv : Value} {ops : List Opn} (h : OpF w B sv ops) : OpAt w sv ops := by
  obtain ⟨os, e, h1, _, h2⟩ := h
  exact ⟨os, e, h1, fun o ho => (h2 o ho).1⟩
theorem OpF.at {w w' : World} {B : Nat} {sv : Value} {ops : List Opn} (h : OpF w B sv ops) (hb : ∀ b, B ≤ b → b < w.heap.size → w'.heap[b]? = w.heap[b]?) : OpF w' B sv ops := by
  obtain ⟨os, e, h1, h3, h2⟩ := h
  refine ⟨os, e, h1.at fun _ b hbb hlt => hb b (h3 b hbb) hlt, h3, fun o ho => ⟨(h2 o ho).1.at fun hne b hbb hlt => hb b ((h2 o ho).2 (fun e => hne (by rw [e]; rfl)) b hbb) hlt, (h2 o ho).2⟩⟩

def LOPost (w0 w : World) (p : Nat) (r : List Opn × List Int) (e : Ending) (w' : World) : Prop := ∃ A c sv', e = .returned (.slice A r.1.length c) ∧ OpF w' w.heap.size (.slice A r.1.length c) r.1 ∧ RS w0 w' p sv' r.2 ∧ Rd p w w'

def LORel (w0 w : World) (p : Nat) (l : List Int) (n : Nat) (v i : Value) (wr : World) : Prop :=
  ∃ (j : Nat) (A : Option Addr) (m c : Nat) (sv : Value) (os : List (Opn × Value)), j ≤ n ∧ i = .int .i64 j ∧ v = .slice A m c ∧ wr.ownsRow w.heap.size 110 3 (.slice A m c) j (os.flatMap opV) ∧ (nR opR j l).1 = os.map Prod.fst ∧
    (∀ o ∈ os, Els wr o.2 4 (o.1.2.2.map mvV) ∧ (o.1.2.2 ≠ [] → ∀ b, o.2.ownBlock = some b → w.heap.size ≤ b ∧ b < wr.heap.size ∧ (Value.slice A m c).ownBlock ≠ some b)) ∧ RS w0 wr p sv (nR opR j l).2 ∧ Rd p w wr

theorem Els.blk {w : World} {v : Value} {k : Nat} {xs : List (List Value)} (h : Els w v k xs) (hne : xs ≠ []) {b : Nat} (hb : v.ownBlock = some b) : b < w.heap.size := by
  obtain ⟨A, cap, rfl, h1, h2, h3⟩ := h
  cases A with
  | none => cases hb
  | some a =>
    cases hb
    exact (h3 a rfl hne).2.1

theorem infoROpen : (Try.prog.info? 110).map (fun i => (i.zero, i.size, i.bytes)) = some (some (.agg #[.int .i64 0, .slice none 0 0, .int .i64 0]), 3, 40) := by kernel_rfl
set_option maxRecDepth 100000 in
set_option maxHeartbeats 1000000 in
theorem ropens_any {w0 w : World} {p : Nat} {sv : Value} {l : List Int} (h : RS w0 w p sv l) :
    Calls Try.prog 85 #[.pointer (some ⟨p, 0, none⟩), .func (.func 86) #[] #[]] w (LOPost w0 w p (lstR opR l)) := by
  obtain ⟨i, hi, hz0, hz1, hz2⟩ := info_parts infoROpen
  have hok := h.sl.ok
  have hb := numR_bd hok 1
  have hlt := h.lt
  obtain ⟨n, hn⟩ : ∃ n : Nat, numR l 1 = n := ⟨(numR l 1).toNat, by omega⟩
  have HL : Hid (lstR opR l = nR opR n (dr l 1)) := by
    show lstR opR l = _
    unfold lstR
    rw [hn]
    rfl
  have hn2 : n < 256 := by have := hb.2; omega
  have HH := Lib.hid h
  clear h hok hb
  go_enter Try.func85, Try.ntmps85
  go_wp2_with fail
  refine (rnum_any HH.out 1 (by omega)).mono ?_
  rintro e w1 ⟨he, s1, h1, g1⟩
  rw [hn] at he
  subst he
  have H1 : Hid (LORel w0 w p (dr l 1) n (.slice none 0 0) (.int .i64 0) w1) := ⟨0, none, 0, 0, s1, [], Nat.zero_le _, rfl, rfl, World.ownsRow_nil _ _ _ _, rfl, (fun o ho => by cases ho), h1, g1⟩
  clear h1 g1
  go_wp2
  go_loopw [5, 8] (fun v i wr => LORel w0 w p (dr l 1) n v i wr) (fun _ i _ => n - (intOf i).toNat)
  case atStart => exact H1.out
  case round =>
    obtain ⟨j, A, m, c, s2, os, hj, rfl, rfl, ho, hos, hin, h2, g2⟩ := hrel
    have HO := Lib.hid ho
    have H2 := Lib.hid h2
    have G2 := Lib.hid g2
    have HOS := Lib.hid hos
    have HIN := Lib.hid hin
    clear ho h2 g2 hos hin
    by_cases hjn : j < n
    · go_wp2_with fail
      refine (ropen_any H2.out).mono ?_
      rintro e w3 ⟨A3, c3, s3, he, hE, hB, h3, g3⟩
      obtain ⟨⟨a0, a1, a2⟩, hm⟩ : ∃ m, m = (opR (nR opR j (dr l 1)).2).1 := ⟨_, rfl⟩
      rw [← hm] at he hE hB
      replace he : e = .returned (.agg #[.int .i64 a0, .slice A3 a2.length c3, .int .i64 a1]) := he
      subst he
      have hsz : w.heap.size ≤ w3.heap.size := Nat.le_trans G2.out.size g3.size
      have hsame : ∀ b, w.heap.size ≤ b → b < wr.heap.size → w3.heap[b]? = wr.heap[b]? := fun b h1 h2 => g3.block b h2 (by omega)
      have ho3 : w3.ownsRow w.heap.size 110 3 (.slice A m c) j (os.flatMap opV) := own_at HO.out fun k hk => hsame k (HO.out.lt k hk).1 (HO.out.lt k hk).2
      have hin3 : ∀ o ∈ os ++ [((a0, a1, a2), Value.slice A3 a2.length c3)], Els w3 o.2 4 (o.1.2.2.map mvV) ∧ (o.1.2.2 ≠ [] → ∀ b, o.2.ownBlock = some b → w.heap.size ≤ b ∧ b < w3.heap.size ∧ (Value.slice A m c).ownBlock ≠ some b) := by
        intro o ho
        rcases List.mem_append.1 ho with ho | ho
        · obtain ⟨k1, k2⟩ := HIN.out o ho
          refine ⟨k1.at fun hne b hb hlt => hsame b (k2 (fun e => hne (by rw [e]; rfl)) b hb).1 hlt, fun hne b hb => ?_⟩
          obtain ⟨z1, z2, z3⟩ := k2 hne b hb
          exact ⟨z1, Nat.lt_of_lt_of_le z2 g3.size, z3⟩
        · obtain rfl : o = ((a0, a1, a2), Value.slice A3 a2.length c3) := by simpa using ho
          refine ⟨hE, fun hne b hb => ?_⟩
          have hne2 : (a2.map mvV) ≠ [] := fun e => hne (List.map_eq_nil_iff.1 e)
          have hbl := hE.blk hne2 hb
          have hge := hB b hb
          have := G2.out.size
          exact ⟨by omega, hbl, fun e => by have := (HO.out.lt b e).2; omega⟩
      have hoa : ∀ o, (w3.alloc o).ownsRow w.heap.size 110 3 (.slice A m c) j (os.flatMap opV) := fun o => ho3.alloc o
      have HOA := Lib.hid hoa
      have HA3 : Hid (∀ o, Below w3.heap.size w3 (w3.alloc o)) := fun o => (Below.refl _ _).alloc (Nat.le_refl _) _
      have H3 := Lib.hid h3
      have G3 := Lib.hid g3
      have HM := Lib.hid hm
      have HZ := Lib.hid hsz
      have HI3 := Lib.hid hin3
      clear ho3 hoa h3 g3 hm hsz hin3 hsame hE hB
      go_wp2_with (at_builtin; refine wpList_append_lies _ rfl _ _ 38 rfl w.heap.size 110 i (.agg #[.int .i64 0, .slice none 0 0, .int .i64 0]) 3 40 Try.underlying38 hi hz0 hz1 hz2 rfl (by decide) (.slice A m c) j _ rfl (HOA.out _) ⟨w3.heap.size, 0, none⟩ 1 1 [.int .i64 a0, .slice A3 a2.length c3, .int .i64 a1] rfl rfl ?c1 ?c2 ?c3 ?c4 ?c5 ?c6 _ rfl ?_)
      case c1 => exact World.news_of_block (heap_alloc_new w3 _)
      case c2 => intro u hu; simp at hu; rcases hu with rfl | rfl | rfl <;> rfl
      case c3 => omega
      case c4 => unfold maxLen; omega
      case c5 => omega
      case c6 => simp; exact Nat.le_succ_of_le HZ.out
      intro g4 c4 w4 ho4 hg4 hv4 hl4
      have h4 := (H3.out.on (HA3.out _)).grow hg4 (fun k hk => by have := (HO.out.lt k hk).1; omega)
      have hr4 : LORel w0 w p (dr l 1) n (.slice (some ⟨g4, 0, none⟩) (j + 1) c4) (.int .i64 (j + 1)) w4 := by
        refine ⟨j + 1, _, _, _, s3, os ++ [((a0, a1, a2), Value.slice A3 a2.length c3)], hjn, rfl, rfl, ?_, ?_, fun o ho => ?_, h4.1, ((G2.out.trans G3.out).trans (Rd.of_below (HA3.out _))).grow hg4 (fun k hk => (HO.out.lt k hk).1)⟩
        · rw [List.flatMap_append]
          exact ho4
        · rw [List.map_append, ← HOS.out]
          show (nR opR j (dr l 1)).1 ++ [_] = _
          rw [← HM.out]
          rfl
        · obtain ⟨k1, k2⟩ := HI3.out o ho
          have hs : ∀ b, b < w3.heap.size → (Value.slice A m c).ownBlock ≠ some b → w4.heap[b]? = w3.heap[b]? := fun b h1 h2 => (hg4.block b (Nat.lt_of_lt_of_le h1 (HA3.out _).size) (fun e => h2 e.symm)).trans ((HA3.out _).block b h1)
          refine ⟨k1.at fun hne b hb hlt => hs b hlt (k2 (fun e => hne (by rw [e]; rfl)) b hb).2.2, fun hne b hb => ?_⟩
          obtain ⟨z1, z2, z3⟩ := k2 hne b hb
          refine ⟨z1, Nat.lt_of_lt_of_le z2 (Nat.le_trans (HA3.out _).size hg4.size), fun e => ?_⟩
          have e2 : g4 = b := by simpa [Value.ownBlock] using e
          rcases hv4 with h | h
          · exact z3 (by rw [h, e2])
          · have h5 : w3.heap.size ≤ g4 := by rw [h]; omega
            omega
      have HR4 := Lib.hid hr4
      clear ho4 hg4 hv4 hl4 h4 hr4
      go_wp2
      go_roundw
      all_goals first
        | exact HR4.out
        | (simp [intOf]; omega)
    · obtain rfl : j = n := by omega
      have hm := own_n HO.out
      subst hm
      go_wp2
      go_ret
      have hlen : os.length = m := by have := congrArg List.length HOS.out; rw [nR_len, List.length_map] at this; omega
      have hE := own_els (f := opV) (fun _ => rfl) HO.out hlen
      refine ⟨A, c, s2, ?_, ?_, ?_, G2.out⟩
      · rw [HL.out, nR_len]; rfl
      · rw [HL.out, nR_len]
        exact ⟨os, HOS.out, hE.1, hE.2, fun o ho => ⟨(HIN.out o ho).1, fun hne b hb => ((HIN.out o ho).2 hne b hb).1⟩⟩
      · rw [HL.out]; exact H2.out

end Go.Proofs.Ytemmhligohebfaa
