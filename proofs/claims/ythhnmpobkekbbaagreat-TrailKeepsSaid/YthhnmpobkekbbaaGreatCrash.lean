/- Crash. -/
import Derived.Test.YthhnmpobkekbbaaGreatLoose
import Derived.Test.YthhnmpobkekbbaaGreatWriP
namespace Go.Proofs.YthhnmpobkekbbaaGreat
open Go.RowKit Go.Maps

def bitOf (ms : List Int) (i : Nat) : Bool := match ms[i / 8]? with | some x => (bits BinOp.and IntKind.u8 (x / 2 ^ (i % 8)) 1 == 1) | none => false

theorem bit_in (w : World) (gb ao len cap : Nat) (x : Int) (i : Nat) (hi : i ≤ 1000000) (hlen : len ≤ 1000000) (hlt : i / 8 < len) (hx : 0 ≤ x ∧ x < 256) (hc : w.cell? ⟨gb, ao + i / 8, none⟩ = some (.int .u8 x)) : Calls Tryz.prog 42 #[.slice (some ⟨gb, ao, none⟩) len cap, .int .i64 i] w fun e w' => e = .returned (.bool (bits BinOp.and IntKind.u8 (x / 2 ^ (i % 8)) 1 == 1)) ∧ w' = w := by
  obtain ⟨x0, x1⟩ := hx
  go_enter Tryz.func42, Tryz.ntmps42
  go_wp2
  go_ret
  exact ⟨rfl, rfl⟩

theorem bit_out (w : World) (p0 : Option Addr) (len cap : Nat) (i : Nat) (hi : i ≤ 1000000) (hlen : len ≤ 1000000) (hlt : len ≤ i / 8) : Calls Tryz.prog 42 #[.slice p0 len cap, .int .i64 i] w fun e w' => e = .returned (.bool false) ∧ w' = w := by
  have hge : ¬ (i : Int) / 8 < (len : Int) := by omega
  go_enter Tryz.func42, Tryz.ntmps42
  go_wp2
  go_ret
  exact ⟨rfl, rfl⟩

theorem bit_any (w : World) {mv : Value} {ms : List Int} {g : Nat} (h : SlB w mv ms g) (hb : bytesOk ms) (i : Nat) (hi : i ≤ 1000000) : Calls Tryz.prog 42 #[mv, .int .i64 i] w fun e w' => e = .returned (.bool (bitOf ms i)) ∧ w' = w := by
  obtain ⟨p0, len, cap, rfl, rfl, hle, hcap, hn, ha⟩ := h
  unfold bitOf
  rcases Nat.lt_or_ge (i / 8) ms.length with hlt | hge
  · rw [List.getElem?_eq_getElem hlt]
    obtain ⟨a, rfl⟩ : ∃ a, p0 = some a := by
      cases p0
      · rw [hn rfl] at hlt; simp at hlt
      · exact ⟨_, rfl⟩
    obtain ⟨rfl, hs, hc⟩ := ha _ rfl (by intro e; rw [e] at hlt; cases hlt)
    obtain ⟨gb, ao, _⟩ := a
    cases hs
    exact bit_in w gb ao _ cap _ i hi (by omega) hlt (hb _ (List.getElem_mem hlt)) (hc _ hlt)
  · rw [List.getElem?_eq_none hge]
    exact bit_out w p0 _ cap i hi (by omega) hge

def crashNow (d : Dk) (ms ls : List Int) : Nat → (Int → Option Value)
  | 0 => d.now
  | j + 1 => match ls[j]? with
    | some k => if bitOf ms j = true then crashNow d ms ls j else upd (crashNow d ms ls j) k (some ((d.old k).getD zb))
    | none => crashNow d ms ls j

def Dk.crashed (d : Dk) (m : Int → Option Value) : Dk := { tiles := d.tiles, now := m, old := fun _ => none, dead := true, set := false, left := 0, mv := .slice none 0 0, mask := [] }

theorem old_blk {d : Dk} (h : d.Ok) (i : Int) : IsBlk ((d.old i).getD zb) := by
  cases hn : d.old i with
  | none => exact zb_blk
  | some v => exact (h.old i v hn).2.2

theorem IntSl.turned {w w' : World} {b : Nat} (ht : w.mapTurned w' b) {v : Value} {ls : List Int} {B : Nat} (h : IntSl w v ls B) : IntSl w' v ls B := by
  rcases h with h | ⟨gl, cap, e, hB, hc⟩
  · exact Or.inl h
  · exact Or.inr ⟨gl, cap, e, hB, fun j hj => cell_turned ht (hc j hj)⟩

theorem SlB.kept {w w' : World} {v : Value} {l : List Int} {g : Nat} (h : SlB w v l g) (hb : ∀ k, k < w.heap.size → w'.heap[k]? = w.heap[k]?) : SlB w' v l g := by
  obtain ⟨p0, len, cap, e, e2, hle, hcap, hn, ha⟩ := h
  refine ⟨p0, len, cap, e, e2, hle, hcap, hn, fun a hpa hne => ?_⟩
  obtain ⟨h1, h2, h3⟩ := ha a hpa hne
  refine ⟨h1, h2, fun j hj => ?_⟩
  have h4 := h3 j hj
  rw [← h4]
  exact World.cell?_of_block (hb g (block_lt_of_cell h4))

/-- What the loop keeps. -/
def CrI (w : World) (p bn bo g gm : Nat) (d : Dk) (mv : Value) (ms : List Int) (v : Value) (ls : List Int) (k : Nat) (wr : World) : Prop :=
  DiskAt wr p bn bo g { d with now := crashNow d ms ls k } ∧ Fr w.heap.size (Three p bn bo) w wr ∧ IntSl wr v ls w.heap.size ∧ SlB wr mv ms gm

theorem CrI.drew {w : World} {p bn bo g gm : Nat} {d : Dk} {mv : Value} {ms : List Int} {v : Value} {ls : List Int} {k : Nat} {wr : World} (h : CrI w p bn bo g gm d mv ms v ls k wr) : CrI w p bn bo g gm d mv ms v ls k wr.drew :=
  ⟨h.1.kept fun _ _ => rfl, h.2.1.drew, h.2.2.1, h.2.2.2.kept fun _ _ => rfl⟩

theorem CrI.keep {w : World} {p bn bo g gm : Nat} {d : Dk} {mv : Value} {ms : List Int} {v : Value} {ls : List Int} {k : Nat} {wr : World} (h : CrI w p bn bo g gm d mv ms v ls k wr) (hk : k < ls.length) (hb : bitOf ms k = true) : CrI w p bn bo g gm d mv ms v ls (k + 1) wr := by
  have e : crashNow d ms ls (k + 1) = crashNow d ms ls k := by
    simp [crashNow, List.getElem?_eq_getElem hk, hb]
  unfold CrI
  rw [e]
  exact h

/-- A round that puts a tile back. -/
theorem CrI.back {w : World} {p bn bo g gm : Nat} {d : Dk} {mv : Value} {ms : List Int} {v : Value} {ls : List Int} {k : Nat} {wr : World} (h : CrI w p bn bo g gm d mv ms v ls k wr) (hd : d.Ok) (hl : IsLoose d ls) (hk : k < ls.length) (hb : bitOf ms k = false) :
    (Instr.lookup 71 (.map (some bo)) (.int .i64 ls[k]) false).run Tryz.prog wr = .ok ((d.old ls[k]).getD zb) wr ∧
    ∃ w4, (Instr.mapUpdate 71 (.map (some bn)) (.int .i64 ls[k]) ((d.old ls[k]).getD zb)).run Tryz.prog wr = .ok () w4 ∧ CrI w p bn bo g gm d mv ms v ls (k + 1) w4 ∧ wr.mapTurned w4 bn := by
  obtain ⟨h1, h2, h3, h4⟩ := h
  obtain ⟨u, hu⟩ := Option.isSome_iff_exists.1 ((hl.2 ls[k]).1 (List.getElem_mem hk))
  obtain ⟨l0, l1, hv⟩ := hd.old _ u hu
  have hhi := hd.hi
  have wi : (Lit.int .i64 ls[k]).wf = true := WalkArith.wf_i64 (by omega)
  refine ⟨h1.old.look law3 Tryz.underlying71 Tryz.underlying3 (zeroB _) wi, ?_⟩
  obtain ⟨w4, r1, r2, r3⟩ := store_end h1 l0 l1 (old_blk hd ls[k])
  have e : crashNow d ms ls (k + 1) = upd (crashNow d ms ls k) ls[k] (some ((d.old ls[k]).getD zb)) := by
    simp [crashNow, List.getElem?_eq_getElem hk, hb]
  refine ⟨w4, r1, ⟨?_, h2.turned (Or.inl (Or.inr (Or.inl rfl))) r3, h3.turned r3, h4.turned r3⟩, r3⟩
  rw [e]
  exact r2




/-- Behind the loop: no tile is loose, the disk is dead, nothing is armed. -/
theorem crash_end {w : World} {p bn bo g : Nat} {d : Dk} (h : DiskAt w p bn bo g d) (ho : d.old = fun _ => none) :
    DiskAt ((((w.setCell ⟨p, 3, none⟩ (.bool true)).setCell ⟨p, 4, none⟩ (.bool false)).setCell ⟨p, 5, none⟩ (.int .i64 0)).setCell ⟨p, 6, none⟩ (.slice none 0 0)) p bn bo g (d.crashed d.now) := by
  have ok := h.ok
  have h1 := h.poke (d' := { d with dead := true }) 3 (.bool true) rfl rfl rfl h.mask ⟨ok.lo, ok.hi, ok.now, ok.old, ok.llo, ok.lhi, ok.mok⟩
  have h2 := h1.poke (d' := { d with dead := true, set := false }) 4 (.bool false) rfl rfl rfl h1.mask ⟨ok.lo, ok.hi, ok.now, ok.old, ok.llo, ok.lhi, ok.mok⟩
  have h3 := h2.poke (d' := { d with dead := true, set := false, left := 0 }) 5 (.int .i64 0) rfl rfl rfl h2.mask ⟨ok.lo, ok.hi, ok.now, ok.old, by simp, by simp, ok.mok⟩
  exact h3.poke (d' := d.crashed d.now) 6 (.slice none 0 0) rfl rfl ho.symm (nil_SlB _ _) ⟨ok.lo, ok.hi, ok.now, (fun i v e => by cases e), by simp [Dk.crashed], by simp [Dk.crashed], by simp [Dk.crashed, bytesOk]⟩

theorem crash_fr {a w : World} {p bn bo : Nat} {B : Nat} {v1 v2 v3 v4 : Value} (h : Fr B (Three p bn bo) a w) : Fr B (Three p bn bo) a ((((w.setCell ⟨p, 3, none⟩ v1).setCell ⟨p, 4, none⟩ v2).setCell ⟨p, 5, none⟩ v3).setCell ⟨p, 6, none⟩ v4) :=
  (((h.setCell (p := ⟨p, 3, none⟩) (Or.inl (Or.inl rfl)) _).setCell (p := ⟨p, 4, none⟩) (Or.inl (Or.inl rfl)) _).setCell (p := ⟨p, 5, none⟩) (Or.inl (Or.inl rfl)) _).setCell (p := ⟨p, 6, none⟩) (Or.inl (Or.inl rfl)) _

theorem IntSl.shape {w : World} {v : Value} {ls : List Int} {B : Nat} (h : IntSl w v ls B) : ∃ p0 cap, v = .slice p0 ls.length cap ∧ (p0 = none → ls = []) ∧ ∀ a, p0 = some a → a.off = 0 ∧ a.spot = none := by
  rcases h with ⟨rfl, rfl⟩ | ⟨gl, cap, e, _, _⟩
  · exact ⟨none, 0, rfl, (fun _ => rfl), (fun a e => by cases e)⟩
  · exact ⟨_, cap, e, (fun e => by cases e), (fun a e => by cases e; exact ⟨rfl, rfl⟩)⟩

theorem IntSl.at {w : World} {gl cap : Nat} {ls : List Int} {B : Nat} (h : IntSl w (.slice (some ⟨gl, 0, none⟩) ls.length cap) ls B) {j : Nat} (hj : j < ls.length) : w.cell? ⟨gl, j, none⟩ = some (.int .i64 ls[j]) := by
  rcases h with ⟨e, _⟩ | ⟨gl', cap', e, _, hc⟩
  · cases e
  · cases e; exact hc j hj

set_option maxRecDepth 100000 in
set_option maxHeartbeats 1000000 in
theorem crash_any (w : World) {p bn bo g gm : Nat} {d : Dk} (h : DiskAt w p bn bo g d) {mv : Value} {ms : List Int} (hm : SlB w mv ms gm) (hmb : bytesOk ms) :
    Calls Tryz.prog 16 #[.pointer (some ⟨p, 0, none⟩), mv] w fun e w' => e = .returned (.tuple #[]) ∧ ∃ ls, IsLoose d ls ∧ DiskAt w' p bn bo g (d.crashed (crashNow d ms ls ls.length)) ∧ Fr w.heap.size (Three p bn bo) w w' := by
  have HL := Lib.hid (loose_any w h)
  go_enter Tryz.func16, Tryz.ntmps16
  go_wp2_with (go_at_call 41; refine HL.out.mono ?_; rintro e w1 ⟨v, ls, rfl, hls, hle, hsl, hbw⟩; obtain ⟨p0, cap, rfl, hp0, hp1⟩ := hsl.shape)
  have hI : CrI w p bn bo g gm d mv ms (.slice p0 ls.length cap) ls 0 w1 := ⟨h.kept (fun k hk => hbw.block k hk), ⟨hbw.os, hbw.tape, hbw.output, hbw.size, fun k hk _ => hbw.block k hk⟩, hsl, hm.kept (fun k hk => hbw.block k hk)⟩
  clear hsl hbw
  go_loopw [11] (fun i wr => ∃ k : Nat, k ≤ ls.length ∧ i = .int .i64 k ∧ CrI w p bn bo g gm d mv ms (.slice p0 ls.length cap) ls k wr) (fun i _ => ls.length - (intOf i).toNat)
  case atStart => exact ⟨0, Nat.zero_le _, rfl, hI⟩
  case round =>
    obtain ⟨k, hk, rfl, hI⟩ := hrel
    by_cases hlt : k < ls.length
    · cases p0 with
      | none => exact absurd hlt (by rw [hp0 rfl]; simp)
      | some a0 =>
        obtain ⟨gl, o0, s0⟩ := a0
        obtain ⟨rfl, rfl⟩ := hp1 _ rfl
        have hc := hI.2.2.1.at hlt
        have hbit := Lib.hid (fun W (hW : SlB W mv ms gm) => bit_any W hW hmb k (by omega))
        have hd := h.ok
        have c1 := hI.1.c1
        have c2 := hI.1.c2
        have HI := Lib.hid hI
        clear hI hp0 hp1
        cases hb : bitOf ms k with
        | true =>
          have HB := Lib.hid hb
          rw [hb] at hbit
          clear hb
          go_wp2_with (go_at_call 42; refine (hbit.out _ HI.out.2.2.2).mono ?_; rintro e w' ⟨rfl, rfl⟩)
          go_roundw
          case rel => exact ⟨k + 1, by omega, by go_num, HI.out.keep hlt HB.out⟩
          case measure => simp [intOf]; omega
        | false =>
          obtain ⟨q1, w4, q2, q3, q4⟩ := HI.out.drew.back hd hls hlt hb
          have Q3 := Lib.hid q3
          rw [hb] at hbit
          clear hb q3
          generalize hlk : ls[k] = x at hc q1 q2
          generalize (d.old x).getD zb = ov at q1 q2
          clear hlk
          go_wp2_with (go_at_call 42; refine (hbit.out _ HI.out.2.2.2).mono ?_; rintro e w' ⟨rfl, rfl⟩)
          refine wp_region_still_tail 11 (by kernel_rfl) (by kernel_rfl) ?_
          simp only [List.take_succ_cons, List.take_zero, List.drop_succ_cons, List.drop_zero]
          change wpStill _ _ (World.drew _) _ _ _
          iterate 11 still_step
          refine wpStill_nil ?_
          change wpList _ _ _ _ _ (World.drew _)
          go_wp2
          go_roundw
          case rel => exact ⟨k + 1, by omega, by go_num, Q3.out⟩
          case measure => simp [intOf]; omega
    · obtain rfl : k = ls.length := by omega
      have c2 := hI.1.c2
      have ho := hI.1.old
      have HI := Lib.hid hI
      clear hI
      go_wp2_with (with_reducible refine wpList_clear rfl (.tmp 35) 71 rfl 3 86 bo _ Tryz.underlying71 rfl ho ?_)
      intro w2 hf2 ht2
      have hD := HI.out.1.putOld ht2 hf2 (fun i v e => by cases e)
      have c3 := hD.c3
      have c4 := hD.c4
      have c5 := hD.c5
      have c6 := hD.c6
      have f3 := hD.fz 3
      have f4 := hD.fz 4
      have f5 := hD.fz 5
      have f6 := hD.fz 6
      go_wp2
      go_end0
      exact ⟨rfl, ls, hls, crash_end hD rfl, crash_fr (HI.out.2.1.turned (Or.inl (Or.inr (Or.inr rfl))) ht2)⟩
end Go.Proofs.YthhnmpobkekbbaaGreat
