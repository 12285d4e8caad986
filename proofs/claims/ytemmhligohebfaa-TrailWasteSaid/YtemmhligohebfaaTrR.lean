/- The log: read, of a disk that is not armed. -/
import Derived.Test.YtemmhligohebfaaTrSt
namespace Go.Proofs.Ytemmhligohebfaa
open Go.RowKit Go.Maps

/-- What the tiles say, from one on. -/
def rdL (T : Nat → List Int) : Nat → Nat → List Int
  | 0, _ => []
  | m + 1, i => if 63 < (T i).headD 0 then [] else if (T i).headD 0 < 63 then ((T i).drop 1).take ((T i).headD 0).toNat else ((T i).drop 1).take ((T i).headD 0).toNat ++ rdL T m (i + 1)
theorem rdL_ok {T : Nat → List Int} {K : Nat} (h : ∀ i, i < K → bytesOk (T i)) : ∀ m i, i + m ≤ K → bytesOk (rdL T m i)
  | 0, _, _ => fun x hx => by cases hx
  | m + 1, i, hm => by
    unfold rdL
    have h1 : bytesOk (((T i).drop 1).take ((T i).headD 0).toNat) := ok_take (ok_drop (h i (by omega)) 1) _
    split
    · exact fun x hx => by cases hx
    · split
      · exact h1
      · intro x hx
        rcases List.mem_append.1 hx with hx | hx
        · exact h1 x hx
        · exact rdL_ok h m (i + 1) (by omega) x hx
def RdRel (w : World) (T : Nat → List Int) (K n : Nat) (v : Value) (wr : World) : Prop := ∃ D : List Int, wr.ownsRow w.heap.size 5 1 v D.length (byteV D) ∧ D ++ rdL T (K - n) n = rdL T K 0 ∧ D.length ≤ 63 * n ∧ Below w.heap.size w wr
def RdPost (w : World) (T : Nat → List Int) (K : Nat) (e : Ending) (w' : World) : Prop := ∃ A m c, e = .returned (.tuple #[.slice A m c, .int .i64 0]) ∧ w'.ownsRow w.heap.size 5 1 (.slice A m c) (rdL T K 0).length (byteV (rdL T K 0)) ∧ (rdL T K 0).length ≤ 63 * K ∧ Below w.heap.size w w'
theorem rd_fin {w wr : World} {T : Nat → List Int} {K : Nat} {v : Value} {D : List Int} (ho : wr.ownsRow w.heap.size 5 1 v D.length (byteV D)) (h : D = rdL T K 0) (hl : D.length ≤ 63 * K) (hb : Below w.heap.size w wr) : RdPost w T K (.returned (.tuple #[v, .int .i64 0])) wr := by
  subst h
  obtain ⟨A, m, c, rfl⟩ := own_shape ho
  exact ⟨A, m, c, rfl, ho, hl, hb⟩

set_option maxRecDepth 100000 in
set_option maxHeartbeats 1000000 in
theorem tread_any (w : World) {p bm bn bo g : Nat} {t : Tr} {d : Dk} (h : LogAt w p bm t bn bo g d) {T : Nat → List Int} {K : Nat} (hK : t.tiles = (K : Int)) (hT : ∀ i : Nat, i < K → d.has (t.first + i) (T i)) : Calls Try.prog 25 #[.pointer (some ⟨p, 0, none⟩)] w (RdPost w T K) := by
  have t1 := h.tr.ok.t1
  have t2 := h.tr.ok.f0
  have t3 := h.tr.ok.f1
  have x2 : w.cell? ⟨p, 2, none⟩ = some (.int .i64 t.tiles) := h.tr.c 2
  have H1 : Hid (RdRel w T K 0 (.slice none 0 0) w) := Lib.hid ⟨[], World.ownsRow_nil _ _ _ _, by simp, by simp, Below.refl _ _⟩
  have HK := Lib.hid hK
  rw [hK] at x2
  have hK0 : K ≤ 2000 := by omega
  have HL := Lib.hid h
  have HT := Lib.hid hT
  clear h t1 hK hT
  go_enter Try.func25, Try.ntmps25
  go_wp2
  go_loopw [4, 13] (fun v i wr => ∃ n : Nat, n ≤ K ∧ i = .int .i64 n ∧ Hid (RdRel w T K n v wr)) (fun _ i _ => K - ivT i)
  case atStart => exact ⟨0, Nat.zero_le _, rfl, H1⟩
  case round =>
    obtain ⟨n, hn, rfl, HR⟩ := hrel
    obtain ⟨D, ho, hr, hlen, hb⟩ := HR.out
    clear x2 H1 HR
    obtain ⟨A, m, c, rfl⟩ := own_shape ho
    by_cases hlt : n < K
    · have hl := HL.out.kept fun k hk => hb.block k hk
      have x0 : wr.drew.cell? ⟨p, 0, none⟩ = some (.pointer (some ⟨t.dp, 0, none⟩)) := hl.tr.c 0
      have x1 : wr.drew.cell? ⟨p, 1, none⟩ = some (.int .i64 t.first) := hl.tr.c 1
      have q1 : IntKind.i64.wrap (t.first + (n : Int)) = t.first + (n : Int) := IntWalk.i64_in _ (by omega)
      have hh := HT.out n hlt
      obtain ⟨l, hTl⟩ : ∃ l, l = T n := ⟨_, rfl⟩
      rw [← hTl] at hh
      have hlt2 : (n : Int) < (K : Int) := by omega
      have hin : t.first + (n : Int) < d.tiles := by have := hl.fit; have := HK.out; omega
      have HRd : Hid (∀ W, Below wr.heap.size wr W → Calls Try.prog 19 #[.pointer (some ⟨t.dp, 0, none⟩), .int .i64 (t.first + n)] W fun e w' => ∃ g1, e = .returned (.tuple #[.slice (some ⟨g1, 0, none⟩) 64 64, .int .i64 0]) ∧ SlK .u8 w' (.slice (some ⟨g1, 0, none⟩) 64 64) l ∧ Below wr.heap.size wr w') := Lib.hid fun W hW =>
        (read_ok W (hl.kept fun k hk => hW.block k hk).dk.dk hl.dk.dead _ (by omega) hin l hh.1 hh.2.1).mono fun e w' ⟨h1, h2⟩ => ⟨_, h1, by rw [h2]; exact (pt_row (heap_alloc_new W _) hh.2.1).slK hh.2.2, by rw [h2]; exact hW.alloc hW.size _⟩
      have HO := Lib.hid ho
      have HRR := Lib.hid hr
      have HB := Lib.hid hb
      have HH := Lib.hid hh
      have HTL := Lib.hid hTl
      have D0 := (Below.refl wr.heap.size wr).drew
      clear hl ho hr hb hh hin hTl
      go_upto_region 5 with (fail)
      go_cut [6, 7] (fun u v wx => ∃ g1, u = .slice (some ⟨g1, 0, none⟩) 64 64 ∧ v = .int .i64 0 ∧ SlK .u8 wx (.slice (some ⟨g1, 0, none⟩) 64 64) l ∧ Below wr.heap.size wr wx)
      case first =>
        go_region_with (go_at_call 19; refine (HRd.out _ D0).mono ?_; rintro e w1 ⟨g1, rfl, hs1, hb1⟩; have HQ := Lib.hid (And.intro hs1 hb1); clear hs1 hb1)
        all_goals go_wp2
        all_goals go_meet
        all_goals exact ⟨g1, rfl, rfl, HQ.out.1, HQ.out.2⟩
      case rest =>
        obtain ⟨g1, rfl, rfl, hs1, hb1⟩ := hcut
        generalize wc = w1 at *
        obtain ⟨x, r, hxr⟩ : ∃ x r, l = x :: r := by
          cases l with
          | nil => exact absurd HH.out.2.1 (by simp)
          | cons x r => exact ⟨x, r, rfl⟩
        have hx := HH.out.2.2 x (by rw [hxr]; exact List.mem_cons_self ..)
        have hrl : r.length = 63 := by have := HH.out.2.1; rw [hxr, List.length_cons] at this; omega
        obtain ⟨X, hX⟩ : ∃ X : Nat, x = (X : Int) := ⟨x.toNat, by omega⟩
        subst hX
        have c0 : w1.cell? ⟨g1, 0, none⟩ = some (.int .u8 (X : Int)) := by
          obtain ⟨b', o', cap', e, _, _, h3⟩ := hs1.pt (by rw [hxr]; simp)
          injection e with e1
          injection e1 with e1
          injection e1 with e1 e2
          have h4 := h3 0 (by rw [hxr]; simp)
          rw [← e1, ← e2] at h4
          simpa [hxr] using h4
        have t4 : IntKind.i64.wrap (X : Int) = (X : Int) := IntWalk.i64_in _ (by omega)
        have hb2 : Below w.heap.size w w1 := HB.out.trans (hb1.mono HB.out.size)
        have ho1 : w1.ownsRow w.heap.size 5 1 (.slice A m c) D.length (byteV D) := own_at HO.out fun k hk => hb1.block k (HO.out.lt k hk).2
        have hun : rdL T (K - n) n = if 63 < (X : Int) then [] else if (X : Int) < 63 then r.take X else r.take X ++ rdL T (K - n - 1) (n + 1) := by
          rw [show K - n = (K - n - 1) + 1 by omega]
          show (if 63 < (T n).headD 0 then _ else _) = _
          rw [← HTL.out, hxr]
          rfl
        have hdl : D.length ≤ 126000 := by omega
        by_cases h63 : 63 < X
        · rw [if_pos (by omega)] at hun
          have hf : RdPost w T K (.returned (.tuple #[.slice A m c, .int .i64 0])) w1 := rd_fin ho1 (by rw [← HRR.out, hun, List.append_nil]) (by omega) hb2
          have HFI := Lib.hid hf
          have h63i : (63 : Int) < (X : Int) := by omega
          clear hf hun ho1 hb2 hs1 hb1 HO HRR x0 x1 HRd D0
          go_wp2
          go_ret2
          exact HFI.out
        · rw [if_neg (by omega)] at hun
          have h63i : ¬ (63 : Int) < (X : Int) := by omega
          have hsx : SlK .u8 w1 (.slice (some ⟨g1, 1, none⟩) X 63) (r.take X) := by
            have := ((hs1.rest (k := 1) (by decide)).2.1.pre (k := X) (by omega))
            rw [hxr] at this
            exact this
          obtain ⟨v1, W1, hr1, ho2, hg2, hv2⟩ := run_append_sl ho1 hsx (by simp; omega) hb2.size
          obtain ⟨A2, m2, c2, rfl⟩ := own_shape ho2
          have HR1 := Lib.hid hr1
          have hrt : (r.take X).length = X := by rw [List.length_take]; omega
          have hb3 : Below w.heap.size w W1 := hb2.trans ⟨hg2.os, hg2.tape, hg2.output, hg2.size, fun k hk => hg2.block k (Nat.lt_of_lt_of_le hk hb2.size) (fun e => by have := (ho1.lt k e.symm).1; omega)⟩
          obtain ⟨X1, hX1⟩ : ∃ X1 : Nat, X1 = 1 + X := ⟨_, rfl⟩
          have q5 : IntKind.i64.wrap (1 + (X : Int)) = (X1 : Int) := by rw [IntWalk.i64_in _ (by omega)]; omega
          have q6 : (X1 : Int) ≤ 64 := by omega
          have q7 : X1 ≤ 64 := by omega
          have q8 : (1 : Int) ≤ (X1 : Int) := by omega
          have q9 : 1 ≤ X1 := by omega
          have q10 : X1 - 1 = X := by omega
          rw [hrt] at ho2
          by_cases hX63 : X < 63
          · rw [if_pos (by omega)] at hun
            have hf : RdPost w T K (.returned (.tuple #[.slice A2 m2 c2, .int .i64 0])) W1 := rd_fin (D := D ++ r.take X) (by rw [List.length_append, hrt]; exact ho2) (by rw [← HRR.out, hun]) (by rw [List.length_append, hrt]; omega) hb3
            have HFI := Lib.hid hf
            have hXi : (X : Int) < 63 := by omega
            clear hf hun ho1 ho2 hb2 hb3 hs1 hb1 HO HRR x0 x1 HRd D0 hg2 hv2 hr1 hsx hX1
            go_wp2_with (at_builtin; with_reducible refine Lib.wpList_append_run _ rfl _ _ _ _ rfl _ _ rfl rfl _ _ (HR1.out _) ?_)
            go_ret2
            exact HFI.out
          · obtain rfl : X = 63 := by omega
            rw [if_neg (by omega)] at hun
            have hR2 : RdRel w T K (n + 1) (.slice A2 m2 c2) W1 := by
              refine ⟨D ++ r.take 63, by rw [List.length_append, hrt]; exact ho2, ?_, by rw [List.length_append, hrt]; omega, hb3⟩
              rw [← HRR.out, hun, List.append_assoc, Nat.sub_sub]
            have HR2 := Lib.hid hR2
            clear hR2 hun ho1 ho2 hb2 hb3 hs1 hb1 HO HRR x0 x1 HRd D0 hg2 hv2 hr1 hsx hX1
            go_wp2_with (at_builtin; with_reducible refine Lib.wpList_append_run _ rfl _ _ _ _ rfl _ _ rfl rfl _ _ (HR1.out _) ?_)
            go_roundw
            all_goals first
              | exact ⟨n + 1, hlt, by go_num, HR2⟩
              | (simp [ivT]; omega)
    · obtain rfl : n = K := by omega
      rw [Nat.sub_self] at hr
      have hf : RdPost w T n (.returned (.tuple #[.slice A m c, .int .i64 0])) wr := rd_fin ho (by rw [← hr]; simp [rdL]) hlen hb
      have HF := Lib.hid hf
      clear hf ho hr hb
      go_wp2
      go_ret2
      exact HF.out
end Go.Proofs.Ytemmhligohebfaa
