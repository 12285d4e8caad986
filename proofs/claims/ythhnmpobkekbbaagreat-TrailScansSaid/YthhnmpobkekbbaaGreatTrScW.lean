/- TrailScans' walk. -/
import Derived.Test.YthhnmpobkekbbaaGreatTrRg
import Derived.Test.YthhnmpobkekbbaaGreatTrRs
import Derived.Test.YthhnmpobkekbbaaGreatTrRe
import Derived.Test.YthhnmpobkekbbaaGreatTrB
namespace Go.Proofs.YthhnmpobkekbbaaGreat.trailScans
open Go.ChangeShapes Go.WideShapes Go.ChangeAt Go.RowKit

def Fin (w : World) (e : Ending) (w' : World) : Prop := e = .returned (.bool true) ∧ Below w.heap.size w w'
/-- The frames of the first k entries. -/
def FL (os : List (Ent × S6)) (k : Nat) : List Int := (os.take k).flatMap fun o => frL o.1
theorem FL_succ {os : List (Ent × S6)} {k : Nat} (h : k < os.length) : FL os (k + 1) = FL os k ++ frL (os[k]).1 := by
  unfold FL
  rw [List.take_add_one, List.flatMap_append, List.getElem?_eq_getElem h]
  simp
theorem frl_len {e : Ent} (h : (putL e).length ≤ 150) : (frL e).length ≤ 154 := by
  cases hB : entB e with
  | false => rw [frL_no hB]; simp
  | true => rw [frL_yes hB, frB_len]; rw [putL_yes hB] at h; omega
theorem frl_ok {e : Ent} (ho : bytesOk e.old) (hn : bytesOk e.new) (h : (putL e).length ≤ 150) : bytesOk (frL e) := by
  cases hB : entB e with
  | false => rw [frL_no hB]; intro x hx; cases hx
  | true => rw [frL_yes hB]; rw [putL_yes hB] at h; exact frB_ok (entL_okE ho hn) (by omega)
theorem entMax_len {e : Ent} (h : EntMax e) : EntLen e := ⟨h.moves, h.lives, h.dirty, h.opens, fun o ho => h.inner o ho⟩
theorem fl_ok {os : List (Ent × S6)} (k : Nat) (h : ∀ o ∈ os.take k, bytesOk (frL o.1)) : bytesOk (FL os k) := fun x hx => by
  obtain ⟨o, ho, hxo⟩ := List.mem_flatMap.1 hx
  exact h o ho x hxo

theorem tkE_len (b : List Int) : EntLen (tkE b) := by
  unfold tkE
  cases hB : tkB b with
  | true =>
    rw [if_pos rfl]
    unfold tkB at hB
    rw [Bool.and_eq_true] at hB
    exact entB_len hB.1
  | false =>
    rw [if_neg (by decide)]
    exact ⟨by decide, by decide, by decide, by decide, fun o h => by cases h⟩
theorem scan_len (l : List Int) : (scan l).length ≤ l.length + 1 := by
  have : ∀ k (l : List Int), (scanN k l).length ≤ k := by
    intro k
    induction k with
    | zero => intro l; simp [scanN]
    | succ k ih =>
      intro l
      unfold scanN
      split
      · rw [List.length_cons]; have := ih; exact Nat.succ_le_succ (this _)
      · simp
  exact this _ l
/-- What both Scans leave is told to be the same. -/
theorem same_scans (W : World) {l : List Int} {A A' : Option Addr} {c c' : Nat} {es es' : List (Ent × S6)} {G G' : Nat → Prop} (hl : l.length ≤ 99999)
    (h1 : es.map Prod.fst = (scan l).map tkE) (h2 : Els W (.slice A (scan l).length c) 16 (es.map enV)) (h3 : ∀ o ∈ es, EnG W G o)
    (k1 : es'.map Prod.fst = (scan l).map tkE) (k2 : Els W (.slice A' (scan l).length c') 16 (es'.map enV)) (k3 : ∀ o ∈ es', EnG W G' o) :
    Calls Tryz.prog 24 #[.slice A (scan l).length c, .slice A' (scan l).length c'] W fun e w' => e = .returned (.bool true) ∧ Below W.heap.size W w' := by
  have r1 := rowE_els h2 h3
  have r2 := rowE_els k2 k3
  rw [h1] at r1
  rw [k1] at r2
  refine sames_any W r1 r2 ?_ fun e he => ?_
  · rw [List.length_map]; have := scan_len l; omega
  · obtain ⟨b, _, rfl⟩ := List.mem_map.1 he
    exact tkE_len b

set_option maxRecDepth 100000 in
set_option maxHeartbeats 8000000 in
theorem walk (w : World) {vl vb : Value} {os : List (Ent × S6)} {lb : List Int} (hl : Els w vl 16 (os.map enV)) (hos : ∀ o ∈ os, EntIn w o) (hb : SlK .u8 w vb lb) (a t : Int) (ha : 0 ≤ a ∧ a < 65536) (ht : 0 ≤ t ∧ t < 256) :
    Calls Tryz.prog 4 #[vl, vb, .int .u16 a, .int .u8 t] w (Fin w) := by
  obtain ⟨Al, cl, rfl, hlc, han, hel⟩ := id hl
  obtain ⟨Ab, cb, rfl, hbc⟩ := hb.form
  obtain ⟨n, hn⟩ : ∃ n, n = os.length := ⟨_, rfl⟩
  rw [List.length_map, ← hn] at hlc ⊢
  have HN := Lib.hid hn
  have HEL := Lib.hid hel
  have HAN := Lib.hid han
  have HOS := Lib.hid hos
  have HB := Lib.hid hb
  clear hl hel hos hb hn han
  go_enter Tryz.func4, Tryz.ntmps4
  go_upto_region 3 with (first | (go_at_call 6; refine (begun_any w).mono ?_; rintro r w1 ⟨rfl, hb1⟩))
  have HB1 := Lib.hid hb1
  clear hb1
  by_cases h6 : 6 < n
  · have h6I : (6 : Int) < (n : Int) := by omega
    clear h6
    go_wp2_with fail
    go_ret
    exact ⟨rfl, HB1.out⟩
  have h6I : ¬ (6 : Int) < (n : Int) := by omega
  have d6 : decide ((6 : Int) < (n : Int)) = false := decide_eq_false h6I
  by_cases h2 : 200 < lb.length
  · have h2I : (200 : Int) < (lb.length : Int) := by omega
    clear h2 h6
    go_wp2_with fail
    go_ret
    exact ⟨rfl, HB1.out⟩
  have h2I : ¬ (200 : Int) < (lb.length : Int) := by omega
  have d2 : decide ((200 : Int) < (lb.length : Int)) = false := decide_eq_false h2I
  have HLN : Hid (n ≤ 6 ∧ lb.length ≤ 200) := ⟨by omega, by omega⟩
  clear h6 h2
  go_upto_region 7 with (fail)
  have R0 : Hid (∃ k : Nat, k ≤ n ∧ (0 : Int) = (k : Int) ∧ w1.ownsRow w.heap.size 5 1 (.slice none 0 0) (FL os k).length (byteV (FL os k)) ∧ (FL os k).length ≤ 154 * k ∧ (∀ o ∈ os.take k, bytesOk (frL o.1)) ∧ Below w.heap.size w w1) :=
    ⟨0, Nat.zero_le _, rfl, World.ownsRow_nil _ _ _ _, Nat.zero_le _, (fun o ho => by simp at ho), HB1.out⟩
  clear d6 d2
  go_loopw [9, 10] (fun va vi wr => ∃ k : Nat, k ≤ n ∧ vi = .int .i64 (k : Int) ∧ Hid (wr.ownsRow w.heap.size 5 1 va (FL os k).length (byteV (FL os k)) ∧ (FL os k).length ≤ 154 * k ∧ (∀ o ∈ os.take k, bytesOk (frL o.1)) ∧ Below w.heap.size w wr)) (fun _ vi _ => n - ivT2 vi)
  case atStart =>
    exact ⟨0, Nat.zero_le _, rfl, World.ownsRow_nil _ _ _ _, Nat.zero_le _, (fun o ho => by simp at ho), HB1.out⟩
  case round =>
    obtain ⟨k, hk, rfl, hrest⟩ := hrel
    obtain ⟨hva, hlen, hoks, hbw⟩ := hrest.out
    obtain ⟨Av, mv, cv, rfl⟩ := own_shape hva
    have hmv := own_n hva
    have HVA := Lib.hid hva
    have HLEN := Lib.hid hlen
    have HOKS := Lib.hid hoks
    have HBW := Lib.hid hbw
    have HMV := Lib.hid hmv
    have hn6 : n ≤ 6 := HLN.out.1
    clear hva hlen hoks hbw hrest R0 hmv
    by_cases hlt : k < n
    · have hko : k < os.length := by rw [← HN.out]; exact hlt
      have hltI : (k : Int) < (n : Int) := by omega
      have hk0 : (0 : Int) ≤ (k : Int) := by omega
      obtain ⟨al, hal⟩ : ∃ al, Al = some al := by
        cases Al with
        | none => have := HAN.out rfl; rw [List.map_eq_nil_iff] at this; rw [this] at hko; simp at hko
        | some al => exact ⟨al, rfl⟩
      subst hal
      have hne : os.map enV ≠ [] := fun e => by rw [List.map_eq_nil_iff] at e; rw [e] at hko; simp at hko
      obtain ⟨hsp, hbl, hcel⟩ := HEL.out al rfl hne
      obtain ⟨gl, ol, asp⟩ := al
      cases hsp
      obtain ⟨⟨e, s1, s2, s3, s4, s5, s6⟩, ho⟩ : ∃ o, o = os[k] := ⟨_, rfl⟩
      have hin := HOS.out os[k] (List.getElem_mem hko)
      rw [← ho] at hin
      have hFL := FL_succ hko
      rw [← ho] at hFL
      have HFL : Hid (FL os (k + 1) = FL os k ++ frL e) := hFL
      have HTK : Hid (∀ o ∈ os.take (k + 1), o ∈ os.take k ∨ o = (e, s1, s2, s3, s4, s5, s6)) := fun o h => by
        rw [List.take_add_one, List.getElem?_eq_getElem hko, ← ho] at h
        simpa using h
      have HC : Hid (∀ W, Below w.heap.size w W → ∀ i u, (entC e s1 s2 s3 s4 s5 s6)[i]? = some u → W.cell? ⟨gl, ol + k * 16 + i, none⟩ = some u) := fun W hW i u hu => by
        have hi : i < 16 := (Array.getElem?_eq_some_iff.1 hu).1
        have h0 := hcel k i (by rw [List.length_map]; exact hko) hi
        rw [List.getElem?_map, List.getElem?_eq_getElem hko, ← ho] at h0
        have h1 : w.cell? ⟨gl, ol + k * 16 + i, none⟩ = some u := h0.trans (show (enV (e, s1, s2, s3, s4, s5, s6))[i]? = some u by unfold enV; rw [Array.getElem?_toList]; exact hu)
        rw [← h1]
        exact World.cell?_of_block (hW.block gl hbl)
      have HES : Hid (EntS w s1 s2 s3 s4 s5 s6 e) := hin.1
      have HEI : Hid (EntI e) := hin.2.1
      have HZI := Lib.hid (infoEntC e s1 s2 s3 s4 s5 s6)
      clear hin hFL hcel hne ho hbl hko
      by_cases h150 : (putL e).length ≤ 150
      · have HSH := Lib.hid (short_any wr e (HES.out.below HBW.out (Nat.le_refl _)) HEI.out)
        rw [decide_eq_true h150] at HSH
        have H150 := Lib.hid h150
        clear h150
        go_upto_region 11 with (first
          | (with_reducible refine wpList_load_at rfl 44 (.tmp 38) rfl gl (ol + k * 16) rfl (entC e s1 s2 s3 s4 s5 s6) _ (HC.out _ HBW.out) Tryz.underlying44 rfl HZI.out ?_)
          | (go_at_call 11; refine HSH.out.mono ?_; rintro r w2 ⟨rfl, hb2⟩))
        have HB2 := Lib.hid (HBW.out.trans (hb2.mono HBW.out.size))
        have HVA2 : Hid (w2.ownsRow w.heap.size 5 1 (.slice Av mv cv) (FL os k).length (byteV (FL os k))) := own_bel HVA.out hb2
        have HFR := Lib.hid (frame_any w2 e (HES.out.below HB2.out (Nat.le_refl _)) HEI.out)
        clear hb2 HSH HVA
        go_upto_region 12 with (first
          | (with_reducible refine wpList_load_at rfl 44 (.tmp 44) rfl gl (ol + k * 16) rfl (entC e s1 s2 s3 s4 s5 s6) _ (HC.out _ HB2.out) Tryz.underlying44 rfl HZI.out ?_)
          | (go_at_call 29; refine HFR.out.mono ?_; rintro r w5 ⟨Af, mf, cf, rfl, hof, hb5⟩))
        have HB5 := Lib.hid (HB2.out.trans (hb5.mono HB2.out.size))
        have HVA5 : Hid (w5.ownsRow w.heap.size 5 1 (.slice Av mv cv) (FL os k).length (byteV (FL os k))) := own_bel HVA2.out hb5
        have HOKF := Lib.hid (frl_ok HES.out.old.ok HES.out.new.ok H150.out)
        have HF5 := Lib.hid (own_slK hof HOKF.out)
        have HRF : Hid (∀ W, Below w5.heap.size w5 W → Calls Tryz.prog 30 #[.agg (entC e s1 s2 s3 s4 s5 s6)] W fun r w' => ∃ A m c, r = .returned (.slice A m c) ∧ w'.ownsRow W.heap.size 5 1 (.slice A m c) (frL e).length (byteV (frL e)) ∧ Below W.heap.size W w') := fun W hW =>
          rframe_any W e (HES.out.below (HB5.out.trans (hW.mono HB5.out.size)) (Nat.le_refl _)) HEI.out
        have HS : Hid (∀ W, Below w5.heap.size w5 W → (convert 36 9 (.slice Af mf cf)).run Tryz.prog W = .ok (.string (bstr (frL e))) W ∧ ∀ i u, (entC e s1 s2 s3 s4 s5 s6)[i]? = some u → W.cell? ⟨gl, ol + k * 16 + i, none⟩ = some u) := fun W hW => ⟨conv_slK (HF5.out.below hW (Nat.le_refl _)), HC.out W (HB5.out.trans (hW.mono HB5.out.size))⟩
        clear hof hb5 HFR HVA2 HB2
        refine wp_region_held_drew (S := fun W : World => (convert 36 9 (.slice Af mf cf)).run Tryz.prog W = .ok (.string (bstr (frL e))) W ∧ ∀ i u, (entC e s1 s2 s3 s4 s5 s6)[i]? = some u → W.cell? ⟨gl, ol + k * 16 + i, none⟩ = some u) (by kernel_rfl) (HS.out _ (Below.refl _ w5).drew) (fun hHeld => ?_)
        refine wpAnyH_take (i := 0) (oi := ⟨_, _, _, _, _, _⟩) (v := ?_) rfl (by kernel_rfl) (by kernel_rfl) (by kernel_rfl) (fun _ _ _ h => h) (Or.inl ⟨by rfl, ?_⟩) (by assumption) ?_
        rotate_left
        · intro W hSW
          try dsimp only at hSW
          go_simp
          try with_reducible rfl
        rotate_left
        try simp only [Act.put, List.setIfInBounds_toArray, List.set_cons_zero, List.set_cons_succ]
        refine wpAnyH_take (i := 1) (oi := ⟨_, _, _, _, _, _⟩) (v := ?_) rfl (by kernel_rfl) (by kernel_rfl) (by kernel_rfl) (fun _ _ _ h => h) (Or.inl ⟨by rfl, ?_⟩) (by assumption) ?_
        rotate_left
        · intro W hSW
          try dsimp only at hSW
          go_simp
          try with_reducible rfl
        rotate_left
        try simp only [Act.put, List.setIfInBounds_toArray, List.set_cons_zero, List.set_cons_succ]
        refine wpAnyH_take (i := 2) (oi := ⟨_, _, _, _, _, _⟩) (v := ?_) rfl (by kernel_rfl) (by kernel_rfl) (by kernel_rfl) (fun _ _ _ h => h) (Or.inl ⟨by rfl, ?_⟩) (by assumption) ?_
        rotate_left
        · intro W hSW
          try dsimp only at hSW
          go_simp
          try with_reducible rfl
        rotate_left
        try simp only [Act.put, List.setIfInBounds_toArray, List.set_cons_zero, List.set_cons_succ]
        refine wpAnyH_take (i := 3) (oi := ⟨_, _, _, _, _, _⟩) (v := ?_) rfl (by kernel_rfl) (by kernel_rfl) (by kernel_rfl) (fun _ _ _ h => h) (Or.inl ⟨by rfl, ?_⟩) (by assumption) ?_
        rotate_left
        · intro W hSW
          try dsimp only at hSW
          go_simp
          try with_reducible rfl
        rotate_left
        try simp only [Act.put, List.setIfInBounds_toArray, List.set_cons_zero, List.set_cons_succ]
        refine wpAnyH_take (i := 4) (oi := ⟨_, _, _, _, _, _⟩) (v := ?_) rfl (by kernel_rfl) (by kernel_rfl) (by kernel_rfl) (fun _ _ _ h => h) (Or.inl ⟨by rfl, ?_⟩) (by assumption) ?_
        rotate_left
        · intro W hSW
          try dsimp only at hSW
          go_simp
          try with_reducible rfl
        rotate_left
        try simp only [Act.put, List.setIfInBounds_toArray, List.set_cons_zero, List.set_cons_succ]
        refine wpAnyH_take (i := 5) (oi := ⟨_, _, _, _, _, _⟩) (v := .agg (entC e s1 s2 s3 s4 s5 s6)) rfl (by kernel_rfl) (by kernel_rfl) (by kernel_rfl) (fun _ _ _ h => h) (Or.inl ⟨by rfl, fun W hSW => ?_⟩) (by assumption) ?_
        · exact held_at 44 (.tmp 51) (by rfl) gl (ol + k * 16) (by rfl) (entC e s1 s2 s3 s4 s5 s6) _ hSW.2 Tryz.underlying44 rfl (infoEntC ..)
        try simp only [Act.put, List.setIfInBounds_toArray, List.set_cons_zero, List.set_cons_succ]
        refine wpAnyH_ready (rs := [6]) (by kernel_rfl) (by simp) ?_
        refine AllReadyH.cons (o := ⟨_, _, _, _, _, _⟩) rfl (fun K hK => ?_) AllReadyH.nil
        rw [if_pos (by rfl)]
        go_simp
        go_at_call 30
        refine (HRF.out _ (Below.refl _ w5).drew).mono ?_
        rintro r w6 ⟨Ag, mg, cg, rfl, hog, hb6⟩
        have hd6 : Below w5.heap.size w5 w6 := (Below.refl _ w5).drew.trans hb6
        go_wp2_with fail
        refine hK.out _ _ (HS.out _ hd6) (fun hHeld => ?_)
        clear hK K
        try simp only [Act.put, List.setIfInBounds_toArray, List.set_cons_zero, List.set_cons_succ]
        have v7 := conv_slK (own_slK hog HOKF.out)
        refine wpAnyH_ready (rs := [7]) (by kernel_rfl) (by simp) ?_
        refine AllReadyH.cons (o := ⟨_, _, _, _, _, _⟩) rfl (fun K hK => ?_) AllReadyH.nil
        rw [if_pos (by rfl)]
        go_simp
        refine hK.out _ _ hHeld (fun hHeld => ?_)
        clear hK K
        try simp only [Act.put, List.setIfInBounds_toArray, List.set_cons_zero, List.set_cons_succ]
        refine wpAnyH_take (i := 8) (oi := ⟨_, _, _, _, _, _⟩) (v := ?_) rfl (by kernel_rfl) (by kernel_rfl) (by kernel_rfl) (fun _ _ _ h => h) (Or.inl ⟨by rfl, ?_⟩) (by assumption) ?_
        rotate_left
        · intro W hSW
          try dsimp only at hSW
          go_simp
          try with_reducible rfl
        rotate_left
        try simp only [Act.put, List.setIfInBounds_toArray, List.set_cons_zero, List.set_cons_succ]
        refine wpAnyH_done (by kernel_rfl) ?_ _
        have HB6 := Lib.hid (HB5.out.trans (hd6.mono HB5.out.size))
        have HVA6 := Lib.hid (own_bel HVA5.out hd6)
        have HF6 := Lib.hid (HF5.out.below hd6 (Nat.le_refl _))
        obtain ⟨v9, w9, hr9, ho9, hg9, hv9⟩ := run_append_sl HVA6.out HF6.out.sw (by have h1 := HLEN.out; have h2 := frl_len H150.out; omega) HB6.out.size
        obtain ⟨A9, m9, c9, rfl⟩ := own_shape ho9
        have HR9 := Lib.hid hr9
        have HB9 : Hid (Below w.heap.size w w9) := HB6.out.grown hg9 HB6.out.size (fun k hk => (HVA6.out.lt k hk).1)
        have HN9 : Hid (w9.ownsRow w.heap.size 5 1 (.slice A9 m9 c9) (FL os (k + 1)).length (byteV (FL os (k + 1))) ∧ (FL os (k + 1)).length ≤ 154 * (k + 1) ∧ (∀ o ∈ os.take (k + 1), bytesOk (frL o.1)) ∧ Below w.heap.size w w9) := by
          refine ⟨by rw [HFL.out, List.length_append]; exact ho9, ?_, fun o h => ?_, HB9.out⟩
          · rw [HFL.out, List.length_append]
            have h1 := HLEN.out
            have h2 := frl_len H150.out
            omega
          · rcases HTK.out o h with h | rfl
            · exact HOKS.out o h
            · exact HOKF.out
        clear hr9 ho9 hg9 hv9 hd6 hb6 hog v7 HS HRF hHeld HVA5 HVA6 HF5 HF6
        go_wp2_with (at_builtin; refine Lib.wpList_append_run _ rfl _ _ _ _ rfl _ _ rfl rfl _ _ (HR9.out _) ?_)
        go_roundw
        case rel => exact ⟨k + 1, by omega, by go_num, HN9.out⟩
        case measure => simp [ivT2]; omega
      · have HSH := Lib.hid (short_any wr e (HES.out.below HBW.out (Nat.le_refl _)) HEI.out)
        rw [decide_eq_false h150] at HSH
        clear h150
        go_wp2_with (first
          | (with_reducible refine wpList_load_at rfl 44 (.tmp 38) rfl gl (ol + k * 16) rfl (entC e s1 s2 s3 s4 s5 s6) _ (HC.out _ HBW.out) Tryz.underlying44 rfl HZI.out ?_)
          | (go_at_call 11; refine HSH.out.mono ?_; rintro r w2 ⟨rfl, hb2⟩))
        go_ret
        exact ⟨rfl, HBW.out.trans (hb2.mono HBW.out.size)⟩
    · have hltI : ¬ (k : Int) < (n : Int) := by omega
      obtain rfl : k = n := by omega
      have HOKA : Hid (bytesOk (FL os k)) := fl_ok k HOKS.out
      obtain ⟨L, hL⟩ : ∃ L, L = FL os k := ⟨_, rfl⟩
      rw [← hL] at HVA HLEN HOKA HMV
      have HLA : Hid (L.length ≤ 924) := by have h1 := HLEN.out; exact Nat.le_trans h1 (by omega)
      clear hL hlt hk HOKS HLEN
      obtain ⟨q, hq⟩ : ∃ q, q = L.length := ⟨_, rfl⟩
      have hmq : mv = q := HMV.out.trans hq.symm
      subst hmq
      have HQL := Lib.hid hq
      clear hq HMV
      by_cases h0 : mv = 0
      · have h0I : (mv : Int) = 0 := by omega
        have h0J : ¬ (0 : Int) < (mv : Int) := by omega
        obtain ⟨wx, hwx⟩ : ∃ wx, wx = wr := ⟨_, rfl⟩
        have HBX : Hid (Below w.heap.size w wr) := HBW
        rw [← hwx] at HVA HBX ⊢
        clear hwx HBW h0 h0I
        go_upto_region 17 with (fail)
        clear h0J
        go_wp2_with fail
        have HX := Lib.hid (own_slK HVA.out HOKA.out)
        refine (scanE_any wx HX.out (by have := HLA.out; omega)).mono ?_
        rintro r x1 ⟨A1, c1, es1, rfl, p1, p2, _, p3, hbx1⟩
        go_wp2_with fail
        refine (rscan_any x1 (HX.out.below hbx1 (Nat.le_refl _)) (by have := HLA.out; omega)).mono ?_
        rintro r x2 ⟨A2, c2, es2, rfl, q1, q2, _, q3, hbx2⟩
        have D2 : Below wx.heap.size wx x2 := hbx1.trans (hbx2.mono hbx1.size)
        have DW2 : Below w.heap.size w x2 := HBX.out.trans (D2.mono HBX.out.size)
        have HP := Lib.hid (And.intro p1 (And.intro (p2.below hbx2 (Nat.le_refl _)) (fun o ho => (p3 o ho).at hbx2.size fun b hb => hbx2.block b hb.2)))
        have HQ := Lib.hid (And.intro q1 (And.intro q2 q3))
        have hx12 := hbx2.size
        clear p1 p2 p3 q1 q2 q3 hbx1 hbx2
        go_wp2_with fail
        refine (scanE_any x2 (HB.out.below DW2 (Nat.le_refl _)) (by have := HLN.out; omega)).mono ?_
        rintro r x3 ⟨A3, c3, es3, rfl, p1, p2, _, p3, hbx3⟩
        go_wp2_with fail
        refine (rscan_any x3 (HB.out.below (DW2.trans (hbx3.mono DW2.size)) (Nat.le_refl _)) (by have := HLN.out; omega)).mono ?_
        rintro r x4 ⟨A4, c4, es4, rfl, q1, q2, _, q3, hbx4⟩
        have D4 : Below x2.heap.size x2 x4 := hbx3.trans (hbx4.mono hbx3.size)
        have HP3 := Lib.hid (And.intro p1 (And.intro (p2.below hbx4 (Nat.le_refl _)) (fun o ho => (p3 o ho).at hbx4.size fun b hb => hbx4.block b hb.2)))
        have HQ3 := Lib.hid (And.intro q1 (And.intro q2 q3))
        have HSA := Lib.hid (same_scans x4 (by have := HLA.out; omega) HP.out.1 (HP.out.2.1.below D4 (Nat.le_refl _)) (fun o ho => (HP.out.2.2 o ho).at D4.size fun b hb => D4.block b (by have := hb.2; omega)) HQ.out.1 (HQ.out.2.1.below D4 (Nat.le_refl _)) (fun o ho => (HQ.out.2.2 o ho).at D4.size fun b hb => D4.block b hb.2))
        have HSB : Hid (∀ W, Below x4.heap.size x4 W → Calls Tryz.prog 24 #[.slice A3 (scan lb).length c3, .slice A4 (scan lb).length c4] W fun e w' => e = .returned (.bool true) ∧ Below W.heap.size W w') := fun W hW =>
          same_scans W (by have := HLN.out; omega) HP3.out.1 (HP3.out.2.1.below hW (Nat.le_refl _)) (fun o ho => (HP3.out.2.2 o ho).at hW.size fun b hb => hW.block b (by have := hb.2; have := hbx4.size; omega)) HQ3.out.1 (HQ3.out.2.1.below hW (Nat.le_refl _)) (fun o ho => (HQ3.out.2.2 o ho).at hW.size fun b hb => hW.block b hb.2)
        have HBX4 := Lib.hid (DW2.trans (D4.mono DW2.size))
        clear p1 p2 p3 q1 q2 q3 hbx3 hbx4 D2 DW2 D4 HP HQ HP3 HQ3
        go_wp2_with fail
        refine HSA.out.mono ?_
        rintro r x5 ⟨rfl, hbx5⟩
        have HSC := Lib.hid (HSB.out x5 hbx5)
        have HBX5 := Lib.hid (HBX4.out.trans (hbx5.mono HBX4.out.size))
        clear hbx5 HSA HSB HBX4
        go_wp2_with fail
        refine HSC.out.mono ?_
        rintro r x6 ⟨rfl, hbx6⟩
        have HBX6 := Lib.hid (HBX5.out.trans (hbx6.mono HBX5.out.size))
        clear hbx6 HSC HBX5
        go_wp2_with fail
        go_ret
        exact ⟨rfl, HBX6.out⟩
      · have h0I : (0 : Int) < (mv : Int) := by omega
        have hv := HVA.out
        obtain ⟨g, hg⟩ : ∃ g, Av = some ⟨g, 0, none⟩ := by
          rcases hv.2 with ⟨_, hx⟩ | ⟨g, cap, cur, hsl, _⟩
          · have h2 := HQL.out
            first
              | omega
              | (simp at hx; rw [hx] at h2; simp at h2; omega)
          · injection hsl with e1 _ _
            exact ⟨g, e1⟩
        subst hg
        obtain ⟨a0, ha0⟩ : ∃ a0 : Nat, a = (a0 : Int) := ⟨a.toNat, by omega⟩
        subst ha0
        have hj := Nat.mod_lt a0 (show mv > 0 by omega)
        have ej : (a0 : Int) % (mv : Int) = ((a0 % mv : Nat) : Int) := by simp
        have et : (a0 : Int).tmod (mv : Int) = ((a0 % mv : Nat) : Int) := by rw [Int.tmod_eq_emod_of_nonneg (by omega)]; exact ej
        generalize a0 % mv = j at *
        have hz : ¬ (mv : Int) = 0 := by omega
        have hjI : (j : Int) < (mv : Int) := by omega
        have hmb : (mv : Int) ≤ 924 := by have := HLA.out; have := HQL.out; omega
        rw [← HQL.out] at hv
        have hcj : wr.cell? ⟨g, j, none⟩ = some (.int .u8 (L.getD j 0)) := by
          rw [hv.cellAt j (by omega)]
          have hjl : j < L.length := by rw [← HQL.out]; exact hj
          simp [byteV, List.getD_eq_getElem?_getD, hjl]
        have hfj := hv.frozenAt j
        have HST := Lib.hid (hv.stored j (.int .u8 t))
        obtain ⟨L2, hL2⟩ : ∃ L2, L2 = L.set j t := ⟨_, rfl⟩
        have hbyt : (byteV L).set j (.int .u8 t) = byteV L2 := by rw [hL2]; unfold byteV; rw [List.map_set]
        rw [hbyt] at HST
        have HLA2 : Hid (L2.length ≤ 924) := by have h1 := HLA.out; rw [hL2, List.length_set]; exact h1
        have HL2 : Hid (L2.length = mv) := by rw [hL2, List.length_set]; exact HQL.out.symm
        have HOK2 : Hid (bytesOk L2) := fun z hz => by
          rw [hL2] at hz
          rcases List.mem_or_eq_of_mem_set hz with h | rfl
          · exact HOKA.out z h
          · exact ht
        have HBX : Hid (Below w.heap.size w (wr.setCell ⟨g, j, none⟩ (.int .u8 t))) := HBW.out.grown HST.out.2 HBW.out.size (fun k hk => by
          cases hk
          exact (HVA.out.lt g rfl).1)
        have HV2 := Lib.hid HST.out.1
        clear HST hv hbyt hL2 HOKA HLA HVA HBW
        go_upto_region 17 with (fail)
        generalize wr.setCell ⟨g, j, none⟩ (.int .u8 t) = wx at *
        have HVA : Hid (wx.ownsRow w.heap.size 5 1 (.slice (some ⟨g, 0, none⟩) mv cv) L2.length (byteV L2)) := by rw [show L2.length = mv from HL2.out]; exact HV2.out
        have HOKA := HOK2
        have HLA := HLA2
        clear hcj hfj hj ej et hz hjI h0I HV2
        go_wp2_with fail
        have HX := Lib.hid (own_slK HVA.out HOKA.out)
        refine (scanE_any wx HX.out (by have := HLA.out; omega)).mono ?_
        rintro r x1 ⟨A1, c1, es1, rfl, p1, p2, _, p3, hbx1⟩
        go_wp2_with fail
        refine (rscan_any x1 (HX.out.below hbx1 (Nat.le_refl _)) (by have := HLA.out; omega)).mono ?_
        rintro r x2 ⟨A2, c2, es2, rfl, q1, q2, _, q3, hbx2⟩
        have D2 : Below wx.heap.size wx x2 := hbx1.trans (hbx2.mono hbx1.size)
        have DW2 : Below w.heap.size w x2 := HBX.out.trans (D2.mono HBX.out.size)
        have HP := Lib.hid (And.intro p1 (And.intro (p2.below hbx2 (Nat.le_refl _)) (fun o ho => (p3 o ho).at hbx2.size fun b hb => hbx2.block b hb.2)))
        have HQ := Lib.hid (And.intro q1 (And.intro q2 q3))
        have hx12 := hbx2.size
        clear p1 p2 p3 q1 q2 q3 hbx1 hbx2
        go_wp2_with fail
        refine (scanE_any x2 (HB.out.below DW2 (Nat.le_refl _)) (by have := HLN.out; omega)).mono ?_
        rintro r x3 ⟨A3, c3, es3, rfl, p1, p2, _, p3, hbx3⟩
        go_wp2_with fail
        refine (rscan_any x3 (HB.out.below (DW2.trans (hbx3.mono DW2.size)) (Nat.le_refl _)) (by have := HLN.out; omega)).mono ?_
        rintro r x4 ⟨A4, c4, es4, rfl, q1, q2, _, q3, hbx4⟩
        have D4 : Below x2.heap.size x2 x4 := hbx3.trans (hbx4.mono hbx3.size)
        have HP3 := Lib.hid (And.intro p1 (And.intro (p2.below hbx4 (Nat.le_refl _)) (fun o ho => (p3 o ho).at hbx4.size fun b hb => hbx4.block b hb.2)))
        have HQ3 := Lib.hid (And.intro q1 (And.intro q2 q3))
        have HSA := Lib.hid (same_scans x4 (by have := HLA.out; omega) HP.out.1 (HP.out.2.1.below D4 (Nat.le_refl _)) (fun o ho => (HP.out.2.2 o ho).at D4.size fun b hb => D4.block b (by have := hb.2; omega)) HQ.out.1 (HQ.out.2.1.below D4 (Nat.le_refl _)) (fun o ho => (HQ.out.2.2 o ho).at D4.size fun b hb => D4.block b hb.2))
        have HSB : Hid (∀ W, Below x4.heap.size x4 W → Calls Tryz.prog 24 #[.slice A3 (scan lb).length c3, .slice A4 (scan lb).length c4] W fun e w' => e = .returned (.bool true) ∧ Below W.heap.size W w') := fun W hW =>
          same_scans W (by have := HLN.out; omega) HP3.out.1 (HP3.out.2.1.below hW (Nat.le_refl _)) (fun o ho => (HP3.out.2.2 o ho).at hW.size fun b hb => hW.block b (by have := hb.2; have := hbx4.size; omega)) HQ3.out.1 (HQ3.out.2.1.below hW (Nat.le_refl _)) (fun o ho => (HQ3.out.2.2 o ho).at hW.size fun b hb => hW.block b hb.2)
        have HBX4 := Lib.hid (DW2.trans (D4.mono DW2.size))
        clear p1 p2 p3 q1 q2 q3 hbx3 hbx4 D2 DW2 D4 HP HQ HP3 HQ3
        go_wp2_with fail
        refine HSA.out.mono ?_
        rintro r x5 ⟨rfl, hbx5⟩
        have HSC := Lib.hid (HSB.out x5 hbx5)
        have HBX5 := Lib.hid (HBX4.out.trans (hbx5.mono HBX4.out.size))
        clear hbx5 HSA HSB HBX4
        go_wp2_with fail
        refine HSC.out.mono ?_
        rintro r x6 ⟨rfl, hbx6⟩
        have HBX6 := Lib.hid (HBX5.out.trans (hbx6.mono HBX5.out.size))
        clear hbx6 HSC HBX5
        go_wp2_with fail
        go_ret
        exact ⟨rfl, HBX6.out⟩
end Go.Proofs.YthhnmpobkekbbaaGreat.trailScans
