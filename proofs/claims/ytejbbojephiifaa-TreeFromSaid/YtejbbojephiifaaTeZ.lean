/- tree: the body: cut. -/
import Derived.Test.YtejbbojephiifaaTeY
namespace Go.Proofs.Ytejbbojephiifaa
open Go.RowKit

theorem tp_len {h : Nat} {R : Rest} {w : World} {g : G h} (ha : At h R w g) : ∃ A c, (tp h g).2 = .slice A (if h = 0 then 0 else cnt h g) c := by
  cases h with
  | zero => exact ⟨none, 0, rfl⟩
  | succ h =>
    obtain ⟨A, c, e⟩ := own_shape ha.1.own
    refine ⟨A, c, ?_⟩
    show Nd.v g = _
    rw [e, kns_len, if_neg (by omega)]
    rfl
/-- A root of one child goes. -/
theorem root_goes {h n N : Nat} {w w' : World} {bd : Nat} {v : Value} {k0 : ByteArray} {c : G h} {L : List Nat} {xs : List KV} (s : NS h w bd (RB n) v [(k0, c)]) (hk : Kid h (Ok h) (k0, c)) (hp : PartAt w' bd (RB n) (tp h c).1 (tp h c).2) (hf : Fr w.heap.size (fun k => k = bd) w w')
    (hkv : kvs h c = xs) (hn : n = xs.length) (hr : Rise KV.k xs) (hfoot : Foot N L (bd :: (own1 v ++ kf h [(k0, c)]))) : ∃ L', BA w' bd xs L' ∧ Foot N L L' := by
  have ac : At h R0 w c := s.kids (k0, c) (List.mem_cons_self ..)
  have hnd := nd_count.1 s.nd
  have e1 : ∀ a, (bd :: (own1 v ++ kf h [(k0, c)])).count a = [bd].count a + (own1 v).count a + (gb h c :: fr_ h c).count a := fun a => by
    rw [kf_one]
    show (bd :: (own1 v ++ fp h c)).count a = _
    rw [fp_cons]
    simp only [List.count_cons, List.count_append, List.count_nil]
    omega
  have hbf : ∀ a ∈ fr_ h c, a ≠ bd := fun a ha e => by
    have h1 := hnd bd
    rw [e1] at h1
    have h2 : 0 < (fr_ h c).count bd := mem_count.1 (by rw [← e]; exact ha)
    have h3 : [bd].count bd = 1 := by simp
    have h4 : (fr_ h c).count bd ≤ (gb h c :: fr_ h c).count bd := by rw [List.count_cons]; omega
    omega
  have am : At h (RB n) w' (rb h bd c) := ac.move hp (fun a ha => hf.block a (ac.lt a (by rw [fp_cons]; exact List.mem_cons_of_mem _ ha)) (hbf a ha)) (fun hm => hbf bd hm rfl)
  have hfp : fp h (rb h bd c) = bd :: fr_ h c := by rw [fp_cons, rb_gb, rb_fr]
  have hf2 : Foot N L (bd :: fr_ h c) := by
    refine ⟨fun a ha => ?_, fun a ha => ?_⟩
    · have h1 := hfoot.lo a ha
      rw [e1] at h1
      simp only [List.count_cons, List.count_nil] at h1 ⊢
      omega
    · have h1 := hfoot.hi a ha
      rw [e1] at h1
      simp only [List.count_cons, List.count_nil] at h1 ⊢
      omega
  refine ⟨_, ⟨⟨h, rb h bd c, by rw [← hn]; exact am, rb_gb .., ?_, (rb_ok ..).2 hk.2.2.1, .inr (by rw [rb_cnt]; exact hk.1), by rw [rb_cnt]; exact hk.2.1, by rw [rb_kvs]; exact hkv, hfp.symm⟩, hr⟩, hf2⟩
  rw [hfp]
  refine nd_count.2 fun a => ?_
  have h1 := hnd a
  rw [e1] at h1
  simp only [List.count_cons, List.count_nil] at h1 ⊢
  omega

set_option maxRecDepth 100000 in
set_option maxHeartbeats 4000000 in
/-- body.cut. -/
theorem bcut_any (w : World) {bd : Nat} {xs : List KV} {L : List Nat} (hB : BA w bd xs L) (hsm : xs.length ≤ 100000) (k : ByteArray) :
    Calls Try.prog 26 #[.pointer (some ⟨bd, 0, none⟩), .string k] w fun e w' => e = .returned (.bool (has k xs)) ∧ ∃ L', BA w' bd (del k xs) L' ∧ Foot w.heap.size L L' ∧ Fr w.heap.size (· ∈ L) w w' := by
  obtain ⟨h, g, ha, rfl, hnd, ho, hc, hc4, hkv, rfl⟩ := hB.ex
  have HPC : Hid (CutC h (RB xs.length) w g k) := cut_G k h _ _ g ha hnd ho hc (by omega) (by rw [hkv]; exact hB.rise)
  have HND := Lib.hid hnd
  have hlen := del_len k xs
  have HLEN := Lib.hid hlen
  have HRI := Lib.hid (del_rise (k := k) hB.rise)
  have HO : Hid (kvs h g = xs ∧ cnt h g ≤ 4 ∧ xs.length ≤ 100000) := ⟨hkv, hc4, hsm⟩
  have HC2 := Lib.hid hc
  have HA := Lib.hid ha
  have hgl := ha.top.lt
  obtain ⟨m, hm⟩ : ∃ m, m = (del k xs).length := ⟨_, rfl⟩
  have HM := Lib.hid hm
  clear hnd ho hc hc4 hkv hsm hB hlen ha hm
  unfold CutC at HPC
  go_enter Try.func26, Try.ntmps26
  go_upto_region 2 with (go_at_call 33; refine HPC.out.mono ?_; rintro e w1 ⟨rfl, hp⟩; have HPR := Lib.hid hp; clear hp)
  obtain ⟨g1, a1, b1, kv1, o1, cl, cu, f1, r1⟩ := HPR.out
  have hkv := HO.out.1
  rw [hkv] at kv1
  obtain ⟨fr, hfr⟩ : ∃ fr, fr = has k (kvs h g) := ⟨_, rfl⟩
  have hmf : Hid (m + (if fr then 1 else 0) = xs.length) := by
    show _ = _
    have h2 := HLEN.out
    rw [HM.out, hfr, hkv]
    exact h2
  have HFR : Hid (Ending.returned (Value.bool fr) = Ending.returned (Value.bool (has k xs))) := by show _ = _; rw [hfr, hkv]
  rw [← hfr]
  have t1 := a1.top
  rw [b1] at t1
  have hnd1 : (fp h g1).Nodup := f1.nodup HND.out
  have s0 : w1.cell? ⟨gb h g, 2, none⟩ = some (.int .i64 (xs.length : Int)) := (cell_of t1 2).1.trans rfl
  have s1 : w1.frozen? ⟨gb h g, 2, none⟩ = false := (cell_of t1 2).2
  have HA1 : Hid (At h (RB xs.length) w1 g1) := a1
  have hA2 : ∀ m2 : Nat, At h (RB m2) (w1.setCell ⟨gb h g, 2, none⟩ (.int .i64 ((m2 : Nat) : Int))) g1 := fun m2 => a1.rest (by rw [b1]; exact size_put t1) (fun a hm => Below.heap_setCell _ _ _ _ (fun e => by
    rw [fp_cons, b1] at hnd1
    have e2 : a = gb h g := e
    rw [e2] at hm
    exact (List.nodup_cons.1 hnd1).1 hm)) hnd1
  have HA2 := Lib.hid hA2
  have HF1 := Lib.hid (And.intro b1 (And.intro kv1 (And.intro o1 (And.intro cl (And.intro cu (And.intro f1 (And.intro r1 hnd1)))))))
  have hsz9 : (xs.length : Int) ≤ 100000 := by have := HO.out.2.2; omega
  clear a1 b1 kv1 o1 cl cu f1 r1 hkv hfr t1 hnd1 hA2 HPR
  have a0 : Hid (m + 1 = xs.length → (At h (RB m) (w1.setCell ⟨gb h g, 2, none⟩ (.int .i64 ((xs.length : Int) - 1))) g1 ∧ Fr w1.heap.size (fun k => k = gb h g) w1 (w1.setCell ⟨gb h g, 2, none⟩ (.int .i64 ((xs.length : Int) - 1))))) := fun e => by
    have e2 : (xs.length : Int) - 1 = (m : Int) := by omega
    rw [e2]
    exact ⟨HA2.out m, (Fr.refl w1.heap.size (fun k => k = gb h g) w1).setCell (p := ⟨gb h g, 2, none⟩) (.inl rfl) _⟩
  have a9 : Hid (m = xs.length → At h (RB m) w1 g1 ∧ Fr w1.heap.size (fun k => k = gb h g) w1 w1) := fun e => ⟨by rw [e]; exact HA1.out, Fr.refl _ _ _⟩
  clear HA1 HA2
  cases fr
  case' true =>
    have a2 := Lib.hid (a0.out hmf.out)
    have hpos : (0 : Int) ≤ (xs.length : Int) - 1 := by have h2 : m + 1 = xs.length := hmf.out; omega
    clear a0 a9 hmf
    go_upto_region 4 with (fail)
    generalize w1.setCell ⟨gb h g, 2, none⟩ (.int .i64 ((xs.length : Int) - 1)) = w2 at *
  case' false =>
    have a2 := Lib.hid (a9.out hmf.out)
    clear a0 a9 hmf
    go_upto_region 4 with (fail)
    obtain ⟨w2, hw2⟩ : ∃ w2, w2 = w1 := ⟨_, rfl⟩
    have a2 : Hid (At h (RB m) w2 g1 ∧ Fr w1.heap.size (fun k => k = gb h g) w1 w2) := by rw [hw2]; exact a2
    rw [← hw2]
    clear hw2
  all_goals
    obtain ⟨b1, kv1, o1, cl, cu, f1, r1, hnd1⟩ := HF1.out
    have HFW : Hid (Fr w.heap.size (· ∈ fp h g) w w2) := r1.trans a2.out.2 r1.size (fun x _ e => by rw [e]; exact gb_mem h g)
    have t2 := a2.out.1.top
    obtain ⟨A, c, etp⟩ := tp_len a2.out.1
    rw [b1] at t2
    have c1 := t2.c1
    rw [etp] at c1
    clear b1 kv1 o1 cl cu f1 r1 hnd1 t2 etp
    by_cases h1 : h ≠ 0 ∧ cnt h g1 = 1
    · obtain ⟨h0, h1⟩ := h1
      obtain ⟨h', rfl⟩ : ∃ h', h = h' + 1 := ⟨h - 1, by omega⟩
      obtain ⟨b', v, l⟩ : Nd (G h') := g1
      obtain ⟨b1, kv1, o1, cl, cu, f1, r1, hnd1⟩ := HF1.out
      have hl1 : l.length = 1 := h1
      obtain ⟨⟨k0, ch⟩, rfl⟩ := List.length_eq_one_iff.1 hl1
      have b1 : b' = gb (h' + 1) g := b1
      have hs : NS h' w2 b' (RB m) v [(k0, ch)] := ⟨a2.out.1.1, a2.out.1.2, hnd1⟩
      rw [b1] at hs f1
      obtain ⟨q, cp, hv, _, _⟩ := hs.pa.own.form (by simp [kns])
      have hv : v = .slice (some ⟨q, 0, none⟩) 1 cp := hv
      subst hv
      have ac : At h' R0 w2 ch := hs.kids (k0, ch) (List.mem_cons_self ..)
      obtain ⟨A1, n1, c1', A2, n2, c2', etc⟩ := ac.tpform
      have tc := ac.top
      rw [etc] at tc
      have d1 : w2.cell? ⟨gb (h' + 1) g, 1, none⟩ = some (.slice (some ⟨q, 0, none⟩) 1 cp) := hs.pa.at_.c1
      have d2 : w2.cell? ⟨q, 1, none⟩ = some (.pointer (some ⟨gb h' ch, 0, none⟩)) := by
        have h2 := (NS.item (A := []) (B := []) hs).1
        rw [show ([] : List (ByteArray × G h')).length * 2 + 1 = 1 from rfl] at h2
        exact h2
      have HLD : Hid (∀ j u, (#[.slice A1 n1 c1', .slice A2 n2 c2'] : Array Value)[j]? = some u → w2.cell? ⟨gb h' ch, 0 + j, none⟩ = some u) := fun j u hu => by
        rw [Nat.zero_add, (cell_of tc j).1]
        match j, hu with
        | 0, hu => exact hu
        | 1, hu => exact hu
      have HSZ := Lib.hid (fun p q => szPart p q)
      have HT5 : Hid (w2.heap[gb (h' + 1) g]? = some (.cells (.slice none 0 0 :: .slice (some ⟨q, 0, none⟩) 1 cp :: (RB m).2 : List Value).toArray (RB m).1 (0, 0))) := hs.pa.at_
      have HS6 : Hid (0 + (#[.slice A1 n1 c1', .slice A2 n2 c2'] : Array Value).size ≤ (.slice none 0 0 :: .slice (some ⟨q, 0, none⟩) 1 cp :: (RB m).2 : List Value).toArray.size) := by show _ ≤ _; simp [RB]
      have kve : kvs h' ch = del k xs := by
        have h2 : kk h' [(k0, ch)] = del k xs := kv1
        rw [kk_cons] at h2
        simpa [kk] using h2
      have hfin := root_goes (w' := w2.setRow (gb (h' + 1) g) (putRow (.slice none 0 0 :: .slice (some ⟨q, 0, none⟩) 1 cp :: (RB m).2 : List Value).toArray 0 [.slice A1 n1 c1', .slice A2 n2 c2'])) hs (o1 (k0, ch) (List.mem_cons_self ..)) (by rw [etc]; exact PartAt.over HT5.out) ((Fr.refl w2.heap.size (fun k => k = gb (h' + 1) g) w2).setRow (b := gb (h' + 1) g) (.inl rfl) _) kve HM.out HRI.out f1
      have HFI := Lib.hid hfin
      have HFW2 : Hid (Fr w.heap.size (· ∈ fp (h' + 1) g) w (w2.setRow (gb (h' + 1) g) (putRow (.slice none 0 0 :: .slice (some ⟨q, 0, none⟩) 1 cp :: (RB m).2 : List Value).toArray 0 [.slice A1 n1 c1', .slice A2 n2 c2']))) := HFW.out.setRow (b := gb (h' + 1) g) (.inl (gb_mem _ g)) _
      clear b1 kv1 o1 cl cu f1 r1 hnd1 hs ac etc tc kve hfin h1 c1 hl1
      go_wp2_with (first
        | (with_reducible refine wpList_load_at rfl 66 (.tmp 35) rfl (gb h' ch) 0 rfl #[.slice A1 n1 c1', .slice A2 n2 c2'] _ HLD.out undPart rfl (HSZ.out _ _) ?_)
        | (with_reducible refine wpList_store_at rfl 66 (.tmp 38) (.tmp 36) rfl (gb (h' + 1) g) 0 #[.slice A1 n1 c1', .slice A2 n2 c2'] rfl rfl (RB m).1 (.slice none 0 0 :: .slice (some ⟨q, 0, none⟩) 1 cp :: (RB m).2 : List Value).toArray HT5.out (HSZ.out _ _) HS6.out (by simp [Value.oneCell']) ?_))
      go_ret
      obtain ⟨L', hL, hF⟩ := HFI.out
      exact ⟨HFR.out, L', hL, hF, HFW2.out⟩
    · have hl : ¬ (((if h = 0 then 0 else cnt h g1 : Nat) : Int) = 1) := by
        by_cases h0 : h = 0
        · rw [if_pos h0]; omega
        · rw [if_neg h0]
          have : cnt h g1 ≠ 1 := fun e => h1 ⟨h0, e⟩
          omega
      have H1 := Lib.hid h1
      generalize (if h = 0 then 0 else cnt h g1 : Nat) = nl at *
      clear h1
      go_wp2_with fail
      go_ret
      obtain ⟨b1, kv1, o1, cl, cu, f1, r1, hnd1⟩ := HF1.out
      refine ⟨HFR.out, fp h g1, ⟨⟨h, g1, ?_, b1, hnd1, o1, ?_, by have := HO.out.2.1; omega, kv1, rfl⟩, HRI.out⟩, f1, HFW.out⟩
      · rw [← HM.out]
        exact a2.out.1
      · rcases HC2.out with e | e
        · exact .inl e
        · by_cases h0 : h = 0
          · exact .inl h0
          · have : cnt h g1 ≠ 1 := fun e => H1.out ⟨h0, e⟩
            exact .inr (by omega)
end Go.Proofs.Ytejbbojephiifaa
