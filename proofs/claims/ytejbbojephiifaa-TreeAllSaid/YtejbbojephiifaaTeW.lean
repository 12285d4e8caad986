/- tree: cut. -/
import Derived.Test.YtejbbojephiifaaTeV
namespace Go.Proofs.Ytejbbojephiifaa
open Go.RowKit

theorem refill_any (w : World) {h : Nat} {b : Nat} {R : Rest} {v : Value} {A B : List (ByteArray × G h)} {k0 : ByteArray} {c : G h} (s : NS h w b R v (A ++ (k0, c) :: B)) (hsm : (A ++ (k0, c) :: B).length ≤ 900) (h2 : 2 ≤ (A ++ (k0, c) :: B).length)
    (hA : ∀ x ∈ A, Kid h (Ok h) x) (hB : ∀ x ∈ B, Kid h (Ok h) x) (ho : Ok h c) (h1 : 1 ≤ cnt h c) (h4 : cnt h c ≤ 4) :
    Calls Try.prog 40 #[.pointer (some ⟨b, 0, none⟩), .int .i64 A.length] w fun e w' => e = .returned (.tuple #[]) ∧ Mend h w b R v (A ++ (k0, c) :: B) ((A ++ (k0, c) :: B).length - 1) (A ++ (k0, c) :: B).length w' := by
  obtain ⟨q, cp, hv, _, _⟩ := s.pa.own.form (by rw [kns_len]; simp; omega)
  rw [kns_len] at hv
  subst hv
  by_cases hc : 2 ≤ cnt h c
  · exact refill_enough w s rfl hsm hA hB ho hc h4
  · have hc1 : cnt h c = 1 := by omega
    rcases List.eq_nil_or_concat A with rfl | ⟨A', y, rfl⟩
    · cases B with
      | nil => simp at h2
      | cons z B' =>
        have hz := hB z (List.mem_cons_self ..)
        exact refill_join w (i := 0) (X := []) (Y := B') (k1 := k0) (k2 := z.1) (c1 := c) (c2 := z.2) s rfl hsm (fun x hx => by cases hx) (fun x hx => hB x (List.mem_cons_of_mem _ hx)) ho hz.2.2.1 (by omega) (by have := hz.1; omega) (by have := hz.1; omega) (by have := hz.2.1; omega) (.inr ⟨rfl, rfl, hc1⟩)
    · have hy := hA y (by simp)
      have e : A' ++ [y] ++ (k0, c) :: B = A' ++ ([(y.1, y.2), (k0, c)] ++ B) := by simp
      rw [List.concat_eq_append] at *
      have s' := s
      have hl : (A' ++ [y]).length = A'.length + 1 := by simp
      rw [hl]
      rw [e] at s' hsm ⊢
      exact refill_join w (i := A'.length + 1) (X := A') (Y := B) (k1 := y.1) (k2 := k0) (c1 := y.2) (c2 := c) s' rfl hsm (fun x hx => hA x (List.mem_append_left _ hx)) hB hy.2.2.1 ho (by have := hy.1; omega) (by omega) (by have := hy.1; omega) (by have := hy.2.1; omega) (.inl ⟨rfl, hc1⟩)

/-- What cut leaves. -/
def CutR (h : Nat) (w : World) (R : Rest) (g : G h) (k : ByteArray) (w' : World) : Prop := ∃ g' : G h, At h R w' g' ∧ gb h g' = gb h g ∧ kvs h g' = del k (kvs h g) ∧ Ok h g' ∧ cnt h g' ≤ cnt h g ∧ cnt h g ≤ cnt h g' + 1 ∧ Foot w.heap.size (fp h g) (fp h g') ∧ Fr w.heap.size (· ∈ fp h g) w w'
def CutC (h : Nat) (R : Rest) (w : World) (g : G h) (k : ByteArray) : Prop := Calls Try.prog 33 #[.pointer (some ⟨gb h g, 0, none⟩), .string k] w fun e w' => e = .returned (.bool (has k (kvs h g))) ∧ CutR h w R g k w'

set_option maxRecDepth 100000 in
set_option maxHeartbeats 2000000 in
theorem cut_leaf_yes (w : World) {R : Rest} {b q n cp : Nat} {A r : List KV} {y : KV} {k : ByteArray} (hp : PAP w b R (.slice (some ⟨q, 0, none⟩) n cp) (A ++ y :: r)) (hn : n = (A ++ y :: r).length) (hsm : n ≤ 900)
    (hf : ∀ W, Below w.heap.size w W → Calls Try.prog 39 #[.slice (some ⟨q, 0, none⟩) n cp, .string k] W fun e w' => e = .returned (.tuple #[.int .i64 A.length, .bool true]) ∧ Below W.heap.size W w') :
    Calls Try.prog 33 #[.pointer (some ⟨b, 0, none⟩), .string k] w fun e w' => e = .returned (.bool true) ∧ PAP w' b R (.slice (some ⟨q, 0, none⟩) (n - 1) cp) (A ++ r) ∧ Fr w.heap.size (MineP b (.slice (some ⟨q, 0, none⟩) n cp)) w w' := by
  have c0 := hp.at_.c0
  have hlen : A.length < n := by rw [hn]; simp
  have hqb : b ≠ q := fun e => hp.ne (by rw [e]; rfl)
  have hnn : (A ++ y :: r).length = n := hn.symm
  have hdel : ∀ W, Below w.heap.size w W → Calls Try.prog 41 #[.slice (some ⟨q, 0, none⟩) n cp, .int .i64 A.length, .int .i64 ((A.length : Int) + 1)] W fun e w' =>
      e = .returned (.slice (some ⟨q, 0, none⟩) (n - 1) cp) ∧ PAP (w'.setCell ⟨b, 0, none⟩ (.slice (some ⟨q, 0, none⟩) (n - 1) cp)) b R (.slice (some ⟨q, 0, none⟩) (n - 1) cp) (A ++ r) ∧ w'.cell? ⟨b, 0, none⟩ = some (.slice (some ⟨q, 0, none⟩) n cp) ∧ w'.frozen? ⟨b, 0, none⟩ = false ∧ Fr w.heap.size (MineP b (.slice (some ⟨q, 0, none⟩) n cp)) w (w'.setCell ⟨b, 0, none⟩ (.slice (some ⟨q, 0, none⟩) (n - 1) cp)) := fun W hW => by
    have hpW := hp.below hW
    have ho := hpW.own
    rw [hnn] at ho
    refine (delP_any W q n cp (A ++ y :: r) A.length (A.length + 1) hn (by omega) (by omega) (by omega) ho).mono ?_
    rintro e w' ⟨rfl, h2, hf⟩
    have el : (A ++ y :: r).take A.length ++ (A ++ y :: r).drop (A.length + 1) = A ++ r := by
      rw [List.take_left' rfl, List.drop_append, List.drop_of_length_le (by omega), Nat.add_sub_cancel_left]; rfl
    have en : n - (A.length + 1 - A.length) = n - 1 := by omega
    rw [el, en] at h2
    rw [en]
    have hb := hf.block b hpW.lt hqb
    have hl2 : (A ++ r).length = n - 1 := by rw [hn]; simp
    refine ⟨rfl, hpW.put hb (by rw [hl2]; exact h2) (fun e => hqb (Option.some.inj e).symm), (World.cell?_of_block hb).trans hpW.at_.c0, (World.frozen?_of_block hb).trans (hpW.at_.fz 0), ?_⟩
    exact ((Fr.of_below hW).trans hf hW.size (fun k _ e => .inr (by rw [e]; rfl))).setCell (p := ⟨b, 0, none⟩) (.inl (.inl rfl)) _
  have HD := Lib.hid hdel
  have HFI := Lib.hid (hf w (Below.refl _ _))
  have HLE := Lib.hid (leafP_any w hp)
  have HBL := Lib.hid hp.lt
  have hi9 : (A.length : Int) ≤ 1000 := by omega
  generalize A.length = i at *
  clear hdel hf hp hn hnn
  go_enter Try.func33, Try.ntmps33
  go_upto_region 8 with (first
    | (go_at_call 39; refine HFI.out.mono ?_; rintro e w1 ⟨rfl, hb1⟩; have HB1 := Lib.hid hb1; clear hb1)
    | (go_at_call 37; refine HLE.out.mono ?_; rintro e w' ⟨rfl, hw⟩; obtain rfl := hw.symm; clear hw))
  have d0 : w1.cell? ⟨b, 0, none⟩ = some (.slice (some ⟨q, 0, none⟩) n cp) := (World.cell?_of_block (HB1.out.block b HBL.out)).trans c0
  have HD1 := Lib.hid (HD.out w1 HB1.out)
  go_wp2_with (go_at_call 41; refine HD1.out.mono ?_; rintro e w2 ⟨rfl, p3, x3, y3, f3⟩; have P3 := Lib.hid p3; have F3 := Lib.hid f3; clear p3 f3)
  go_ret
  exact ⟨rfl, P3.out, F3.out⟩

set_option maxRecDepth 100000 in
set_option maxHeartbeats 2000000 in
theorem cut_leaf_no (w : World) {R : Rest} {b : Nat} {v : Value} {l : List KV} {i : Nat} {k : ByteArray} (hp : PAP w b R v l)
    (hf : ∀ W, Below w.heap.size w W → Calls Try.prog 39 #[v, .string k] W fun e w' => e = .returned (.tuple #[.int .i64 i, .bool false]) ∧ Below W.heap.size W w') :
    Calls Try.prog 33 #[.pointer (some ⟨b, 0, none⟩), .string k] w fun e w' => e = .returned (.bool false) ∧ Below w.heap.size w w' := by
  obtain ⟨A0, cp0, rfl⟩ := own_shape hp.own
  have c0 := hp.at_.c0
  have HFI := Lib.hid (hf w (Below.refl _ _))
  have HLE := Lib.hid (leafP_any w hp)
  generalize l.length = n at *
  clear hf hp
  go_enter Try.func33, Try.ntmps33
  go_wp2_with (first
    | (go_at_call 39; refine HFI.out.mono ?_; rintro e w1 ⟨rfl, hb1⟩; have HB1 := Lib.hid hb1; clear hb1)
    | (go_at_call 37; refine HLE.out.mono ?_; rintro e w' ⟨rfl, hw⟩; obtain rfl := hw.symm; clear hw))
  go_ret
  exact ⟨rfl, HB1.out⟩

theorem cut_0 (w : World) {R : Rest} {g : G 0} (k : ByteArray) (ha : At 0 R w g) (hc : cnt 0 g ≤ 900) (hr : Rise KV.k (kvs 0 g)) : CutC 0 R w g k := by
  obtain ⟨b, v, l⟩ : Lf := g
  have hp : PAP w b R v l := ha
  have hsm : l.length ≤ 900 := hc
  have hri : Rise KV.k l := hr
  have hlt : ∀ a ∈ b :: own1 v, a < w.heap.size := fun a hm => At.lt (h := 0) ha a hm
  have hmi : ∀ k, MineP b v k → k ∈ b :: own1 v := fun k e => by
    rcases e with rfl | e
    · exact List.mem_cons_self ..
    · exact List.mem_cons_of_mem _ (own1_mem.2 e)
  obtain ⟨A, B, is, hs⟩ := stand_ex k hri
  have hfl := find_leaf hp hsm hri hs
  cases is with
  | true =>
    obtain ⟨y, r, rfl, hk, _, e2, e3, _⟩ := Stand.ins_yes (x := ⟨k, 0, 0⟩) hs
    have el := hs.eq
    subst el
    obtain ⟨q, cp, hv, _, _⟩ := hp.own.form (by simp; omega)
    subst hv
    refine (cut_leaf_yes w hp rfl hsm hfl).mono ?_
    rintro e w' ⟨rfl, h1, hf⟩
    refine ⟨by show _ = Ending.returned (Value.bool (has k (A ++ y :: r))); rw [e2], (⟨b, _, A ++ r⟩ : Lf), h1, rfl, e3.symm, trivial, ?_, ?_, fp_leaf (fun k hk => .inl hk) hlt, hf.mono (Nat.le_refl _) (fun k _ e => hmi k e)⟩
    · show (A ++ r).length ≤ (A ++ y :: r).length; simp
    · show (A ++ y :: r).length ≤ (A ++ r).length + 1; simp; omega
  | false =>
    obtain ⟨_, e2, e3, _⟩ := Stand.ins_no (x := ⟨k, 0, 0⟩) hs
    refine (cut_leaf_no w hp hfl).mono ?_
    rintro e w' ⟨rfl, hb⟩
    exact ⟨by show _ = Ending.returned (Value.bool (has k l)); rw [e2], (⟨b, v, l⟩ : Lf), hp.below hb, rfl, e3.symm, trivial, Nat.le_refl _, Nat.le_succ _, Foot.refl hlt, Fr.of_below hb⟩

set_option maxRecDepth 100000 in
set_option maxHeartbeats 2000000 in
theorem cut_s (w : World) {h : Nat} {R : Rest} {g : G (h + 1)} (k : ByteArray) (ih : ∀ (W : World) (c : G h), At h R0 W c → (fp h c).Nodup → Ok h c → (h = 0 ∨ 2 ≤ cnt h c) → cnt h c ≤ 800 → Rise KV.k (kvs h c) → CutC h R0 W c k)
    (ha : At (h + 1) R w g) (hnd : (fp (h + 1) g).Nodup) (ho : Ok (h + 1) g) (hc : 2 ≤ cnt (h + 1) g) (hsm : cnt (h + 1) g ≤ 800) (hr : Rise KV.k (kvs (h + 1) g)) : CutC (h + 1) R w g k := by
  obtain ⟨b, v, l⟩ : Nd (G h) := g
  have s : NS h w b R v l := ⟨ha.1, ha.2, hnd⟩
  have hk : ∀ x ∈ l, Kid h (Ok h) x := ho
  have hri : Rise KV.k (kk h l) := hr
  have hl0 : 2 ≤ l.length := hc
  have hlm : l.length ≤ 800 := hsm
  have hne : kns h l ≠ [] := fun e => by have := congrArg List.length e; rw [kns_len] at this; simp at this; rw [this] at hl0; simp at hl0
  obtain ⟨q, cp, hv, _, _⟩ := s.pa.own.form (by rw [kns_len]; omega)
  rw [kns_len] at hv
  subst hv
  have HLE : Hid (Calls Try.prog 37 #[.pointer (some ⟨b, 0, none⟩)] w fun e w' => e = .returned (.bool false) ∧ w' = w) := by
    have hle := leaf_s w s.at_ (by show 0 < l.length; omega)
    exact hle
  have HOV : Hid (Calls Try.prog 38 #[.slice (some ⟨q, 0, none⟩) l.length cp, .string k] w fun e w' => ∃ A y B, Under (kns h l) k A y B ∧ e = .returned (.int .i64 A.length) ∧ Below w.heap.size w w') := over_any _ _ (kns h l) k (by rw [kns_len]; omega) hne s.pa.own (kns_rise hk hri)
  have c0 : w.cell? ⟨b, 1, none⟩ = some (.slice (some ⟨q, 0, none⟩) l.length cp) := by
    have h0 := s.pa.at_.c1
    exact h0
  have HS := Lib.hid s
  have HK := Lib.hid hk
  have HRI := Lib.hid hri
  have HIH := Lib.hid ih
  have HLM := Lib.hid hlm
  have HL2 := Lib.hid hl0
  obtain ⟨n, hn⟩ : ∃ n, n = l.length := ⟨_, rfl⟩
  have HN := Lib.hid hn
  rw [← hn] at HS HOV c0 hl0
  have hgb : gb (h + 1) ({ b := b, v := .slice (some ⟨q, 0, none⟩) l.length cp, l := l } : Nd (G h)) = b := rfl
  unfold CutC
  rw [hgb]
  show Calls _ _ #[.pointer (some ⟨b, 0, none⟩), .string k] _ (fun e w' => e = .returned (.bool (has k (kk h l))) ∧ CutR (h + 1) w R (⟨b, .slice (some ⟨q, 0, none⟩) l.length cp, l⟩ : Nd (G h)) k w')
  rw [← hn]
  have hBL : b < w.heap.size := s.pa.lt
  clear ha hnd ho hc hsm hr s hk hri ih hlm hne hn hgb
  go_enter Try.func33, Try.ntmps33
  go_upto_region 3 with (first
    | (go_at_call 38; refine HOV.out.mono ?_; rintro e w1 ⟨A, y, B, hu, rfl, hb1⟩; have HU := Lib.hid hu; have HB1 := Lib.hid hb1; clear hu hb1)
    | (go_at_call 37; refine HLE.out.mono ?_; rintro e w' ⟨rfl, hw⟩; obtain rfl := hw.symm; clear hw))
  obtain ⟨LA, k0, c, LB, el, hAl, hlo, hhi, hrc⟩ := under_kids HK.out HRI.out HU.out
  subst el
  generalize A.length = i at *
  have HI := Lib.hid hAl
  have hb01 := HB1.out
  have hs1 := HS.out.below hb01
  have c1 : w1.cell? ⟨b, 1, none⟩ = some (.slice (some ⟨q, 0, none⟩) n cp) := (World.cell?_of_block (HB1.out.block b hBL)).trans c0
  have d1 := hs1.item.1
  rw [← HI.out] at d1
  have hkc := HK.out (k0, c) (List.mem_append_right _ (List.mem_cons_self ..))
  have hsd : NS h w1 b R (.slice (some ⟨q, 0, none⟩) n cp) (LA ++ ([(k0, c)] ++ LB)) := hs1
  have hndc : (fp h c).Nodup := nd_count.2 fun a => by
    have h1 := nd_count.1 hs1.nd a
    rw [kf_app, kf_cons] at h1
    simp only [List.count_cons, List.count_append] at h1
    omega
  have HP : Hid (CutC h R0 w1 c k) := HIH.out w1 c (hsd.kids (k0, c) (by simp)) hndc hkc.2.2.1 (.inr hkc.1) (by have : cnt h c ≤ 4 := hkc.2.1; omega) hrc
  have HSD := Lib.hid hsd
  have HKC := Lib.hid hkc
  have HLO := Lib.hid (And.intro hlo (And.intro hhi hb01))
  have hli : (i : Int) < (n : Int) := by have := HN.out; rw [List.length_append, List.length_cons] at this; omega
  clear hs1 hsd hndc hkc hlo hhi hrc hb01 hAl
  go_upto_region 4 with (go_at_call 33; refine (HP.out : Calls _ _ _ _ _).mono ?_; rintro e w2 ⟨rfl, hp⟩; have HPR := Lib.hid hp; clear hp)
  obtain ⟨c', ac, bc, kvc, oc, cl, cu, fc, rc⟩ := HPR.out
  have hpa := ns_pa (M := [(k0, c)]) HSD.out rc (fun a e => by rw [kf_one]; exact e)
  have hpa' : PAQ w2 b R (.slice (some ⟨q, 0, none⟩) n cp) (kns h (LA ++ ([(k0, c')] ++ LB))) := by
    have e : kns h (LA ++ ([(k0, c')] ++ LB)) = kns h (LA ++ ([(k0, c)] ++ LB)) := by simp [kns, bc]
    rw [e]; exact hpa
  obtain ⟨s2, f2, r2⟩ := ns_mid (M := [(k0, c)]) (M' := [(k0, c')]) (M2 := [(k0, c')]) HSD.out (fun x hx => by rw [List.mem_singleton.1 hx]; exact ac) (by rw [kf_one, kf_one]; exact fc) (rc.mono (Nat.le_refl _) (fun k _ e => by rw [kf_one]; exact e)) (fun x hx => ⟨x, hx, rfl⟩) rfl hpa' (fun g e => .inl e) (Fr.refl _ _ _)
  have hlc : (LA ++ (k0, c') :: LB).length = (LA ++ (k0, c) :: LB).length := by simp
  have hrl := refill_any w2 (A := LA) (B := LB) (k0 := k0) (c := c') s2 (by have := HLM.out; rw [hlc]; omega) (by have := HL2.out; rw [hlc]; exact this) (fun x hx => HK.out x (List.mem_append_left _ hx)) (fun x hx => HK.out x (List.mem_append_right _ (List.mem_cons_of_mem _ hx))) oc (by have := HKC.out.1; dsimp only at this; omega) (by have := HKC.out.2.1; dsimp only at this; omega)
  rw [← HI.out] at hrl
  have HRL := Lib.hid hrl
  have HF := Lib.hid (And.intro f2 (And.intro r2 kvc))
  clear ac bc kvc oc cl cu fc rc hpa hpa' s2 f2 r2 hrl HPR hlc
  go_wp2_with (go_at_call 40; refine HRL.out.mono ?_; rintro e w3 ⟨rfl, hm⟩; have HM := Lib.hid hm; clear hm)
  go_ret
  obtain ⟨hlo, hhi, hb01⟩ := HLO.out
  obtain ⟨f2, r2, kvc⟩ := HF.out
  have ekk : kk h (LA ++ (k0, c) :: LB) = kk h LA ++ (kvs h c ++ kk h LB) := by rw [kk_app, kk_cons]
  have ehas : has k (kk h (LA ++ (k0, c) :: LB)) = has k (kvs h c) := by rw [ekk, has_lo hlo, has_hi hhi]
  rw [ehas]
  refine ⟨rfl, ?_⟩
  obtain ⟨v', l', s3, k3, o3, lo3, hi3, f3, r3⟩ := HM.out
  have hsz : w.heap.size ≤ w2.heap.size := Nat.le_trans hb01.size r2.size
  have hlc : (LA ++ (k0, c') :: LB).length = (LA ++ (k0, c) :: LB).length := by simp
  rw [hlc] at lo3 hi3
  refine ⟨(⟨b, v', l'⟩ : Nd (G h)), s3.at_, rfl, ?_, o3, hi3, ?_, ?_, ?_⟩
  · show kk h l' = del _ (kk h (LA ++ (k0, c) :: LB))
    rw [k3, ekk, kk_app, kk_cons, del_lo hlo, del_hi hhi, kvc]
  · show (LA ++ (k0, c) :: LB).length ≤ l'.length + 1
    omega
  · exact ((Foot.refl HS.out.lt).trans f2 hb01.size).trans f3 hsz
  · refine ((Fr.of_below (S := fun a => a ∈ b :: (own1 (.slice (some ⟨q, 0, none⟩) n cp) ++ kf h (LA ++ (k0, c) :: LB))) hb01).trans r2 hb01.size (fun x _ e => e)).trans r3 hsz (fun x hx e => ?_)
    rcases f2.mem e with e2 | e2
    · exact e2
    · have := hb01.size
      omega
/-- Cut. -/
theorem cut_G (k : ByteArray) : ∀ (h : Nat) (R : Rest) (w : World) (g : G h), At h R w g → (fp h g).Nodup → Ok h g → (h = 0 ∨ 2 ≤ cnt h g) → cnt h g ≤ 800 → Rise KV.k (kvs h g) → CutC h R w g k
  | 0, _, w, _, ha, _, _, _, hsm, hr => cut_0 w k ha (by omega) hr
  | h + 1, _, w, _, ha, hnd, ho, hc, hsm, hr => cut_s w k (fun W c a1 a2 a3 a4 a5 a6 => cut_G k h R0 W c a1 a2 a3 a4 a5 a6) ha hnd ho (by omega) hsm hr
end Go.Proofs.Ytejbbojephiifaa
