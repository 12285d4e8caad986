/- TrailAll, a part. -/
import Derived.Test.YthmgafcnoedmjaaGreatQ41
import Derived.Test.YthmgafcnoedmjaaGreatQ45
import Derived.Test.YthmgafcnoedmjaaGreatQ46
namespace Go.Proofs.YthmgafcnoedmjaaGreat
set_option maxRecDepth 100000
open Go.RowKit Go.Maps
theorem bs_at {l : List Int} (hok : bytesOk l) {x : Int} {r : List Int} (hl : l = x :: r) (w : World) : (Instr.index 9 (.string (bstr l)) (.int .i64 0)).run Tryz.prog w = .ok (.int .u8 x) w := by
 have hz : 0 < (bstr l).size := by rw [bstr_sz, hl]; simp
 rw [run_index_string w 9 (bstr l) .i64 0 Tryz.underlying9, dif_pos ⟨by omega, by omega⟩]
 have hx := hok x (by rw [hl]; exact List.mem_cons_self ..)
 have e1 : (bstr l).data.toList[0]? = some (UInt8.ofNat x.toNat) := by rw [bstr_data, hl]; rfl
 have e2 : (bstr l)[(0 : Int).toNat]'(by simpa using hz) = UInt8.ofNat x.toNat := by
  have e3 : (bstr l).data[0]? = some (UInt8.ofNat x.toNat) := by rw [← Array.getElem?_toList]; exact e1
  obtain ⟨h4, h5⟩ := Array.getElem?_eq_some_iff.1 e3
  exact h5
 rw [e2, UInt8.toNat_ofNat', Nat.mod_eq_of_lt (by omega)]
 congr 2
 omega
theorem bs_ext {l : List Int} {X X1 : Nat} (e : X1 = 1 + X) : (bstr l).extract 1 X1 = bstr ((l.drop 1).take X) := by
 apply ByteArray.ext
 apply Array.toList_inj.1
 rw [bstr_data]
 simp only [ByteArray.data_extract, Array.toList_extract]
 rw [bstr_data, e]
 simp [List.map_take]
theorem str_byteV {l : List Int} (hok : bytesOk l) : Lib.strCells (bstr l) = byteV l := by
 unfold Lib.strCells byteV
 rw [bstr_data, List.map_map]
 refine List.map_congr_left fun x hx => ?_
 have h := hok x hx
 show Value.int .u8 ((UInt8.ofNat x.toNat).toNat : Int) = _
 rw [UInt8.toNat_ofNat', Nat.mod_eq_of_lt (by omega)]
 congr 1
 omega
theorem flat6 : ∀ es : List (Ent × S6), (es.flatMap enV).length = es.length * 16
 | [] => rfl
 | x :: r => by rw [List.flatMap_cons, List.length_append, flat6 r, enV_len, List.length_cons]; omega
def Sr6 (w : World) (v : Value) (n : Nat) (es : List (Ent × S6)) : Prop := es.length = n ∧ Src w v n (es.flatMap enV) ∧ ∀ o ∈ es, EntS w o.2.1 o.2.2.1 o.2.2.2.1 o.2.2.2.2.1 o.2.2.2.2.2.1 o.2.2.2.2.2.2 o.1
theorem sr6_els {w : World} {A : Option Addr} {n c : Nat} {es : List (Ent × S6)} {G : Nat → Prop} (h : Els w (.slice A n c) 16 (es.map enV)) (hG : ∀ o ∈ es, EnG w G o) : Sr6 w (.slice A n c) n es := by
 obtain ⟨A', c', hv, _, hnn, hc⟩ := h
 injection hv with h1 h2 h3
 subst h1 h3
 have hn : n = es.length := by rw [h2, List.length_map]
 refine ⟨hn.symm, ?_, fun o ho => (hG o ho).entS⟩
 cases A with
 | none =>
  have he : es = [] := by simpa using hnn rfl
  subst he
  exact .inl ⟨c, by rw [hn]; rfl, hn, rfl⟩
 | some a =>
  refine .inr ⟨a, c, rfl, fun m u hu => ?_⟩
  have hm : m < es.length * 16 := by
   have := (List.getElem?_eq_some_iff.1 hu).1
   rwa [flat6] at this
  have hne : es.map enV ≠ [] := fun e => by
   have := congrArg List.length e
   simp at this
   subst this
   simp at hm
  obtain ⟨h4, h5, h6⟩ := hc a rfl hne
  obtain ⟨ab, ao, asp⟩ := a
  cases h4
  have hi : m / 16 < es.length := by omega
  have hj : m % 16 < 16 := Nat.mod_lt _ (by decide)
  have e : m = m / 16 * 16 + m % 16 := by omega
  rw [add_more]
  rw [e] at hu ⊢
  rw [flat_at (f := enV) (fun x => enV_len x) es (m / 16) (m % 16) hi hj] at hu
  have h7 := h6 (m / 16) (m % 16) (by simpa using hi) hj
  rw [← hu, ← h7]
  rw [Nat.add_assoc]
theorem one6 {w : World} {es : List (Ent × S6)} (h : ∀ o ∈ es, EntS w o.2.1 o.2.2.1 o.2.2.2.1 o.2.2.2.2.1 o.2.2.2.2.2.1 o.2.2.2.2.2.2 o.1) : ∀ u ∈ es.flatMap enV, u.oneCell' = true := fun u hu => by
 rw [List.mem_flatMap] at hu
 obtain ⟨o, ho, hu⟩ := hu
 obtain ⟨e, s1, s2, s3, s4, s5, s6⟩ := o
 obtain ⟨A1, c1, A2, c2, A3, c3, A4, c4, A5, c5, A6, c6, h1, h2, h3, h4, h5, h6⟩ := (h _ ho).form
 simp only at h1 h2 h3 h4 h5 h6
 subst h1 h2 h3 h4 h5 h6
 have h1 : ((entC e (.slice A1 e.old.length c1) (.slice A2 e.new.length c2) (.slice A3 e.moves.length c3) (.slice A4 e.lives.length c4) (.slice A5 e.dirty.length c5) (.slice A6 e.opens.length c6)).toList).all (·.oneCell') = true := by
  simp [entC, Value.oneCell']
 exact List.all_eq_true.1 h1 u hu
def RdO (w : World) (T : Nat → List Int) (K : Nat) (a : Value) (wx : World) : Prop := ∃ A m c, a = .slice A m c ∧ wx.ownsRow w.heap.size 5 1 (.slice A m c) (rdL T K 0).length (byteV (rdL T K 0)) ∧ (rdL T K 0).length ≤ 63 * K ∧ Below w.heap.size w wx
def RorPost (w : World) (r gn gw gt gm : Nat) (vn vw vt : Value) (f : Rf) (d : Dk) (P0 : Nat → Prop) (F K : Nat) (R : List Int) (e : Ending) (w' : World) : Prop :=
 ∃ (c : Int) (d' : Dk), Settled (R.take (frsN (scan R))) F K d c d' ∧ Tw w w' r gn gw gt gm vn vw vt f d' ∧
  ((c = 0 ∧ ∃ q A n lc av, e = .returned (.tuple #[.pointer (some ⟨q, 0, none⟩), .slice A n lc, .int .i64 0]) ∧ w.heap.size ≤ q ∧ RtAt w' q (.slice A n lc) av (fun b => b = q ∨ P0 b) ⟨r, F, K, (scan R).length, R.take (frsN (scan R)), (scan R).length⟩ ∧ RowE w' (.slice A n lc) ((scan R).map tkE)) ∨
    (c ≠ 0 ∧ e = .returned (.tuple #[.pointer none, .slice none 0 0, .int .i64 c])))
set_option maxHeartbeats 2000000 in
theorem ropenR_any (w : World) {r gn gw gt gm : Nat} {vn vw vt : Value} {f : Rf} {d : Dk} (hr : RfAt w r gn gw gt gm vn vw vt f) (hL : Like d f) (hok : d.Ok) (hd : d.dead = false) (P0 : Nat → Prop) (hP : ∀ b, P0 b → b < w.heap.size) (hP4 : ∀ b, Four r gn gw gt b → P0 b) (F K : Nat) (hfit : F + K ≤ f.k)
  {T : Nat → List Int} (hT : ∀ i : Nat, i < K → d.has ((F : Int) + i) (T i)) : Calls Tryz.prog 10 #[.pointer (some ⟨r, 0, none⟩), .int .i64 F, .int .i64 K] w (RorPost w r gn gw gt gm vn vw vt f d P0 F K (rdL T K 0)) := by
 have hkle := hr.kle
 have c0 := hr.c0
 have c3 := hr.c3
 have ho : f.off = false := by rw [← hL.2.1, hd]
 rw [ho] at c3
 have HSN := Lib.hid hr.sn
 obtain ⟨pn, cn, rfl, -, -, -⟩ := hr.sn
 have HR := Lib.hid hr
 have HLk := Lib.hid hL
 have HOk := Lib.hid hok
 have HD := Lib.hid hd
 have HP := Lib.hid hP
 have HP4 := Lib.hid hP4
 have HT := Lib.hid hT
 have n1 : ¬ (F : Int) < 0 := by omega
 have n2 : ¬ (K : Int) < 0 := by omega
 have n3 : ¬ (f.k : Int) < (F : Int) := by omega
 have n4 : ¬ ((f.k : Int) - (F : Int)) < (K : Int) := by omega
 have hF2 : F ≤ 2000 := by omega
 have hK2 : K ≤ 2000 := by omega
 have HFit := Lib.hid hfit
 have H1 : Hid (RdRel w T K 0 (.slice none 0 0) w) := Lib.hid ⟨[], World.ownsRow_nil _ _ _ _, by simp, by simp, Below.refl _ _⟩
 obtain ⟨kk, hkk⟩ : ∃ k, k = f.k := ⟨_, rfl⟩
 rw [← hkk] at c0 n3 n4 hkle hfit ⊢
 have HKK := Lib.hid hkk
 clear hr hL hok hd hP hP4 hT hfit ho hkk
 go_enter Tryz.func10, Tryz.ntmps10
 go_upto_block 0 with (fail)
 go_cut [9, 10, 11, 12] from 47 to 73 (fun a _ _ _ wx => RdO w T K a wx)
 case first =>
  clear c3 n1 n2 n3 n4
  go_wp2
  go_loopw [9, 10] (fun v i wr => ∃ n : Nat, n ≤ K ∧ i = .int .i64 n ∧ Hid (RdRel w T K n v wr)) (fun _ i _ => K - ivT i)
  case atStart => exact ⟨0, Nat.zero_le _, rfl, H1⟩
  case round =>
   obtain ⟨n, hn, rfl, HRL⟩ := hrel
   obtain ⟨D, ho, hr, hlen, hb⟩ := HRL.out
   clear H1 HRL c0
   obtain ⟨A, m, c, rfl⟩ := own_shape ho
   by_cases hlt : n < K
   ·have hlt2 : (n : Int) < (K : Int) := by omega
    have hr0 := HR.out.grow hb.block
    obtain ⟨X, hXe⟩ : ∃ X : Nat, X = F + n := ⟨_, rfl⟩
    have hX : X < f.k := by have := HFit.out; omega
    have hk0 : 0 < f.k := by omega
    have q1 : (F : Int) + (n : Int) = (X : Int) := by omega
    have q2 : IntKind.i64.wrap (X : Int) = (X : Int) := IntWalk.i64_in _ (by omega)
    have hXk : (X : Int) < (kk : Int) := by have := HKK.out; omega
    obtain ⟨c', hv, _⟩ := HSN.out.some hk0
    injection hv with hv1 hv2 hv3
    subst hv1
    have x0 : wr.cell? ⟨r, 0, none⟩ = some (.slice (some ⟨gn, 0, none⟩) kk cn) := by rw [HKK.out]; exact hr0.c0
    obtain ⟨l, l1, l2, l3, l4⟩ := (HLk.out.2.2.2.2 X hX).1
    have hTn : l = T n := Dk.has_det (d := d) (i := (F : Int) + n) (by rw [q1]; exact ⟨l3, l1, l2⟩) (HT.out n hlt)
    have v0 : wr.cell? ⟨gn, X, none⟩ = some (.string (bstr l)) := by rw [← l4]; exact ((hr0.now hk0).cell hX).1
    obtain ⟨x, rr, hxr⟩ : ∃ x r, l = x :: r := by
     cases l with
     | nil => exact absurd l1 (by simp)
     | cons x r => exact ⟨x, r, rfl⟩
    have hx := l2 x (by rw [hxr]; exact List.mem_cons_self ..)
    have hrl : rr.length = 63 := by rw [hxr, List.length_cons] at l1; omega
    obtain ⟨Y, hY⟩ : ∃ Y : Nat, x = (Y : Int) := ⟨x.toNat, by omega⟩
    subst hY
    have hat := bs_at l2 hxr
    have t4 : IntKind.i64.wrap (Y : Int) = (Y : Int) := IntWalk.i64_in _ (by omega)
    have hun : rdL T (K - n) n = if 63 < (Y : Int) then [] else if (Y : Int) < 63 then rr.take Y else rr.take Y ++ rdL T (K - n - 1) (n + 1) := by
     rw [show K - n = (K - n - 1) + 1 by omega]
     show (if 63 < (T n).headD 0 then _ else _) = _
     rw [← hTn, hxr]
     rfl
    by_cases h63 : 63 < Y
    ·rw [if_pos (by omega)] at hun
     have HFI : Hid (RdO w T K (.slice A m c) wr) := Lib.hid ⟨A, m, c, rfl, by rw [← hr, hun, List.append_nil]; exact ho, by rw [← hr, hun, List.append_nil]; omega, hb⟩
     have h63i : (63 : Int) < (Y : Int) := by omega
     have hatw := hat wr
     obtain ⟨s, hs⟩ : ∃ s, s = bstr l := ⟨_, rfl⟩
     rw [← hs] at v0 hatw
     clear hun ho hr hlen hb hs hat hr0 hXe hX hk0 hTn l3 l4 hv2 hv3
     go_wp2
     go_meet
     exact HFI.out
    ·rw [if_neg (by omega)] at hun
     have h63i : ¬ (63 : Int) < (Y : Int) := by omega
     obtain ⟨X1, hX1⟩ : ∃ X1 : Nat, X1 = 1 + Y := ⟨_, rfl⟩
     have hdr : l.drop 1 = rr := by rw [hxr]; rfl
     have hcut : (bstr l).extract 1 X1 = bstr (rr.take Y) := by rw [← hdr]; exact bs_ext hX1
     have hss : (bstr l).size = 64 := by rw [bstr_sz, l1]
     have q6 : (X1 : Int) ≤ 64 := by omega
     have q7 : (1 : Int) ≤ (X1 : Int) := by omega
     have q8 : (0 : Int) ≤ (X1 : Int) := by omega
     have hrt : (rr.take Y).length = Y := by rw [List.length_take]; omega
     have hokr : bytesOk (rr.take Y) := ok_take (by rw [← hdr]; exact ok_drop l2 1) Y
     have hsz := bstr_sz (rr.take Y)
     obtain ⟨iu, hiu, hzu, hyu, hxu⟩ := info_parts infoU8
     have hby : byteV D ++ byteV (rr.take Y) = byteV (D ++ rr.take Y) := by simp [byteV]
     have HG : Hid (∀ v1 W1, W1.ownsRow w.heap.size 5 1 v1 (D.length + (bstr (rr.take Y)).size) (byteV D ++ Lib.strCells (bstr (rr.take Y))) → wr.grownBy W1 (Value.slice A m c).ownBlock → ∃ A2 m2 c2, v1 = .slice A2 m2 c2 ∧ W1.ownsRow w.heap.size 5 1 (.slice A2 m2 c2) (D ++ rr.take Y).length (byteV (D ++ rr.take Y)) ∧ Below w.heap.size w W1) := Lib.hid fun v1 W1 ho2 hg2 => by
      rw [str_byteV hokr, hsz, hby] at ho2
      obtain ⟨A2, m2, c2, rfl⟩ := own_shape ho2
      exact ⟨A2, m2, c2, rfl, by rw [List.length_append]; exact ho2, hb.trans ⟨hg2.os, hg2.tape, hg2.output, hg2.size, fun k hk => hg2.block k (Nat.lt_of_lt_of_le hk hb.size) (fun e => by have := (ho.lt k e.symm).1; omega)⟩⟩
     have q5 : IntKind.i64.wrap (1 + (Y : Int)) = (X1 : Int) := by rw [IntWalk.i64_in _ (by omega)]; omega
     have HO := Lib.hid ho
     have HBs := Lib.hid hb.size
     have hatw := hat wr
     have hsz2 : (bstr (rr.take Y)).size ≤ 64 := by rw [hsz, hrt]; omega
     obtain ⟨s, hs⟩ : ∃ s, s = bstr l := ⟨_, rfl⟩
     obtain ⟨s2, hs2⟩ : ∃ s, s = bstr (rr.take Y) := ⟨_, rfl⟩
     rw [← hs] at v0 hatw hcut hss
     rw [← hs2] at hcut HG hsz2
     have hdl : D.length ≤ 126000 := by omega
     have HRL : Hid (Y < 63 → D ++ rr.take Y = rdL T K 0) := Lib.hid fun e => by rw [← hr, hun, if_pos (by omega)]
     have HRM : Hid (¬ Y < 63 → (D ++ rr.take Y) ++ rdL T (K - (n + 1)) (n + 1) = rdL T K 0) := Lib.hid fun e => by rw [← hr, hun, if_neg (by omega), List.append_assoc, Nat.sub_sub]
     have HLN : Hid ((D ++ rr.take Y).length ≤ 63 * (n + 1)) := Lib.hid (by rw [List.length_append, hrt]; omega)
     clear hun ho hr hlen hb hs hs2 hat hr0 hXe hX hk0 hTn l1 l2 l3 l4 hv2 hv3 hby hsz hokr hrt hdr hX1 hxr hrl
     go_upto_region 13 with (at_builtin; refine Lib.wpList_append_own_string _ rfl _ _ _ _ rfl w.heap.size 5 iu Tryz.underlying36 Tryz.underlying9 hiu hzu hyu hxu _ D.length _ rfl HO.out s2 rfl ?d1 ?d2 ?d3 ?_)
     case d1 => unfold maxLen; omega
     case d2 => omega
     case d3 => exact HBs.out
     intro v1 W1 ho2 hg2 _
     obtain ⟨A2, m2, c2, rfl, ho3, hb3⟩ := HG.out v1 W1 ho2 hg2
     have HO3 := Lib.hid ho3
     have HB3 := Lib.hid hb3
     clear ho2 hg2 ho3 hb3 HG HO HBs hzu hyu hxu hiu hsz2 hdl x0 v0 hcut hss hatw
     by_cases hY63 : Y < 63
     ·have HFI : Hid (RdO w T K (.slice A2 m2 c2) W1) := Lib.hid ⟨A2, m2, c2, rfl, by rw [← HRL.out hY63]; exact HO3.out, by rw [← HRL.out hY63]; have := HLN.out; omega, HB3.out⟩
      have hYi : (Y : Int) < 63 := by omega
      go_wp2
      go_meet
      exact HFI.out
     ·have HR2 : Hid (RdRel w T K (n + 1) (.slice A2 m2 c2) W1) := Lib.hid ⟨D ++ rr.take Y, HO3.out, HRM.out hY63, HLN.out, HB3.out⟩
      have hYi : ¬ (Y : Int) < 63 := by omega
      go_wp2
      go_roundw
      all_goals first
       | exact ⟨n + 1, hlt, by go_num, HR2⟩
       | (simp [ivT]; omega)
   ·obtain rfl : n = K := by omega
    rw [Nat.sub_self] at hr
    have HFI : Hid (RdO w T n (.slice A m c) wr) := Lib.hid ⟨A, m, c, rfl, by rw [← hr]; simpa [rdL] using ho, by rw [← hr]; simpa [rdL] using hlen, hb⟩
    clear ho hr hb
    go_wp2
    go_meet
    exact HFI.out
 case rest =>
  obtain ⟨A, m, c, rfl, ho, hlen, hb⟩ := hcut
  generalize wc = w1 at *
  have hm := own_n ho
  obtain ⟨R, hR⟩ : ∃ R, R = rdL T K 0 := ⟨_, rfl⟩
  have hokR : bytesOk R := by rw [hR]; exact rdL_ok (fun i hi => (HT.out i hi).2.2) K 0 (by omega)
  rw [← hR] at ho hm hlen
  subst hm
  have hsl : SlK .u8 w1 (.slice A R.length c) R := own_slK ho hokR
  obtain ⟨hs1, hs2⟩ := scan_le R
  obtain ⟨n, hn⟩ : ∃ n, frsN (scan R) = n := ⟨_, rfl⟩
  obtain ⟨cnt, hcnt⟩ : ∃ n, (scan R).length = n := ⟨_, rfl⟩
  have HSC : Hid (Calls Tryz.prog 32 #[.slice A R.length c] w1 fun r w' => ∃ (A : Option Addr) (c : Nat) (es : List (Ent × S6)), r = .returned (.tuple #[.slice A cnt c, .int .i64 n]) ∧ (es.map Prod.fst = (scan R).map tkE ∧ Els w' (.slice A cnt c) 16 (es.map enV) ∧ (∀ b, (Value.slice A cnt c).ownBlock = some b → w1.heap.size ≤ b) ∧ ∀ o ∈ es, EnG w' (fun b => w1.heap.size ≤ b ∧ b < w'.heap.size) o) ∧ Below w1.heap.size w1 w') := Lib.hid ((rscan_any w1 hsl (by omega)).mono fun r w' ⟨A, c, es, e, k1, k2, k3, k4, k5⟩ => ⟨A, c, es, by rw [e, hn, hcnt], ⟨k1, by rw [← hcnt]; exact k2, by rw [← hcnt]; exact k3, k4⟩, k5⟩)
  replace hs1 : n ≤ R.length := by rw [← hn]; exact hs1
  replace hs2 : cnt ≤ n := by rw [← hn, ← hcnt]; exact hs2
  have HN := Lib.hid hn
  have HC := Lib.hid hcnt
  clear hn hcnt
  have HSL := Lib.hid hsl
  have HB1 := Lib.hid hb
  have HRR := Lib.hid hR
  clear ho hb hsl hR c3 c0 n1 n2 n3 n4 H1
  have hR2 : R.length ≤ 126000 := by omega
  go_wp2_with fail
  refine HSC.out.mono ?_
  rintro r9 w3 ⟨A2, c2, es, rfl, hes, hb3⟩
  have HES := Lib.hid hes
  have HB3 := Lib.hid (HB1.out.trans (hb3.mono HB1.out.size))
  have HSL3 := Lib.hid ((HSL.out.below hb3 (Nat.le_refl _)).pre hs1)
  have HB13 := Lib.hid hb3
  have hnc : n ≤ c := by obtain ⟨A', c', e, h⟩ := HSL.out.form; injection e with _ _ e3; omega
  have i1 : (n : Int) ≤ (c : Int) := by omega
  have i2 : (n : Int) ≤ (R.length : Int) := by omega
  clear hes hb3 HSC
  obtain ⟨iu, hiu, hzu, hyu, hxu⟩ := info_parts infoU8
  have htl : (R.take n).length = n := by rw [List.length_take]; omega
  have hba := (Below.refl w3.heap.size w3).alloc (Nat.le_refl _) (.cells #[] 5)
  have hom := World.ownsRow_made (base := w3.heap.size) (e := 5) (size := 1) w3 #[] 0 (Nat.le_refl _) (by decide) rfl
  obtain ⟨g4, c4, w4, hr4, ho4, hg4, hq4⟩ := app_srcL (P := Tryz.prog) (w3.alloc (.cells #[] 5)) w3.heap.size 36 36 5 iu _ 1 1 Tryz.underlying36 hiu hzu hyu hxu rfl (by decide) w3.heap.size 0 0 [] hom (.slice A n c) n (byteV (R.take n)) (by
   have h := src_slK (HSL3.out.below hba (Nat.le_refl _))
   rw [htl] at h
   exact h) (by simp [byteV]; omega) (one_byteV _) (by unfold maxLen; omega) (by omega) hba.size n (by omega) (byteV (R.take n)) rfl
  have hb4 : Below w3.heap.size w3 w4 := below_grown6 hba hom hg4 hba.size (Nat.le_refl _)
  have hav : SlK .u8 w4 (.slice (some ⟨g4, 0, none⟩) n c4) (R.take n) := own_slK ho4 (ok_take hokR n)
  have hg4l := (own_blk ho4 (g := g4) rfl)
  have HR4 := Lib.hid hr4
  have HB4 := Lib.hid (HB3.out.trans (hb4.mono HB3.out.size))
  have HB34 := Lib.hid hb4
  have HAV := Lib.hid hav
  have HG4 : Hid (w3.heap.size ≤ g4 ∧ g4 < w4.heap.size) := Lib.hid ⟨hg4l.1, hg4l.2.1⟩
  clear hba hom hr4 ho4 hg4 hq4 hb4 hav hg4l hiu hzu hyu hxu
  go_upto_region 16 with (at_builtin; refine Lib.wpList_append_run _ rfl (.tmp 83) (.tmp 86) 36 36 rfl _ _ rfl rfl _ _ HR4.out ?_)
  obtain ⟨q, hqe⟩ : ∃ q, q = w4.heap.size := ⟨_, rfl⟩
  obtain ⟨w5, hw5⟩ : ∃ W, W = w4.alloc (.cells #[.pointer (some ⟨r, 0, none⟩), .int .i64 F, .int .i64 K, .slice A2 cnt c2, .slice (some ⟨g4, 0, none⟩) n c4, .int .i64 cnt] 61) := ⟨_, rfl⟩
  have hb5 : Below w4.heap.size w4 w5 := by rw [hw5]; exact (Below.refl _ _).alloc (Nat.le_refl _) _
  have hbx : w5.heap[q]? = some (.cells #[.pointer (some ⟨r, 0, none⟩), .int .i64 F, .int .i64 K, .slice A2 cnt c2, .slice (some ⟨g4, 0, none⟩) n c4, .int .i64 cnt] 61 (0, 0)) := by rw [hw5, hqe]; exact heap_alloc_new w4 _
  rw [← hw5, ← hqe]
  have hb35 : Below w3.heap.size w3 w5 := HB34.out.trans (hb5.mono HB34.out.size)
  have hbw5 : Below w.heap.size w w5 := HB3.out.trans (hb35.mono HB3.out.size)
  have hwq : w.heap.size ≤ q := by rw [hqe]; exact HB4.out.size
  have hw1 : w.heap.size ≤ w1.heap.size := HB1.out.size
  have h34 : w3.heap.size ≤ w4.heap.size := HB34.out.size
  have hw3 : w.heap.size ≤ w3.heap.size := HB3.out.size
  obtain ⟨g1, g2, g3, g5⟩ := HES.out
  have hS6 := sr6_els g2 g5
  obtain ⟨hel, hsrc, hent⟩ := hS6
  have hone := one6 hent
  have hlv : ∀ a m' c', Value.slice A2 cnt c2 = .slice (some a) m' c' → m' ≠ 0 → w.heap.size ≤ a.block ∧ a.block < w3.heap.size := fun a m' c' e hm0 => by
   injection e with e1 e2 e3
   subst e1 e2 e3
   refine ⟨Nat.le_trans hw1 (g3 a.block rfl), ?_⟩
   rcases hsrc with ⟨_, e, _⟩ | ⟨ad, cc, e, h2⟩
   ·cases e
   ·injection e with e1 e2 e3
    injection e1 with e1
    subst e1
    have hl0 : 0 < (es.flatMap enV).length := by rw [flat6]; omega
    have hc0 := h2 0 _ (List.getElem?_eq_getElem hl0)
    have hlt := World.block_lt_of_cell? w3 _ hc0
    have e : (a.add 0).block = a.block := by unfold Addr.add; split <;> rfl
    rwa [e] at hlt
  have hG4 := HG4.out
  have hRt : RtAt w5 q (.slice A2 cnt c2) (.slice (some ⟨g4, 0, none⟩) n c4) (fun b => b = q ∨ P0 b) ⟨r, F, K, cnt, R.take n, cnt⟩ := by
   refine ⟨hbx, ⟨es.flatMap enV, hsrc.up hb35, by rw [flat6, hel], hone⟩, HAV.out.below hb5 (Nat.le_refl _), by show (0 : Int) ≤ F; omega, by show (F : Int) ≤ 2000; omega, by show (0 : Int) ≤ K; omega, by show (K : Int) ≤ 2000; omega, ?_, (fun a m' c' e hm0 hp => ?_), (fun a m' c' e _ hp => ?_)⟩
   ·show ((R.take n).length : Int) ≤ 63 * (K : Int)
    rw [htl]; omega
   ·have := hlv a m' c' e hm0
    rcases hp with hp | hp
    ·omega
    ·have := HP.out _ hp; omega
   ·injection e with e1
    injection e1 with e1
    subst e1
    rcases hp with hp | hp
    ·have hp' : g4 = q := hp
     omega
    ·have := HP.out _ hp
     have hp' : g4 < w.heap.size := this
     omega
  have hqP : ¬ Four r gn gw gt q := fun e => by have := HP.out _ (HP4.out _ e); omega
  have HLY := Lib.hid (rlay_any w5 (d := d) hRt (HR.out.grow hbw5.block) HLk.out HOk.out HD.out (by show (F : Int) + K ≤ f.k; have := HFit.out; omega) (fun b hb => Or.inr (HP4.out b hb)) hqP)
  have HB5 := Lib.hid hbw5
  have HB35 := Lib.hid hb35
  have HWQ := Lib.hid hwq
  have HW1 := Lib.hid hw1
  clear hw5 hqe hb5 hbx hb35 hbw5 hwq hw1 h34 hw3 g1 g2 g3 g5 hel hsrc hent hone hlv hG4 hRt hqP HB34 HAV HG4 HR4 HB4 HSL3
  go_wp2_with fail
  refine HLY.out.mono ?_
  rintro r9 w6 ⟨c6, d6, rfl, hse, htw, hrt⟩
  have hTw := Tw.next (f := f) ((fr_of_below HB5.out) : Fr w.heap.size (Four r gn gw gt) w w5) rfl rfl htw
  have hse2 : Settled (R.take (frsN (scan R))) F K d c6 d6 := by
   rw [HN.out]
   exact hse
  by_cases hc : c6 = 0
  ·subst hc
   obtain ⟨f', _, _, _, _, _, hf6⟩ := id htw
   have hk6 : ∀ b, w1.heap.size ≤ b → b < w3.heap.size → w6.heap[b]? = w3.heap[b]? := fun b h1 h2 => (hf6.block b (Nat.lt_of_lt_of_le h2 HB35.out.size) (fun e => by
    have := HP.out _ (HP4.out _ e)
    have := HW1.out
    omega)).trans (HB35.out.block b h2)
   obtain ⟨g1, g2, g3, g5⟩ := HES.out
   have hE6 : Els w6 (.slice A2 cnt c2) 16 (es.map enV) := g2.at fun _ b hb hlt => hk6 b (g3 b hb) hlt
   have hG6 : ∀ o ∈ es, EnG w6 (fun b => w1.heap.size ≤ b ∧ b < w3.heap.size) o := fun o ho => (g5 o ho).at (Nat.le_trans HB35.out.size hf6.size) fun b hb => hk6 b hb.1 hb.2
   have hRE := rowE_els hE6 hG6
   rw [g1] at hRE
   have HE : Hid (RorPost w r gn gw gt gm (.slice pn f.k cn) vw vt f d P0 F K R (.returned (.tuple #[.pointer (some ⟨q, 0, none⟩), .slice A2 cnt c2, .int .i64 0])) w6) := Lib.hid ⟨0, d6, hse2, hTw, Or.inl ⟨rfl, q, A2, cnt, c2, _, rfl, HWQ.out, by rw [HC.out, HN.out]; exact hrt, hRE⟩⟩
   clear hse htw hrt hTw hse2 hf6 hk6 g1 g2 g3 g5 hE6 hG6 hRE HLY
   go_wp2
   go_ret3
   have hfi := HE.out
   rw [HRR.out, ← HKK.out] at hfi
   exact hfi
  ·have HE : Hid (RorPost w r gn gw gt gm (.slice pn f.k cn) vw vt f d P0 F K R (.returned (.tuple #[.pointer none, .slice none 0 0, .int .i64 c6])) w6) := Lib.hid ⟨c6, d6, hse2, hTw, Or.inr ⟨hc, rfl⟩⟩
   have hc2 : (c6 == 0) = false := by simpa using hc
   have hc3 : (c6 != 0) = true := by simpa using hc
   clear hse htw hrt hTw hse2 HLY hc
   go_wp2
   go_ret3
   have hfi := HE.out
   rw [HRR.out, ← HKK.out] at hfi
   exact hfi
end Go.Proofs.YthmgafcnoedmjaaGreat
