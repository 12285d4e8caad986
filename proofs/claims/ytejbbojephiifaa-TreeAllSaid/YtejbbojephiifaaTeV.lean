/- tree: put. -/
import Derived.Test.YtejbbojephiifaaTeU
namespace Go.Proofs.Ytejbbojephiifaa
open Go.RowKit

set_option maxRecDepth 100000 in
set_option maxHeartbeats 2000000 in
/-- A leaf: the key is new. -/
theorem put_leaf_no (w : World) {R : Rest} {b : Nat} {v : Value} {A B : List KV} {x : KV} (hp : PAP w b R v (A ++ B)) (hsm : (A ++ B).length ≤ 900)
    (hf : ∀ W, Below w.heap.size w W → Calls Try.prog 39 #[v, .string x.k] W fun e w' => e = .returned (.tuple #[.int .i64 A.length, .bool false]) ∧ Below W.heap.size W w') :
    Calls Try.prog 34 #[.pointer (some ⟨b, 0, none⟩), .string x.k, .agg #[.int .i64 x.p, .int .i64 x.c]] w fun e w' => e = .returned (.bool true) ∧ ∃ v1, PAP w' b R v1 (A ++ x :: B) ∧ (∀ g, v1.ownBlock = some g → v.ownBlock = some g ∨ w.heap.size ≤ g) ∧ Fr w.heap.size (MineP b v) w w' := by
  obtain ⟨A0, cp0, rfl⟩ := own_shape hp.own
  have hb0 := (Below.refl w.heap.size w).alloc (Nat.le_refl _) (.cells #[.int .i64 x.p, .int .i64 x.c] 35)
  have hbx := heap_alloc_new w (.cells #[.int .i64 x.p, .int .i64 x.c] 35)
  have c0 := hp.at_.c0
  have hins : ∀ W hh, Below w.heap.size w W → W.heap[hh]? = some (.cells x.en.toArray 78 (0, 0)) → w.heap.size ≤ hh → Calls Try.prog 43 #[.slice A0 (A ++ B).length cp0, .int .i64 A.length, .slice (some ⟨hh, 0, none⟩) 1 1] W fun e w2 => ∃ g cp, e = .returned (.slice (some ⟨g, 0, none⟩) ((A ++ B).length + 1) cp) ∧
      w2.cell? ⟨b, 0, none⟩ = some (.slice A0 (A ++ B).length cp0) ∧ w2.frozen? ⟨b, 0, none⟩ = false ∧ PAP (w2.setCell ⟨b, 0, none⟩ (.slice (some ⟨g, 0, none⟩) ((A ++ B).length + 1) cp)) b R (.slice (some ⟨g, 0, none⟩) ((A ++ B).length + 1) cp) (A ++ x :: B) ∧ ((Value.slice A0 (A ++ B).length cp0).ownBlock = some g ∨ w.heap.size ≤ g) ∧ Fr w.heap.size (MineP b (.slice A0 (A ++ B).length cp0)) w (w2.setCell ⟨b, 0, none⟩ (.slice (some ⟨g, 0, none⟩) ((A ++ B).length + 1) cp)) := fun W hh hW hq hle => by
    have hpW := hp.below hW
    refine (insP_any W (A ++ B) x hh hq _ A.length (by omega) (by simp) hpW.own (fun e => by have := own_lt hp.own e; omega)).mono ?_
    rintro e w2 ⟨g, cp, rfl, ho, hfr, hg⟩
    rw [List.take_left' rfl, List.drop_left' rfl] at ho
    have hb2 := hfr.block b hpW.lt hp.ne
    have hl : (A ++ x :: B).length = (A ++ B).length + 1 := by simp; omega
    have hgb : g ≠ b := fun e => by
      rcases hg with e2 | e2
      · exact hp.ne (by rw [e2, e])
      · have := hpW.lt; omega
    refine ⟨g, cp, rfl, (World.cell?_of_block hb2).trans hpW.at_.c0, (World.frozen?_of_block hb2).trans (hpW.at_.fz 0), hpW.put hb2 (by rw [hl]; exact ho) (fun e => hgb (Option.some.inj e)), hg.imp_right (fun e => Nat.le_trans hW.size e), ?_⟩
    exact (((Fr.of_below hW).trans hfr hW.size (fun _ _ e => .inr e))).setCell (p := ⟨b, 0, none⟩) (.inl (.inl rfl)) _
  have HI := Lib.hid hins
  have HB0 := Lib.hid hb0
  have HFI := Lib.hid (hf _ hb0)
  have HLE := Lib.hid (leafP_any (w.alloc (.cells #[.int .i64 x.p, .int .i64 x.c] 35)) (hp.below hb0))
  have hc0 : (w.alloc (.cells #[.int .i64 x.p, .int .i64 x.c] 35)).cell? ⟨b, 0, none⟩ = some (.slice A0 (A ++ B).length cp0) := (World.cell?_of_block (hb0.block b hp.lt)).trans c0
  have HX := Lib.hid hbx
  have HC0 := Lib.hid hc0
  have HBL := Lib.hid hp.lt
  have HWX : Hid (w.heap.size < (w.alloc (.cells #[.int .i64 x.p, .int .i64 x.c] 35)).heap.size) := by show w.heap.size < (w.heap.push _).size; rw [Array.size_push]; omega
  have hen : x.en.toArray = #[.string x.k, .int .i64 x.p, .int .i64 x.c] := rfl
  rw [hen] at HI
  generalize (A ++ B).length = n at *
  generalize A.length = i at *
  generalize hp1 : x.p = xp at *
  generalize hc1 : x.c = xc at *
  generalize hk1 : x.k = xk at *
  clear hins hf hp hbx hc0 c0 hp1 hc1 hk1 hb0 hen hsm
  go_enter Try.func34, Try.ntmps34
  go_upto_region 1 with (fail)
  have hc0 := HC0.out
  generalize w.alloc (.cells #[.int .i64 xp, .int .i64 xc] 35) = w0 at *
  go_upto_region 10 with (first
    | (go_at_call 39; refine HFI.out.mono ?_; rintro e w1 ⟨rfl, hb1⟩; have HB1 := Lib.hid hb1; clear hb1)
    | (go_at_call 37; refine HLE.out.mono ?_; rintro e w' ⟨rfl, hw⟩; obtain rfl := hw.symm; clear hw))
  have hb1 := HB0.out.trans (HB1.out.mono (Nat.le_of_lt HWX.out))
  have d0 : w1.cell? ⟨b, 0, none⟩ = some (.slice A0 n cp0) := (World.cell?_of_block (HB1.out.block b (Nat.lt_trans HBL.out HWX.out))).trans hc0
  have hbx1 : w1.heap[w.heap.size]? = some (.cells #[.int .i64 xp, .int .i64 xc] 35 (0, 0)) := (HB1.out.block _ HWX.out).trans HX.out
  have x0 : w1.cell? ⟨w.heap.size, 0, none⟩ = some (.int .i64 xp) := (cell_of hbx1 0).1.trans rfl
  have x1 : w1.cell? ⟨w.heap.size, 1, none⟩ = some (.int .i64 xc) := (cell_of hbx1 1).1.trans rfl
  have HIN := Lib.hid (HI.out (w1.alloc (.cells #[.string xk, .int .i64 xp, .int .i64 xc] 78)).drew w1.heap.size ((hb1.alloc hb1.size _).drew) (heap_alloc_new w1 _) hb1.size)
  have hbl1 : b < w1.heap.size := Nat.lt_of_lt_of_le HBL.out hb1.size
  have hxl1 : w.heap.size < w1.heap.size := Nat.lt_of_lt_of_le HWX.out HB1.out.size
  clear hbx1 hb1 hc0
  go_region_law (go_simp; go_at_call 43; refine HIN.out.mono ?_; rintro e w2 ⟨g, cp, rfl, e1, e2, p3, m3, f3⟩; have P3 := Lib.hid p3; have M3 := Lib.hid m3; have F3 := Lib.hid f3; clear p3 m3 f3)
  all_goals go_wp2
  all_goals go_ret
  all_goals exact ⟨rfl, _, P3.out, (fun k hk => by cases hk; exact M3.out), F3.out⟩

theorem stand_ex {α : Type} {kf : α → ByteArray} (k : ByteArray) : ∀ {l : List α}, Rise kf l → ∃ A B is, Stand kf l k A B is
  | [], _ => ⟨[], [], false, rfl, (fun x hx => by cases hx), .inr ⟨rfl, (fun x hx => by cases hx)⟩⟩
  | x :: r, hr => by
    obtain ⟨h1, h2⟩ := List.pairwise_cons.1 hr
    cases e : bL (kf x) k with
    | true =>
      obtain ⟨A, B, is, hs⟩ := stand_ex k h2
      exact ⟨x :: A, B, is, by rw [hs.eq]; rfl, (fun y hy => (List.mem_cons.1 hy).elim (fun e2 => by rw [e2]; exact e) (hs.lo y)), hs.hi⟩
    | false =>
      cases e2 : bL k (kf x) with
      | true => exact ⟨[], x :: r, false, rfl, (fun y hy => by cases hy), .inr ⟨rfl, fun y hy => (List.mem_cons.1 hy).elim (fun e3 => by rw [e3]; exact e2) (fun hy => bL_trans e2 (h1 y hy))⟩⟩
      | false =>
        have e3 := bL_tri e e2
        exact ⟨[], x :: r, true, rfl, (fun y hy => by cases hy), .inl ⟨rfl, x, r, rfl, e3, fun y hy => by rw [← e3]; exact h1 y hy⟩⟩
theorem Stand.one {α : Type} {kf : α → ByteArray} {k : ByteArray} {l A B A' B' : List α} {is is' : Bool} (h : Stand kf l k A B is) (h' : Stand kf l k A' B' is') : A = A' ∧ B = B' ∧ is = is' := by
  have key : ∀ {A B : List α} {is : Bool}, Stand kf l k A B is → l.takeWhile (fun x => bL (kf x) k) = A ∧ l.dropWhile (fun x => bL (kf x) k) = B := fun {A B is} h => by
    have hB : B.takeWhile (fun x => bL (kf x) k) = [] ∧ B.dropWhile (fun x => bL (kf x) k) = B := by
      cases B with
      | nil => exact ⟨rfl, rfl⟩
      | cons y r =>
        have : bL (kf y) k = false := by
          rcases h.hi with ⟨_, x, r', e, e2, _⟩ | ⟨_, e⟩
          · cases e; rw [e2]; exact bL_irr _
          · exact bL_asym (e y (List.mem_cons_self ..))
        simp [List.takeWhile, List.dropWhile, this]
    rw [h.eq, List.takeWhile_append_of_pos h.lo, List.dropWhile_append_of_pos h.lo, hB.1, hB.2, List.append_nil]
    exact ⟨rfl, rfl⟩
  obtain ⟨a1, b1⟩ := key h
  obtain ⟨a2, b2⟩ := key h'
  obtain rfl : A = A' := a1.symm.trans a2
  obtain rfl : B = B' := b1.symm.trans b2
  refine ⟨rfl, rfl, ?_⟩
  rcases h.hi with ⟨e1, x, r, e2, e3, _⟩ | ⟨e1, e2⟩
  · rcases h'.hi with ⟨e4, _⟩ | ⟨e4, e5⟩
    · rw [e1, e4]
    · have := e5 x (by rw [e2]; exact List.mem_cons_self ..)
      rw [e3, bL_irr] at this; cases this
  · rcases h'.hi with ⟨e4, x, r, e5, e6, _⟩ | ⟨e4, _⟩
    · have := e2 x (by rw [e5]; exact List.mem_cons_self ..)
      rw [e6, bL_irr] at this; cases this
    · rw [e1, e4]
theorem find_leaf {w : World} {R : Rest} {b : Nat} {v : Value} {l : List KV} (hp : PAP w b R v l) (hsm : l.length ≤ 900) (hr : Rise KV.k l) {k : ByteArray} {A B : List KV} {is : Bool} (hs : Stand KV.k l k A B is) :
    ∀ W, Below w.heap.size w W → Calls Try.prog 39 #[v, .string k] W fun e w' => e = .returned (.tuple #[.int .i64 A.length, .bool is]) ∧ Below W.heap.size W w' := fun W hW => by
  refine (findP_any W v l k (by omega) (hp.below hW).own hr).mono ?_
  rintro e w' ⟨A', B', is', hs', rfl, hb⟩
  obtain ⟨rfl, rfl, rfl⟩ := hs.one hs'
  exact ⟨rfl, hb⟩

/-- What put leaves. -/
def PutR (h : Nat) (w : World) (R : Rest) (g : G h) (x : KV) (w' : World) : Prop := ∃ g' : G h, At h R w' g' ∧ gb h g' = gb h g ∧ kvs h g' = ins x (kvs h g) ∧ Ok h g' ∧ cnt h g ≤ cnt h g' ∧ cnt h g' ≤ cnt h g + 1 ∧ Foot w.heap.size (fp h g) (fp h g') ∧ Fr w.heap.size (· ∈ fp h g) w w'
def PutC (h : Nat) (R : Rest) (w : World) (g : G h) (x : KV) : Prop := Calls Try.prog 34 #[.pointer (some ⟨gb h g, 0, none⟩), .string x.k, .agg #[.int .i64 x.p, .int .i64 x.c]] w fun e w' => e = .returned (.bool (!has x.k (kvs h g))) ∧ PutR h w R g x w'
theorem fp_leaf {N b : Nat} {v v1 : Value} (hm : ∀ k, v1.ownBlock = some k → v.ownBlock = some k ∨ N ≤ k) (hlt : ∀ a ∈ b :: own1 v, a < N) : Foot N (b :: own1 v) (b :: own1 v1) := by
  refine ⟨fun a ha => ?_, fun a ha => ?_⟩
  · rw [List.count_cons, List.count_cons]
    have : (own1 v1).count a ≤ (own1 v).count a := by
      by_cases e : v1.ownBlock = some a
      · rcases hm a e with e2 | e2
        · rw [count_one v1 a a e, count_one v a a e2]; omega
        · omega
      · rw [own1_zero e]; omega
    omega
  · have := count_zero hlt ha
    rw [List.count_cons] at this ⊢
    have := own1_count v1 a
    omega
theorem put_0 (w : World) {R : Rest} {g : G 0} (x : KV) (ha : At 0 R w g) (hc : cnt 0 g ≤ 900) (hr : Rise KV.k (kvs 0 g)) : PutC 0 R w g x := by
  obtain ⟨b, v, l⟩ : Lf := g
  have hp : PAP w b R v l := ha
  have hsm : l.length ≤ 900 := hc
  have hri : Rise KV.k l := hr
  have hlt : ∀ a ∈ b :: own1 v, a < w.heap.size := fun a hm => At.lt (h := 0) ha a hm
  have hmi : ∀ k, MineP b v k → k ∈ b :: own1 v := fun k e => by
    rcases e with rfl | e
    · exact List.mem_cons_self ..
    · exact List.mem_cons_of_mem _ (own1_mem.2 e)
  obtain ⟨A, B, is, hs⟩ := stand_ex x.k hri
  have hfl := find_leaf hp hsm hri hs
  cases is with
  | true =>
    obtain ⟨y, r, rfl, hk, e1, e2, _⟩ := hs.ins_yes
    have el := hs.eq
    subst el
    obtain ⟨q, cp, hv, _, _⟩ := hp.own.form (by simp; omega)
    subst hv
    refine (put_leaf_yes w hp rfl hk hfl).mono ?_
    rintro e w' ⟨rfl, h1, hf⟩
    refine ⟨by show _ = Ending.returned (Value.bool (!has x.k (A ++ y :: r))); rw [e2]; rfl, (⟨b, _, A ++ x :: r⟩ : Lf), ?_, rfl, ?_, trivial, ?_, ?_, Foot.refl hlt, hf.mono (Nat.le_refl _) (fun k _ e => hmi k e)⟩
    · have hl : (A ++ y :: r).length = (A ++ x :: r).length := by simp
      have h2 := h1
      rw [hl] at h2
      show PAP w' b R _ (A ++ x :: r)
      exact h1
    · exact e1.symm
    · show (A ++ y :: r).length ≤ (A ++ x :: r).length; simp
    · show (A ++ x :: r).length ≤ (A ++ y :: r).length + 1; simp
  | false =>
    obtain ⟨e1, e2, _⟩ := hs.ins_no
    have el := hs.eq
    subst el
    refine (put_leaf_no w hp hsm hfl).mono ?_
    rintro e w' ⟨rfl, v1, h1, hm, hf⟩
    refine ⟨by show _ = Ending.returned (Value.bool (!has x.k (A ++ B))); rw [e2]; rfl, (⟨b, v1, A ++ x :: B⟩ : Lf), h1, rfl, e1.symm, trivial, ?_, ?_, fp_leaf hm hlt, hf.mono (Nat.le_refl _) (fun k _ e => hmi k e)⟩
    · show (A ++ B).length ≤ (A ++ x :: B).length; simp
    · show (A ++ x :: B).length ≤ (A ++ B).length + 1; simp; omega

set_option maxRecDepth 100000 in
set_option maxHeartbeats 2000000 in
theorem put_s (w : World) {h : Nat} {R : Rest} {g : G (h + 1)} (x : KV) (ih : ∀ (W : World) (c : G h), At h R0 W c → (fp h c).Nodup → Ok h c → (h = 0 ∨ 0 < cnt h c) → cnt h c ≤ 800 → Rise KV.k (kvs h c) → PutC h R0 W c x)
    (ha : At (h + 1) R w g) (hnd : (fp (h + 1) g).Nodup) (ho : Ok (h + 1) g) (hc : 0 < cnt (h + 1) g) (hsm : cnt (h + 1) g ≤ 800) (hr : Rise KV.k (kvs (h + 1) g)) : PutC (h + 1) R w g x := by
  obtain ⟨b, v, l⟩ : Nd (G h) := g
  have s : NS h w b R v l := ⟨ha.1, ha.2, hnd⟩
  have hk : ∀ x ∈ l, Kid h (Ok h) x := ho
  have hri : Rise KV.k (kk h l) := hr
  have hl0 : 0 < l.length := hc
  have hlm : l.length ≤ 800 := hsm
  have hne : kns h l ≠ [] := fun e => by have := congrArg List.length e; rw [kns_len] at this; simp at this; rw [this] at hl0; simp at hl0
  obtain ⟨q, cp, hv, _, _⟩ := s.pa.own.form (by rw [kns_len]; exact hl0)
  rw [kns_len] at hv
  subst hv
  have hb0 := (Below.refl w.heap.size w).alloc (Nat.le_refl _) (.cells #[.int .i64 x.p, .int .i64 x.c] 35)
  have hbx := heap_alloc_new w (.cells #[.int .i64 x.p, .int .i64 x.c] 35)
  have s0 := s.below hb0
  have HB0 := Lib.hid hb0
  have HLE := Lib.hid (leaf_s (w.alloc (.cells #[.int .i64 x.p, .int .i64 x.c] 35)) s0.at_ hl0)
  have HOV : Hid (Calls Try.prog 38 #[.slice (some ⟨q, 0, none⟩) l.length cp, .string x.k] (w.alloc (.cells #[.int .i64 x.p, .int .i64 x.c] 35)) fun e w' => ∃ A y B, Under (kns h l) x.k A y B ∧ e = .returned (.int .i64 A.length) ∧ Below (w.alloc (.cells #[.int .i64 x.p, .int .i64 x.c] 35)).heap.size (w.alloc (.cells #[.int .i64 x.p, .int .i64 x.c] 35)) w') := over_any _ _ (kns h l) x.k (by rw [kns_len]; omega) hne s0.pa.own (kns_rise hk hri)
  have hc0 : (w.alloc (.cells #[.int .i64 x.p, .int .i64 x.c] 35)).cell? ⟨b, 1, none⟩ = some (.slice (some ⟨q, 0, none⟩) l.length cp) := by
    have := s0.pa.at_.c1
    exact this
  have HX := Lib.hid hbx
  have HWX : Hid (w.heap.size < (w.alloc (.cells #[.int .i64 x.p, .int .i64 x.c] 35)).heap.size) := by show w.heap.size < (w.heap.push _).size; rw [Array.size_push]; omega
  have HS := Lib.hid s
  have HK := Lib.hid hk
  have HRI := Lib.hid hri
  have HIH := Lib.hid ih
  have HLM := Lib.hid hlm
  obtain ⟨n, hn⟩ : ∃ n, n = l.length := ⟨_, rfl⟩
  have HN := Lib.hid hn
  rw [← hn] at HS HOV hc0 hl0
  have hgb : gb (h + 1) ({ b := b, v := .slice (some ⟨q, 0, none⟩) l.length cp, l := l } : Nd (G h)) = b := rfl
  have HC0 := Lib.hid hc0
  unfold PutC
  rw [hgb]
  show Calls _ _ #[.pointer (some ⟨b, 0, none⟩), .string x.k, .agg #[.int .i64 x.p, .int .i64 x.c]] _ (fun e w' => e = .returned (.bool (!has x.k (kk h l))) ∧ PutR (h + 1) w R (⟨b, .slice (some ⟨q, 0, none⟩) l.length cp, l⟩ : Nd (G h)) x w')
  rw [← hn]
  have hBL : b < w.heap.size := s.pa.lt
  have hQL : q < w.heap.size := own_lt s.pa.own rfl
  clear ha hnd ho hc hsm hr s hk hri ih hlm hne hbx s0 hn hgb hc0 hb0
  obtain ⟨kq, xp, xc⟩ := x
  dsimp only at *
  go_enter Try.func34, Try.ntmps34
  go_upto_region 1 with (fail)
  have hc0 := HC0.out
  generalize hw0 : w.alloc (.cells #[.int .i64 xp, .int .i64 xc] 35) = w0 at *
  clear hw0
  go_upto_region 3 with (first
    | (go_at_call 38; refine HOV.out.mono ?_; rintro e w1 ⟨A, y, B, hu, rfl, hb1⟩; have HU := Lib.hid hu; have HB1 := Lib.hid hb1; clear hu hb1)
    | (go_at_call 37; refine HLE.out.mono ?_; rintro e w' ⟨rfl, hw⟩; obtain rfl := hw.symm; clear hw))
  obtain ⟨LA, k0, c, LB, el, hAl, hlo, hhi, hrc⟩ := under_kids HK.out HRI.out HU.out
  subst el
  generalize A.length = i at *
  have HI := Lib.hid hAl
  have hb01 := HB0.out.trans (HB1.out.mono (Nat.le_of_lt HWX.out))
  have hs1 := HS.out.below hb01
  have c1 : w1.cell? ⟨b, 1, none⟩ = some (.slice (some ⟨q, 0, none⟩) n cp) := (World.cell?_of_block (HB1.out.block b (Nat.lt_trans hBL HWX.out))).trans hc0
  have d1 := hs1.item.1
  rw [← HI.out] at d1
  have hbx1 : w1.heap[w.heap.size]? = some (.cells #[.int .i64 xp, .int .i64 xc] 35 (0, 0)) := (HB1.out.block _ HWX.out).trans HX.out
  have x0 : w1.cell? ⟨w.heap.size, 0, none⟩ = some (.int .i64 xp) := (cell_of hbx1 0).1.trans rfl
  have x1 : w1.cell? ⟨w.heap.size, 1, none⟩ = some (.int .i64 xc) := (cell_of hbx1 1).1.trans rfl
  have hkc := HK.out (k0, c) (List.mem_append_right _ (List.mem_cons_self ..))
  have hsd : NS h w1.drew b R (.slice (some ⟨q, 0, none⟩) n cp) (LA ++ ([(k0, c)] ++ LB)) := hs1.alike rfl
  have hndc : (fp h c).Nodup := nd_count.2 fun a => by
    have h1 := nd_count.1 hs1.nd a
    rw [kf_app, kf_cons] at h1
    simp only [List.count_cons, List.count_append] at h1
    omega
  have HP : Hid (PutC h R0 w1.drew c ⟨kq, xp, xc⟩) := HIH.out w1.drew c (hsd.kids (k0, c) (by simp)) hndc hkc.2.2.1 (.inr (by have : 2 ≤ cnt h c := hkc.1; omega)) (by have : cnt h c ≤ 4 := hkc.2.1; omega) hrc
  have HSD := Lib.hid hsd
  have HKC := Lib.hid hkc
  have HLO := Lib.hid (And.intro hlo (And.intro hhi hb01))
  have hli : (i : Int) < (n : Int) := by have := HN.out; rw [List.length_append, List.length_cons] at this; omega
  clear hs1 hsd hndc hkc hlo hhi hrc hb01 hbx1 hAl hc0
  go_region_with (go_at_call 34; refine (HP.out : Calls _ _ _ _ _).mono ?_; rintro e w2 ⟨rfl, hp⟩; have HPR := Lib.hid hp; clear hp)
  all_goals
    obtain ⟨c', ac, bc, kvc, oc, cl, cu, fc, rc⟩ := HPR.out
    have hpa := ns_pa (M := [(k0, c)]) HSD.out rc (fun a e => by rw [kf_one]; exact e)
    have hpa' : PAQ w2 b R (.slice (some ⟨q, 0, none⟩) n cp) (kns h (LA ++ ([(k0, c')] ++ LB))) := by
      have e : kns h (LA ++ ([(k0, c')] ++ LB)) = kns h (LA ++ ([(k0, c)] ++ LB)) := by simp [kns, bc]
      rw [e]; exact hpa
    obtain ⟨s2, f2, r2⟩ := ns_mid (M := [(k0, c)]) (M' := [(k0, c')]) (M2 := [(k0, c')]) HSD.out (fun x hx => by rw [List.mem_singleton.1 hx]; exact ac) (by rw [kf_one, kf_one]; exact fc) (rc.mono (Nat.le_refl _) (fun k _ e => by rw [kf_one]; exact e)) (fun x hx => ⟨x, hx, rfl⟩) rfl hpa' (fun g e => .inl e) (Fr.refl _ _ _)
    have hrl := relieve_any w2 (A := LA) (B := LB) (k0 := k0) (c := c') s2 (by have := HN.out; have := HLM.out; simp at this ⊢; omega) (fun x hx => HK.out x (List.mem_append_left _ hx)) (fun x hx => HK.out x (List.mem_append_right _ (List.mem_cons_of_mem _ hx))) oc (by have := HKC.out.1; dsimp only at this; omega) (by have := HKC.out.2.1; dsimp only at this; omega)
    rw [← HI.out] at hrl
    have HRL := Lib.hid hrl
    have HF := Lib.hid (And.intro f2 (And.intro r2 kvc))
    clear ac bc kvc oc cl cu fc rc hpa hpa' s2 f2 r2 hrl HPR
    go_wp2_with (go_at_call 42; refine HRL.out.mono ?_; rintro e w3 ⟨rfl, hm⟩; have HM := Lib.hid hm; clear hm)
    go_ret
    obtain ⟨hlo, hhi, hb01⟩ := HLO.out
    obtain ⟨f2, r2, kvc⟩ := HF.out
    have ekk : kk h (LA ++ (k0, c) :: LB) = kk h LA ++ (kvs h c ++ kk h LB) := by rw [kk_app, kk_cons]
    have ehas : has kq (kk h (LA ++ (k0, c) :: LB)) = has kq (kvs h c) := by rw [ekk, has_lo hlo, has_hi hhi]
    rw [ehas]
    refine ⟨rfl, ?_⟩
    obtain ⟨v', l', s3, k3, o3, lo3, hi3, f3, r3⟩ := HM.out
    have hsz : w.heap.size ≤ w2.heap.size := Nat.le_trans hb01.size r2.size
    refine ⟨(⟨b, v', l'⟩ : Nd (G h)), s3.at_, rfl, ?_, o3, ?_, ?_, ?_, ?_⟩
    · show kk h l' = ins _ (kk h (LA ++ (k0, c) :: LB))
      rw [k3, ekk, kk_app, kk_cons, ins_lo hlo, ins_hi hhi, kvc]
    · show (LA ++ (k0, c) :: LB).length ≤ l'.length
      have : (LA ++ (k0, c') :: LB).length = (LA ++ (k0, c) :: LB).length := by simp
      rw [← this]; exact lo3
    · show l'.length ≤ (LA ++ (k0, c) :: LB).length + 1
      have : (LA ++ (k0, c') :: LB).length = (LA ++ (k0, c) :: LB).length := by simp
      rw [← this]; exact hi3
    · exact ((Foot.refl HS.out.lt).trans f2 hb01.size).trans f3 hsz
    · refine ((Fr.of_below (S := fun a => a ∈ b :: (own1 (.slice (some ⟨q, 0, none⟩) n cp) ++ kf h (LA ++ (k0, c) :: LB))) hb01).drew.trans r2 hb01.size (fun x _ e => e)).trans r3 hsz (fun x hx e => ?_)
      rcases f2.mem e with e2 | e2
      · exact e2
      · have := hb01.size
        have : w1.heap.size ≤ x := e2
        omega

/-- Put. -/
theorem put_G (x : KV) : ∀ (h : Nat) (R : Rest) (w : World) (g : G h), At h R w g → (fp h g).Nodup → Ok h g → (h = 0 ∨ 0 < cnt h g) → cnt h g ≤ 800 → Rise KV.k (kvs h g) → PutC h R w g x
  | 0, _, w, _, ha, _, _, _, hsm, hr => put_0 w x ha (by omega) hr
  | h + 1, _, w, _, ha, hnd, ho, hc, hsm, hr => put_s w x (fun W c a1 a2 a3 a4 a5 a6 => put_G x h R0 W c a1 a2 a3 a4 a5 a6) ha hnd ho (by omega) hsm hr
end Go.Proofs.Ytejbbojephiifaa
