/- PoolNone, a part. -/
import Derived.Test.YtljbhdldfffpfaaGreatQn1
import Derived.Test.YtljbhdldfffpfaaGreatQn17
namespace Go.Proofs.YtljbhdldfffpfaaGreat
open Go.RowKit

set_option maxRecDepth 100000 in
set_option maxHeartbeats 400000 in
theorem grow_nil (w : World) (n : Nat) (hn : n ≤ 1000000) : Calls Tryz.prog 96 #[.slice none 0 0, .int .i64 n] w fun e w' => ∃ v, e = .returned v ∧ w'.ownsRow w.heap.size 5 1 v 0 [] ∧ Below w.heap.size w w' := by
  obtain ⟨i, hi, hz0, hz1, hz2⟩ := info_parts infoU8
  rcases Nat.eq_zero_or_pos n with rfl | h0
  · go_enter Tryz.func96, Tryz.ntmps96
    go_wp2
    go_ret
    exact ⟨_, rfl, World.ownsRow_nil _ _ _ _, Below.refl _ _⟩
  · have hrz : ∀ ty, (Builtin.append_ #[33, 3] ty #[.slice none 0 0, .int .i64 n]).run Tryz.prog w = _ := fun ty => Lib.run_append_nil_zeros w 33 3 ty 5 i (.int .u8 0) .i64 .i64 Tryz.underlying33 Tryz.underlying3 hi hz0 n h0 (by omega) (by omega) (by rw [hz2]; omega)
    have hG := grownCap_ge w n 0 5
    have hM := grownCap_le_maxLen w n 0 5 (by unfold maxLen; omega)
    obtain ⟨C, hC⟩ : ∃ C, C = Builtin.zeroCells (Value.int .u8 0).cells n ++ Builtin.zeroCells (Value.int .u8 0).cells (grownCap w n 0 5 - n) := ⟨_, rfl⟩
    have hs : C.size = grownCap w n 0 5 * 1 := by rw [hC]; simp [size_zeroCells, Value.cells]; omega
    rw [← hC] at hrz
    generalize grownCap w n 0 5 = G at *
    have hG63 : G ≤ 9223372036854775807 := by unfold maxLen at hM; omega
    clear hC
    go_enter Tryz.func96, Tryz.ntmps96
    go_wp2_with (at_builtin; refine Lib.wpList_append_run _ rfl _ _ _ _ rfl _ _ rfl rfl _ _ (hrz _) ?_)
    go_ret
    exact ⟨_, rfl, World.ownsRow_made w.drew C G (Nat.le_refl _) hM hs, ((Below.refl _ w).drew).alloc (Nat.le_refl _) _⟩

theorem take_flat {ls : List (List Int)} {k : Nat} (h : k < ls.length) : (ls.take (k + 1)).flatten = (ls.take k).flatten ++ ls[k] := by
  rw [← List.take_append_getElem h, List.flatten_append]; simp only [List.flatten_cons, List.flatten_nil, List.append_nil]
theorem flat_le {ls : List (List Int)} (k : Nat) : (ls.take k).flatten.length ≤ ls.flatten.length := by
  conv => rhs; rw [← List.take_append_drop k ls]
  rw [List.flatten_append, List.length_append]; omega

def fl (ls : List (List Int)) (k : Nat) : Nat := (ls.take k).flatten.length
def fb (ls : List (List Int)) (k : Nat) : List Value := byteV (ls.take k).flatten
theorem fl_succ {ls : List (List Int)} {k : Nat} (h : k < ls.length) : fl ls (k + 1) = fl ls k + ls[k].length := by unfold fl; rw [take_flat h, List.length_append]
theorem fb_succ {ls : List (List Int)} {k : Nat} (h : k < ls.length) : fb ls (k + 1) = fb ls k ++ byteV ls[k] := by unfold fb; rw [take_flat h]; simp [byteV]

set_option maxRecDepth 100000 in
set_option maxHeartbeats 1000000 in
theorem concat_any (w : World) (g : Nat) (t : TypeId) (vs : List Value) (ls : List (List Int)) (hg : w.heap[g]? = some (.cells vs.toArray t (0, 0))) (hlen : vs.length = ls.length) (hp : ∀ j (h : j < vs.length) (h' : j < ls.length), Pt w vs[j] ls[j])
    (hs : ls.flatten.length ≤ 1000000) (hn : vs.length ≤ 1000000) : Calls Tryz.prog 77 #[.slice (some ⟨g, 0, none⟩) vs.length vs.length] w fun e w' => ∃ v, e = .returned v ∧ w'.ownsRow w.heap.size 5 1 v ls.flatten.length (byteV ls.flatten) ∧ Below w.heap.size w w' := by
  obtain ⟨i, hi, hz0, hz1, hz2⟩ := info_parts infoU8
  have HP := Lib.hid hp
  have HL := Lib.hid hlen
  have hfl : ∀ k, fl ls k ≤ 1000000 := fun k => by have := flat_le (ls := ls) k; unfold fl; omega
  have HF := Lib.hid hfl
  have HG := Lib.hid hg
  have hgl : g < w.heap.size := (Array.getElem?_eq_some_iff.1 hg).1
  obtain ⟨n, hN⟩ : ∃ n, vs.length = n := ⟨_, rfl⟩
  rw [hN] at hn ⊢
  have e0 : ls.take n = ls := List.take_of_length_le (by omega)
  have f0 : fl ls n = ls.flatten.length := by unfold fl; rw [e0]
  have f1 : fb ls n = byteV ls.flatten := by unfold fb; rw [e0]
  rw [← f0, ← f1]
  have HN := Lib.hid hN
  clear hp hlen hs hg hN e0 f0 f1 hfl
  go_enter Tryz.func77, Tryz.ntmps77
  go_wp2
  go_loopw [3, 11] (fun s i wr => ∃ k : Nat, k ≤ n ∧ i = .int .i64 k ∧ s = .int .i64 (fl ls k) ∧ w = wr) (fun s i _ => n - (RowKit.intOf i).toNat)
  case atStart => exact ⟨0, by omega, rfl, rfl, rfl⟩
  case round =>
    obtain ⟨k, hk, rfl, rfl, rfl⟩ := hrel
    by_cases hlt : k < n
    · have hkv : k < vs.length := by have := HN.out; omega
      have hkl : k < ls.length := by have := HL.out; omega
      obtain ⟨b, off, cap, hv, h1, h2, h3⟩ := HP.out k hkv hkl
      have c0 := (cell_of HG.out (0 + k)).1
      rw [show vs.toArray[0 + k]? = some (.slice (some ⟨b, off, none⟩) ls[k].length cap) by rw [← hv]; simp [hkv]] at c0
      simp only [Nat.zero_add] at c0
      have e1 := fl_succ hkl
      have e2 := HF.out (k + 1)
      obtain ⟨D, hD⟩ : ∃ D, ls[k].length = D := ⟨_, rfl⟩
      rw [hD] at c0 e1
      rw [e1] at e2
      clear h3 hv
      go_wp2
      go_roundw
      case rel => exact ⟨k + 1, by omega, by go_num, by rw [e1]; go_num, trivial⟩
      case measure => simp [RowKit.intOf]; omega
    · obtain rfl : k = n := by omega
      have hfk := HF.out k
      go_wp2_with fail
      refine (grow_nil w _ hfk).mono ?_
      rintro e w1 ⟨v1, rfl, ho1, hb1⟩
      go_wp2
      go_loopw [6, 27] (fun s i wr => ∃ j : Nat, j ≤ k ∧ i = .int .i64 j ∧ wr.ownsRow w.heap.size 5 1 s (fl ls j) (fb ls j) ∧ Below w.heap.size w wr) (fun s i _ => k - (RowKit.intOf i).toNat)
      case atStart => exact ⟨0, by omega, rfl, ho1, hb1⟩
      case round =>
        obtain ⟨j, hj, rfl, ho, hbl⟩ := hrel
        by_cases hjt : j < k
        · have hkv : j < vs.length := by have := HN.out; omega
          have hkl : j < ls.length := by have := HL.out; omega
          have hpt := (HP.out j hkv hkl).below hbl (Nat.le_refl _)
          obtain ⟨b, off, cap, hv, h1, h2, h3⟩ := hpt
          have hg2 := (hbl.block g hgl).trans HG.out
          have c0 := (cell_of hg2 (0 + j)).1
          rw [show vs.toArray[0 + j]? = some (.slice (some ⟨b, off, none⟩) ls[j].length cap) by rw [← hv]; simp [hkv]] at c0
          simp only [Nat.zero_add] at c0
          have e1 := fl_succ hkl
          have e2 := HF.out (j + 1)
          have E3 := Lib.hid (fb_succ hkl)
          rw [e1] at e2
          have HC := Lib.hid h3
          have HO := Lib.hid ho
          have hzs := hbl.size
          have E1 := Lib.hid e1
          clear h3 hv ho hg2 e1
          go_wp2_with (at_builtin; refine wpList_append_own _ rfl _ _ 33 rfl w.heap.size 5 i (.int .u8 0) 1 1 Tryz.underlying33 hi hz0 hz1 hz2 rfl (by decide) _ _ _ rfl HO.out ⟨b, off, none⟩ ls[j].length cap (byteV ls[j]) rfl ?c2 ?c3 ?c4 ?c5 ?c6 hzs ?_)
          case c2 => simp [byteV]
          case c3 =>
            intro q u hu
            have hj : q < ls[j].length := by have := (List.getElem?_eq_some_iff.1 hu).1; simpa [byteV] using this
            have h1 := HC.out q hj
            have h2 : (⟨b, off, none⟩ : Addr).add q = ⟨b, off + q, none⟩ := by unfold Addr.add; split <;> simp_all
            rw [h2, h1]
            simp [byteV] at hu
            obtain ⟨x, hx, rfl⟩ := hu
            rw [List.getElem?_eq_getElem hj] at hx
            cases hx
            rfl
          case c4 => exact byteV_one _
          case c5 => unfold maxLen; omega
          case c6 => omega
          intro v' w2 hown hgrow _
          have hb2 : Below w.heap.size w w2 := hbl.grown hgrow hzs (fun q hq => (HO.out.lt q hq).1)
          rw [← E1.out, ← E3.out] at hown
          go_wp2
          go_roundw
          case rel => exact ⟨j + 1, by omega, by go_num, hown, hb2⟩
          case measure => simp [RowKit.intOf]; omega
        · obtain rfl : j = k := by omega
          go_wp2
          go_ret
          exact ⟨_, rfl, ho, hbl⟩
end Go.Proofs.YtljbhdldfffpfaaGreat
namespace Go.Proofs.YtljbhdldfffpfaaGreat
open Go.RowKit

end Go.Proofs.YtljbhdldfffpfaaGreat
namespace Go.Proofs.YtljbhdldfffpfaaGreat
open Go.RowKit Go.Maps

theorem below_fr {B : Nat} {S : Nat → Prop} {w w' : World} (h : Below B w w') : Fr B S w w' := ⟨h.os, h.tape, h.output, h.size, fun k hk _ => h.block k hk⟩
end Go.Proofs.YtljbhdldfffpfaaGreat
namespace Go.Proofs.YtljbhdldfffpfaaGreat
open Go.RowKit Go.Maps

/-- A disk that is not armed, somewhere else than a log. -/
structure DkAt (w : World) (p bn bo g : Nat) (d : Dk) : Prop where
  dk : DiskAt w p bn bo g d
  dead : d.dead = false
  set : d.set = false
  mv : d.mv = .slice none 0 0
  mask : d.mask = []
theorem DkAt.on {w w' : World} {p bn bo g : Nat} {d : Dk} (h : DkAt w p bn bo g d) (hb : ∀ k, Three p bn bo k → w'.heap[k]? = w.heap[k]?) : DkAt w' p bn bo g d := by
  refine ⟨⟨(hb p (Or.inl rfl)).trans h.dk.cells, h.dk.now.of_block (hb bn (Or.inr (Or.inl rfl))), h.dk.old.of_block (hb bo (Or.inr (Or.inr rfl))), ?_, h.dk.ne, h.dk.ok⟩, h.dead, h.set, h.mv, h.mask⟩
  rw [h.mv, h.mask]
  exact nil_SlB w' g
theorem DkAt.lt {w : World} {p bn bo g k : Nat} {d : Dk} (h : DkAt w p bn bo g d) (hk : Three p bn bo k) : k < w.heap.size := by
  obtain ⟨h1, h2, h3⟩ := h.dk.lt
  rcases hk with rfl | rfl | rfl
  · exact h1
  · exact h2
  · exact h3
/-- A disk and its log. -/
structure LogAt (w : World) (p bm : Nat) (t : Tr) (bn bo g : Nat) (d : Dk) : Prop where
  tr : TrAt w p bm t
  dk : DkAt w t.dp bn bo g d
  sep : ∀ k, Three t.dp bn bo k → ¬ Two p bm k
  fit : t.first + t.tiles ≤ d.tiles
def Five (p bm dp bn bo : Nat) : Nat → Prop := fun k => Two p bm k ∨ Three dp bn bo k
section
variable {w w' : World} {p bm bn bo g : Nat} {t : Tr} {d d' : Dk}
theorem LogAt.kept (h : LogAt w p bm t bn bo g d) (hb : ∀ k, k < w.heap.size → w'.heap[k]? = w.heap[k]?) : LogAt w' p bm t bn bo g d :=
  ⟨h.tr.kept hb, h.dk.on fun k hk => hb k (h.dk.lt hk), h.sep, h.fit⟩
/-- What a tile has. -/
def Dk.has (d : Dk) (i : Int) (l : List Int) : Prop := (d.now i).getD zb = blkOf l ∧ l.length = 64 ∧ bytesOk l
theorem Dk.has_any (d : Dk) (h : d.Ok) (i : Int) : ∃ l, d.has i l := by
  obtain ⟨l, h1, h2, h3⟩ := now_blk h i
  exact ⟨l, h3, h1, h2⟩
theorem Dk.has_store {d : Dk} {i j : Int} {l m : List Int} (hl : l.length = 64) (hok : bytesOk l) (h : if j = i then m = l else d.has j m) : (d.store i (blkOf l)).has j m := by
  unfold Dk.has Dk.store
  show ((upd d.now i (some (blkOf l)) j).getD zb) = _ ∧ _
  by_cases e : j = i
  · rw [if_pos e] at h
    subst h e
    rw [upd_same]
    exact ⟨rfl, hl, hok⟩
  · rw [if_neg e] at h
    rw [upd_other _ e]
    exact h
/-- What the walk over the tiles has done. -/
structure Done (t : Tr) (d d' : Dk) (n : Nat) : Prop where
  tiles : d'.tiles = d.tiles
  own : ∀ k : Nat, k < n → d'.has (t.first + k) (tileL t.S k)
  far : ∀ j l, (∀ k : Nat, k < n → j ≠ t.first + k) → d.has j l → d'.has j l
theorem Done.zero (t : Tr) (d : Dk) : Done t d d 0 := ⟨rfl, fun k hk => absurd hk (Nat.not_lt_zero k), fun _ _ _ h => h⟩
theorem Done.keep {n : Nat} (h : Done t d d' n) (hh : d'.has (t.first + n) (tileL t.S n)) : Done t d d' (n + 1) := by
  refine ⟨h.tiles, fun k hk => ?_, fun _ _ hj hl => h.far _ _ (fun k hk => hj k (by omega)) hl⟩
  by_cases e : k = n
  · subst e; exact hh
  · exact h.own k (by omega)
theorem Done.store {n : Nat} (h : Done t d d' n) (hok : bytesOk t.S) : Done t d (d'.store (t.first + n) (blkOf (tileL t.S n))) (n + 1) := by
  refine ⟨h.tiles, fun k hk => ?_, fun j l hj hl => ?_⟩
  · refine Dk.has_store (tileL_len _ _) (tileL_ok hok _) ?_
    by_cases e : k = n
    · subst e; rw [if_pos rfl]
    · rw [if_neg (by omega)]; exact h.own k (by omega)
  · refine Dk.has_store (tileL_len _ _) (tileL_ok hok _) ?_
    rw [if_neg (hj n (by omega))]
    exact h.far j l (fun k hk => hj k (by omega)) hl
end
end Go.Proofs.YtljbhdldfffpfaaGreat
namespace Go.Proofs.YtljbhdldfffpfaaGreat
open Go.RowKit Go.Maps

theorem pt_row {W : World} {g : Nat} {L : List Int} {t : TypeId} (h : W.heap[g]? = some (.cells (byteV L).toArray t (0, 0))) {n : Nat} (hn : L.length = n) : Pt W (.slice (some ⟨g, 0, none⟩) n n) L := by
  subst hn
  refine ⟨g, 0, L.length, rfl, Nat.le_refl _, (Array.getElem?_eq_some_iff.1 h).1, fun j hj => ?_⟩
  rw [Nat.zero_add, (cell_of h j).1]
  simp [byteV, hj]
theorem slB_row {W : World} {g : Nat} {L : List Int} {t : TypeId} (h : W.heap[g]? = some (.cells (byteV L).toArray t (0, 0))) (hn : L.length = 64) : SlB W (.slice (some ⟨g, 0, none⟩) 64 64) L g := by
  refine ⟨_, _, _, rfl, hn.symm, Nat.le_refl _, by omega, (fun e => by cases e), fun a e _ => ?_⟩
  cases e
  refine ⟨rfl, rfl, fun j hj => ?_⟩
  rw [Nat.zero_add, (cell_of h j).1]
  simp [byteV, hj]

def ivT : Value → Nat
  | .int _ x => x.toNat
  | _ => 0
def StRel (w : World) (p bm : Nat) (t : Tr) (bn bo g : Nat) (d : Dk) (k : Nat) (wr : World) : Prop := ∃ d', LogAt wr p bm t bn bo g d' ∧ Done t d d' k ∧ Fr w.heap.size (Five p bm t.dp bn bo) w wr
def StPost (w : World) (p bm : Nat) (t : Tr) (bn bo g : Nat) (d : Dk) (e : Ending) (w' : World) : Prop := e = .returned (.int .i64 0) ∧ ∃ d', LogAt w' p bm { t with stable := t.count } bn bo g d' ∧ Done t d d' t.tiles.toNat ∧ Fr w.heap.size (Five p bm t.dp bn bo) w w'
theorem below_five {w w1 w2 : World} {S : Nat → Prop} (h : Fr w.heap.size S w w1) (hb : Below w1.heap.size w1 w2) : Fr w.heap.size S w w2 :=
  h.trans (below_fr (S := S) hb) h.size (fun _ _ h => h)

/-- The end: what is stable. -/
theorem settle_end {w wr : World} {p bm bn bo g : Nat} {t : Tr} {d d' : Dk} (h : LogAt wr p bm t bn bo g d') (hd : Done t d d' t.tiles.toNat) (hf : Fr w.heap.size (Five p bm t.dp bn bo) w wr) : StPost w p bm t bn bo g d (.returned (.int .i64 0)) (wr.setCell ⟨p, 6, none⟩ (.int .i64 t.count)) := by
  refine ⟨rfl, d', ⟨⟨?_, h.tr.mp.of_block (setCell_far _ _ _ _ (fun e => h.tr.ne e.symm)), ⟨h.tr.ok.ok, h.tr.ok.f0, h.tr.ok.f1, h.tr.ok.t0, h.tr.ok.t1, h.tr.ok.len, h.tr.ok.c0, h.tr.ok.c1⟩, h.tr.ne⟩, h.dk.on fun k hk => setCell_far _ _ _ _ (fun e => h.sep k hk (Or.inl e)), h.sep, h.fit⟩, ⟨hd.tiles, hd.own, hd.far⟩, hf.setCell (Or.inl (Or.inl (Or.inl rfl))) _⟩
  rw [heap_setCell_same wr p 6 _ _ _ h.tr.bx]
  rfl

set_option maxRecDepth 100000 in
set_option maxHeartbeats 1000000 in
theorem settle_any (w : World) {p bm bn bo g : Nat} {t : Tr} {d : Dk} (h : LogAt w p bm t bn bo g d) : Calls Tryz.prog 38 #[.pointer (some ⟨p, 0, none⟩)] w (StPost w p bm t bn bo g d) := by
  have t0 := h.tr.ok.t0
  have t1 := h.tr.ok.t1
  have t2 := h.tr.ok.f0
  have t3 := h.tr.ok.f1
  have x2 : w.cell? ⟨p, 2, none⟩ = some (.int .i64 t.tiles) := h.tr.c 2
  obtain ⟨K, hK⟩ : ∃ K : Nat, t.tiles = (K : Int) := ⟨t.tiles.toNat, by omega⟩
  have H1 : Hid (StRel w p bm t bn bo g d 0 w) := Lib.hid ⟨d, h, Done.zero t d, Fr.refl _ _ _⟩
  have HK := Lib.hid hK
  rw [hK] at x2
  have hK0 : K ≤ 2000 := by omega
  clear h t0 t1 hK
  go_enter Tryz.func38, Tryz.ntmps38
  go_wp2
  go_loopw [3, 14] (fun b i wr => ∃ (q : Bool) (n : Nat), n ≤ K ∧ i = .int .i64 n ∧ b = .bool q ∧ Hid (StRel w p bm t bn bo g d n wr)) (fun _ i _ => K - ivT i)
  case atStart => exact ⟨false, 0, Nat.zero_le _, rfl, rfl, H1⟩
  case round =>
    obtain ⟨q, n, hn, rfl, rfl, HR⟩ := hrel
    obtain ⟨d', hl, hd, hf⟩ := HR.out
    clear x2 H1
    by_cases hlt : n < K
    · have x0 : wr.drew.cell? ⟨p, 0, none⟩ = some (.pointer (some ⟨t.dp, 0, none⟩)) := hl.tr.c 0
      have x1 : wr.drew.cell? ⟨p, 1, none⟩ = some (.int .i64 t.first) := hl.tr.c 1
      have q1 : IntKind.i64.wrap (t.first + (n : Int)) = t.first + (n : Int) := IntWalk.i64_in _ (by omega)
      obtain ⟨l, hh⟩ := d'.has_any hl.dk.dk.ok (t.first + n)
      have hlt2 : (n : Int) < (K : Int) := by omega
      have hin : t.first + (n : Int) < d'.tiles := by have := hl.fit; have := HK.out; omega
      have HRd : Hid (∀ W, Below wr.heap.size wr W → Calls Tryz.prog 24 #[.pointer (some ⟨t.dp, 0, none⟩), .int .i64 (t.first + n)] W fun e w' => ∃ g1, e = .returned (.tuple #[.slice (some ⟨g1, 0, none⟩) 64 64, .int .i64 0]) ∧ SlK .u8 w' (.slice (some ⟨g1, 0, none⟩) 64 64) l ∧ Below wr.heap.size wr w') := Lib.hid fun W hW =>
        (read_ok W (hl.kept fun k hk => hW.block k hk).dk.dk hl.dk.dead _ (by omega) hin l hh.1 hh.2.1).mono fun e w' ⟨h1, h2⟩ => ⟨_, h1, by rw [h2]; exact (pt_row (heap_alloc_new W _) hh.2.1).slK hh.2.2, by rw [h2]; exact hW.alloc hW.size _⟩
      have HL := Lib.hid hl
      have HD := Lib.hid hd
      have HF := Lib.hid hf
      have HH := Lib.hid hh
      have HIN := Lib.hid hin
      have D0 := (Below.refl wr.heap.size wr).drew
      clear hl hd hf hh hin HR
      go_upto_region 5 with (fail)
      go_cut [5, 6] (fun u v wx => ∃ g1, u = .slice (some ⟨g1, 0, none⟩) 64 64 ∧ v = .int .i64 0 ∧ SlK .u8 wx (.slice (some ⟨g1, 0, none⟩) 64 64) l ∧ Below wr.heap.size wr wx)
      case first =>
        go_region_with (go_at_call 24; refine (HRd.out _ D0).mono ?_; rintro e w1 ⟨g1, rfl, hs1, hb1⟩; have HQ := Lib.hid (And.intro hs1 hb1); clear hs1 hb1)
        all_goals go_wp2
        all_goals go_meet
        all_goals exact ⟨g1, rfl, rfl, HQ.out.1, HQ.out.2⟩
      case rest =>
        obtain ⟨g1, rfl, rfl, hs1, hb1⟩ := hcut
        generalize wc = w1 at *
        have hl1 := HL.out.kept (w' := w1) fun k hk => hb1.block k hk
        have x3 : w1.cell? ⟨p, 3, none⟩ = some (.map (some bm)) := hl1.tr.c 3
        have wi : (Lit.int .i64 (n : Int)).wf = true := WalkArith.wf_i64 (by omega)
        have k4 := hl1.tr.mp.look law3 Tryz.underlying86 Tryz.underlying3 (zeroT w1) wi
        rw [zb_eq, blkM_get] at k4
        have hsz : (byteV (tileL t.S n)).toArray.size = 64 := by simp [byteV, tileL_len]
        have k2 := st_newT w1 (byteV (tileL t.S n)).toArray hsz (by simpa using byteV_one (tileL t.S n))
        obtain ⟨co, hco⟩ : ∃ co, co = (byteV (tileL t.S n)).toArray := ⟨_, rfl⟩
        rw [← hco] at k4 k2 hsz
        have HCO := Lib.hid hco
        have HS1 := Lib.hid hs1
        have HB1 := Lib.hid hb1
        clear hco hs1 hb1 hl1 x0 x1 D0 HRd
        go_upto_region 9 with (fail)
        obtain ⟨w2, HW2, hc2, hb2⟩ : ∃ W, Hid (w1.alloc (.cells co 133) = W) ∧ W.heap[w1.heap.size]? = some (.cells co 133 (0, 0)) ∧ Below w1.heap.size w1 W := ⟨_, Lib.hid rfl, heap_alloc_new w1 _, (Below.refl _ _).alloc (Nat.le_refl _) _⟩
        rw [HW2.out]
        obtain ⟨gc, hgc⟩ : ∃ g, g = w1.heap.size := ⟨_, rfl⟩
        rw [← hgc] at hc2 ⊢
        have hb12 : Below wr.heap.size wr w2 := HB1.out.trans (hb2.mono HB1.out.size)
        have hl2 := HL.out.kept (w' := w2) fun k hk => hb12.block k hk
        rw [HCO.out] at hc2
        have hs2 : SlK .u8 w2 (.slice (some ⟨gc, 0, none⟩) 64 64) (tileL t.S n) := (pt_row hc2 (tileL_len _ _)).slK (tileL_ok hl2.tr.ok.ok n)
        have HE := Lib.hid (equalE_any w2 _ _ _ _ (HS1.out.below hb2 (Nat.le_refl _)) hs2)
        have HC2 := Lib.hid hc2
        have HL2 := Lib.hid hl2
        have HB2 := Lib.hid hb12
        clear hc2 hb2 hb12 hl2 hs2 hgc k4 k2 HCO HW2 x3 hsz HS1 HB1
        cases hq : decide (l = tileL t.S n) with
        | true =>
          rw [hq] at HE
          have hle : l = tileL t.S n := of_decide_eq_true hq
          have HR2 : Hid (StRel w p bm t bn bo g d (n + 1) w2) := Lib.hid ⟨d', HL2.out, HD.out.keep (by rw [← hle]; exact HH.out), below_five HF.out HB2.out⟩
          clear hq hle
          go_wp2_with (go_at_call 71; refine HE.out.mono ?_; rintro e w3 ⟨rfl, rfl⟩)
          go_roundw
          all_goals first
            | exact ⟨q, n + 1, hlt, by go_num, rfl, HR2⟩
            | (simp [ivT]; omega)
        | false =>
          rw [hq] at HE
          have x0 : w2.drew.cell? ⟨p, 0, none⟩ = some (.pointer (some ⟨t.dp, 0, none⟩)) := HL2.out.tr.c 0
          have x1 : w2.drew.cell? ⟨p, 1, none⟩ = some (.int .i64 t.first) := HL2.out.tr.c 1
          have HWr : Hid (∀ W, Below w2.heap.size w2 W → Calls Tryz.prog 30 #[.pointer (some ⟨t.dp, 0, none⟩), .int .i64 (t.first + n), .slice (some ⟨gc, 0, none⟩) 64 64] W fun e w' => e = .returned (.int .i64 0) ∧ StRel w p bm t bn bo g d (n + 1) w') := Lib.hid fun W hW => by
            have hlW := HL2.out.kept fun k hk => hW.block k hk
            have hcW := (hW.block gc (Array.getElem?_eq_some_iff.1 HC2.out).1).trans HC2.out
            refine (write_plain W hlW.dk.dk hlW.dk.dead _ (by omega) HIN.out _ (tileL t.S n) (slB_row hcW (tileL_len _ _)) (tileL_len _ _) (tileL_ok hlW.tr.ok.ok n) hlW.dk.set).mono ?_
            rintro e w' ⟨h1, h2, h3⟩
            refine ⟨h1, _, ⟨?_, ⟨h2, hlW.dk.dead, hlW.dk.set, hlW.dk.mv, hlW.dk.mask⟩, hlW.sep, hlW.fit⟩, HD.out.store hlW.tr.ok.ok, ?_⟩
            · have hk : ∀ k, k < W.heap.size → Two p bm k → w'.heap[k]? = W.heap[k]? := fun k hk h => h3.block k hk (fun e => hlW.sep k e h)
              exact ⟨(hk p hlW.tr.lt.1 (Or.inl rfl)).trans hlW.tr.bx, hlW.tr.mp.of_block (hk bm hlW.tr.lt.2 (Or.inr rfl)), hlW.tr.ok, hlW.tr.ne⟩
            · have f2 := below_five HF.out (HB2.out.trans (hW.mono HB2.out.size))
              exact f2.trans h3 f2.size (fun x _ h => Or.inr h)
          have D0 := (Below.refl w2.heap.size w2).drew
          clear hq HL2 HC2 HH HD HIN
          go_upto_region 10 with (go_at_call 71; refine HE.out.mono ?_; rintro e w3 ⟨rfl, rfl⟩)
          go_region_with (go_at_call 30; refine (HWr.out _ D0).mono ?_; rintro e w4 ⟨rfl, hr4⟩; have HR4 := Lib.hid hr4; clear hr4)
          all_goals
            clear x0 x1 D0 HWr
            go_wp2
            go_roundw
            all_goals first
              | exact ⟨true, n + 1, hlt, by go_num, rfl, HR4⟩
              | (simp [ivT]; omega)
    · obtain rfl : n = K := by omega
      have hkt : n = t.tiles.toNat := by have := HK.out; omega
      rw [hkt] at hd
      cases q with
      | false =>
        have x5 : wr.cell? ⟨p, 5, none⟩ = some (.int .i64 t.count) := hl.tr.c 5
        have y6 : wr.cell? ⟨p, 6, none⟩ = some (.int .i64 t.stable) := hl.tr.c 6
        have z6 := hl.tr.fz 6
        have HE := Lib.hid (settle_end hl hd hf)
        clear hl hd hf HR hkt
        go_wp2
        go_ret
        exact HE.out
      | true =>
        have x0 : wr.cell? ⟨p, 0, none⟩ = some (.pointer (some ⟨t.dp, 0, none⟩)) := hl.tr.c 0
        have HY := Lib.hid (sync_plain wr hl.dk.dk hl.dk.dead hl.dk.set)
        have HL := Lib.hid hl
        have HD := Lib.hid hd
        have HF := Lib.hid hf
        clear hl hd hf HR hkt
        go_wp2_with fail
        refine HY.out.mono ?_
        rintro e w2 ⟨rfl, h2, h3⟩
        have hl2 : LogAt w2 p bm t bn bo g d'.synced := by
          have hlW := HL.out
          have hk : ∀ k, k < wr.heap.size → Two p bm k → w2.heap[k]? = wr.heap[k]? := fun k hk h => h3.block k hk (fun e => hlW.sep k e h)
          exact ⟨⟨(hk p hlW.tr.lt.1 (Or.inl rfl)).trans hlW.tr.bx, hlW.tr.mp.of_block (hk bm hlW.tr.lt.2 (Or.inr rfl)), hlW.tr.ok, hlW.tr.ne⟩, ⟨h2, hlW.dk.dead, hlW.dk.set, hlW.dk.mv, hlW.dk.mask⟩, hlW.sep, hlW.fit⟩
        have hf2 : Fr w.heap.size (Five p bm t.dp bn bo) w w2 := HF.out.trans h3 HF.out.size (fun x _ h => Or.inr h)
        have hd2 : Done t d d'.synced t.tiles.toNat := ⟨HD.out.tiles, HD.out.own, HD.out.far⟩
        have x5 : w2.cell? ⟨p, 5, none⟩ = some (.int .i64 t.count) := hl2.tr.c 5
        have y6 : w2.cell? ⟨p, 6, none⟩ = some (.int .i64 t.stable) := hl2.tr.c 6
        have z6 := hl2.tr.fz 6
        have HE := Lib.hid (settle_end hl2 hd2 hf2)
        clear h2 h3 hl2 hf2 hd2 HL HD HF HY x0
        go_wp2
        go_ret
        exact HE.out
end Go.Proofs.YtljbhdldfffpfaaGreat
