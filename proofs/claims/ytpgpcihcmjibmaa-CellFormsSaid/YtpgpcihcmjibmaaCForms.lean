/- CellForms: the closed law answers true; no condition. -/
import Derived.Test.YtpgpcihcmjibmaaLaw3
namespace Go.Proofs.Ytpgpcihcmjibmaa.cellForms
open Go.ChangeShapes Go.WideShapes Go.ChangeAt Go.RowKit

def gk : ByteArray := ⟨#[49, 50, 51, 52, 53, 54, 55, 56]⟩
def gs : ByteArray := ⟨#[97, 98, 99, 100, 101, 102]⟩
def gv : ByteArray := ⟨#[65, 66, 67, 68, 69, 70, 71, 72]⟩
def sk : ByteArray := ⟨#[97]⟩
def z23 : List Int := List.replicate 23 0
def sml : List Int := [1, 1, 97, 0, 0, 0, 0, 0, 0, 0, 0, 0, 0, 0, 0, 0, 0, 0, 0, 0, 0, 0, 0, 0, 0, 0]

theorem good_text : ((bstr (rowL gk gs gv)).toList == ([1, 8, 49, 50, 51, 52, 53, 54, 55, 56, 6, 97, 98, 99, 100, 101, 102, 8, 65, 66, 67, 68, 69, 70, 71, 72] : List UInt8)) = true := by decide +kernel
theorem small_text : ((bstr (rowL sk ⟨#[]⟩ ⟨#[]⟩)).toList == ((⟨#[1, 1, 97]⟩ : ByteArray) ++ bstr z23).toList) = true := by decide +kernel
theorem small_eq : rowL sk ⟨#[]⟩ ⟨#[]⟩ = sml := by decide +kernel

theorem er_none {l : List Int} {c1 : Int} {t1 : List Int} {c2 : Int} {t2 : List Int} {c3 : Int} {t3 L : List Int} {a : Int} {k s v : ByteArray} {p c er : Int} (h : Rd l a k s v p c er) (hl : l = 1 :: L) (P : Prt L c1 t1 c2 t2 c3 t3) (hq : (partB c1 t1 8 && partB c2 t2 6 && partB c3 t3 8) = false) : er = 4 := by
  cases h with
  | empty h => subst hl; rcases h with h | h
               · cases h
               · have := congrArg (·.head?) h; simp [z26] at this
  | row k s v hm h => rw [hl] at h; rw [(P.of_row hm h).1] at hq; cases hq
  | stub p c hp h => subst hl; have := congrArg (·.head?) h; simp [stubL] at this
  | none => rfl
theorem er_3 {l : List Int} {L : List Int} {a : Int} {k s v : ByteArray} {p c er : Int} (h : Rd l a k s v p c er) (hl : l = 3 :: L) : er = 4 := by
  cases h with
  | empty h => subst hl; rcases h with h | h
               · cases h
               · have := congrArg (·.head?) h; simp [z26] at this
  | row k s v hm h => subst hl; rw [rowL_cons] at h; have := congrArg (·.head?) h; simp at this
  | stub p c hp h => subst hl; have := congrArg (·.head?) h; simp [stubL] at this
  | none => rfl
theorem er_len {l : List Int} {a : Int} {k s v : ByteArray} {p c er : Int} (h : Rd l a k s v p c er) (hl : l.length = 5) : er = 4 := by
  cases h with
  | empty h => rcases h with h | h <;> (subst h; cases hl)
  | row k s v hm h => subst h; rw [rowL_len hm] at hl; cases hl
  | stub p c hp h => subst h; cases hl
  | none => rfl

def badL (j : Nat) : List Int := match j with
  | 0 => sml.set 0 3
  | 1 => sml.set 1 9
  | 2 => sml.set 3 1
  | _ => sml.set 10 7
theorem badL_er {j : Nat} (hj : j < 4) {a : Int} {k s v : ByteArray} {p c er : Int} (h : Rd (badL j) a k s v p c er) : er = 4 := by
  have hp : ∀ {L : List Int}, badL j = 1 :: L → L.length = 25 → bytesOk L → (partB (L.getD 0 0) (L.drop 1) 8 && partB (L.getD 9 0) (L.drop 10) 6 && partB (L.getD 16 0) (L.drop 17) 8) = false → er = 4 := by
    intro L hl hlen ho hq
    obtain ⟨c1, t1, c2, t2, c3, t3, P⟩ := prt_of hlen ho
    refine er_none h hl P ?_
    have e1 : L.getD 0 0 = c1 ∧ L.drop 1 = t1 := by rw [P.e1]; exact ⟨rfl, rfl⟩
    have e2 : L.drop 9 = c2 :: t2 := by rw [P.e1, ← P.e2]; rfl
    have e3 : L.drop 16 = c3 :: t3 := by rw [show (16 : Nat) = 9 + 7 from rfl, ← List.drop_drop, e2, ← P.e3]; rfl
    have e4 : L.getD 9 0 = c2 := by rw [List.getD_eq_getElem?_getD, show L[9]? = (L.drop 9)[0]? by simp, e2]; rfl
    have e5 : L.getD 16 0 = c3 := by rw [List.getD_eq_getElem?_getD, show L[16]? = (L.drop 16)[0]? by simp, e3]; rfl
    have e6 : L.drop 10 = t2 := by rw [show (10 : Nat) = 9 + 1 from rfl, ← List.drop_drop, e2]; rfl
    have e7 : L.drop 17 = t3 := by rw [show (17 : Nat) = 16 + 1 from rfl, ← List.drop_drop, e3]; rfl
    rw [e1.1, e1.2, e4, e5, e6, e7] at hq
    exact hq
  obtain rfl | rfl | rfl | rfl : j = 0 ∨ j = 1 ∨ j = 2 ∨ j = 3 := by omega
  · exact er_3 h rfl
  · exact hp (L := (sml.set 1 9).tail) rfl (by decide) (by unfold bytesOk; decide) (by decide)
  · exact hp (L := (sml.set 3 1).tail) rfl (by decide) (by unfold bytesOk; decide) (by decide)
  · exact hp (L := (sml.set 10 7).tail) rfl (by decide) (by unfold bytesOk; decide) (by decide)

theorem z23_ok : bytesOk z23 := by intro x hx; rw [z23, List.mem_replicate] at hx; omega
theorem below_alloc2 {w W : World} (h : Below w.heap.size w W) (o o' : Obj) : Below w.heap.size w ((W.alloc o).alloc o') := (h.alloc h.size _).alloc (by have := h.size; simp; omega) _

def z5 : List Int := List.replicate 5 0
theorem z5_ok : bytesOk z5 := by intro x hx; rw [z5, List.mem_replicate] at hx; omega
theorem fin {w w5 : World} {g idx : Nat} {u v : Value} {l : List Int} (h : SlK .u8 (w5.setCell ⟨g, idx, none⟩ u) v l) (hb : Below w.heap.size w w5) (hg : w.heap.size ≤ g) (o o' : Obj) :
    SlK .u8 (((w5.setCell ⟨g, idx, none⟩ u).alloc o).alloc o').drew v l ∧ Below w.heap.size w (((w5.setCell ⟨g, idx, none⟩ u).alloc o).alloc o').drew := by
  have hz := hb.size
  exact ⟨h.below (B := (w5.setCell ⟨g, idx, none⟩ u).heap.size) (((Below.refl _ _).alloc (Nat.le_refl _) _).alloc (by simp) _).drew (Nat.le_refl _), (((hb.setCell (p := ⟨g, idx, none⟩) hg u).alloc (by simp; omega) _).alloc (by simp; omega) _).drew⟩

set_option maxRecDepth 100000 in
set_option maxHeartbeats 2000000 in
theorem walk (w : World) : Calls Try.prog 5 #[] w fun e w' => e = .returned (.bool true) ∧ Below w.heap.size w w' := by
  obtain ⟨i, hi, hz0, hz1, hz2⟩ := info_parts infoU8
  have hmg : mayB ⟨#[49, 50, 51, 52, 53, 54, 55, 56]⟩ ⟨#[97, 98, 99, 100, 101, 102]⟩ ⟨#[65, 66, 67, 68, 69, 70, 71, 72]⟩ = true := by decide
  have hms : mayB ⟨#[97]⟩ ⟨#[]⟩ ⟨#[]⟩ = true := by decide
  have HMG := Lib.hid hmg
  have HMS := Lib.hid hms
  clear hmg hms
  go_enter Try.func5, Try.ntmps5
  go_wp2_with fail
  refine (begun_true w).mono ?_
  rintro e w1 ⟨rfl, hB1⟩
  have HB1 := Lib.hid hB1
  clear hB1
  go_wp2_with fail
  refine (row_ok w1 _ _ _ HMG.out).mono ?_
  rintro e w2 ⟨y1, rfl, ho, hb⟩
  have HB2 := Lib.hid (HB1.out.trans (hb.mono HB1.out.size))
  have s1 := own_slK ho (rowL_ok HMG.out)
  obtain ⟨pa, ca, rfl, -⟩ := id s1
  rw [rowL_len HMG.out] at s1 ⊢
  have v1 := conv_slK s1
  have g1 := good_text
  simp only [gk, gs, gv] at g1
  generalize bstr (rowL ⟨#[49, 50, 51, 52, 53, 54, 55, 56]⟩ ⟨#[97, 98, 99, 100, 101, 102]⟩ ⟨#[65, 66, 67, 68, 69, 70, 71, 72]⟩) = X at *
  clear HB1 hb ho s1
  go_wp2_with fail
  refine (row_ok w2 _ _ _ HMS.out).mono ?_
  rintro e w3 ⟨y2, rfl, ho, hb⟩
  have HB3 := Lib.hid (HB2.out.trans (hb.mono HB2.out.size))
  have s2 := own_slK ho (rowL_ok HMS.out)
  have hse := small_eq
  simp only [sk] at hse
  rw [hse] at s2
  have hst := small_text
  simp only [sk] at hst
  rw [hse] at hst
  have S2 := Lib.hid s2
  have HST := Lib.hid hst
  clear v1 g1 HB2 hb ho s2 hse hst
  go_upto_region 7 with (fail)
  have hmk : ∀ W, (Instr.makeSlice 26 (.int .i64 23) (.int .i64 23)).run Try.prog W = .ok (.slice (some ⟨W.heap.size, 0, none⟩) 23 23) (W.alloc (.cells (byteV z23).toArray 5)) := fun W => make_bytes W 23 23 (by omega) (by omega)
  have HS : Hid (∀ W, Below w3.heap.size w3 W → (convert 26 9 y2).run Try.prog W = .ok (.string (bstr sml)) W) := fun W hW => conv_slK (S2.out.below hW (Nat.le_refl _))
  have v0 := HS.out w3 (Below.refl _ _)
  have v1' := HS.out w3.drew (Below.refl _ _).drew
  have v2' := HS.out (w3.alloc (.cells (byteV z23).toArray 5)).drew ((Below.refl _ _).alloc (Nat.le_refl _) _).drew
  have u2 : (convert 26 9 (.slice (some ⟨w3.heap.size, 0, none⟩) 23 23)).run Try.prog (w3.alloc (.cells (byteV z23).toArray 5)).drew = .ok (.string (bstr z23)) (w3.alloc (.cells (byteV z23).toArray 5)).drew := conv_slK (((blk_new w3.drew z23).pt (n := 23) (c := 23) rfl (Nat.le_refl _)).slK z23_ok)
  have hbz : Below w3.heap.size w3 (w3.alloc (.cells (byteV z23).toArray 5)).drew := ((Below.refl _ _).alloc (Nat.le_refl _) _).drew
  have HBz := Lib.hid hbz
  have st := HST.out
  have hzz : ¬ 9223372036854775807 < 3 + (bstr z23).size := by
    rw [bstr_size z23_ok]
    show ¬ 9223372036854775807 < 3 + 23
    omega
  generalize bstr sml = X2 at *
  generalize bstr z23 = Z at *
  clear hbz
  go_region
  have HB4 := Lib.hid (HB3.out.trans (HBz.out.mono HB3.out.size))
  have S4 := Lib.hid (S2.out.below HBz.out (Nat.le_refl _))
  clear HS v0 v1' v2' u2 hmk HB3 S2 HBz HST hzz
  generalize (w3.alloc (.cells (byteV z23).toArray 5)).drew = w4 at *
  go_wp2
  have s4 := S4.out
  obtain ⟨p2, c2, rfl, -⟩ := id s4
  rw [show sml.length = 26 from rfl] at s4 ⊢
  have S4' := Lib.hid s4
  clear S4 s4 st
  go_loopw [5] (fun i wr => ∃ k : Nat, k ≤ 4 ∧ i = .int .i64 k ∧ Below w4.heap.size w4 wr) (fun i _ => 4 - (intOf i).toNat)
  case atStart => exact ⟨0, by omega, rfl, Below.refl _ _⟩
  case round =>
    obtain ⟨k, hk, rfl, hbr⟩ := hrel
    have HBr := Lib.hid hbr
    have sr := S4'.out.below hbr (Nat.le_refl _)
    have hpt := sr.pt (by decide)
    obtain ⟨b2, o2, cc, he, hc26, hb2, hcell⟩ := hpt
    rw [show sml.length = 26 from rfl] at he hc26
    have he2 : p2 = some ⟨b2, o2, none⟩ ∧ c2 = cc := by injection he with e1 e2 e3; exact ⟨e1, e3⟩
    obtain ⟨rfl, rfl⟩ := he2
    have HC := Lib.hid hcell
    clear hbr sr he hcell
    by_cases hlt : k < 4
    · have c0 : wr.heap.size ≤ (wr.alloc (.cells #[] 5)).heap.size := by simp
      go_wp2_with (at_builtin; refine wpList_append_own _ rfl _ _ 26 rfl wr.heap.size 5 i (.int .u8 0) 1 1 Try.underlying26 hi hz0 hz1 hz2 rfl (by decide) _ 0 [] rfl ?c1 ⟨b2, o2, none⟩ 26 c2 (byteV sml) rfl ?c2 ?c3 ?c4 ?c5 ?c6 ?c7 ?_)
      case c1 => exact World.ownsRow_made wr #[] 0 (Nat.le_refl _) (by unfold maxLen; omega) rfl
      case c2 => rfl
      case c3 =>
        intro q u hu
        have hj : q < sml.length := by have := (List.getElem?_eq_some_iff.1 hu).1; simpa [byteV] using this
        have h2 : (⟨b2, o2, none⟩ : Addr).add q = ⟨b2, o2 + q, none⟩ := by unfold Addr.add; split <;> simp_all
        rw [h2]
        have h3 := (World.cell?_alloc_lt wr (.cells #[] 5) ⟨b2, o2 + q, none⟩ hb2).trans (HC.out q hj)
        rw [h3]
        simp [byteV] at hu
        obtain ⟨x, hx, rfl⟩ := hu
        rw [List.getElem?_eq_getElem hj] at hx
        cases hx
        rfl
      case c4 => exact byteV_one _
      case c5 => unfold maxLen; omega
      case c6 => omega
      case c7 => exact c0
      intro v5 w5 ho5 hg5 _
      have hb5 : Below wr.heap.size wr w5 := ((Below.refl _ wr).alloc (Nat.le_refl _) _).grown hg5 (by simp) (fun q hq => by cases hq; exact Nat.le_refl _)
      obtain ⟨g, c5, rfl, hg0, hg1, hg2, hg3, hg4, hgc⟩ := own_pt ho5 (by omega)
      have hkey : ∀ (idx : Nat) (val : Int), 0 ≤ val → val < 256 → SlK .u8 (w5.setCell ⟨g, idx, none⟩ (.int .u8 val)) (.slice (some ⟨g, 0, none⟩) 26 c5) (sml.set idx val) := fun idx val h0 h1 => by
        have := (ho5.stored idx (.int .u8 val)).1
        rw [show (byteV sml).set idx (.int .u8 val) = byteV (sml.set idx val) by simp [byteV, List.map_set]] at this
        refine own_slK this (fun x hx => ?_)
        rcases List.mem_or_eq_of_mem_set hx with h | h
        · have : bytesOk sml := by unfold bytesOk; decide
          exact this x h
        · omega
      have hfz := ho5.frozenAt
      have HKey := Lib.hid hkey
      have HGC := Lib.hid hgc
      have HFZ := Lib.hid hfz
      have HB5 := Lib.hid (HBr.out.trans (hb5.mono HBr.out.size))
      have hz5 : w4.heap.size ≤ w5.heap.size := HB5.out.size
      have hgw : w4.heap.size ≤ g := Nat.le_trans HBr.out.size hg0
      clear hkey hgc hfz ho5 hg5 hb5 hg4
      go_upto_region 13 with (fail)
      go_cut [] (fun wx => SlK .u8 wx (.slice (some ⟨g, 0, none⟩) 26 c5) (badL k) ∧ Below w4.heap.size w4 wx)
      case first =>
        obtain rfl | rfl | rfl | rfl : k = 0 ∨ k = 1 ∨ k = 2 ∨ k = 3 := by omega
        · have x0 := HGC.out 0 (by decide)
          have f0 := HFZ.out 0
          have hk9 := Lib.hid (HKey.out 0 3 (by omega) (by omega))
          go_region
          all_goals (go_wp2; go_meet)
          all_goals exact fin hk9.out HB5.out hgw _ _
        · have x0 := HGC.out 1 (by decide)
          have f0 := HFZ.out 1
          have hk9 := Lib.hid (HKey.out 1 9 (by omega) (by omega))
          go_region
          all_goals (go_wp2; go_meet)
          all_goals exact fin hk9.out HB5.out hgw _ _
        · have x0 := HGC.out 3 (by decide)
          have f0 := HFZ.out 3
          have hk9 := Lib.hid (HKey.out 3 1 (by omega) (by omega))
          go_region
          all_goals (go_wp2; go_meet)
          all_goals exact fin hk9.out HB5.out hgw _ _
        · have x0 := HGC.out 10 (by decide)
          have f0 := HFZ.out 10
          have hk9 := Lib.hid (HKey.out 10 7 (by omega) (by omega))
          go_region
          all_goals (go_wp2; go_meet)
          all_goals exact fin hk9.out HB5.out hgw _ _
      case rest =>
        obtain ⟨s6, hb6⟩ := hcut
        have S6 := Lib.hid s6
        have HB6 := Lib.hid hb6
        clear s6 hb6 HKey HGC HFZ HB5 HC
        generalize wc = w6 at *
        go_wp2_with fail
        refine (read_any w6 _ (badL k) S6.out).mono ?_
        rintro e w7 ⟨a, k1, s1, v1, p1, c1, er, hr, rfl, hb⟩
        obtain rfl := badL_er hlt hr
        have HB8 := Lib.hid (below_alloc2 (HB6.out.trans (hb.mono HB6.out.size)) (rowO k1 s1 v1) (ridO p1 c1))
        clear hb hr S6 HB6
        go_upto_region 15 with (fail)
        show Code.wp _ _ _ _ ((w7.alloc (rowO k1 s1 v1)).alloc (ridO p1 c1))
        generalize (w7.alloc (rowO k1 s1 v1)).alloc (ridO p1 c1) = w8 at *
        go_wp2
        go_roundw
        case rel => exact ⟨k + 1, by omega, by go_num, HB8.out⟩
        case measure => simp [intOf]; omega
    · obtain rfl : k = 4 := by omega
      have HBq := Lib.hid (HB4.out.trans (HBr.out.mono HB4.out.size))
      clear HC HBr HB4
      have hmk : ∀ W, (Instr.makeSlice 26 (.int .i64 26) (.int .i64 26)).run Try.prog W = .ok (.slice (some ⟨W.heap.size, 0, none⟩) 26 26) (W.alloc (.cells (byteV z26).toArray 5)) := fun W => make_bytes W 26 26 (by omega) (by omega)
      have hmk5 : ∀ W, (Instr.makeSlice 26 (.int .i64 5) (.int .i64 5)).run Try.prog W = .ok (.slice (some ⟨W.heap.size, 0, none⟩) 5 5) (W.alloc (.cells (byteV z5).toArray 5)) := fun W => make_bytes W 5 5 (by omega) (by omega)
      go_wp2_with fail
      refine (read_any _ _ z26 (((blk_new wr z26).pt (n := 26) (c := 26) rfl (Nat.le_refl _)).slK z26_ok)).mono ?_
      rintro e w7 ⟨a, k1, s1, v1, p1, c1, er, hr, rfl, hb⟩
      obtain ⟨rfl, -, -, -, -, -, rfl⟩ := hr.det (.empty (.inr rfl))
      have HB7 := Lib.hid (below_alloc2 ((HBq.out.alloc HBq.out.size (.cells (byteV z26).toArray 5)).trans (hb.mono (by have := HBq.out.size; simp; omega))) (rowO k1 s1 v1) (ridO p1 c1))
      clear hb hr HBq
      go_upto_region 18 with (fail)
      show Code.wp _ _ _ _ ((w7.alloc (rowO k1 s1 v1)).alloc (ridO p1 c1))
      generalize (w7.alloc (rowO k1 s1 v1)).alloc (ridO p1 c1) = w8 at *
      go_wp2_with fail
      refine (read_any _ _ z5 (((blk_new w8 z5).pt (n := 5) (c := 5) rfl (Nat.le_refl _)).slK z5_ok)).mono ?_
      rintro e w9 ⟨a', k2, s2, v2, p2', c2', er, hr, rfl, hb⟩
      obtain rfl := er_len hr rfl
      have HB9 := Lib.hid (below_alloc2 ((HB7.out.alloc HB7.out.size (.cells (byteV z5).toArray 5)).trans (hb.mono (by have := HB7.out.size; simp; omega))) (rowO k2 s2 v2) (ridO p2' c2'))
      clear hb hr HB7
      go_upto_region 19 with (fail)
      show Code.wp _ _ _ _ ((w9.alloc (rowO k2 s2 v2)).alloc (ridO p2' c2'))
      generalize (w9.alloc (rowO k2 s2 v2)).alloc (ridO p2' c2') = wa at *
      go_wp2_with fail
      refine (stub_bad wa 32 0 (by decide)).mono ?_
      rintro e wb ⟨rfl, hb⟩
      have HBb := Lib.hid (HB9.out.trans (hb.mono HB9.out.size))
      clear hb HB9
      go_wp2_with fail
      refine (stub_bad wb 0 4 (by decide)).mono ?_
      rintro e wc ⟨rfl, hb⟩
      have HBc := Lib.hid (HBb.out.trans (hb.mono HBb.out.size))
      clear hb HBb
      go_wp2_with fail
      refine (stub_bad wc (-1) 0 (by decide)).mono ?_
      rintro e wd ⟨rfl, hb⟩
      have HBd := Lib.hid (HBc.out.trans (hb.mono HBc.out.size))
      clear hb HBc
      go_wp2
      go_ret
      exact ⟨rfl, HBd.out⟩

theorem own : ownKnob Try.prog.godebug = none := by kernel_rfl
theorem laidOut : laidOutB Try.prog = true := by kernel_rfl

set_option maxRecDepth 100000 in
theorem lifted (os : Os) (started : os.Started) (H : Type) (enc : TypeId × Value → H) :
    ReturnsInHanded {} Try.checked os 5 .any (Rows.cellFormsSpec.pre6 enc Try.prog Try.f5 Rows.cellFormsRow.domain false) (Rows.cellFormsSpec.post enc Try.prog Try.f5 false true false false) := by
  refine returnsInHanded_of_change (C := Try.checked) own started (by kernel_rfl) Try.func5
    (ChangeSpec.witness6 (enc := enc) (C := Try.checked) false ⟨#[], #[], []⟩ 8 (by kernel_rfl) (by kernel_rfl) (by kernel_rfl) (by kernel_rfl)) ?_
  intro W base args ds gs before hval0 hW hcnd _
  have hval : ∀ (j : Nat) t v, Try.f5.params[j]? = some t → args[j]? = some v → Value.okWide Try.prog W .any base t v := hval0
  have hW' := hW
  obtain ⟨p, q, hA0, hV, rfl, hfz, hnd⟩ := hW
  obtain ⟨rfl, rfl⟩ := trodVars_none hV
  have hA : DataW.TrodAll enc Try.prog W 0 (fun _ => true) true Try.f5.params.toList args.toList ds p := hA0
  rw [Try.params5] at hA hval
  obtain ⟨hargs, rfl, rfl⟩ := trodAll_nil hA
  obtain rfl : args = #[] := by cases args; simp_all
  refine (walk W).mono fun e W' ⟨he, hg⟩ => ?_
  subst he
  exact ⟨_, rfl, law_post laidOut Try.underlying4 rfl (by rw [Try.params5]; intro t ht; cases ht) rfl hW' rfl hg⟩

theorem proved : Rows.CellFormsSaid :=
  OpenClaim.holds_of_wide 5 Try.f5 rfl rfl rfl rfl rfl rfl rfl ⟨rfl, rfl, rfl, rfl, rfl⟩ rfl rfl rfl rfl rfl (by kernel_rfl) Try.func5 (by kernel_rfl)
    (of_decide_eq_true (by kernel_rfl)) (by unfold Func.isWrapper; first | (rw [if_pos (by decide +kernel)]; kernel_rfl) | (rw [if_neg (by decide +kernel)]; exact ⟨rfl, rfl⟩))
    (fun os started H enc _ => lifted os started H enc)
#print axioms proved

end Go.Proofs.Ytpgpcihcmjibmaa.cellForms
