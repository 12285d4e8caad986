/- tree: from, of a node; of any height; From. -/
import Derived.Test.YtejbbojephiifaaTeJ
import Derived.Deep.RegionHeld
namespace Go.Proofs.Ytejbbojephiifaa
open Go.RowKit

def FromOK (h : Nat) : Prop := ∀ (w0 w : World) (R : Rest) (g : G h) (k : ByteArray) (a b c : Nat) (most : Int) (l : List KV), At h R w0 g → Ok h g → (h = 0 ∨ 2 ≤ cnt h g) → cnt h g ≤ 4 → Rise KV.k (kvs h g) → Below w0.heap.size w0 w → Gv w w0.heap.size a b c most l → l.length + (kvs h g).length ≤ 100000 →
    Calls Try.prog 31 #[.pointer (some ⟨gb h g, 0, none⟩), .string k, FV a b c] w (FPost w0.heap.size a b c most w0 (tell most l (frm k (kvs h g))))

/-- What children have from a key on. -/
def frs (h : Nat) (k : ByteArray) (L : List (ByteArray × G h)) : List KV := L.flatMap fun x => frm k (kvs h x.2)
theorem frs_app (h : Nat) (k : ByteArray) (A B : List (ByteArray × G h)) : frs h k (A ++ B) = frs h k A ++ frs h k B := by simp [frs]
theorem frs_one (h : Nat) (k : ByteArray) (x : ByteArray × G h) : frs h k [x] = frm k (kvs h x.2) := by simp [frs]
theorem frm_le (k : ByteArray) : ∀ l : List KV, (frm k l).length ≤ l.length
  | [] => Nat.le_refl _
  | y :: r => by
    rw [frm]
    split
    · have := frm_le k r; simp; omega
    · exact Nat.le_refl _
theorem frs_le (h : Nat) (k : ByteArray) : ∀ L : List (ByteArray × G h), (frs h k L).length ≤ (kk h L).length
  | [] => Nat.le_refl _
  | x :: r => by
    have h1 := frm_le k (kvs h x.2)
    have h2 := frs_le h k r
    show (frm k (kvs h x.2) ++ frs h k r).length ≤ (kvs h x.2 ++ kk h r).length
    rw [List.length_append, List.length_append]; omega
theorem frs_hi (h : Nat) (k : ByteArray) : ∀ L : List (ByteArray × G h), (∀ y ∈ kk h L, bL k y.k = true) → frs h k L = kk h L
  | [], _ => rfl
  | x :: r, hk => by
    rw [kk_cons] at hk ⊢
    show frm k (kvs h x.2) ++ frs h k r = _
    rw [frm_hi0 fun y hy => hk y (List.mem_append_left _ hy), frs_hi h k r fun y hy => hk y (List.mem_append_right _ hy)]
theorem frm_kk {h : Nat} {k k0 : ByteArray} {c : G h} {LA LB : List (ByteArray × G h)} (hlo : ∀ y ∈ kk h LA, bL y.k k = true) (hhi : ∀ y ∈ kk h LB, bL k y.k = true) : frm k (kk h (LA ++ (k0, c) :: LB)) = frs h k ((k0, c) :: LB) := by
  rw [kk_app, frm_lo hlo, kk_cons, frm_hi hhi]
  show _ = frm k (kvs h c) ++ frs h k LB
  rw [frs_hi h k LB hhi]

set_option maxRecDepth 100000 in
set_option maxHeartbeats 8000000 in
theorem from_node {hh : Nat} (ih : FromOK hh) : FromOK (hh + 1) := by
  intro w0 w R g k a b c most l ha ho hc h4 hr hb hg hl
  obtain ⟨b0, v, L⟩ : Nd (G hh) := g
  have hx4 : L.length ≤ 4 := h4
  have hl2 : 2 ≤ L.length := by rcases hc with e | e; omega; exact e
  have hk : ∀ x ∈ L, Kid hh (Ok hh) x := ho
  have hri : Rise KV.k (kk hh L) := hr
  have hl' : l.length + (kk hh L).length ≤ 100000 := hl
  have hne : kns hh L ≠ [] := fun e => by have := congrArg List.length e; rw [kns_len] at this; simp at this; rw [this] at hl2; simp at hl2
  have hp0 : PAQ w0 b0 R v (kns hh L) := ha.1
  have hkids : KidsAt hh w0 L := ha.2
  have hp := hp0.below hb
  obtain ⟨q, cp, hv, _, hql⟩ := hp0.own.form (by rw [kns_len]; omega)
  rw [kns_len] at hv
  subst hv
  have hcp := own_cap (n := L.length) (by have := hp0.own; rw [kns_len] at this; exact this)
  have HLE : Hid (Calls Try.prog 37 #[.pointer (some ⟨b0, 0, none⟩)] w fun e w' => e = .returned (.bool false) ∧ w' = w) := leafQ_any w hp hne
  have HOV : Hid (∀ W, Below w.heap.size w W → Calls Try.prog 38 #[.slice (some ⟨q, 0, none⟩) L.length cp, .string k] W fun e w' => (∃ A y B, Under (kns hh L) k A y B ∧ e = .returned (.int .i64 A.length)) ∧ Below w.heap.size w w') := fun W hW => by
    have := over_any W _ (kns hh L) k (by rw [kns_len]; omega) hne (hp.below hW).own (kns_rise hk hri)
    refine this.mono ?_
    rintro e w' ⟨A, y, B, hu, rfl, hb1⟩
    exact ⟨⟨A, y, B, hu, rfl⟩, hW.trans (hb1.mono hW.size)⟩
  have c0 : Hid (∀ W, Below w0.heap.size w0 W → W.cell? ⟨b0, 1, none⟩ = some (.slice (some ⟨q, 0, none⟩) L.length cp)) := fun W hW => (hW.cell (p := ⟨b0, 1, none⟩) hp0.at_.lt).trans hp0.at_.c1
  have HB := Lib.hid hb
  have HG := Lib.hid hg
  have HC := Lib.hid (And.intro hp0.own (And.intro hkids (And.intro hk (And.intro hri hl'))))
  obtain ⟨n, hn⟩ : ∃ n, L.length = n := ⟨_, rfl⟩
  have HNN := Lib.hid hn
  rw [hn] at HOV c0 hcp
  have HCP := Lib.hid hcp
  show Calls Try.prog 31 #[.pointer (some ⟨b0, 0, none⟩), .string k, FV a b c] w (FPost w0.heap.size a b c most w0 (tell most l (frm k (kk hh L))))
  have hcp1 := hcp.1
  have hcp2 : cp ≤ 9223372036854775807 := hcp.2.1
  have cw := c0.out w HB.out
  obtain ⟨T, hT⟩ : ∃ T, tell most l (frm k (kk hh L)) = T := ⟨_, rfl⟩
  rw [hT]
  have HT := Lib.hid hT
  have HNB := Lib.hid (And.intro hl2 hx4)
  clear hT hp hp0 hkids hk hri hl' hne ha ho hc h4 hr hb hg hl hn hl2 hx4 hcp
  have D0 : Below w.heap.size w w.drew := (Below.refl _ w).drew
  have HS : Hid (∀ W, Below w.heap.size w W → Below w.heap.size w W ∧ W.cell? ⟨b0, 1, none⟩ = some (.slice (some ⟨q, 0, none⟩) n cp)) := fun W hW => ⟨hW, c0.out W (HB.out.trans (hW.mono HB.out.size))⟩
  unfold FV
  go_enter Try.func31, Try.ntmps31
  go_upto_region 2 with (first
    | (go_at_call 37; refine HLE.out.mono ?_; rintro e w' ⟨rfl, hw⟩; obtain rfl := hw.symm; clear hw))
  clear HLE cw
  go_region_held (fun W => Below w.heap.size w W ∧ W.cell? ⟨b0, 1, none⟩ = some (.slice (some ⟨q, 0, none⟩) n cp)) (first | exact HS.out _ D0 | exact HS.out _ (by assumption))
    (first | (go_at_call 38; refine (HOV.out _ (by first | exact D0 | (rename_i h5; exact h5.1))).mono ?_; rintro e w1 ⟨⟨A, y, B, hu, rfl⟩, hb1⟩; obtain ⟨i, hi⟩ : ∃ i, A.length = i := ⟨_, rfl⟩; have hin : i < n := (by have h1 := congrArg List.length hu.eq; rw [kns_len, HNN.out] at h1; simp at h1; omega); rw [hi]; have HU := Lib.hid (And.intro hu hi); clear hu hi))
  have hB1 : Below w0.heap.size w0 w1 := HB.out.trans (hb1.mono HB.out.size)
  have HB1 := Lib.hid hB1
  have HG1 := Lib.hid (HG.out.up hb1)
  obtain ⟨LA, k0, c0', LB, el, hAl, hlo, hhi, _⟩ := under_kids HC.out.2.2.1 HC.out.2.2.2.1 HU.out.1
  have hfk := frm_kk (k0 := k0) (c := c0') hlo hhi
  obtain ⟨L2, hL2⟩ : ∃ L2, (k0, c0') :: LB = L2 := ⟨_, rfl⟩
  rw [hL2] at el hfk
  rw [← el] at hfk
  obtain ⟨m, hm⟩ : ∃ m, L2.length = m := ⟨_, rfl⟩
  have hnm : n = i + m := by
    have h1 := congrArg List.length el
    rw [List.length_append, HNN.out, hm, ← hAl, HU.out.2] at h1
    exact h1
  have HCE : Hid (∀ j (hj : j < L2.length) W, Below w0.heap.size w0 W → ∀ t u, (KN.en ⟨(L2[j]).1, gb hh (L2[j]).2⟩)[t]? = some u → W.cell? ⟨q, i * 2 + j * 2 + t, none⟩ = some u) := fun j hj W hW t u hu => by
    have ht : t < 2 := by have := (List.getElem?_eq_some_iff.1 hu).1; rw [KN.en_len] at this; exact this
    have hij : i + j < (kns hh L).length := by rw [kns_len]; have := HNN.out; omega
    have h1 := (own_cell KN.en_len HC.out.1 hij ht).1
    have e1 : (kns hh L)[i + j] = ⟨(L2[j]).1, gb hh (L2[j]).2⟩ := by
      have hi2 : LA.length = i := by rw [← hAl, HU.out.2]
      subst el
      simp only [kns, List.getElem_map]
      rw [List.getElem_append_right (by omega)]
      simp only [hi2, Nat.add_sub_cancel_left]
    rw [e1, hu] at h1
    rw [show i * 2 + j * 2 + t = (i + j) * 2 + t by omega]
    exact (hW.cell (p := ⟨q, (i + j) * 2 + t, none⟩) hql).trans h1
  have HKD : Hid (∀ j (hj : j < L2.length), At hh R0 w0 (L2[j]).2 ∧ Kid hh (Ok hh) L2[j] ∧ Rise KV.k (kvs hh (L2[j]).2) ∧ (frs hh k (L2.take j)).length + (kvs hh (L2[j]).2).length ≤ (kk hh L).length) := fun j hj => by
    have hmem : L2[j] ∈ L := by rw [el]; exact List.mem_append_right _ (List.getElem_mem hj)
    have hr := HC.out.2.2.2.1
    have e2 : kk hh L = kk hh LA ++ (kk hh (L2.take j) ++ (kvs hh (L2[j]).2 ++ kk hh (L2.drop (j + 1)))) := by
      rw [el, kk_app]
      congr 1
      rw [← kk_cons, ← kk_app, ← List.drop_eq_getElem_cons hj, List.take_append_drop]
    refine ⟨HC.out.2.1 _ hmem, HC.out.2.2.1 _ hmem, ?_, ?_⟩
    · rw [e2] at hr
      exact (Rise.app.1 (Rise.app.1 (Rise.app.1 hr).2.1).2.1).1
    · rw [e2]
      have := frs_le hh k (L2.take j)
      simp only [List.length_append]
      omega
  have HT2 : Hid (tell most l (frs hh k L2) = T) := by
    show tell most l (frs hh k L2) = T
    rw [← hfk]; exact HT.out
  have HLL := Lib.hid HC.out.2.2.2.2
  have HM := Lib.hid hm
  have hn4 : n ≤ 4 := by have := HNB.out.2; have := HNN.out; omega
  clear hB1 hb1 el hAl hlo hhi hfk hL2 hm HU HC HNB HNN HCP HS D0 HOV c0 HB HG HT
  subst hnm
  have HSZ := Lib.hid (fun p q => szPair p q)
  have HUN := Lib.hid undKN
  go_wp2
  generalize hw1 : w1 = wo at *
  clear hw1
  have e0 : i + m - i = m := by omega
  rw [e0]
  go_loopw [28] (fun ii wr => ∃ j : Nat, j ≤ m ∧ ii = .int .i64 j ∧ Hid ((tell most l (frs hh k (L2.take j))).2 = true ∧ Gv wr w0.heap.size a b c most (l ++ frs hh k (L2.take j)) ∧ Below w0.heap.size w0 wr)) (fun ii _ => m - intN ii)
  case atStart => exact ⟨0, Nat.zero_le _, rfl, by rw [List.take_zero]; rfl, by rw [List.take_zero]; show Gv _ _ _ _ _ _ (l ++ []); rw [List.append_nil]; exact HG1.out, HB1.out⟩
  case round =>
    obtain ⟨j, hj, rfl, HR⟩ := hrel
    clear HG1 HB1
    by_cases hlt : j < m
    · have hjl : j < L2.length := by rw [HM.out]; exact hlt
      have hnxt : L2.take (j + 1) = L2.take j ++ [L2[j]] := (List.take_append_getElem hjl).symm
      have hce := HCE.out j hjl wr HR.out.2.2
      have hkd := HKD.out j hjl
      obtain ⟨y, hy⟩ : ∃ y, L2[j] = y := ⟨_, rfl⟩
      rw [hy] at hnxt hce hkd
      obtain ⟨ky, cy⟩ := y
      dsimp only at hce hkd
      have HNX : Hid (frs hh k (L2.take (j + 1)) = frs hh k (L2.take j) ++ frm k (kvs hh cy)) := by
        show frs hh k (L2.take (j + 1)) = _
        rw [hnxt, frs_app, frs_one]
      have HKJ := Lib.hid hkd
      obtain ⟨gy, hgy⟩ : ∃ gy, gb hh cy = gy := ⟨_, rfl⟩
      have HLD : Hid (∀ t u, (#[.string ky, .pointer (some ⟨gy, 0, none⟩)] : Array Value)[t]? = some u → wr.cell? ⟨q, i * 2 + j * 2 + t, none⟩ = some u) := fun t u hu => hce t u (by rw [hgy, ← hu]; simp [KN.en])
      clear hnxt hce hy hkd
      have HAL := Lib.hid (heap_alloc_new wr (.cells #[.string ⟨#[]⟩, .pointer none] 72))
      go_upto_region 5 with (first
        | (with_reducible refine wpList_load_at rfl 72 (.tmp 30) rfl q (i * 2 + j * 2) rfl #[.string ky, .pointer (some ⟨gy, 0, none⟩)] _ HLD.out HUN.out rfl (HSZ.out _ _) ?_)
        | (with_reducible refine wpList_store_at rfl 72 (.tmp 8) (.tmp 31) rfl wr.heap.size 0 #[.string ky, .pointer (some ⟨gy, 0, none⟩)] rfl rfl 72 #[.string ⟨#[]⟩, .pointer none] HAL.out (HSZ.out _ _) (by simp) (by simp [Value.oneCell']) ?_))
      rw [show (wr.alloc (.cells #[.string ⟨#[]⟩, .pointer none] 72)).setRow wr.heap.size (putRow #[.string ⟨#[]⟩, .pointer none] 0 [.string ky, .pointer (some ⟨gy, 0, none⟩)]) = wr.alloc (.cells #[.string ky, .pointer (some ⟨gy, 0, none⟩)] 72) from setRow_alloc wr _ _ _]
      have hW6 := heap_alloc_new wr (.cells #[.string ky, .pointer (some ⟨gy, 0, none⟩)] 72)
      have H6 : Hid ((tell most l (frs hh k (L2.take j))).2 = true ∧ Gv (wr.alloc (.cells #[.string ky, .pointer (some ⟨gy, 0, none⟩)] 72)) w0.heap.size a b c most (l ++ frs hh k (L2.take j)) ∧ Below w0.heap.size w0 (wr.alloc (.cells #[.string ky, .pointer (some ⟨gy, 0, none⟩)] 72))) := ⟨HR.out.1, HR.out.2.1.up ((Below.refl _ wr).alloc (Nat.le_refl _) _), HR.out.2.2.alloc HR.out.2.2.size _⟩
      generalize wr.alloc (.cells #[.string ky, .pointer (some ⟨gy, 0, none⟩)] 72) = w6 at *
      generalize wr.heap.size = nb at *
      have c61 : w6.cell? ⟨nb, 1, none⟩ = some (.pointer (some ⟨gy, 0, none⟩)) := (cell_of hW6 1).1
      obtain ⟨ka, ⟨kb1, kb2, kb3, _⟩, kc, kd⟩ := HKJ.out
      have hgi := ih w0 w6 R0 cy k a b c most (l ++ frs hh k (L2.take j)) ka kb3 (.inr kb1) kb2 kc H6.out.2.2 H6.out.2.1 (by rw [List.length_append]; have := HLL.out; omega)
      rw [hgy] at hgi
      obtain ⟨tr, htr⟩ : ∃ tr, tell most (l ++ frs hh k (L2.take j)) (frm k (kvs hh cy)) = tr := ⟨_, rfl⟩
      rw [htr] at hgi
      unfold FPost FV at hgi
      have HGI := Lib.hid hgi
      have HTS : Hid (tell most l (frs hh k (L2.take (j + 1))) = tr) := by
        show tell most l (frs hh k (L2.take (j + 1))) = tr
        rw [HNX.out, tell_app H6.out.1, htr]
      obtain ⟨tl, r⟩ := tr
      dsimp only at HGI
      clear HR HLD HAL hW6 hgi ka kb1 kb2 kb3 kc kd htr
      cases r
      · go_wp2_with (go_at_call 31; refine HGI.out.mono ?_; rintro e w7 ⟨rfl, g7, b7⟩)
        go_ret
        have h1 : (tell most l (frs hh k (L2.take (j + 1)))).2 = false := by rw [HTS.out]
        have h2 := tell_stop (B := frs hh k (L2.drop (j + 1))) h1
        rw [← frs_app, List.take_append_drop, HTS.out, HT2.out] at h2
        unfold FPost
        rw [h2]
        exact ⟨rfl, g7, b7⟩
      · go_wp2_with (go_at_call 31; refine HGI.out.mono ?_; rintro e w7 ⟨rfl, g7, b7⟩)
        have h1 : (tell most l (frs hh k (L2.take (j + 1)))).2 = true := by rw [HTS.out]
        have h2 := tell_go h1
        rw [HTS.out] at h2
        have h3 : tl = l ++ frs hh k (L2.take (j + 1)) := (Prod.mk.inj h2).1
        rw [h3] at g7
        have H7 := Lib.hid (And.intro h1 (And.intro g7 b7))
        clear h1 h2 h3 g7 b7 HTS HGI H6
        go_roundw
        case rel => exact ⟨j + 1, by omega, by go_num, H7.out⟩
        case measure => simp [intN]; omega
    · have hjm : j = m := by omega
      subst hjm
      have hT : L2.take j = L2 := by rw [← HM.out, List.take_length]
      have HF : Hid (T = (l ++ frs hh k L2, true) ∧ Gv wr w0.heap.size a b c most (l ++ frs hh k L2) ∧ Below w0.heap.size w0 wr) := by
        have h1 := HR.out
        rw [hT] at h1
        exact ⟨by rw [← HT2.out]; exact tell_go h1.1, h1.2⟩
      clear HR hT
      go_wp2
      go_ret
      unfold FPost
      rw [HF.out.1]
      exact ⟨rfl, HF.out.2⟩

theorem from_G : ∀ h, FromOK h
  | 0 => fun _ _ _ _ _ _ _ _ _ _ ha _ _ h4 hr hb hg hl => from_leaf ha h4 hr hb hg hl
  | h + 1 => from_node (from_G h)

/-- At most so many. -/
def cutM (most : Int) (l : List KV) : List KV := if most < 0 then l else l.take most.toNat
theorem tell_cut {most : Int} (h0 : most ≠ 0) : ∀ (xs l : List KV), (most < 0 ∨ (l.length : Int) < most) → (tell most l xs).1 = if most < 0 then l ++ xs else l ++ xs.take (most.toNat - l.length)
  | [], l, _ => by simp [tell]
  | y :: r, l, h => by
    rw [tell]
    split
    · rename_i he
      have : ¬ most < 0 := by omega
      rw [if_neg this, show most.toNat - l.length = 1 by omega]
      rfl
    · rename_i he
      rw [tell_cut h0 r (l ++ [y]) (by rcases h with h | h; exact .inl h; right; simp; omega)]
      split
      · simp
      · rename_i hn
        have hl : (l.length : Int) < most := by rcases h with h | h; exact absurd h hn; exact h
        rw [show most.toNat - l.length = (most.toNat - (l ++ [y]).length) + 1 by simp; omega, List.take_succ_cons]
        simp
theorem tell_nil {most : Int} (h0 : most ≠ 0) (xs : List KV) : (tell most [] xs).1 = cutM most xs := by
  rw [tell_cut h0 xs [] (by simp; omega)]
  unfold cutM
  simp

theorem rows_set {W w0 : World} {B a b n m : Nat} {u u' sk sv : Value} {l1 l2 : List Value} (ca : W.heap[a]? = some (.cells #[u] 27 (0, 0))) (cb : W.heap[b]? = some (.cells #[u'] 28 (0, 0)))
    (o1 : W.ownsRow B 9 1 sk n l1) (o2 : W.ownsRow B 35 2 sv m l2) (hb : B ≤ a ∧ B ≤ b) (bl : Below B w0 W) :
    Below B w0 ((W.setCell ⟨a, 0, none⟩ sk).setCell ⟨b, 0, none⟩ sv) ∧ ((W.setCell ⟨a, 0, none⟩ sk).setCell ⟨b, 0, none⟩ sv).ownsRow B 9 1 sk n l1 ∧ ((W.setCell ⟨a, 0, none⟩ sk).setCell ⟨b, 0, none⟩ sv).ownsRow B 35 2 sv m l2 ∧
      ((W.setCell ⟨a, 0, none⟩ sk).setCell ⟨b, 0, none⟩ sv).cell? ⟨a, 0, none⟩ = some sk ∧ ((W.setCell ⟨a, 0, none⟩ sk).setCell ⟨b, 0, none⟩ sv).cell? ⟨b, 0, none⟩ = some sv := by
  have hab := ne_ty ca cb (by decide)
  have h1 := heap_setCell_same W a 0 _ _ sk ca
  have h2 := (Below.heap_setCell W ⟨a, 0, none⟩ sk b hab.symm).trans cb
  have h3 := heap_setCell_same (W.setCell ⟨a, 0, none⟩ sk) b 0 _ _ sv h2
  have h4 := (Below.heap_setCell (W.setCell ⟨a, 0, none⟩ sk) ⟨b, 0, none⟩ sv a hab).trans h1
  have f : Fr B (fun _ => False) w0 W := Fr.of_below bl
  exact ⟨((f.setCell (p := ⟨a, 0, none⟩) (.inr hb.1) sk).setCell (p := ⟨b, 0, none⟩) (.inr hb.2) sv).toBelow (Nat.le_refl _) (fun _ e => e.elim),
    own_st (own_st o1 ca (by decide)) h2 (by decide), own_st (own_st o2 ca (by decide)) h2 (by decide), (cell_of h4 0).1, (cell_of h3 0).1⟩

set_option maxRecDepth 100000 in
set_option maxHeartbeats 4000000 in
theorem from_any (w : World) {p : Nat} {xs : List KV} {L : List Nat} (hT : TA w p xs L) (hx : xs.length ≤ 100000) (k : ByteArray) (most : Int) :
    Calls Try.prog 21 #[.pointer (some ⟨p, 0, none⟩), .string k, .int .i64 most] w fun e w' => ∃ sk sv, e = .returned (.tuple #[sk, sv]) ∧ Below w.heap.size w w' ∧
      w'.ownsRow w.heap.size 9 1 sk (cutM most (frm k xs)).length ((cutM most (frm k xs)).map keyV) ∧ w'.ownsRow w.heap.size 35 2 sv (cutM most (frm k xs)).length ((cutM most (frm k xs)).flatMap ridV) := by
  obtain ⟨bd, M, h1, h2, rfl, h3⟩ := hT.ex
  obtain ⟨h', g, ha, e1, hnd, ho, hc, h4, hkv, hM⟩ := h2.ex
  have hr : Rise KV.k (kvs h' g) := by rw [hkv]; exact h2.rise
  obtain ⟨w1, hw1⟩ : ∃ w1, ((w.alloc (.cells #[.int .i64 most] 3)).alloc (.cells #[.slice none 0 0] 27)).alloc (.cells #[.slice none 0 0] 28) = w1 := ⟨_, rfl⟩
  have hb1 : Below w.heap.size w w1 := hw1 ▸ (((Below.refl _ w).alloc (Nat.le_refl _) _).alloc (by rw [alloc_sz]; omega) _).alloc (by rw [alloc_sz, alloc_sz]; omega) _
  have n1 := alloc_sz w (.cells #[.int .i64 most] 3)
  have n2 := alloc_sz (w.alloc (.cells #[.int .i64 most] 3)) (.cells #[.slice none 0 0] 27)
  have hA : w1.heap[w.heap.size]? = some (.cells #[.int .i64 most] 3 (0, 0)) := by
    rw [← hw1, Below.heap_alloc _ _ _ (by omega), Below.heap_alloc _ _ _ (by omega)]
    exact heap_alloc_new w _
  have hB : w1.heap[w.heap.size + 1]? = some (.cells #[.slice none 0 0] 27 (0, 0)) := by
    rw [← hw1, Below.heap_alloc _ _ _ (by omega), ← n1]
    exact heap_alloc_new _ _
  have hC : w1.heap[w.heap.size + 1 + 1]? = some (.cells #[.slice none 0 0] 28 (0, 0)) := by
    rw [← hw1, ← n1, ← n2]
    exact heap_alloc_new _ _
  have hG : Gv w1 w.heap.size (w.heap.size + 1) (w.heap.size + 1 + 1) w.heap.size most [] := ⟨⟨by omega, by omega, by omega⟩, hA, _, _, hB, hC, World.ownsRow_nil _ _ _ _, World.ownsRow_nil _ _ _ _⟩
  have HALL := Lib.hid (all_any w1 ((hb1.block p (Array.getElem?_eq_some_iff.1 h1).1).trans h1))
  have hF : ∀ W, Below w1.heap.size w1 W → Calls Try.prog 31 #[.pointer (some ⟨gb h' g, 0, none⟩), .string k, FV (w.heap.size + 1) (w.heap.size + 1 + 1) w.heap.size] W (FPost w.heap.size (w.heap.size + 1) (w.heap.size + 1 + 1) w.heap.size most w (tell most [] (frm k (kvs h' g)))) := fun W hW =>
    from_G h' w W (RB xs.length) g k _ _ _ most [] ha ho hc h4 hr (hb1.trans (hW.mono hb1.size)) (hG.up hW) (by rw [hkv]; simpa using hx)
  rw [hkv, e1] at hF
  clear ha e1 hnd ho hc h4 hkv hM h1 h2 h3 hr hT n1 n2
  have qb0 := (cell_of hB 0).1
  have qc0 := (cell_of hC 0).1
  have qb1 := (cell_of hB 0).2
  have qc1 := (cell_of hC 0).2
  have qa0 := (cell_of hA 0).1
  have HG := Lib.hid hG
  have HB1 := Lib.hid hb1
  go_enter Try.func21, Try.ntmps21
  by_cases h0 : most = 0
  · subst h0
    have hf := rows_set hB hC (World.ownsRow_nil w1 w.heap.size 9 1) (World.ownsRow_nil w1 w.heap.size 35 2) ⟨by omega, by omega⟩ hb1
    clear hF HALL hA hB hC hG HG hb1 HB1
    go_upto_region 1 with (fail)
    clear hw1
    generalize hN : w.heap.size = N at *
    have HN := Lib.hid hN
    clear hN
    have HF := Lib.hid (And.intro hf.1 (And.intro hf.2.1 hf.2.2.1))
    have q0 := hf.2.2.2.1
    have q1 := hf.2.2.2.2
    clear hf
    go_wp2
    rw [HN.out]
    refine bodyPost_ret (v := .tuple #[.slice none 0 0, .slice none 0 0]) ?_ rfl ⟨_, _, rfl, HF.out.1, ?_, ?_⟩
    · simp [results, Try.results21, go_sem, q0, q1]
    · simpa [cutM] using HF.out.2.1
    · simpa [cutM] using HF.out.2.2
  · have hz : (most == 0) = false := beq_eq_false_iff_ne.2 h0
    clear hG hA hB hC hb1
    go_upto_region 1 with (fail)
    clear hw1
    generalize hN : w.heap.size = N at *
    have HN := Lib.hid hN
    clear hN
    have hF2 : Hid (∀ W, Below w1.heap.size w1 W → Calls Try.prog 31 #[.pointer (some ⟨bd, 0, none⟩), .string k, .func (.func 32) #[] #[.pointer (some ⟨N + 1, 0, none⟩), .pointer (some ⟨N + 1 + 1, 0, none⟩), .pointer (some ⟨N, 0, none⟩)]] W (FPost N (N + 1) (N + 1 + 1) N most w (tell most [] (frm k xs)))) := hF
    clear hF
    go_upto_region 4 with (first
      | (go_at_call 25; refine HALL.out.mono ?_; rintro e w2 ⟨rfl, hb2⟩)
      | (go_at_call 31; refine (hF2.out _ hb2).mono ?_; rintro e w3 ⟨rfl, g3, b3⟩))
    rw [tell_nil h0] at g3
    obtain ⟨_, _, sk, sv, ca, cb, o1, o2⟩ := g3
    obtain ⟨A1, p1, rfl⟩ := own_shape o1
    obtain ⟨A2, p2, rfl⟩ := own_shape o2
    generalize hll : cutM most (frm k xs) = ll at *
    have HLL := Lib.hid hll
    clear hll
    have hf := rows_set (w0 := w) (W := w3) ca cb o1 o2 ⟨by omega, by omega⟩ b3
    have ra : w3.cell? ⟨N + 1, 0, none⟩ = some (.slice A1 ll.length p1) := (cell_of ca 0).1
    have rb : w3.cell? ⟨N + 1 + 1, 0, none⟩ = some (.slice A2 ll.length p2) := (cell_of cb 0).1
    have ra1 := (cell_of ca 0).2
    have rb1 := (cell_of cb 0).2
    have hsb : (w3.setCell ⟨N + 1, 0, none⟩ (.slice A1 ll.length p1)).cell? ⟨N + 1 + 1, 0, none⟩ = some (.slice A2 ll.length p2) := by
      have := (Below.heap_setCell w3 ⟨N + 1, 0, none⟩ (.slice A1 ll.length p1) (N + 1 + 1) (by dsimp only; omega)).trans cb
      exact (cell_of this 0).1
    have HF := Lib.hid (And.intro hf.1 (And.intro hf.2.1 hf.2.2.1))
    have q0 := hf.2.2.2.1
    have q1 := hf.2.2.2.2
    clear hf o1 o2 ca cb b3 hb2 hF2 HALL qa0 qb0 qc0 qb1 qc1 HG HB1
    go_region
    go_wp2
    rw [HN.out, HLL.out]
    refine bodyPost_ret (v := .tuple #[.slice A1 ll.length p1, .slice A2 ll.length p2]) ?_ rfl ⟨_, _, rfl, HF.out.1.drew, own_same HF.out.2.1 (fun _ _ => rfl), own_same HF.out.2.2 (fun _ _ => rfl)⟩
    simp [results, Try.results21, go_sem, q0, q1]
end Go.Proofs.Ytejbbojephiifaa
