/- tree: from, of a tree of whatever height. -/
import Derived.Test.YtejbbojephiifaaTeE
namespace Go.Proofs.Ytejbbojephiifaa
open Go.RowKit

/-- Keys are told, till there are as many as wanted. -/
def tell (most : Int) : List KV → List KV → List KV × Bool
  | l, [] => (l, true)
  | l, y :: r => if (l.length : Int) + 1 = most then (l ++ [y], false) else tell most (l ++ [y]) r
theorem tell_go {most : Int} : ∀ {A l : List KV}, (tell most l A).2 = true → tell most l A = (l ++ A, true)
  | [], l, _ => by simp [tell]
  | y :: A, l, h => by
    rw [tell] at h ⊢
    split at h
    · cases h
    · rename_i hn
      rw [if_neg hn, tell_go h]
      simp
theorem tell_app {most : Int} : ∀ {A l B : List KV}, (tell most l A).2 = true → tell most l (A ++ B) = tell most (l ++ A) B
  | [], l, B, _ => by simp
  | y :: A, l, B, h => by
    rw [tell] at h
    split at h
    · cases h
    · rename_i hn
      rw [List.cons_append, tell, if_neg hn, tell_app h]
      simp
theorem tell_stop {most : Int} : ∀ {A l B : List KV}, (tell most l A).2 = false → tell most l (A ++ B) = tell most l A
  | [], l, B, h => by cases h
  | y :: A, l, B, h => by
    rw [List.cons_append, tell, tell]
    rw [tell] at h
    split at h
    · rename_i hn
      rw [if_pos hn, if_pos hn]
    · rename_i hn
      rw [if_neg hn, if_neg hn]
      exact tell_stop h
theorem tell_step (most : Int) (l : List KV) (y : KV) : tell most l [y] = (l ++ [y], !((l.length : Int) + 1 == most)) := by
  rw [tell]
  split
  · rename_i h; simp [h]
  · rename_i h
    have : ((l.length : Int) + 1 == most) = false := beq_eq_false_iff_ne.2 h
    rw [this]; rfl
theorem frm_hi0 {k : ByteArray} {B : List KV} (h : ∀ y ∈ B, bL k y.k = true) : frm k B = B := by
  have := frm_hi (A := []) (k := k) h
  simpa [frm] using this
/-- The closure that From hands over. -/
def FV (a b c : Nat) : Value := .func (.func 32) #[] #[.pointer (some ⟨a, 0, none⟩), .pointer (some ⟨b, 0, none⟩), .pointer (some ⟨c, 0, none⟩)]
/-- What from leaves. -/
def FPost (B a b c : Nat) (most : Int) (w0 : World) (t : List KV × Bool) (e : Ending) (w' : World) : Prop := e = .returned (.bool t.2) ∧ Gv w' B a b c most t.1 ∧ Below B w0 w'

theorem Gv.up {w w' : World} {B a b c : Nat} {most : Int} {l : List KV} (h : Gv w B a b c most l) (hb : Below w.heap.size w w') : Gv w' B a b c most l := by
  obtain ⟨h1, h2, sk, sv, h3, h4, h5, h6⟩ := h
  have lt : ∀ {q : Nat} {o : Obj}, w.heap[q]? = some o → w'.heap[q]? = some o := fun {q _} hq => (hb.block q (Array.getElem?_eq_some_iff.1 hq).1).trans hq
  exact ⟨h1, lt h2, sk, sv, lt h3, lt h4, own_up h5 hb, own_up h6 hb⟩
theorem own_cap {w : World} {B k n cp : Nat} {e : TypeId} {A : Option Addr} {xs : List Value} (h : w.ownsRow B e k (.slice A n cp) n xs) : n ≤ cp ∧ cp ≤ maxLen ∧ (A = none → n = 0 ∧ cp = 0) ∧ ∀ q, A = some q → q.off = 0 ∧ q.spot = none := by
  rcases h.2 with ⟨h2, h3⟩ | ⟨g, cap, cur, h2, _, _, h4, h5, _⟩
  · cases h2
    exact ⟨by omega, by unfold maxLen; omega, fun _ => ⟨h3, rfl⟩, fun q e => by cases e⟩
  · cases h2
    exact ⟨h4, h5, fun e => (by cases e), fun q e => by cases e; exact ⟨rfl, rfl⟩⟩
theorem enA (y : KV) : y.en.toArray = #[.string y.k, .int .i64 y.p, .int .i64 y.c] := rfl
set_option maxRecDepth 100000 in
set_option maxHeartbeats 4000000 in
theorem from_leaf {w0 w : World} {R : Rest} {g : G 0} {k : ByteArray} {a b c : Nat} {most : Int} {l : List KV} (ha : At 0 R w0 g) (h4 : cnt 0 g ≤ 4) (hr : Rise KV.k (kvs 0 g)) (hb : Below w0.heap.size w0 w) (hg : Gv w w0.heap.size a b c most l) (hl : l.length + (kvs 0 g).length ≤ 100000) :
    Calls Try.prog 31 #[.pointer (some ⟨gb 0 g, 0, none⟩), .string k, FV a b c] w (FPost w0.heap.size a b c most w0 (tell most l (frm k (kvs 0 g)))) := by
  obtain ⟨b0, v, xs⟩ : Lf := g
  have hp0 : PAP w0 b0 R v xs := ha
  have hri : Rise KV.k xs := hr
  have hx4 : xs.length ≤ 4 := h4
  have hl' : l.length + xs.length ≤ 100000 := hl
  have hp := hp0.below hb
  obtain ⟨A, B, is, hs⟩ := stand_ex k hri
  have HLE := Lib.hid (leafP_any w hp)
  have HFI := Lib.hid (find_leaf hp (by omega) hri hs)
  have hfr : frm k xs = B := by
    cases is with
    | false => exact (Stand.ins_no (x := ⟨k, 0, 0⟩) hs).2.2.2.2
    | true => obtain ⟨y, r, _, _, _, _, _, _, e⟩ := Stand.ins_yes (x := ⟨k, 0, 0⟩) hs; exact e
  have el := hs.eq
  obtain ⟨A0, cp0, hv⟩ := own_shape hp.own
  subst hv
  have hbl := hp.lt
  have HP := Lib.hid (And.intro hp hp0)
  have HB := Lib.hid hb
  have HG := Lib.hid hg
  show Calls Try.prog 31 #[.pointer (some ⟨b0, 0, none⟩), .string k, FV a b c] w (FPost w0.heap.size a b c most w0 (tell most l (frm k xs)))
  rw [hfr]
  have hN : xs.length = A.length + B.length := by rw [el]; simp
  have HEL := Lib.hid el
  have hcp := own_cap HP.out.1.own
  clear hp hs hfr el ha h4 hr hb hg hl hp0
  have c0 : w.cell? ⟨b0, 0, none⟩ = some (.slice A0 xs.length cp0) := HP.out.1.at_.c0
  have HXL := Lib.hid (And.intro hN (And.intro hx4 hl'))
  obtain ⟨n, hn⟩ : ∃ n, xs.length = n := ⟨_, rfl⟩
  rw [hn] at c0 HFI hcp
  have HCP := Lib.hid hcp
  clear hN hx4 hl' hcp
  unfold FV
  go_enter Try.func31, Try.ntmps31
  have HNN := Lib.hid hn
  clear hn
  go_upto_region 10 with (first
    | (go_at_call 37; refine HLE.out.mono ?_; rintro e w' ⟨rfl, hw⟩; obtain rfl := hw.symm; clear hw)
    | (go_at_call 39; refine (HFI.out _ (Below.refl _ _)).mono ?_; rintro e w1 ⟨rfl, hb1⟩))
  have c1 : w1.cell? ⟨b0, 0, none⟩ = some (.slice A0 n cp0) := (hb1.cell (p := ⟨b0, 0, none⟩) hbl).trans c0
  have hB1 : Below w0.heap.size w0 w1 := HB.out.trans (hb1.mono HB.out.size)
  have hG1 : Gv w1 w0.heap.size a b c most l := HG.out.up hb1
  have HB1 := Lib.hid hB1
  have HG1 := Lib.hid hG1
  clear hb1 hB1 hG1 c0 HLE HFI HB HG hbl hri
  cases B with
  | nil =>
    have hN2 : A.length = n := by have := HXL.out.1; have := HNN.out; simp at *; omega
    have hcp1 := HCP.out.1
    have hcp2 := HCP.out.2.1
    have hmx : (maxLen : Int) = 9223372036854775807 := rfl
    rw [hN2]
    go_wp2
    all_goals
      go_loop [55] (fun i => i = .int .i64 0) (fun _ => 0)
      case atStart => rfl
      case round =>
        obtain rfl := hrel
        go_wp2
        go_ret
        exact ⟨rfl, HG1.out, HB1.out⟩
  | cons y0 B' =>
    have hm0 : 0 < (y0 :: B').length := by simp
    generalize y0 :: B' = L2 at *
    obtain ⟨q, cp, hv, _, hql⟩ := HP.out.2.own.form (by have := HXL.out.1; omega)
    cases hv
    obtain ⟨i, hi⟩ : ∃ i, A.length = i := ⟨_, rfl⟩
    obtain ⟨m, hm⟩ : ∃ m, L2.length = m := ⟨_, rfl⟩
    have hn : n = i + m := by have := HXL.out.1; have := HNN.out; omega
    have hx4 : n ≤ 4 := by have := HXL.out.2.1; have := HNN.out; omega
    have hlen : l.length + n ≤ 100000 := by have := HXL.out.2.2; have := HNN.out; omega
    have hcp1 := HCP.out.1
    have hcp2 : cp0 ≤ 9223372036854775807 := HCP.out.2.1
    have HCE : Hid (∀ j (h : j < L2.length) W, Below w0.heap.size w0 W → ∀ t u, (L2[j]).en[t]? = some u → W.cell? ⟨q, i * 3 + j * 3 + t, none⟩ = some u) := fun j h W hW t u hu => by
      have ht : t < 3 := by have := (List.getElem?_eq_some_iff.1 hu).1; rw [KV.en_len] at this; exact this
      have hij : i + j < xs.length := by have := HXL.out.1; omega
      have h1 := (own_cell KV.en_len HP.out.2.own hij ht).1
      have e1 : xs[i + j] = L2[j] := by
        have := HEL.out
        subst this
        rw [List.getElem_append_right (by omega)]
        congr 1
        omega
      rw [e1, hu] at h1
      rw [show i * 3 + j * 3 + t = (i + j) * 3 + t by omega]
      exact (hW.cell (p := ⟨q, (i + j) * 3 + t, none⟩) hql).trans h1
    rw [hm] at hm0
    have HM := Lib.hid (And.intro hi hm)
    have HG0 : Hid ((tell most l (L2.take 0)).2 = true) := by rw [List.take_zero]; rfl
    rw [hi]
    clear HP HXL HEL HCP HNN hi hm
    subst hn
    go_wp2
    clear c1
    generalize hw1 : w1 = wo at *
    clear hw1
    go_loopw [55] (fun ii wr => ∃ j : Nat, j ≤ m ∧ ii = .int .i64 j ∧ Hid ((tell most l (L2.take j)).2 = true ∧ Gv wr w0.heap.size a b c most (l ++ L2.take j) ∧ Below w0.heap.size w0 wr)) (fun ii _ => m - intN ii)
    case atStart => exact ⟨0, Nat.zero_le _, rfl, HG0.out, by rw [List.take_zero, List.append_nil]; exact HG1.out, HB1.out⟩
    case round =>
      obtain ⟨j, hj, rfl, HR⟩ := hrel
      clear HG0 HG1 HB1
      by_cases hlt : j < m
      · have hjl : j < L2.length := by rw [HM.out.2]; exact hlt
        have HSZ : Hid (∀ y : KV, (Try.prog.info? 78).map (·.size) = some (#[.string y.k, .int .i64 y.p, .int .i64 y.c] : Array Value).size) := fun y => atKV y
        have HU := Lib.hid undKV
        have hnxt : L2.take (j + 1) = L2.take j ++ [L2[j]] := (List.take_append_getElem hjl).symm
        have hce := HCE.out j hjl wr HR.out.2.2
        obtain ⟨y, hy⟩ : ∃ y, L2[j] = y := ⟨_, rfl⟩
        rw [hy] at hnxt hce
        have HNX := Lib.hid hnxt
        have HLD : Hid (∀ t u, (#[.string y.k, .int .i64 y.p, .int .i64 y.c] : Array Value)[t]? = some u → wr.cell? ⟨q, i * 3 + j * 3 + t, none⟩ = some u) := fun t u hu => hce t u (by rw [← hu]; simp [KV.en])
        clear hnxt hce hy
        have HAL := Lib.hid (heap_alloc_new wr (.cells #[.string ⟨#[]⟩, .int .i64 0, .int .i64 0] 78))
        go_upto_region 13 with (first
          | (with_reducible refine wpList_load_at rfl 78 (.tmp 57) rfl q (i * 3 + j * 3) rfl #[.string y.k, .int .i64 y.p, .int .i64 y.c] _ HLD.out HU.out rfl (HSZ.out y) ?_)
          | (with_reducible refine wpList_store_at rfl 78 (.tmp 12) (.tmp 58) rfl wr.heap.size 0 #[.string y.k, .int .i64 y.p, .int .i64 y.c] rfl rfl 78 #[.string ⟨#[]⟩, .int .i64 0, .int .i64 0] HAL.out (HSZ.out y) (by simp) (by simp [Value.oneCell']) ?_))
        rw [show (wr.alloc (.cells #[.string ⟨#[]⟩, .int .i64 0, .int .i64 0] 78)).setRow wr.heap.size (putRow #[.string ⟨#[]⟩, .int .i64 0, .int .i64 0] 0 [.string y.k, .int .i64 y.p, .int .i64 y.c]) = wr.alloc (.cells #[.string y.k, .int .i64 y.p, .int .i64 y.c] 78) from setRow_alloc wr _ _ _]
        have hW6 := heap_alloc_new wr (.cells #[.string y.k, .int .i64 y.p, .int .i64 y.c] 78)
        have H6 : Hid ((tell most l (L2.take j)).2 = true ∧ Gv (wr.alloc (.cells #[.string y.k, .int .i64 y.p, .int .i64 y.c] 78)) w0.heap.size a b c most (l ++ L2.take j) ∧ Below w0.heap.size w0 (wr.alloc (.cells #[.string y.k, .int .i64 y.p, .int .i64 y.c] 78))) := ⟨HR.out.1, HR.out.2.1.up ((Below.refl _ wr).alloc (Nat.le_refl _) _), HR.out.2.2.alloc HR.out.2.2.size _⟩
        generalize wr.alloc (.cells #[.string y.k, .int .i64 y.p, .int .i64 y.c] 78) = w6 at *
        generalize wr.heap.size = nb at *
        have c60 : w6.cell? ⟨nb, 0, none⟩ = some (.string y.k) := (cell_of hW6 0).1
        have HLR : Hid (∀ t u, (#[.int .i64 y.p, .int .i64 y.c] : Array Value)[t]? = some u → w6.cell? ⟨nb, 1 + t, none⟩ = some u) := fun t u hu => by
          rw [(cell_of hW6 (1 + t)).1]
          match t, hu with
          | 0, hu => exact hu
          | 1, hu => exact hu
        have HUR := Lib.hid undRID
        have HSR := Lib.hid (szRIDz y.p y.c)
        have hll : (l ++ L2.take j).length ≤ 100000 := by rw [List.length_append, List.length_take]; have := HM.out.2; omega
        have hgi := give_any H6.out.2.1 y hll H6.out.2.2.size
        obtain ⟨r, hr⟩ : ∃ r, (((l ++ L2.take j).length : Int) + 1 == most) = r := ⟨_, rfl⟩
        rw [hr] at hgi
        have HGI := Lib.hid hgi
        have HTS : Hid (tell most l (L2.take (j + 1)) = (l ++ L2.take (j + 1), !r)) := by
          show tell most l (L2.take (j + 1)) = _
          rw [HNX.out, tell_app H6.out.1, tell_step, hr, List.append_assoc]
        clear HR HLD HAL hW6 hll hgi hr
        cases r
        · go_wp2_with (first
            | (with_reducible refine wpList_load_at rfl 35 (.tmp 62) rfl nb 1 rfl #[.int .i64 y.p, .int .i64 y.c] _ HLR.out HUR.out rfl HSR.out ?_)
            | (go_at_call 32; refine HGI.out.mono ?_; rintro e w7 ⟨rfl, g7, b7⟩))
          have H7 : Hid ((tell most l (L2.take (j + 1))).2 = true ∧ Gv w7 w0.heap.size a b c most (l ++ L2.take (j + 1)) ∧ Below w0.heap.size w0 w7) := by
            refine ⟨by rw [HTS.out]; rfl, ?_, H6.out.2.2.trans b7⟩
            rw [HNX.out, ← List.append_assoc]; exact g7
          clear g7 b7 H6 HTS HGI HLR
          go_roundw
          case rel => exact ⟨j + 1, by omega, by go_num, H7.out⟩
          case measure => simp [intN]; omega
        · go_wp2_with (first
            | (with_reducible refine wpList_load_at rfl 35 (.tmp 62) rfl nb 1 rfl #[.int .i64 y.p, .int .i64 y.c] _ HLR.out HUR.out rfl HSR.out ?_)
            | (go_at_call 32; refine HGI.out.mono ?_; rintro e w7 ⟨rfl, g7, b7⟩))
          go_ret
          have e9 : tell most l L2 = (l ++ L2.take (j + 1), false) := by
            have h1 : (tell most l (L2.take (j + 1))).2 = false := by rw [HTS.out]; rfl
            have h2 := tell_stop (B := L2.drop (j + 1)) h1
            rw [List.take_append_drop, HTS.out] at h2
            exact h2
          unfold FPost
          rw [e9]
          refine ⟨rfl, ?_, H6.out.2.2.trans b7⟩
          show Gv w7 w0.heap.size a b c most (l ++ L2.take (j + 1))
          rw [HNX.out, ← List.append_assoc]; exact g7
      · have hjm : j = m := by omega
        subst hjm
        have hT : L2.take j = L2 := by rw [← HM.out.2, List.take_length]
        have HF : Hid (tell most l L2 = (l ++ L2, true) ∧ Gv wr w0.heap.size a b c most (l ++ L2) ∧ Below w0.heap.size w0 wr) := by
          have h1 := HR.out
          rw [hT] at h1
          exact ⟨tell_go h1.1, h1.2⟩
        clear HR hT
        go_wp2
        go_ret
        unfold FPost
        rw [HF.out.1]
        exact ⟨rfl, HF.out.2⟩
end Go.Proofs.Ytejbbojephiifaa
