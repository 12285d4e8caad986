/- Arm, Power, Copy, New of the two disks. -/
import Derived.Test.YtliakndgbfbicaaPair
import Derived.Test.YtliakndgbfbicaaRnew
namespace Go.Proofs.Ytliakndgbfbicaa
open Go.RowKit Go.Maps

set_option maxRecDepth 100000 in
theorem arm_pos2 (w : World) {p bn bo g gs : Nat} {d : Dk} (h : DiskAt w p bn bo g d) (n : Int) (hn : 0 ≤ n) (hn2 : n ≤ 9223372036854775807) {sv : Value} {ms : List Int} (hs : SlB w sv ms gs) (hgs : gs ≠ p) (hz : sv = .slice none 0 0 ∨ ∃ a n c, sv = .slice (some a) n c) (hb : bytesOk ms) :
    Calls Try.prog 13 #[.pointer (some ⟨p, 0, none⟩), .int .i64 n, sv] w fun e w' => e = .returned (.tuple #[]) ∧ ∃ mv g', DiskAt w' p bn bo g' (d.armed n mv ms) ∧ (mv = .slice none 0 0 ∨ ∃ a n c, mv = .slice (some a) n c) ∧ w.heap.size ≤ g' ∧ Fr w.heap.size (Three p bn bo) w w' := by
  have c4 := h.c4
  have c5 := h.c5
  have c6 := h.c6
  have f4 := h.fz 4
  have f5 := h.fz 5
  have f6 := h.fz 6
  have hp := h.lt.1
  have hU : DiskAt (((w.setCell ⟨p, 4, none⟩ (.bool false)).setCell ⟨p, 5, none⟩ (.int .i64 0)).setCell ⟨p, 6, none⟩ (.slice none 0 0)) p bn bo g d.unarmed := put_armed h false (n := 0) (by omega) (by omega) h.ne.2.2.2 (nil_SlB _ _) (by unfold bytesOk; simp)
  have hF := fr_armed (v1 := .bool false) (v2 := .int .i64 0) (v3 := .slice none 0 0) (Fr.refl w.heap.size (Three p bn bo) w)
  have hS : SlB (((w.setCell ⟨p, 4, none⟩ (.bool false)).setCell ⟨p, 5, none⟩ (.int .i64 0)).setCell ⟨p, 6, none⟩ (.slice none 0 0)) sv ms gs := ((hs.poke hgs).poke hgs).poke hgs
  have HC := Lib.hid (clone_any2 _ hS hz)
  have HU := Lib.hid hU
  have HF := Lib.hid hF
  clear hS hs hU hF
  go_enter Try.func13, Try.ntmps13
  go_wp2_with (go_at_call 29; refine HC.out.mono ?_; rintro e w1 ⟨p1, k1, g', rfl, hm1, hg1, hb1, hnn⟩; have HNN := Lib.hid hnn; clear hnn; have h1 := HU.out.kept (fun k hk => hb1.block k hk); have d4 := h1.c4; have d5 := h1.c5; have d6 := h1.c6; have e4 := h1.fz 4; have e5 := h1.fz 5; have e6 := h1.fz 6)
  go_end0
  have hw := HF.out.size
  have hz1 : w.heap.size ≤ w1.heap.size := by have := hb1.size; simp at this; omega
  have hg2 : w.heap.size ≤ g' := by simpa using hg1
  refine ⟨rfl, _, g', put_armed h1 true hn hn2 (by omega) hm1 hb, ?_, hg2, fr_armed (HF.out.trans (below_fr (S := Three p bn bo) hb1) hw (fun _ _ h => h))⟩
  cases p1 with
  | none => obtain ⟨q1, q2⟩ := HNN.out rfl; exact Or.inl (by rw [q1, q2])
  | some a => exact Or.inr ⟨a, _, _, rfl⟩

section
variable {B : Nat} {W : World} {p bn bo g r gn gw gt gm : Nat} {vn vw vt : Value} {d : Dk} {f : Rf}

theorem power_inv (h : Pr B W p bn bo g r gn gw gt gm vn vw vt d f) : Inv B ((W.setCell ⟨p, 3, none⟩ (.bool false)).setCell ⟨r, 3, none⟩ (.bool false)) p r ∧ Below B W ((W.setCell ⟨p, 3, none⟩ (.bool false)).setCell ⟨r, 3, none⟩ (.bool false)) := by
  have f1 := fr_poke W.heap.size p (Three p bn bo) (Or.inl rfl) W 3 (.bool false)
  have h1 : DiskAt (W.setCell ⟨p, 3, none⟩ (.bool false)) p bn bo g { d with dead := false } := h.dk.poke 3 _ rfl rfl rfl h.dk.mask ⟨h.dk.ok.lo, h.dk.ok.hi, h.dk.ok.now, h.dk.ok.old, h.dk.ok.llo, h.dk.ok.lhi, h.dk.ok.mok⟩
  have hr := h.rf' f1
  have f2 := fr_poke (W.setCell ⟨p, 3, none⟩ (.bool false)).heap.size r (Four r gn gw gt) (Or.inl rfl) (W.setCell ⟨p, 3, none⟩ (.bool false)) 3 (.bool false)
  have h2 : RfAt ((W.setCell ⟨p, 3, none⟩ (.bool false)).setCell ⟨r, 3, none⟩ (.bool false)) r gn gw gt gm vn vw vt { f with off := false } := hr.poke 3 _ rfl rfl rfl rfl rfl hr.mask hr.ok hr.mok
  refine ⟨(h.both h1 h2 f2 (like_power h.like) (fun e => e) (fun e => e) h.mv).inv, ?_⟩
  exact ((Below.refl B W).setCell (p := ⟨p, 3, none⟩) h.lo.1 _).setCell (p := ⟨r, 3, none⟩) h.lo.2.2.2.1 _

/-- The reference's disk behind an operation on the disk: where there are no tiles its rows lie beyond all that is there. -/
theorem Pr.again (h : Pr B W p bn bo g r gn gw gt gm vn vw vt d f) {w1 : World} (f1 : Fr W.heap.size (Three p bn bo) W w1) (hB : B ≤ W.heap.size) :
    ∃ a b c, RfAt w1 r a b c gm vn vw vt f ∧ (∀ y, y < w1.heap.size → y ≠ r → (W.heap.size ≤ y ∨ Three p bn bo y) → ¬ Four r a b c y) ∧ (B ≤ a ∧ B ≤ b ∧ B ≤ c) ∧ (0 < f.k → a < W.heap.size ∧ b < W.heap.size ∧ c < W.heap.size ∧ ∀ x, Three p bn bo x → x ≠ a ∧ x ≠ b ∧ x ≠ c) := by
  have hr := h.rf' f1
  have hsz := f1.size
  have hrs := h.size
  obtain ⟨l1, l2, l3, l4, l5, l6, l7⟩ := h.lo
  rcases Nat.eq_zero_or_pos f.k with hk | hk
  · have n7 := hr.ne.2.2.2.2.2.2.1
    refine ⟨w1.heap.size + gm + 1, w1.heap.size + gm + 2, w1.heap.size + gm + 3, hr.anew hk hr.mask ⟨by omega, by omega, by omega, by omega, by omega, by omega, n7, by omega, by omega, by omega⟩, fun y hy hyr _ => ?_, ⟨by omega, by omega, by omega⟩, fun e => by omega⟩
    rintro (e | e | e | e)
    · exact hyr e
    · omega
    · omega
    · omega
  · have z1 := (h.rf.now hk).lt
    have z2 := (h.rf.was hk).lt
    have z3 := (h.rf.wet hk).lt
    refine ⟨gn, gw, gt, hr, fun y hy hyr hor => ?_, ⟨l5, l6, l7⟩, fun _ => ⟨z1, z2, z3, fun x hx => ?_⟩⟩
    · rcases hor with hor | hor
      · rintro (e | e | e | e)
        · exact hyr e
        · omega
        · omega
        · omega
      · exact (h.ap y hor).1
    · have := (h.ap x hx).1
      exact ⟨fun e => this (Or.inr (Or.inl e)), fun e => this (Or.inr (Or.inr (Or.inl e))), fun e => this (Or.inr (Or.inr (Or.inr e)))⟩

theorem arm_pair (h : Pr B W p bn bo g r gn gw gt gm vn vw vt d f) (hB : B ≤ W.heap.size) (n : Int) (n1 : n ≤ 9223372036854775807) {p0 : Option Addr} {len cap : Nat} {ms : List Int} {gs : Nat} (hs : SlB W (.slice p0 len cap) ms gs) (hok : bytesOk ms)
    (hz : p0 = none → len = 0 ∧ cap = 0) (h3 : ¬ Three p bn bo gs) :
    Calls Try.prog 13 #[.pointer (some ⟨p, 0, none⟩), .int .i64 n, .slice p0 len cap] W fun e w1 => e = .returned (.tuple #[]) ∧ Fr W.heap.size (Three p bn bo) W w1 ∧
      Calls Try.prog 14 #[.pointer (some ⟨r, 0, none⟩), .int .i64 n, .slice p0 len cap] w1 fun e2 w2 => e2 = .returned (.tuple #[]) ∧ Below B w1 w2 ∧ Inv B w2 p r := by
  have hlen : len = ms.length := by obtain ⟨_, _, _, e, e2, _⟩ := hs; injection e with e1 e3 e4; omega
  have hle : ms.length ≤ 1000000 := by obtain ⟨_, _, _, e, e2, _, e5, _⟩ := hs; injection e with e1 e3 e4; omega
  have hl := h.dk.lt
  have hrs : r < W.heap.size := h.size
  obtain ⟨l1, l2, l3, l4, l5, l6, l7⟩ := h.lo
  -- the end, behind whatever the disk's Arm has left
  have hE : ∀ (w1 : World) (d' : Dk) (g1 : Nat), DiskAt w1 p bn bo g1 d' → Fr W.heap.size (Three p bn bo) W w1 → (d'.mask ≠ [] → W.heap.size ≤ g1) → (∀ mv, Like d' (f.armed n mv ms)) → (d'.mv = .slice none 0 0 ∨ ∃ a n c, d'.mv = .slice (some a) n c) →
      Calls Try.prog 14 #[.pointer (some ⟨r, 0, none⟩), .int .i64 n, .slice p0 len cap] w1 fun e2 w2 => e2 = .returned (.tuple #[]) ∧ Below B w1 w2 ∧ Inv B w2 p r := by
    intro w1 d' g1 h1 f1 hg1 hL hmv
    have hsz := f1.size
    obtain ⟨a, b, c, hr, hfo, ⟨b1, b2, b3⟩, hk⟩ := h.again f1 hB
    have hs1 := hs.fr f1 h3
    have hR : Calls Try.prog 14 #[.pointer (some ⟨r, 0, none⟩), .int .i64 n, .slice p0 len cap] w1 fun e w' => ∃ mv a' b' c' g', e = .returned (.tuple #[]) ∧ RfAt w' r a' b' c' g' vn vw vt (f.armed n mv ms) ∧ (a' = a ∨ w1.heap.size ≤ a') ∧ (b' = b ∨ w1.heap.size ≤ b') ∧ (c' = c ∨ w1.heap.size ≤ c') ∧ w1.heap.size ≤ g' ∧ Fr w1.heap.size (Four r a b c) w1 w' := by
      cases p0 with
      | none =>
        obtain ⟨rfl, rfl⟩ := hz rfl
        obtain rfl : ms = [] := List.length_eq_zero_iff.1 hlen.symm
        exact rarm_nil hr n n1
      | some ad =>
        obtain ⟨ab, ao, asp⟩ := ad
        subst hlen
        exact rarm_some hr n n1 ab ao asp cap ms hle hok (fun hne => (hs1.parts hne).2.1) (fun j hj => by
          obtain ⟨q1, _, q3⟩ := hs1.parts (by intro e; rw [e] at hj; cases hj)
          simp only at q1 q3
          rw [q1]; exact q3 j hj)
    refine hR.mono ?_
    rintro e w2 ⟨mv, a', b', c', g', rfl, h2, ha, hb, hc, hg', f2⟩
    have hag : d'.mask ≠ [] → ¬ Four r a b c g1 := fun hm => hfo g1 (h1.mask.block_lt hm) (by have := hg1 hm; omega) (Or.inl (hg1 hm))
    have hsz2 := f2.size
    refine ⟨rfl, below_of_fr f2 ?_ (by omega), inv_of (h1.fr f2 (fun x hx => hfo x (by rcases hx with rfl | rfl | rfl <;> omega) (fun e => (h.ap x hx).1 (Or.inl e)) (Or.inr hx)) hag) h2 (hL mv) hmv ⟨l1, l2, l3, l4⟩ (fun x hx => ⟨fun e => (h.ap x hx).1 (Or.inl e), fun _ => by rcases hx with rfl | rfl | rfl <;> omega⟩) (fun hm => by have := hg1 hm; omega) ?_⟩
    · rintro x (rfl | rfl | rfl | rfl) <;> assumption
    · intro hk0
      obtain ⟨z1, z2, z3, hx⟩ := hk hk0
      refine ⟨⟨by omega, by omega, by omega⟩, fun x hx3 => ?_, fun hm => ?_⟩
      · obtain ⟨y1, y2, y3⟩ := hx x hx3
        have : x < W.heap.size := by rcases hx3 with rfl | rfl | rfl <;> omega
        exact ⟨by omega, by omega, by omega⟩
      · have := hg1 hm
        have := h1.mask.block_lt hm
        exact ⟨by omega, by omega, by omega⟩
  by_cases hn : n < 0
  · refine (arm_neg W h.dk n hn _).mono ?_
    rintro e w1 ⟨rfl, h1, f1⟩
    exact ⟨rfl, f1, hE w1 _ _ h1 f1 (fun e => absurd rfl e) (fun mv => like_unarm h.like hn mv ms) (Or.inl rfl)⟩
  · have hgp : gs ≠ p := fun e => h3 (Or.inl e)
    refine (arm_pos2 W h.dk n (by omega) n1 hs hgp (by cases p0 with
      | none => obtain ⟨rfl, rfl⟩ := hz rfl; exact Or.inl rfl
      | some a => exact Or.inr ⟨a, _, _, rfl⟩) hok).mono ?_
    rintro e w1 ⟨rfl, mv, g1, h1, hmv, hg1, f1⟩
    exact ⟨rfl, f1, hE w1 _ _ h1 f1 (fun _ => hg1) (fun mv' => like_arm h.like (by omega) mv mv' ms) hmv⟩

/-- A Write, whatever it answers. -/
theorem write_some (hD : DiskAt W p bn bo g d) (i : Int) {p0 : Option Addr} {len cap : Nat} {l : List Int} {gs : Nat} (hs : SlB W (.slice p0 len cap) l gs) (hok : bytesOk l) :
    Calls Try.prog 7 #[.pointer (some ⟨p, 0, none⟩), .int .i64 i, .slice p0 len cap] W fun e w1 => ∃ (er : Int) (d' : Dk), e = .returned (.int .i64 er) ∧ DiskAt w1 p bn bo g d' ∧ Fr W.heap.size (Three p bn bo) W w1 := by
  have hlen : len = l.length := by obtain ⟨_, _, _, e, e2, _⟩ := hs; injection e with e1 e3 e4; omega
  cases hd : d.dead with
  | true =>
    refine (write_dead W hD hd i _).mono ?_
    rintro e w1 ⟨rfl, rfl⟩
    exact ⟨_, d, rfl, hD, fr_id _ _ _⟩
  | false =>
    by_cases hi : 0 ≤ i ∧ i < d.tiles
    · by_cases hl : len = 64
      · cases hset : d.set with
        | false =>
          refine (write_plain W hD hd i hi.1 hi.2 _ l hs (by omega) hok hset).mono ?_
          rintro e w1 ⟨rfl, h1, f1⟩
          exact ⟨_, _, rfl, h1, f1⟩
        | true =>
          by_cases hleft : d.left = 0
          · refine (write_cut W hD hd i hi.1 hi.2 _ l hs (by omega) hok hset hleft).mono ?_
            rintro e w1 ⟨rfl, d', _, h1, f1⟩
            exact ⟨_, _, rfl, h1, f1⟩
          · refine (write_later W hD hd i hi.1 hi.2 _ l hs (by omega) hok hset hleft).mono ?_
            rintro e w1 ⟨rfl, h1, f1⟩
            exact ⟨_, _, rfl, h1, f1⟩
      · refine (write_short W hD hd i p0 len cap hl).mono ?_
        rintro e w1 ⟨rfl, rfl⟩
        exact ⟨_, d, rfl, hD, fr_id _ _ _⟩
    · refine (write_far W hD hd i hi _).mono ?_
      rintro e w1 ⟨rfl, rfl⟩
      exact ⟨_, d, rfl, hD, fr_id _ _ _⟩

/-- It goes on as its copy; the old one is written to, and crashes. -/
theorem copy_pair (h : Pr B W p bn bo g r gn gw gt gm vn vw vt d f) (hB : B ≤ W.heap.size) :
    Calls Try.prog 16 #[.pointer (some ⟨p, 0, none⟩)] W fun e w1 => ∃ p', e = .returned (.pointer (some ⟨p', 0, none⟩)) ∧ Below B W w1 ∧
      ∀ w2, Below w1.heap.size w1 w2 → ∀ (p0 : Option Addr) (len cap : Nat) (l : List Int) (gs : Nat), SlB w2 (.slice p0 len cap) l gs → bytesOk l →
        Calls Try.prog 7 #[.pointer (some ⟨p, 0, none⟩), .int .i64 0, .slice p0 len cap] w2 fun e w3 => ∃ er : Int, e = .returned (.int .i64 er) ∧ Below B w2 w3 ∧
          Calls Try.prog 11 #[.pointer (some ⟨p, 0, none⟩), .slice none 0 0] w3 fun e w4 => e = .returned (.tuple #[]) ∧ Below B w3 w4 ∧ Inv B w4 p' r := by
  obtain ⟨l1, l2, l3, l4, l5, l6, l7⟩ := h.lo
  have hl := h.dk.lt
  have hrs : r < W.heap.size := h.size
  refine (copy_any h.dk h.mv).mono ?_
  rintro e w1 ⟨p', bn', bo', g', mv, rfl, h1, hmv, c1, c2, c3, c4, hb1⟩
  refine ⟨p', rfl, hb1.mono hB, fun w2 hb2 p0 len cap l gs hs hok => ?_⟩
  have hs1 := hb1.size
  have hs2 := hb2.size
  have hO := (h.dk.kept hb1.block).kept hb2.block
  refine (write_some hO 0 hs hok).mono ?_
  rintro e w3 ⟨er, d3, rfl, hO3, f3⟩
  have hs3 := f3.size
  refine ⟨er, rfl, below_of_fr f3 h.three (by omega), ?_⟩
  refine (crash_any w3 hO3 (nil_SlB w3 0) (by intro x hx; cases hx)).mono ?_
  rintro e w4 ⟨rfl, ls, _, hO4, f4⟩
  have hs4 := f4.size
  have hn3 : ∀ x, Three p' bn' bo' x → ¬ Three p bn bo x := by
    rintro x hx hy
    have a1 : W.heap.size ≤ x := by rcases hx with rfl | rfl | rfl <;> omega
    have a2 : x < W.heap.size := by rcases hy with rfl | rfl | rfl <;> omega
    omega
  have hg3 : ¬ Three p bn bo g' := by
    rintro hy
    have a2 : g' < W.heap.size := by rcases hy with rfl | rfl | rfl <;> omega
    omega
  have hN := (((h1.kept hb2.block).fr f3 hn3 (fun _ => hg3)).fr f4 hn3 (fun _ => hg3))
  have hlN := h1.lt
  have hR2 := (h.rf.grow hb1.block).grow hb2.block
  have hR := (hR2.fr f3 h.four3 h.gm3).fr f4 h.four3 h.gm3
  have hgm : f.mask ≠ [] → gm < W.heap.size := fun hm => h.rf.mask.block_lt hm
  have hg1 : d.mask ≠ [] → W.heap.size ≤ g' := fun _ => c4
  refine ⟨rfl, below_of_fr f4 h.three (by omega), inv_of hN hR (like_copy h.like mv) hmv ⟨by omega, by omega, by omega, l4⟩ (fun x hx => ?_) (fun hm => by have := hg1 hm; omega) (fun hk => ?_)⟩
  · have a1 : W.heap.size ≤ x := by rcases hx with rfl | rfl | rfl <;> omega
    exact ⟨by omega, fun hm => by have := hgm hm; omega⟩
  · have z1 := (h.rf.now hk).lt
    have z2 := (h.rf.was hk).lt
    have z3 := (h.rf.wet hk).lt
    refine ⟨⟨l5, l6, l7⟩, fun x hx => ?_, fun _ => ⟨by omega, by omega, by omega⟩⟩
    have a1 : W.heap.size ≤ x := by rcases hx with rfl | rfl | rfl <;> omega
    exact ⟨by omega, by omega, by omega⟩

theorem z64_eq : z64 = List.replicate 64 0 := rfl
theorem rowF_of {W : World} {B n : Nat} {t : TypeId} {v x : Value} (h : W.ownsRow B t 1 v n (List.replicate n x)) (hn : 0 < n) : ∃ g c, v = .slice (some ⟨g, 0, none⟩) n c ∧ n ≤ c ∧ B ≤ g ∧ g < W.heap.size ∧ RowF W g t n (fun _ => x) := by
  obtain ⟨h1, ⟨rfl, h0⟩ | ⟨g, cap, cur, rfl, hB, hg, hle, _, _, htake⟩⟩ := h
  · omega
  · refine ⟨g, cap, rfl, hle, hB, (Array.getElem?_eq_some_iff.1 hg).1, cur, hg, fun i hi => ?_⟩
    have e1 : (cur.toList.take (n * 1))[i]? = some x := by rw [htake]; simp [hi]
    rw [List.getElem?_take, if_pos (by omega)] at e1
    simpa using e1

theorem rf_of_nz {W : World} {r k : Nat} {vn vw vt : Value} (hz : Nz W r vn vw vt vn k vw k vt k (bstr z64)) (hnl : k = 0 → vn = .slice none 0 0 ∧ vw = .slice none 0 0 ∧ vt = .slice none 0 0) (hk2 : k ≤ 2000) :
    ∃ gn gw gt gm, RfAt W r gn gw gt gm vn vw vt (Rf.fresh k (.slice none 0 0)) ∧ (0 < k → (r + 1 ≤ gn ∧ r + 1 ≤ gw ∧ r + 1 ≤ gt)) := by
  have hr := hz.lt
  have hmask : ∀ gm, SlB W (.slice none 0 0) [] gm := nil_SlB W
  have hmok : bytesOk [] := by intro x hx; cases hx
  rcases Nat.eq_zero_or_pos k with hk | hk
  · obtain ⟨rfl, rfl, rfl⟩ := hnl hk
    have hsl : ∀ g, SlF (.slice none 0 0) g k := fun g => ⟨none, 0, by rw [hk], by omega, fun _ => hk, fun a e => by cases e⟩
    exact ⟨W.heap.size + 1, W.heap.size + 2, W.heap.size + 3, W.heap.size + 4, ⟨hz.cells, hsl _, hsl _, hsl _, fun e => absurd e (by show ¬ 0 < k; omega), fun e => absurd e (by show ¬ 0 < k; omega), fun e => absurd e (by show ¬ 0 < k; omega), hmask _, ⟨by omega, by omega, by omega, by omega, by omega, by omega, by omega, by omega, by omega, by omega⟩, hk2, fun e => (by cases e), hmok, fun _ g => ⟨hsl g, hsl g, hsl g⟩⟩, fun e => by omega⟩
  · obtain ⟨gn, cn, rfl, n1, n2, n3, n4⟩ := rowF_of hz.on hk
    obtain ⟨gw, cw, rfl, w1, w2, w3, w4⟩ := rowF_of hz.ow hk
    obtain ⟨gt, ct, rfl, t1, t2, t3, t4⟩ := rowF_of hz.ot hk
    have d1 : gn ≠ gw := fun e => hz.ne gn rfl (by rw [e]; rfl)
    have d2 : gn ≠ gt := by
      rcases own_diff (by decide) hz.on hz.ot with e | e
      · cases e
      · intro e2; exact e (by rw [e2]; rfl)
    have d3 : gw ≠ gt := by
      rcases own_diff (by decide) hz.ow hz.ot with e | e
      · cases e
      · intro e2; exact e (by rw [e2]; rfl)
    exact ⟨gn, gw, gt, W.heap.size + 4, ⟨hz.cells, ⟨_, cn, rfl, n1, fun e => (by cases e), fun a e => by cases e; rfl⟩, ⟨_, cw, rfl, w1, fun e => (by cases e), fun a e => by cases e; rfl⟩, ⟨_, ct, rfl, t1, fun e => (by cases e), fun a e => by cases e; rfl⟩, fun _ => n4, fun _ => w4, fun _ => t4, hmask _, ⟨by omega, by omega, by omega, d1, d2, d3, by omega, by omega, by omega, by omega⟩, hk2, fun e => (by cases e), hmok, fun e => absurd e (by show ¬ k = 0; omega)⟩, fun _ => ⟨n2, w2, t2⟩⟩

/-- Both made anew. -/
theorem new_pair (w : World) (k : Nat) (hk : k ≤ 2000) : Calls Try.prog 5 #[.int .i64 k] w fun e w1 => ∃ p, e = .returned (.pointer (some ⟨p, 0, none⟩)) ∧ Below w.heap.size w w1 ∧
    Calls Try.prog 6 #[.int .i64 k] w1 fun e2 w2 => ∃ r, e2 = .returned (.pointer (some ⟨r, 0, none⟩)) ∧ Below w.heap.size w1 w2 ∧ Inv w.heap.size w2 p r := by
  refine (new_any w k).mono ?_
  rintro e w1 ⟨rfl, h1, hb1⟩
  have hs1 := hb1.size
  have hl := h1.lt
  refine ⟨_, rfl, hb1, ?_⟩
  have hcv : ∀ V : World, (convert 28 9 (.slice (some ⟨V.heap.size, 0, none⟩) 64 64)).run Try.prog (V.alloc (.cells (byteV z64).toArray 5)) = .ok (.string (bstr z64)) (V.alloc (.cells (byteV z64).toArray 5)) := fun V => conv_slB (slB_new V z64 5 (by decide))
  refine (rnew_any w1 k hk (bstr z64) hcv).mono ?_
  rintro e w2 ⟨vn, vw, vt, rfl, hz, hb2, hnl⟩
  have hs2 := hb2.size
  refine ⟨w1.heap.size, rfl, hb2.mono hs1, ?_⟩
  obtain ⟨gn, gw, gt, gm, hrf, hlo⟩ := rf_of_nz hz hnl hk
  have hct : clampT (k : Int) = k := by unfold clampT; rw [if_neg (by omega), if_neg (by omega)]
  rw [hct] at h1
  refine inv_of (h1.kept hb2.block) hrf (like_fresh k _) (Or.inl rfl) ⟨by omega, by omega, by omega, hs1⟩ (fun x hx => ⟨by rcases hx with rfl | rfl | rfl <;> omega, fun hm => absurd rfl hm⟩) (fun hm => absurd rfl hm) (fun hk0 => ?_)
  obtain ⟨b1, b2, b3⟩ := hlo hk0
  exact ⟨⟨by omega, by omega, by omega⟩, fun x hx => ⟨by rcases hx with rfl | rfl | rfl <;> omega, by rcases hx with rfl | rfl | rfl <;> omega, by rcases hx with rfl | rfl | rfl <;> omega⟩, fun hm => absurd rfl hm⟩
end
end Go.Proofs.Ytliakndgbfbicaa
