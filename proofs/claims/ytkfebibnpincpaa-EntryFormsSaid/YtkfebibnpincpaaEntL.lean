/- The writer: elements of lists. -/
import Derived.Test.YtkfebibnpincpaaEntM
namespace Go.Proofs.Ytkfebibnpincpaa
open Go.RowKit

def mvI (m : Mv) : Prop := I64 m.1 ∧ I64 m.2.1 ∧ I64 m.2.2.1 ∧ I64 m.2.2.2
def lvI (m : Lv) : Prop := I64 m.1 ∧ I64 m.2.1 ∧ I64 m.2.2.1
def dtI (m : Dt) : Prop := I64 m.1 ∧ I64 m.2
/-- The cells of an element. -/
def mvV (m : Mv) : List Value := [.int .i64 m.1, .int .i64 m.2.1, .int .i64 m.2.2.1, .int .i64 m.2.2.2]
def lvV (m : Lv) : List Value := [.int .i64 m.1, .int .i64 m.2.1, .int .i64 m.2.2.1, .bool m.2.2.2]
def dtV (m : Dt) : List Value := [.int .i64 m.1, .int .i64 m.2]
theorem mvL_len (m : Mv) : (mvL m).length = 4 := by simp [mvL, plL_len]
theorem lvL_len (m : Lv) : (lvL m).length = 8 := by simp [lvL, numL_len]
theorem dtL_len (m : Dt) : (dtL m).length = 4 := by simp [dtL, numL_len]

set_option maxRecDepth 100000 in
set_option maxHeartbeats 400000 in
theorem move_any {w : World} {p : Nat} {v : Value} {l : List Int} {bad : Bool} (h : WS w p v l bad) (m : Mv) (hm : mvI m) (hl : l.length ≤ 90000) :
    Calls Try.prog 68 #[.pointer (some ⟨p, 0, none⟩), .agg (mvV m).toArray] w (WPost p w v (l ++ mvL m) (bad || !mvB m)) := by
  obtain ⟨a, b, c, d⟩ := m
  obtain ⟨ia, ib, ic, id⟩ := hm
  simp only at ia ib ic id
  have H0 : Hd w p v w.heap.size (.cells #[.int .i64 a, .int .i64 b, .int .i64 c, .int .i64 d] 52) (w.alloc (.cells #[.int .i64 a, .int .i64 b, .int .i64 c, .int .i64 d] 52)) v l bad := Hd.init h _
  have HH := Lib.hid H0
  clear h H0
  show Calls _ _ #[_, .agg #[.int .i64 a, .int .i64 b, .int .i64 c, .int .i64 d]] _ _
  go_enter Try.func68, Try.ntmps68
  go_wp2_with fail
  refine (place_any HH.out.ws a b ia ib (by omega)).mono ?_
  rintro e w1 ⟨rfl, v1, h1, g1⟩
  have H1 := HH.out.step h1 g1
  have k2 := H1.c 2
  have k3 := H1.c 3
  have HH1 := Lib.hid H1
  clear H1 h1 g1
  go_wp2_with fail
  refine (place_any HH1.out.ws c d ic id (by simp [plL_len]; omega)).mono ?_
  rintro e w2 ⟨rfl, v2, h2, g2⟩
  have HH2 := Lib.hid (HH1.out.step h2 g2)
  clear k2 k3 h2 g2
  go_wp2
  go_end0
  exact HH2.out.post (by simp [mvL]) (or_not2 _ _ _)

set_option maxRecDepth 100000 in
set_option maxHeartbeats 400000 in
theorem flag_any {w : World} {p : Nat} {v : Value} {l : List Int} {bad : Bool} (h : WS w p v l bad) (f : Bool) (hl : l.length ≤ 95000) :
    Calls Try.prog 76 #[.pointer (some ⟨p, 0, none⟩), .bool f] w (WPost p w v (l ++ numL (b01 f) 1) bad) := by
  have HH := Lib.hid h
  clear h
  cases f
  all_goals
    go_enter Try.func76, Try.ntmps76
    go_wp2_with fail
    refine (number_1 HH.out _ (by omega) (by omega) (by omega)).mono ?_
    rintro e w1 ⟨rfl, v1, h1, g1⟩
    have H1 : Hid (WS w1 p v1 _ bad) := Lib.hid (by simpa [fitB] using h1)
    have G1 := Lib.hid g1
    clear h1 g1
    go_wp2
    go_end0
    exact ⟨rfl, v1, H1.out, G1.out⟩

set_option maxRecDepth 100000 in
set_option maxHeartbeats 400000 in
theorem live_any {w : World} {p : Nat} {v : Value} {l : List Int} {bad : Bool} (h : WS w p v l bad) (m : Lv) (hm : lvI m) (hl : l.length ≤ 90000) :
    Calls Try.prog 70 #[.pointer (some ⟨p, 0, none⟩), .agg (lvV m).toArray] w (WPost p w v (l ++ lvL m) (bad || !lvB m)) := by
  obtain ⟨a, b, c, d⟩ := m
  obtain ⟨ia, ib, ic⟩ := hm
  simp only at ia ib ic
  have H0 : Hd w p v w.heap.size (.cells #[.int .i64 a, .int .i64 b, .int .i64 c, .bool d] 46) (w.alloc (.cells #[.int .i64 a, .int .i64 b, .int .i64 c, .bool d] 46)) v l bad := Hd.init h _
  have HH := Lib.hid H0
  clear h H0
  show Calls _ _ #[_, .agg #[.int .i64 a, .int .i64 b, .int .i64 c, .bool d]] _ _
  go_enter Try.func70, Try.ntmps70
  go_wp2_with fail
  refine (number_1 HH.out.ws a ia.1 ia.2 (by omega)).mono ?_
  rintro e w1 ⟨rfl, v1, h1, g1⟩
  have H1 := HH.out.step h1 g1
  have k1 := H1.c 1
  have HH1 := Lib.hid H1
  clear H1 h1 g1
  go_wp2_with fail
  refine (number_3 HH1.out.ws b ib.1 ib.2 (by simp [numL_len]; omega)).mono ?_
  rintro e w2 ⟨rfl, v2, h2, g2⟩
  have H2 := HH1.out.step h2 g2
  have k2 := H2.c 2
  have HH2 := Lib.hid H2
  clear H2 h2 g2 k1
  go_wp2_with fail
  refine (number_3 HH2.out.ws c ic.1 ic.2 (by simp [numL_len]; omega)).mono ?_
  rintro e w3 ⟨rfl, v3, h3, g3⟩
  have H3 := HH2.out.step h3 g3
  have k3 := H3.c 3
  have HH3 := Lib.hid H3
  clear H3 h3 g3 k2
  go_wp2_with fail
  refine (flag_any HH3.out.ws d (by simp [numL_len]; omega)).mono ?_
  rintro e w4 ⟨rfl, v4, h4, g4⟩
  have HH4 := Lib.hid (HH3.out.step h4 g4)
  clear k3 h4 g4
  go_wp2
  go_end0
  exact HH4.out.post (by simp [lvL]) (by rw [or_not2, or_not2]; simp [lvB, Bool.and_assoc])

set_option maxRecDepth 100000 in
set_option maxHeartbeats 400000 in
theorem dirty_any {w : World} {p : Nat} {v : Value} {l : List Int} {bad : Bool} (h : WS w p v l bad) (m : Dt) (hm : dtI m) (hl : l.length ≤ 90000) :
    Calls Try.prog 72 #[.pointer (some ⟨p, 0, none⟩), .agg (dtV m).toArray] w (WPost p w v (l ++ dtL m) (bad || !dtB m)) := by
  obtain ⟨a, b⟩ := m
  obtain ⟨ia, ib⟩ := hm
  simp only at ia ib
  have H0 : Hd w p v w.heap.size (.cells #[.int .i64 a, .int .i64 b] 48) (w.alloc (.cells #[.int .i64 a, .int .i64 b] 48)) v l bad := Hd.init h _
  have HH := Lib.hid H0
  clear h H0
  show Calls _ _ #[_, .agg #[.int .i64 a, .int .i64 b]] _ _
  go_enter Try.func72, Try.ntmps72
  go_wp2_with fail
  refine (number_1 HH.out.ws a ia.1 ia.2 (by omega)).mono ?_
  rintro e w1 ⟨rfl, v1, h1, g1⟩
  have H1 := HH.out.step h1 g1
  have k1 := H1.c 1
  have HH1 := Lib.hid H1
  clear H1 h1 g1
  go_wp2_with fail
  refine (number_3 HH1.out.ws b ib.1 ib.2 (by simp [numL_len]; omega)).mono ?_
  rintro e w2 ⟨rfl, v2, h2, g2⟩
  have HH2 := Lib.hid (HH1.out.step h2 g2)
  clear k1 h2 g2
  go_wp2
  go_end0
  exact HH2.out.post (by simp [dtL]) (or_not2 _ _ _)

end Go.Proofs.Ytkfebibnpincpaa
