/- TrailAll, a part. -/
import Derived.Test.YthmgafcnoedmjaaGreatQ25
import Derived.Test.YthmgafcnoedmjaaGreatQ33
namespace Go.Proofs.YthmgafcnoedmjaaGreat
open Go.RowKit
def mayB1 (e : Ent) : Bool := kindB e.kind && (fitB e.txn 1 && (fitB e.unit 2 && (fitB e.half 1 && (fitB e.prev 3 && (fitB e.next 3 && (plB e.ap e.ac && plB e.tp e.tc))))))
def mayB2 (e : Ent) : Bool := celOk e.old && (celOk e.new && (lstB mvB e.moves && (decide (e.lives.length ≤ 40) && (decide (e.dirty.length ≤ 40) && decide (e.opens.length ≤ 40)))))
theorem kind_fit {n : Int} (h : kindB n = true) : fitB n 1 = true := by
 unfold kindB at h
 rw [decide_eq_true_eq] at h
 exact fit_iff.2 ⟨by omega, by omega⟩
theorem entB_parts (e : Ent) : entB e = (mayB1 e && (mayB2 e && (e.lives.all lvB && (e.dirty.all dtB && e.opens.all opB)))) := by
 rw [Bool.eq_iff_iff]
 unfold entB mayB1 mayB2 lstB
 simp only [Bool.and_eq_true]
 constructor
 ·rintro ⟨⟨⟨⟨⟨⟨⟨⟨⟨⟨⟨⟨⟨⟨hk, -⟩, h2⟩, h3⟩, h4⟩, h5⟩, h6⟩, h7⟩, h8⟩, ho⟩, hn⟩, hm⟩, hl⟩, hd⟩, hp⟩
  exact ⟨⟨hk, h2, h3, h4, h5, h6, h7, h8⟩, ⟨ho, hn, hm, hl.1, hd.1, hp.1⟩, hl.2, hd.2, hp.2⟩
 ·rintro ⟨⟨hk, h2, h3, h4, h5, h6, h7, h8⟩, ⟨ho, hn, hm, hl, hd, hp⟩, hl2, hd2, hp2⟩
  exact ⟨⟨⟨⟨⟨⟨⟨⟨⟨⟨⟨⟨⟨⟨hk, kind_fit hk⟩, h2⟩, h3⟩, h4⟩, h5⟩, h6⟩, h7⟩, h8⟩, ho⟩, hn⟩, hm⟩, ⟨hl, hl2⟩⟩, ⟨hd, hd2⟩⟩, ⟨hp, hp2⟩⟩
theorem b1_no (e : Ent) {a0 a1 a2 a3 a4 a5 a6 a7 : Bool} (h0 : kindB e.kind = a0) (h1 : fitB e.txn 1 = a1) (h2 : fitB e.unit 2 = a2) (h3 : fitB e.half 1 = a3) (h4 : fitB e.prev 3 = a4) (h5 : fitB e.next 3 = a5) (h6 : plB e.ap e.ac = a6) (h7 : plB e.tp e.tc = a7) : mayB1 e = (a0 && (a1 && (a2 && (a3 && (a4 && (a5 && (a6 && a7))))))) := by
 unfold mayB1
 rw [h0, h1, h2, h3, h4, h5, h6, h7]
end Go.Proofs.YthmgafcnoedmjaaGreat
