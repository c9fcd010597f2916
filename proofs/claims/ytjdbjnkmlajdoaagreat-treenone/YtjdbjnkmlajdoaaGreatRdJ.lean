/-
  Decode of a right node's page: the node.
-/
import Derived.Test.YtjdbjnkmlajdoaaGreatRdG
namespace Go.Proofs.YtjdbjnkmlajdoaaGreat.L5
open Go.RowKit

theorem owns_at {W : World} {b : Nat} {e : TypeId} {v : Value} {n : Nat} {xs : List Value} (h : W.ownsRow b e 1 v n xs) : ∃ a cap, v = .slice a n cap := by
  obtain ⟨a, cap, h1, _⟩ := owns_rd h
  exact ⟨a, cap, h1⟩

theorem owns_rd_slice {W : World} {b : Nat} {e : TypeId} {a : Option Addr} {c n : Nat} {xs : List Value} (h : W.ownsRow b e 1 (.slice a n c) n xs) : Rd W a c xs := by
  obtain ⟨a', c', e', hr, _⟩ := owns_rd h
  cases e'
  exact hr

theorem decode_page {b : Nat} {n : No} {w : World} (hb : RBlk w b (pageL n.toNd)) (hs : n.shaped = true) (hz : n.size ≤ 1024) :
    Calls Tryz.prog 105 #[.slice (some ⟨b, 0, none⟩) 1024 1024] w fun e w' => ∃ a c a' c', e = .returned (.tuple #[nodeV n a c a' c', .int .i64 0]) ∧ w'.ownsRow w.heap.size 9 1 (.slice a n.recs.length c) n.recs.length (svs n.recs) ∧ w'.ownsRow w.heap.size 3 1 (.slice a' n.kids.length c') n.kids.length (ivs n.kids) ∧ Below w.heap.size w w' := by
  obtain ⟨hok, hraw⟩ := raw_page hs hz
  refine (decode_walk hb (pageL_length (by rw [toNd_size]; exact hz))).mono ?_
  rintro e w' ⟨B, ⟨_, r, k, rfl, o1, o2⟩ | ⟨hno, _⟩⟩
  · have e1 : leafB (pageL n.toNd) = n.leaf := congrArg No.leaf hraw
    rw [hraw] at o1 o2
    have l1 := o1.1
    have l2 := o2.1
    rw [svs_length, Nat.mul_one] at l1
    rw [ivs_length, Nat.mul_one] at l2
    rw [← l1] at o1
    rw [← l2] at o2
    obtain ⟨a, c, rfl⟩ := owns_at o1
    obtain ⟨a', c', rfl⟩ := owns_at o2
    exact ⟨a, c, a', c', by rw [e1]; rfl, o1, o2, B⟩
  · exact absurd hok hno
end Go.Proofs.YtjdbjnkmlajdoaaGreat.L5
