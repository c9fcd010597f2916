/-
  Tree: read and load: a right node out of its page.
-/
import Derived.Test.YtjdbjnkmlajdoaaGreatTrNil
import Derived.Test.YtjdbjnkmlajdoaaGreatArH
import Derived.Test.YtjdbjnkmlajdoaaGreatRdJ
import Derived.Test.YtjdbjnkmlajdoaaGreatFaultP
namespace Go.Proofs.YtjdbjnkmlajdoaaGreat
open Go.RowKit
open L4 (Ar ArP Abs arV nv)

/-- What a read of a right node's page answers. -/
def Got (w : World) (nd : L5.No) (v : Value) (w' : World) : Prop := ∃ a c a' c', v = L5.nodeV nd a c a' c' ∧ w'.ownsRow w.heap.size 9 1 (.slice a nd.recs.length c) nd.recs.length (L5.svs nd.recs) ∧ w'.ownsRow w.heap.size 3 1 (.slice a' nd.kids.length c') nd.kids.length (L5.ivs nd.kids) ∧ Below w.heap.size w w'

theorem owns_weak {b b' : Nat} {W : World} {e : TypeId} {v : Value} {n : Nat} {xs : List Value} (h : W.ownsRow b e 1 v n xs) (hb : b' ≤ b) : W.ownsRow b' e 1 v n xs := L5.owns_base h hb

set_option maxRecDepth 100000 in
set_option maxHeartbeats 1000000 in
theorem read_ok {s : Ar} {w : World} {t r h l : Nat} {nd : L5.No} {n : Nat} (hA : ArP s w) (ho : s.abs.Ok) (ht : TrC w t s.p r h l) (hn : s.abs.at (n : Int) = some (L5.pageL nd.toNd)) (hs : nd.shaped = true) (hz : nd.size ≤ 1024) :
    Calls Tryz.prog 88 #[.pointer (some ⟨t, 0, none⟩), .int .i64 (n : Int), .bool nd.leaf] w fun e w' => ∃ v, e = .returned (.tuple #[v, .int .i64 0]) ∧ Got w nd v w' := by
  obtain ⟨c0, c1, c2, c3, ct, cf⟩ := ht.cells
  have HT := thid ht
  have HA1 := thid (L4.arSt.below hA (tbelow w (.cells #[.bool false, .slice none 0 0, .slice none 0 0] 91)))
  have HZ := thid (L5.Dz.new w)
  have HL := thid (L4.load_blk HA1.out ho hn)
  clear hA ho ht hn HA1
  go_enter Tryz.func88, Tryz.ntmps88
  go_wp2_with fail
  refine HL.out.mono ?_
  rintro e w2 ⟨rfl, hp, B2⟩
  have HK : Hid (L5.RBlk w2 (w.alloc (.cells #[.bool false, .slice none 0 0, .slice none 0 0] 91)).heap.size (L5.pageL nd.toNd)) := hp
  have HZ2 := thid (HZ.out.on B2)
  have hsz : (w.alloc (.cells #[.bool false, .slice none 0 0, .slice none 0 0] 91)).heap.size = w.heap.size + 1 := by simp
  rw [hsz] at HK
  clear HL HZ hp B2 c0 c1 c2 c3 ct cf HT hsz
  go_wp2_with fail
  refine (L5.decode_page HK.out hs hz).mono ?_
  rintro e w3 ⟨a, c, a', c', rfl, o1, o2, B3⟩
  have HZ3 := thid (HZ2.out.on B3)
  have HO1 := thid (owns_weak o1 HZ2.out.below.size)
  have HO2 := thid (owns_weak o2 HZ2.out.below.size)
  clear HZ2 HK o1 o2 B3
  have HB4 := thid (tbelow w3 (.cells #[.bool nd.leaf, .slice a nd.recs.length c, .slice a' nd.kids.length c'] 91))
  have HZ4 := thid (HZ3.out.on HB4.out)
  have HP1 := thid (L5.owns_below HO1.out HB4.out)
  have HP2 := thid (L5.owns_below HO2.out HB4.out)
  have z0 := (L5.node_cells HZ4.out.z).1
  have z1 := (L5.node_cells HZ4.out.z).2.1
  have z2 := (L5.node_cells HZ4.out.z).2.2
  have zf : ∀ i, (w3.alloc (.cells #[.bool nd.leaf, .slice a nd.recs.length c, .slice a' nd.kids.length c'] 91)).frozen? ⟨w.heap.size, i, none⟩ = false := fun i => frozen_of_row _ _ _ _ _ HZ4.out.z
  have n0 := (L5.box_cells w3 (.bool nd.leaf) (.slice a nd.recs.length c) (.slice a' nd.kids.length c') 91).1
  have n1 := (L5.box_cells w3 (.bool nd.leaf) (.slice a nd.recs.length c) (.slice a' nd.kids.length c') 91).2.1
  have n2 := (L5.box_cells w3 (.bool nd.leaf) (.slice a nd.recs.length c) (.slice a' nd.kids.length c') 91).2.2
  clear HZ3 HO1 HO2 HB4
  unfold L5.nodeV
  go_wp2_with fail
  refine L5.to_letter (show L5.RRes w (.bool nd.leaf) (.slice a nd.recs.length c) (.slice a' nd.kids.length c') nd.recs.length (L5.svs nd.recs) nd.kids.length (L5.ivs nd.kids) _ from ⟨HZ4.out.out (.bool nd.leaf) (.slice a nd.recs.length c) (.slice a' nd.kids.length c'), L5.owns_put3 HP1.out (by decide) HZ4.out.z _ _ _, L5.owns_put3 HP2.out (by decide) HZ4.out.z _ _ _⟩) ?_
  clear z0 z1 z2 zf n0 n1 n2 HZ4 HP1 HP2
  intro Wf hF
  obtain ⟨⟨g0, g1, g2, hB⟩, r1, r2⟩ := hF
  refine bodyPost_ret (v := .tuple #[.agg #[.bool nd.leaf, .slice a nd.recs.length c, .slice a' nd.kids.length c'], .int .i64 0]) ?_ rfl ⟨_, rfl, a, c, a', c', rfl, r1, r2, hB⟩
  simp [results, Tryz.results88, go_sem, g0, g1, g2]

set_option maxRecDepth 100000 in
set_option maxHeartbeats 1000000 in
theorem load_ok {s : Ar} {w : World} {t r h l : Nat} {nd : L5.No} {n : Nat} (hA : ArP s w) (ho : s.abs.Ok) (ht : TrC w t s.p r h l) (hn : s.abs.at (n : Int) = some (L5.pageL nd.toNd)) (hs : nd.shaped = true) (hz : nd.size ≤ 1024) :
    Calls Tryz.prog 78 #[.pointer (some ⟨t, 0, none⟩), .int .i64 (n : Int), .bool nd.leaf] w fun e w' => ∃ v, e = .returned v ∧ Got w nd v w' := by
  have HB := thid (tbelow w (.cells #[.bool false, .slice none 0 0, .slice none 0 0] 91))
  have HL2 := thid (read_ok (L4.arSt.below hA HB.out) ho (ht.on HB.out) hn hs hz)
  have HZ := thid (L5.Dz.new w)
  clear hA ho ht hn
  go_enter Tryz.func78, Tryz.ntmps78
  go_wp2_with fail
  refine HL2.out.mono ?_
  rintro e w2 ⟨v, rfl, a, c, a', c', rfl, o1, o2, B2⟩
  have HZ2 := thid (HZ.out.on B2)
  have HO1 := thid (owns_weak o1 HB.out.size)
  have HO2 := thid (owns_weak o2 HB.out.size)
  clear HL2 HZ HB o1 o2 B2
  have HB4 := thid (tbelow w2 (.cells #[.bool nd.leaf, .slice a nd.recs.length c, .slice a' nd.kids.length c'] 91))
  have HZ4 := thid (HZ2.out.on HB4.out)
  have HP1 := thid (L5.owns_below HO1.out HB4.out)
  have HP2 := thid (L5.owns_below HO2.out HB4.out)
  have z0 := (L5.node_cells HZ4.out.z).1
  have z1 := (L5.node_cells HZ4.out.z).2.1
  have z2 := (L5.node_cells HZ4.out.z).2.2
  have zf : ∀ i, (w2.alloc (.cells #[.bool nd.leaf, .slice a nd.recs.length c, .slice a' nd.kids.length c'] 91)).frozen? ⟨w.heap.size, i, none⟩ = false := fun i => frozen_of_row _ _ _ _ _ HZ4.out.z
  have n0 := (L5.box_cells w2 (.bool nd.leaf) (.slice a nd.recs.length c) (.slice a' nd.kids.length c') 91).1
  have n1 := (L5.box_cells w2 (.bool nd.leaf) (.slice a nd.recs.length c) (.slice a' nd.kids.length c') 91).2.1
  have n2 := (L5.box_cells w2 (.bool nd.leaf) (.slice a nd.recs.length c) (.slice a' nd.kids.length c') 91).2.2
  clear HZ2 HO1 HO2 HB4
  unfold L5.nodeV
  go_wp2_with (go_at_call 76; refine (L1.check_ok _).mono ?_; rintro e w3 ⟨rfl, rfl⟩)
  refine L5.to_letter (show L5.RRes w (.bool nd.leaf) (.slice a nd.recs.length c) (.slice a' nd.kids.length c') nd.recs.length (L5.svs nd.recs) nd.kids.length (L5.ivs nd.kids) _ from ⟨HZ4.out.out (.bool nd.leaf) (.slice a nd.recs.length c) (.slice a' nd.kids.length c'), L5.owns_put3 HP1.out (by decide) HZ4.out.z _ _ _, L5.owns_put3 HP2.out (by decide) HZ4.out.z _ _ _⟩) ?_
  clear z0 z1 z2 zf n0 n1 n2 HZ4 HP1 HP2
  intro Wf hF
  obtain ⟨⟨g0, g1, g2, hB⟩, r1, r2⟩ := hF
  refine bodyPost_ret (v := .agg #[.bool nd.leaf, .slice a nd.recs.length c, .slice a' nd.kids.length c']) ?_ rfl ⟨_, rfl, a, c, a', c', rfl, r1, r2, hB⟩
  simp [results, Tryz.results78, go_sem, g0, g1, g2]
end Go.Proofs.YtjdbjnkmlajdoaaGreat
