/-
  Tree: Delete from a tree of one leaf.
-/
import Derived.Test.YtjdbjnkmlajdoaaGreatTrDl
namespace Go.Proofs.YtjdbjnkmlajdoaaGreat
open Go.RowKit
open L4 (Ar ArP Abs arV nv)

set_option maxRecDepth 100000 in
set_option maxHeartbeats 1000000 in
theorem tdelete1 {x b : Nat} {k : ByteArray} {w : World} {R : World → Prop} (hc : w.cell? ⟨b, 0, none⟩ = some (.string k)) (H : Calls Tryz.prog 68 #[.pointer (some ⟨x, 0, none⟩), .string k] w fun e w1 => e = .returned (.tuple #[]) ∧ R w1) :
    Calls Tryz.prog 67 #[.pointer (some ⟨x, 0, none⟩), .pointer (some ⟨b, 0, none⟩)] w fun e w1 => e = .returned (.tuple #[]) ∧ R w1 := by
  have HH := thid H
  clear H
  go_enter Tryz.func67, Tryz.ntmps67
  go_wp2_with fail
  refine HH.out.mono ?_
  rintro e w1 ⟨rfl, hR⟩
  have HR := thid hR
  clear hR HH hc
  go_wp2
  go_end0
  exact ⟨rfl, HR.out⟩

set_option maxRecDepth 100000 in
set_option maxHeartbeats 1000000 in
theorem tdelete_one {s : Ar} {t r l : Nat} {nd : L5.No} {k : ByteArray} {w : World} (h1 : One s t r (l + 1) nd w)
    (hno : L5.isAt nd.recs k (nd.recs.countP (L5.ltB k)) = true) (hil : nd.recs.countP (L5.ltB k) < nd.recs.length) (hk0 : nd.kids.length ≠ 1) (h2 : (lessRec nd (nd.recs.countP (L5.ltB k))).small) (h3 : (lessRec nd (nd.recs.countP (L5.ltB k))).shaped = true) (h4 : (lessRec nd (nd.recs.countP (L5.ltB k))).size ≤ 1024) (hll : l ≤ 1000000) :
    Calls Tryz.prog 36 #[.pointer (some ⟨t, 0, none⟩), .string k] w fun e w' => e = .returned (.int .i64 0) ∧ TrHas s t (s.abs.lay r (some (L5.pageL (lessRec nd (nd.recs.countP (L5.ltB k))).toNd))) r 1 l w w' := by
  have HB1 := thid (tbelow w (.cells #[.string k] 9))
  have H1 := thid (h1.below HB1.out)
  have hc1 : (w.alloc (.cells #[.string k] 9)).cell? ⟨w.heap.size, 0, none⟩ = some (.string k) := by simp [go_sem]
  have HOV := thid (over_ok H1.out.tr H1.out.pos)
  clear h1
  have hmf : ∀ (fn : Fn) (first cap : Array Value) (w : World), (Instr.makeFunc fn first cap).run Tryz.prog w = .ok (.func fn first cap) w := fun _ _ _ _ => rfl
  go_enter Tryz.func36, Tryz.ntmps36
  go_wp2_with fail
  refine HOV.out.mono ?_
  rintro e w2 ⟨rfl, B2⟩
  have hl2 : w.heap.size < (w.alloc (.cells #[.string k] 9)).heap.size := by simp
  have hc2 := (B2.cell (p := ⟨w.heap.size, 0, none⟩) hl2).trans hc1
  have HB2 := thid (tbelow_on HB1.out B2)
  have H2 := thid (H1.out.below B2)
  have hl3 : w.heap.size < w2.heap.size := Nat.lt_of_lt_of_le hl2 B2.size
  clear HOV B2 H1 HB1 hc1 hl2
  have HC := thid (change_ok H2.out.ar H2.out.tr 67 (fun _ _ => rfl) #[.pointer (some ⟨w.heap.size, 0, none⟩)] (fun N x W _ hb hE => by
    have hcW := (hb.cell (p := ⟨w.heap.size, 0, none⟩) hl3).trans hc2
    simpa using tdelete1 hcW (delete_one hE H2.out.ok H2.out.at_ H2.out.shaped H2.out.size H2.out.leaf H2.out.small hno hil hk0 h2 h3 h4 hll)))
  clear H2 hno hil hk0 h2 h3 h4
  go_wp2_with fail
  refine HC.out.mono ?_
  rintro e w3 ⟨rfl, s', hp, hab, hok, hA3, hT3, hon, hown⟩
  have HF : Hid (TrHas s t (s.abs.lay r (some (L5.pageL (lessRec nd (nd.recs.countP (L5.ltB k))).toNd))) r 1 l w w3) := by
    refine ⟨s', hp, hab, hok, hA3, hT3, ?_, fun q hq => (hown q hq).imp id fun y => Nat.le_trans HB2.out.size y⟩
    exact ⟨hon.os.trans HB2.out.os, hon.tape.trans HB2.out.tape, hon.output.trans HB2.out.output, Nat.le_trans HB2.out.size hon.size, fun q hq hs => by
      rw [hon.block q (Nat.lt_of_lt_of_le hq HB2.out.size) hs]
      exact HB2.out.block q hq⟩
  clear hA3 hT3 hon hown HC HB2 hmf
  go_wp2
  go_ret
  exact ⟨rfl, HF.out⟩
end Go.Proofs.YtjdbjnkmlajdoaaGreat
