/-
  Tree: insert into a leaf that has room.
-/
import Derived.Test.YtfdfamjajhmihaaGreatMAV
import Derived.Test.YtfdfamjajhmihaaGreatMAQ
import Derived.Test.YtfdfamjajhmihaaGreatMAH
namespace Go.Proofs.YtfdfamjajhmihaaGreat
open Go.RowKit
open L4 (Ar ArP Abs arV nv)

/-- A leaf with one more entry. -/
def withRec (n : L5.No) (i : Nat) (k : ByteArray) : L5.No := ⟨n.leaf, n.recs.take i ++ [k] ++ n.recs.drop i, n.kids⟩

/-- A row of one step is a way of one step. -/
theorem way1_of {w : World} {B b cp r kid : Nat} {n : L5.No} {vr vk : Value} (h : w.ownsRow B 100 5 (.slice (some ⟨b, 0, none⟩) 1 cp) 1 [nv r, .bool n.leaf, vr, vk, nv kid]) : Way1 w b cp r n vr vk kid ∧ (∃ cs, w.heap[b]? = some (.cells cs 100 (0, 0))) ∧ B ≤ b := by
  obtain ⟨g, cap, hv, hg, c0, c1, c2, c3, c4⟩ := row5 (Ld := [⟨r, n, vr, vk, kid⟩]) h (j := 0) (by simp)
  cases hv
  obtain ⟨_, _, hv, _, hc⟩ := L4.owns_slice h
  cases hv
  exact ⟨⟨hg, hc, c0, c1, c2, c3, c4⟩, L4.owns_tag h rfl, (h.lt b rfl).1⟩

/-- A way of one step, by its block. -/
theorem way1_blk {w : World} {b cp r kid : Nat} {n : L5.No} {vr vk : Value} {cs : Array Value} (h : w.heap[b]? = some (.cells cs 100 (0, 0))) (hcp : 1 ≤ cp) (c0 : cs[0]? = some (.int .i64 (r : Int))) (c1 : cs[1]? = some (.bool n.leaf)) (c2 : cs[2]? = some vr) (c3 : cs[3]? = some vk) (c4 : cs[4]? = some (.int .i64 (kid : Int))) : Way1 w b cp r n vr vk kid :=
  ⟨(Array.getElem?_eq_some_iff.1 h).1, hcp, (cell_of_row _ _ _ _ _ _ h).trans c0, (cell_of_row _ _ _ _ _ _ h).trans c1, (cell_of_row _ _ _ _ _ _ h).trans c2, (cell_of_row _ _ _ _ _ _ h).trans c3, (cell_of_row _ _ _ _ _ _ h).trans c4⟩

theorem withRec_len (n : L5.No) {i : Nat} (h : i ≤ n.recs.length) (k : ByteArray) : (withRec n i k).recs.length = n.recs.length + 1 := by
  simp [withRec]; omega

theorem withRec_svs (n : L5.No) (i : Nat) (k : ByteArray) : L5.svs (withRec n i k).recs = (L5.svs n.recs).take i ++ [.string k] ++ (L5.svs n.recs).drop i := by
  simp [withRec, L5.svs, List.map_take, List.map_drop]

set_option maxRecDepth 100000 in
set_option maxHeartbeats 1000000 in
theorem insert_fit {N : Nat} {s : Ar} {t x r l : Nat} {nd : L5.No} {k : ByteArray} {w : World} (hE : Es N s t x r 1 l r 1 l (.slice none 0 0) (.slice none 0 0) (.slice none 0 0) [] [] [] w) (ho : s.abs.Ok) (hn : s.abs.at (r : Int) = some (L5.pageL nd.toNd)) (hs : nd.shaped = true) (hz : nd.size ≤ 1024) (hlf : nd.leaf = true) (hsm : nd.small)
    (hno : L5.isAt nd.recs k (nd.recs.countP (L5.ltB k)) = false) (hl : 2 ≤ s.abs.left) (h2 : (withRec nd (nd.recs.countP (L5.ltB k)) k).small) (h3 : (withRec nd (nd.recs.countP (L5.ltB k)) k).shaped = true) (h4 : (withRec nd (nd.recs.countP (L5.ltB k)) k).size ≤ 1024) (hll : l ≤ 1000000) :
    Calls Tryz.prog 63 #[.pointer (some ⟨x, 0, none⟩), .string k] w fun e w1 => e = .returned (.tuple #[]) ∧ Done N s t x r 1 l r 1 (l + 1) (s.abs.lay r (some (L5.pageL (withRec nd (nd.recs.countP (L5.ltB k)) k).toNd))) w w1 := by
  have HE := thid hE
  obtain ⟨d0, d1, d2, d3, d4, d5, d6, dl, df⟩ := hE.ed.cells
  have HWY := thid (way_ok (k := k) hE.ar ho hE.tr hn hs hz hlf)
  clear hE
  go_enter Tryz.func63, Tryz.ntmps63
  go_wp2_with fail
  refine HWY.out.mono ?_
  rintro e w1 ⟨a, c, a', c', b, cp, rfl, o0, o1, o2, B1⟩
  have HO0 := thid o0
  have HO1 := thid o1
  have HO2 := thid o2
  have HB1 := thid B1
  have HE1 := thid (HE.out.below B1)
  clear HWY o0 o1 o2 B1 d0 d1 d2 d3 d4 d5 d6 dl df
  obtain ⟨d0, d1, d2, d3, d4, d5, d6, dl, df⟩ := HE1.out.ed.cells
  rw [show (Value.bool true) = .bool nd.leaf by rw [hlf]] at HO0
  obtain ⟨hW1, ⟨cs, hbk⟩, hbb⟩ := way1_of HO0.out
  have HW1 := thid hW1
  obtain ⟨lb, hcp, q0, q1, q2, q3, q4⟩ := hW1
  have HFN := thid (L5.find_walk (n := nd) (L5.NR.mk (L5.owns_rd_slice HO1.out) (L5.owns_rd_slice HO2.out)) hsm.recs k)
  rw [hno] at HFN
  have HLF := thid (L4.left_walk HE1.out.ar ho)
  clear HO0 HLF
  have HLE := thid hlf
  clear hlf
  unfold L5.nodeV at HFN
  go_wp2_with fail
  refine HFN.out.mono ?_
  rintro e w2 ⟨rfl, B2⟩
  have HB2 := thid B2
  have HE2 := thid (HE1.out.below B2)
  have HW2 := thid (HW1.out.on B2)
  have HP1 := thid (L5.owns_below HO1.out B2)
  have HP2 := thid (L5.owns_below HO2.out B2)
  have HLF := thid (L4.left_walk HE2.out.ar ho)
  have hbk2 : w2.heap[b]? = some (.cells cs 100 (0, 0)) := (B2.block _ lb).trans hbk
  clear HFN HO1 HO2 HW1 HE1 B2 hbk lb hcp q0 q1 q2 q3 q4 d0 d1 d2 d3 d4 d5 d6 dl df
  have x0 : ∀ q : L4.BelowW w2, q.w.cell? ⟨x, 0, none⟩ = some (.pointer (some ⟨t, 0, none⟩)) := fun q => (HE2.out.below q.below).ed.cells.1
  have x2 : ∀ q : L4.BelowW w2, q.w.cell? ⟨x, 2, none⟩ = some (.int .i64 1) := fun q => (HE2.out.below q.below).ed.cells.2.2.1
  have y0 : ∀ q : L4.BelowW w2, q.w.cell? ⟨t, 0, none⟩ = some (.pointer (some ⟨s.p, 0, none⟩)) := fun q => (HE2.out.below q.below).tr.cells.1
  have HL : ∀ q : L4.BelowW w2, Calls Tryz.prog 44 #[.pointer (some ⟨s.p, 0, none⟩)] q.w fun e w' => e = .returned (.int .i64 (s.abs.left : Int)) ∧ Below q.w.heap.size q.w w' := fun q => L4.left_walk (HE2.out.below q.below).ar ho
  have hl2 : decide ((s.abs.left : Int) < 2) = false := by simp; omega
  obtain ⟨i, hi⟩ : ∃ i, Hid (nd.recs.countP (L5.ltB k) = i) := ⟨_, rfl⟩
  rw [hi.out]
  go_wp2_with fail
  refine L4.wp_region_below (by kernel_rfl) (by kernel_rfl) (fun _ => ?_)
  repeat (go_big_quiet_step (first | (go_at_call 44; exact L4.quiet_of_below (HL _))))
  refine wpQuiet_nil ?_
  rintro _ ⟨q, rfl⟩
  have HE3 := thid (HE2.out.below q.below)
  have HW3 := thid (HW2.out.on q.below)
  have HQ1 := thid (L5.owns_below HP1.out q.below)
  have HQ2 := thid (L5.owns_below HP2.out q.below)
  have HB3 := thid (tbelow_on (tbelow_on HB1.out HB2.out) q.below)
  have hbk3 : q.w.heap[b]? = some (.cells cs 100 (0, 0)) := (q.below.block _ (Array.getElem?_eq_some_iff.1 hbk2).1).trans hbk2
  generalize q.w = w3 at *
  clear x0 x2 y0 HL HE2 HW2 HP1 HP2 HB2 HB1 q hbk2 HLF
  obtain ⟨d0, d1, d2, d3, d4, d5, d6, dl, df⟩ := HE3.out.ed.cells
  obtain ⟨lb, hcp, q0, q1, q2, q3, q4⟩ := HW3.out
  have qf : ∀ i, w3.frozen? ⟨b, i, none⟩ = false := fun i => frozen_of_row _ _ _ _ _ hbk3
  have il : i ≤ nd.recs.length := by rw [← hi.out]; exact List.countP_le_length
  have hA3 := tbelow w3 (.cells #[.string k] 9)
  have hvb := heap_alloc_new w3 (.cells #[.string k] 9)
  have HIN := thid (insert_str (i := i) (x := .string k) (L5.owns_below HQ1.out hA3) il (by have := hsm.recs; omega) (Nat.le_trans HB3.out.size hA3.size) (by
      intro u hu
      obtain ⟨y, _, rfl⟩ := List.mem_map.1 hu
      rfl) rfl hvb (fun e => by have := (HQ1.out.lt _ e).2; omega))
  have HA3 := thid hA3
  clear hA3 hvb
  go_wp2_with fail
  refine HIN.out.mono ?_
  rintro e w5 ⟨v', rfl, o5, hg5, _⟩
  have hnb := row_ne hbk3 HQ1.out (by decide)
  have hbk5 : w5.heap[b]? = some (.cells cs 100 (0, 0)) := (hg5.block b (Nat.lt_of_lt_of_le lb HA3.out.size) (fun e => hnb e.symm)).trans ((HA3.out.block b lb).trans hbk3)
  have hB5 : Below w.heap.size w w5 := ⟨hg5.os.trans (HA3.out.os.trans HB3.out.os), hg5.tape.trans (HA3.out.tape.trans HB3.out.tape), hg5.output.trans (HA3.out.output.trans HB3.out.output), Nat.le_trans HB3.out.size (Nat.le_trans HA3.out.size hg5.size), fun q hq => by
    have z3 := HB3.out.size
    have z4 := HA3.out.size
    rw [hg5.block q (by omega) (fun e => by have := (HQ1.out.lt q e.symm).1; omega), HA3.out.block q (by omega), HB3.out.block q hq]⟩
  have hbx : b ≠ x := tag_ne hbk3 HE3.out.ed (by decide)
  have hk5 : w5.ownsRow w.heap.size 3 1 (.slice a' nd.kids.length c') nd.kids.length (L5.ivs nd.kids) := L5.owns_of_block HQ2.out fun q hq => by
    have z := (HQ2.out.lt q hq).2
    rw [hg5.block q (Nat.lt_of_lt_of_le z HA3.out.size) (fun e => rows_ne HQ2.out HQ1.out (by decide) q hq e.symm), HA3.out.block q z]
  have e0 : cs[0]? = some (.int .i64 (r : Int)) := (cell_of_row _ _ _ _ _ _ hbk3).symm.trans q0
  have e1 : cs[1]? = some (.bool nd.leaf) := (cell_of_row _ _ _ _ _ _ hbk3).symm.trans q1
  have e2 : cs[2]? = some (.slice a nd.recs.length c) := (cell_of_row _ _ _ _ _ _ hbk3).symm.trans q2
  have e3 : cs[3]? = some (.slice a' nd.kids.length c') := (cell_of_row _ _ _ _ _ _ hbk3).symm.trans q3
  have e4 : cs[4]? = some (.int .i64 ((0 : Nat) : Int)) := (cell_of_row _ _ _ _ _ _ hbk3).symm.trans q4
  have HBE := thid HE.out.bs
  rw [← withRec_svs] at o5
  have hrl := withRec_len nd il k
  rw [← hrl] at o5
  obtain ⟨ra, rc, rfl⟩ := own_slice o5
  have HE5 := thid (HE.out.below hB5)
  have HB6 := thid (hB5.setCell (p := ⟨b, 2, none⟩) hbb (.slice ra (withRec nd i k).recs.length rc))
  have HE6 := thid (HE.out.below HB6.out)
  have hbk6 := heap_setCell_same w5 b 2 cs _ (.slice ra (withRec nd i k).recs.length rc) hbk5
  have HO6 := thid (ownsRow_setCell_other o5 (a := ⟨b, 2, none⟩) (row_ne hbk5 o5 (by decide)) (.slice ra (withRec nd i k).recs.length rc))
  have HK6 := thid (ownsRow_setCell_other hk5 (a := ⟨b, 2, none⟩) (row_ne hbk5 hk5 (by decide)) (.slice ra (withRec nd i k).recs.length rc))
  have own_lt : ∀ q, s.own q → q < w.heap.size := fun q hq => L4.arSt.lt s w q HE.out.ar hq
  have HKL := thid (fun q (hq : (Value.slice a' nd.kids.length c').ownBlock = some q) => (hk5.lt q hq).1)
  have g2 : w5.cell? ⟨b, 2, none⟩ = some (.slice a nd.recs.length c) := (cell_of_row _ _ _ _ _ _ hbk5).trans e2
  have gf : ∀ i, w5.frozen? ⟨b, i, none⟩ = false := fun i => frozen_of_row _ _ _ _ _ hbk5
  have gl := (Array.getElem?_eq_some_iff.1 hbk5).1
  obtain ⟨m0, m1, m2, m3, m4, m5, m6, ml, mf⟩ := HE6.out.ed.cells
  clear HIN o5 hg5 hB5 hk5 HE3 HW3 HQ1 HQ2 HB3 HA3 hbk3 hbk5 qf lb q0 q1 q2 q3 q4 d0 d1 d2 d3 d4 d5 d6 dl df HE5
  have HRL := thid hrl
  clear hrl
  go_wp2_with fail
  obtain ⟨hE7, hS7⟩ := HE6.out.lened (l + 1)
  have hbk7 := (show ((w5.setCell ⟨b, 2, none⟩ (.slice ra (withRec nd i k).recs.length rc)).setCell ⟨x, 3, none⟩ (.int .i64 ((l + 1 : Nat) : Int))).heap[b]? = (w5.setCell ⟨b, 2, none⟩ (.slice ra (withRec nd i k).recs.length rc)).heap[b]? from heap_setCell_other _ _ _ _ hbx).trans hbk6
  have hW7 : Way1 ((w5.setCell ⟨b, 2, none⟩ (.slice ra (withRec nd i k).recs.length rc)).setCell ⟨x, 3, none⟩ (.int .i64 ((l + 1 : Nat) : Int))) b cp r (withRec nd i k) (.slice ra (withRec nd i k).recs.length rc) (.slice a' (withRec nd i k).kids.length c') 0 := by
    have c2 : 2 < cs.size := by
      rcases Nat.lt_or_ge 2 cs.size with h | h
      · exact h
      · rw [Array.getElem?_eq_none h] at e2; cases e2
    refine way1_blk hbk7 hcp ?_ ?_ ?_ ?_ ?_
    · rw [Array.getElem?_setIfInBounds_ne (by decide)]; exact e0
    · rw [Array.getElem?_setIfInBounds_ne (by decide)]; exact e1
    · rw [Array.getElem?_setIfInBounds_self_of_lt c2]
    · rw [Array.getElem?_setIfInBounds_ne (by decide)]; exact e3
    · rw [Array.getElem?_setIfInBounds_ne (by decide)]; exact e4
  have o7 := ownsRow_setCell_other HO6.out (a := ⟨x, 3, none⟩) (row_ne HE6.out.ed HO6.out (by decide)) (.int .i64 ((l + 1 : Nat) : Int))
  have k7 := ownsRow_setCell_other HK6.out (a := ⟨x, 3, none⟩) (row_ne HE6.out.ed HK6.out (by decide)) (.int .i64 ((l + 1 : Nat) : Int))
  rw [hi.out] at h2 h3 h4
  have HG := thid (grow_fit hE7 (by simp) hW7 (owns_weak o7 HBE.out) (owns_weak k7 HBE.out) (fun q hq e => by have := own_lt q hq; have := HKL.out q e; omega) (fun q hq => by simp [Value.ownBlock] at hq) (fun q hq => by simp [Value.ownBlock] at hq) h2 h4)
  have HS7 := thid ((Stp.below (B := N) (s := s) (t := t) (x := x) (HB6.out)).trans hS7)
  rw [show (l : Int) + 1 = ((l + 1 : Nat) : Int) by omega]
  clear hE7 hS7 hW7 o7 k7 hbk6 hbk7 HE6 HO6 HK6 m0 m1 m2 m3 m4 m5 m6 ml mf g2 gf gl
  refine HG.out.mono ?_
  rintro e w8 ⟨rfl, ld', hE8, hS8⟩
  have HD : Hid (Done N s t x r 1 l r 1 (l + 1) (s.abs.lay r (some (L5.pageL (withRec nd i k).toNd))) w w8) := by
    refine ⟨s, .slice none 0 0, ld', .slice none 0 0, [], _, rfl, ho, hE8, by simp, fun y hy => ?_, fun y hy => ?_, rfl, HS7.out.trans hS8⟩
    · rcases List.mem_append.1 hy with hy | hy
      · simp at hy
      · cases List.mem_singleton.1 hy
        exact ⟨h2, h3, h4⟩
    · rcases List.mem_append.1 hy with hy | hy
      · simp at hy
      · cases List.mem_singleton.1 hy
        exact ⟨_, hn⟩
  clear HG HS7 hE8 hS8
  go_wp2
  go_end0
  exact ⟨rfl, by rw [hi.out]; exact HD.out⟩
end Go.Proofs.YtfdfamjajhmihaaGreat
/-
  Tree: Insert into a tree of one leaf that has room.
-/
namespace Go.Proofs.YtfdfamjajhmihaaGreat
open Go.RowKit
open L4 (Ar ArP Abs arV nv)

/-- A tree of one leaf: its pages, its node. -/
structure One (s : Ar) (t r l : Nat) (nd : L5.No) (w : World) : Prop where
  ar : ArP s w
  ok : s.abs.Ok
  tr : TrC w t s.p r 1 l
  at_ : s.abs.at (r : Int) = some (L5.pageL nd.toNd)
  shaped : nd.shaped = true
  size : nd.size ≤ 1024
  leaf : nd.leaf = true
  small : nd.small
  pos : r ≠ 0

theorem One.below {s : Ar} {t r l : Nat} {nd : L5.No} {w w' : World} (k : One s t r l nd w) (hb : Below w.heap.size w w') : One s t r l nd w' :=
  ⟨L4.arSt.below k.ar hb, k.ok, k.tr.on hb, k.at_, k.shaped, k.size, k.leaf, k.small, k.pos⟩

set_option maxRecDepth 100000 in
set_option maxHeartbeats 1000000 in
theorem tinsert1 {x b : Nat} {k : ByteArray} {w : World} {R : World → Prop} (hc : w.cell? ⟨b, 0, none⟩ = some (.string k)) (H : Calls Tryz.prog 63 #[.pointer (some ⟨x, 0, none⟩), .string k] w fun e w1 => e = .returned (.tuple #[]) ∧ R w1) :
    Calls Tryz.prog 62 #[.pointer (some ⟨x, 0, none⟩), .pointer (some ⟨b, 0, none⟩)] w fun e w1 => e = .returned (.tuple #[]) ∧ R w1 := by
  have HH := thid H
  clear H
  go_enter Tryz.func62, Tryz.ntmps62
  go_wp2_with fail
  refine HH.out.mono ?_
  rintro e w1 ⟨rfl, hR⟩
  have HR := thid hR
  clear hR HH hc
  go_wp2
  go_end0
  exact ⟨rfl, HR.out⟩

set_option maxRecDepth 100000 in
set_option maxHeartbeats 1000000 in
theorem tinsert_fit {s : Ar} {t r l : Nat} {nd : L5.No} {k : ByteArray} {w : World} (h1 : One s t r l nd w) (hk1 : 1 ≤ k.size) (hk2 : k.size ≤ 400)
    (hno : L5.isAt nd.recs k (nd.recs.countP (L5.ltB k)) = false) (hl : 2 ≤ s.abs.left) (h2 : (withRec nd (nd.recs.countP (L5.ltB k)) k).small) (h3 : (withRec nd (nd.recs.countP (L5.ltB k)) k).shaped = true) (h4 : (withRec nd (nd.recs.countP (L5.ltB k)) k).size ≤ 1024) (hll : l ≤ 1000000) :
    Calls Tryz.prog 30 #[.pointer (some ⟨t, 0, none⟩), .string k] w fun e w' => e = .returned (.int .i64 0) ∧ TrHas s t (s.abs.lay r (some (L5.pageL (withRec nd (nd.recs.countP (L5.ltB k)) k).toNd))) r 1 (l + 1) w w' := by
  have HB1 := thid (tbelow w (.cells #[.string k] 9))
  have H1 := thid (h1.below HB1.out)
  have hc1 : (w.alloc (.cells #[.string k] 9)).cell? ⟨w.heap.size, 0, none⟩ = some (.string k) := by simp [go_sem]
  have HOV := thid (over_ok H1.out.tr H1.out.pos)
  clear h1
  have hmf : ∀ (fn : Fn) (first cap : Array Value) (w : World), (Instr.makeFunc fn first cap).run Tryz.prog w = .ok (.func fn first cap) w := fun _ _ _ _ => rfl
  go_enter Tryz.func30, Tryz.ntmps30
  go_wp2_with fail
  refine HOV.out.mono ?_
  rintro e w2 ⟨rfl, B2⟩
  have hl2 : w.heap.size < (w.alloc (.cells #[.string k] 9)).heap.size := by simp
  have hc2 := (B2.cell (p := ⟨w.heap.size, 0, none⟩) hl2).trans hc1
  have HB2 := thid (tbelow_on HB1.out B2)
  have H2 := thid (H1.out.below B2)
  have hl3 : w.heap.size < w2.heap.size := Nat.lt_of_lt_of_le hl2 B2.size
  clear HOV B2 H1 HB1 hc1 hl2
  have he : k.toList.isEmpty = false := by rw [L5.isEmpty_size]; exact decide_eq_false (by omega)
  have hk4 : decide (400 < (k.size : Int)) = false := by simp; omega
  have HC := thid (change_ok H2.out.ar H2.out.tr 62 (fun _ _ => rfl) #[.pointer (some ⟨w.heap.size, 0, none⟩)] (fun N x W _ hb hE => by
    have hcW := (hb.cell (p := ⟨w.heap.size, 0, none⟩) hl3).trans hc2
    simpa using tinsert1 hcW (insert_fit hE H2.out.ok H2.out.at_ H2.out.shaped H2.out.size H2.out.leaf H2.out.small hno hl h2 h3 h4 hll)))
  clear H2 hno hl h2 h3 h4
  go_wp2_with fail
  refine HC.out.mono ?_
  rintro e w3 ⟨rfl, s', hp, hab, hok, hA3, hT3, hon, hown⟩
  have HF : Hid (TrHas s t (s.abs.lay r (some (L5.pageL (withRec nd (nd.recs.countP (L5.ltB k)) k).toNd))) r 1 (l + 1) w w3) := by
    refine ⟨s', hp, hab, hok, hA3, hT3, ?_, fun q hq => (hown q hq).imp id fun y => Nat.le_trans HB2.out.size y⟩
    exact ⟨hon.os.trans HB2.out.os, hon.tape.trans HB2.out.tape, hon.output.trans HB2.out.output, Nat.le_trans HB2.out.size hon.size, fun q hq hs => by
      rw [hon.block q (Nat.lt_of_lt_of_le hq HB2.out.size) hs]
      exact HB2.out.block q hq⟩
  clear hA3 hT3 hon hown HC HB2 hmf
  go_wp2
  go_ret
  exact ⟨rfl, HF.out⟩
end Go.Proofs.YtfdfamjajhmihaaGreat
/-
  Tree: delete from a tree of one leaf.
-/
namespace Go.Proofs.YtfdfamjajhmihaaGreat
open Go.RowKit
open L4 (Ar ArP Abs arV nv)

set_option maxRecDepth 100000 in
set_option maxHeartbeats 1000000 in
theorem settle_leaf {B : Nat} {s : Ar} {t x r h l xr xh xl : Nat} {tk ld gn : Value} {T : List Nat} {Ld : List Lay} {G : List Nat} {w : World} (k : Es B s t x r h l xr xh xl tk ld gn T Ld G w) (hL : Ld.length ≤ 10000) {n : L5.No} {at_ kid : Nat} {ra ka : Option Addr} {rc kc : Nat}
    (yr : w.ownsRow B 9 1 (.slice ra n.recs.length rc) n.recs.length (L5.svs n.recs)) (yk : w.ownsRow B 3 1 (.slice ka n.kids.length kc) n.kids.length (L5.ivs n.kids)) (b1 : ∀ q, s.own q → (Value.slice ka n.kids.length kc).ownBlock ≠ some q) (b2 : ∀ q, tk.ownBlock = some q → (Value.slice ka n.kids.length kc).ownBlock ≠ some q) (b3 : ∀ q, gn.ownBlock = some q → (Value.slice ka n.kids.length kc).ownBlock ≠ some q) (hk : n.kids.length ≠ 1) :
    Calls Tryz.prog 110 #[.pointer (some ⟨x, 0, none⟩), .agg #[.int .i64 (at_ : Int), .bool n.leaf, .slice ra n.recs.length rc, .slice ka n.kids.length kc, .int .i64 (kid : Int)]] w fun e w' => e = .returned (.tuple #[]) ∧ ∃ ld', Es B s t x r h l xr xh xl tk ld' gn T (Ld ++ [⟨at_, n, .slice ra n.recs.length rc, .slice ka n.kids.length kc, 0⟩]) G w' ∧ Stp B s s t x w w' := by
  have HK := thid k
  have HR := thid yr
  have HKK := thid yk
  have hk1 : ((n.kids.length : Int) == 1) = false := by simp; omega
  clear k yr yk
  have HB1 := thid (tbelow w (.cells #[.int .i64 (at_ : Int), .bool n.leaf, .slice ra n.recs.length rc, .slice ka n.kids.length kc, .int .i64 (kid : Int)] 100))
  have a1 := heap_alloc_new w (.cells #[.int .i64 (at_ : Int), .bool n.leaf, .slice ra n.recs.length rc, .slice ka n.kids.length kc, .int .i64 (kid : Int)] 100)
  go_enter Tryz.func110, Tryz.ntmps110
  go_wp2_with fail
  have z3 : (w.alloc (.cells #[.int .i64 (at_ : Int), .bool n.leaf, .slice ra n.recs.length rc, .slice ka n.kids.length kc, .int .i64 (kid : Int)] 100)).heap.size = w.heap.size + 1 := by simp
  generalize w.alloc (.cells #[.int .i64 (at_ : Int), .bool n.leaf, .slice ra n.recs.length rc, .slice ka n.kids.length kc, .int .i64 (kid : Int)] 100) = W at *
  have z0 : W.cell? ⟨w.heap.size, 0, none⟩ = some (.int .i64 (at_ : Int)) := by rw [cell_of_row _ _ _ _ _ _ a1]; rfl
  have z1 : W.cell? ⟨w.heap.size, 1, none⟩ = some (.bool n.leaf) := by rw [cell_of_row _ _ _ _ _ _ a1]; rfl
  have z2 : W.cell? ⟨w.heap.size, 2, none⟩ = some (.slice ra n.recs.length rc) := by rw [cell_of_row _ _ _ _ _ _ a1]; rfl
  have z4 : W.cell? ⟨w.heap.size, 3, none⟩ = some (.slice ka n.kids.length kc) := by rw [cell_of_row _ _ _ _ _ _ a1]; rfl
  have lz : w.heap.size < W.heap.size := by omega
  go_region_held (fun w' => w'.cell? ⟨w.heap.size, 0, none⟩ = some (.int .i64 (at_ : Int)) ∧ w'.cell? ⟨w.heap.size, 1, none⟩ = some (.bool n.leaf) ∧ w'.cell? ⟨w.heap.size, 2, none⟩ = some (.slice ra n.recs.length rc) ∧ w'.cell? ⟨w.heap.size, 3, none⟩ = some (.slice ka n.kids.length kc)) (simp [go_sem, *]) (fail)
  have hb2 : Below W.heap.size W (W.alloc (.cells #[.bool n.leaf, .slice ra n.recs.length rc, .slice ka n.kids.length kc] 90)).drew := (tbelow W (.cells #[.bool n.leaf, .slice ra n.recs.length rc, .slice ka n.kids.length kc] 90)).drew
  have HB2 := thid (tbelow_on HB1.out hb2)
  have a2 : (W.alloc (.cells #[.bool n.leaf, .slice ra n.recs.length rc, .slice ka n.kids.length kc] 90)).drew.heap[w.heap.size + 1]? = some (.cells #[.bool n.leaf, .slice ra n.recs.length rc, .slice ka n.kids.length kc] 90 (0, 0)) := by
    have h := heap_alloc_new W (.cells #[.bool n.leaf, .slice ra n.recs.length rc, .slice ka n.kids.length kc] 90)
    rw [z3] at h
    exact h
  have z0' := (hb2.cell (p := ⟨w.heap.size, 0, none⟩) lz).trans z0
  have lz' := Nat.lt_of_lt_of_le lz hb2.size
  clear z0 z1 z2 z4 z3 lz hb2 HB1 a1
  generalize (W.alloc (.cells #[.bool n.leaf, .slice ra n.recs.length rc, .slice ka n.kids.length kc] 90)).drew = V at *
  have n0 : V.cell? ⟨w.heap.size + 1, 0, none⟩ = some (.bool n.leaf) := by rw [cell_of_row _ _ _ _ _ _ a2]; rfl
  have n1 : V.cell? ⟨w.heap.size + 1, 1, none⟩ = some (.slice ra n.recs.length rc) := by rw [cell_of_row _ _ _ _ _ _ a2]; rfl
  have n2 : V.cell? ⟨w.heap.size + 1, 2, none⟩ = some (.slice ka n.kids.length kc) := by rw [cell_of_row _ _ _ _ _ _ a2]; rfl
  have nl := (Array.getElem?_eq_some_iff.1 a2).1
  have HK2 := thid (HK.out.below HB2.out)
  have HR2 := thid (L5.owns_below HR.out HB2.out)
  have HKK2 := thid (L5.owns_below HKK.out HB2.out)
  clear HK HR HKK a2
  go_wp2_with fail
  go_loopw [4] (fun u4 w2 => u4 = .int .i64 (at_ : Int) ∧ w2 = V) (fun _ _ => 0)
  case atStart => exact ⟨rfl, rfl⟩
  case round =>
    obtain ⟨rfl, rfl⟩ := hrel
    go_wp2_with fail
    refine (put_ok HK2.out hL HR2.out HKK2.out b1 b2 b3).mono ?_
    rintro e w3 ⟨rfl, ld', hE, hS⟩
    have HF : Hid (∃ ld', Es B s t x r h l xr xh xl tk ld' gn T (Ld ++ [⟨at_, n, .slice ra n.recs.length rc, .slice ka n.kids.length kc, 0⟩]) G w3 ∧ Stp B s s t x w w3) := ⟨ld', hE, (Stp.below HB2.out).trans hS⟩
    clear hE hS HB2 HK2 HR2 HKK2 z0' n0 n1 n2 nl lz'
    go_wp2
    go_end0
    exact ⟨rfl, HF.out⟩

set_option maxRecDepth 100000 in
set_option maxHeartbeats 1000000 in
theorem shrink_one {B : Nat} {s : Ar} {t x r h l xr xh xl : Nat} {tk ld gn : Value} {T : List Nat} {Ld : List Lay} {G : List Nat} {w : World} (k : Es B s t x r h l xr xh xl tk ld gn T Ld G w) (hL : Ld.length ≤ 10000) {n : L5.No} {at_ b cp kid : Nat} {ra ka : Option Addr} {rc kc : Nat} (hw : Way1 w b cp at_ n (.slice ra n.recs.length rc) (.slice ka n.kids.length kc) kid)
    (yr : w.ownsRow B 9 1 (.slice ra n.recs.length rc) n.recs.length (L5.svs n.recs)) (yk : w.ownsRow B 3 1 (.slice ka n.kids.length kc) n.kids.length (L5.ivs n.kids)) (b1 : ∀ q, s.own q → (Value.slice ka n.kids.length kc).ownBlock ≠ some q) (b2 : ∀ q, tk.ownBlock = some q → (Value.slice ka n.kids.length kc).ownBlock ≠ some q) (b3 : ∀ q, gn.ownBlock = some q → (Value.slice ka n.kids.length kc).ownBlock ≠ some q) (hk : n.kids.length ≠ 1) :
    Calls Tryz.prog 92 #[.pointer (some ⟨x, 0, none⟩), .slice (some ⟨b, 0, none⟩) 1 cp] w fun e w' => e = .returned (.tuple #[]) ∧ ∃ ld', Es B s t x r h l xr xh xl tk ld' gn T (Ld ++ [⟨at_, n, .slice ra n.recs.length rc, .slice ka n.kids.length kc, 0⟩]) G w' ∧ Stp B s s t x w w' := by
  have HK := thid k
  have HW := thid hw
  have HR := thid yr
  have HKK := thid yk
  clear k hw yr yk
  go_enter Tryz.func92, Tryz.ntmps92
  go_wp2_with fail
  refine (parted_ok HW.out).mono ?_
  rintro e w1 ⟨rfl, hb1⟩
  have HB1 := thid hb1
  clear hb1
  go_wp2_with fail
  have HB2 := thid (tbelow_on HB1.out (tbelow w1 (.cells #[.int .i64 (at_ : Int), .bool n.leaf, .slice ra n.recs.length rc, .slice ka n.kids.length kc, .int .i64 (kid : Int)] 100)))
  refine (settle_leaf (HK.out.below HB2.out) hL (L5.owns_below HR.out HB2.out) (L5.owns_below HKK.out HB2.out) b1 b2 b3 hk).mono ?_
  rintro e w3 ⟨rfl, ld', hE, hS⟩
  have HF : Hid (∃ ld', Es B s t x r h l xr xh xl tk ld' gn T (Ld ++ [⟨at_, n, .slice ra n.recs.length rc, .slice ka n.kids.length kc, 0⟩]) G w3 ∧ Stp B s s t x w w3) := ⟨ld', hE, (Stp.below HB2.out).trans hS⟩
  clear hE hS HB1 HB2 HK HR HKK HW
  go_wp2
  refine bodyPost_ret (v := .tuple #[]) (by simp [results, Tryz.results92, go_sem]) rfl ⟨rfl, HF.out⟩

/-- A leaf with one entry less. -/
def lessRec (n : L5.No) (i : Nat) : L5.No := ⟨n.leaf, n.recs.take i ++ n.recs.drop (i + 1), n.kids⟩

theorem lessRec_len (n : L5.No) {i : Nat} (h : i < n.recs.length) : (lessRec n i).recs.length = n.recs.length - 1 := by
  simp [lessRec]; omega

set_option maxRecDepth 100000 in
set_option maxHeartbeats 1000000 in
theorem delete_one {N : Nat} {s : Ar} {t x r l : Nat} {nd : L5.No} {k : ByteArray} {w : World} (hE : Es N s t x r 1 (l + 1) r 1 (l + 1) (.slice none 0 0) (.slice none 0 0) (.slice none 0 0) [] [] [] w) (ho : s.abs.Ok) (hn : s.abs.at (r : Int) = some (L5.pageL nd.toNd)) (hs : nd.shaped = true) (hz : nd.size ≤ 1024) (hlf : nd.leaf = true) (hsm : nd.small)
    (hno : L5.isAt nd.recs k (nd.recs.countP (L5.ltB k)) = true) (hil : nd.recs.countP (L5.ltB k) < nd.recs.length) (hk0 : nd.kids.length ≠ 1) (h2 : (lessRec nd (nd.recs.countP (L5.ltB k))).small) (h3 : (lessRec nd (nd.recs.countP (L5.ltB k))).shaped = true) (h4 : (lessRec nd (nd.recs.countP (L5.ltB k))).size ≤ 1024) (hll : l ≤ 1000000) :
    Calls Tryz.prog 68 #[.pointer (some ⟨x, 0, none⟩), .string k] w fun e w1 => e = .returned (.tuple #[]) ∧ Done N s t x r 1 (l + 1) r 1 l (s.abs.lay r (some (L5.pageL (lessRec nd (nd.recs.countP (L5.ltB k))).toNd))) w w1 := by
  have HE := thid hE
  obtain ⟨d0, d1, d2, d3, d4, d5, d6, dl, df⟩ := hE.ed.cells
  have HWY := thid (way_ok (k := k) hE.ar ho hE.tr hn hs hz hlf)
  clear hE
  go_enter Tryz.func68, Tryz.ntmps68
  go_wp2_with fail
  refine HWY.out.mono ?_
  rintro e w1 ⟨a, c, a', c', b, cp, rfl, o0, o1, o2, B1⟩
  have HO0 := thid o0
  have HO1 := thid o1
  have HO2 := thid o2
  have HB1 := thid B1
  have HE1 := thid (HE.out.below B1)
  clear HWY o0 o1 o2 B1 d0 d1 d2 d3 d4 d5 d6 dl df
  obtain ⟨d0, d1, d2, d3, d4, d5, d6, dl, df⟩ := HE1.out.ed.cells
  rw [show (Value.bool true) = .bool nd.leaf by rw [hlf]] at HO0
  obtain ⟨hW1, ⟨cs, hbk⟩, hbb⟩ := way1_of HO0.out
  have HW1 := thid hW1
  obtain ⟨lb, hcp, q0, q1, q2, q3, q4⟩ := hW1
  have HFN := thid (L5.find_walk (n := nd) (L5.NR.mk (L5.owns_rd_slice HO1.out) (L5.owns_rd_slice HO2.out)) hsm.recs k)
  rw [hno] at HFN
  clear HO0
  have HLE := thid hlf
  clear hlf
  unfold L5.nodeV at HFN
  go_wp2_with fail
  refine HFN.out.mono ?_
  rintro e w2 ⟨rfl, B2⟩
  have HB2 := thid B2
  have HE2 := thid (HE1.out.below B2)
  have HW2 := thid (HW1.out.on B2)
  have HP1 := thid (L5.owns_below HO1.out B2)
  have HP2 := thid (L5.owns_below HO2.out B2)
  have hbk2 : w2.heap[b]? = some (.cells cs 100 (0, 0)) := (B2.block _ lb).trans hbk
  clear HFN HO1 HO2 HW1 HE1 B2 hbk lb hcp q0 q1 q2 q3 q4 d0 d1 d2 d3 d4 d5 d6 dl df
  obtain ⟨i, hi⟩ : ∃ i, Hid (nd.recs.countP (L5.ltB k) = i) := ⟨_, rfl⟩
  rw [hi.out]
  have HE3 := thid HE2.out
  have HW3 := thid HW2.out
  have HQ1 := thid HP1.out
  have HQ2 := thid HP2.out
  have HB3 := thid (tbelow_on HB1.out HB2.out)
  have hbk3 := hbk2
  clear HE2 HW2 HP1 HP2 HB2 HB1 hbk2
  revert HB3
  generalize w2 = w3 at *
  intro HB3
  obtain ⟨d0, d1, d2, d3, d4, d5, d6, dl, df⟩ := HE3.out.ed.cells
  obtain ⟨lb, hcp, q0, q1, q2, q3, q4⟩ := HW3.out
  have qf : ∀ i, w3.frozen? ⟨b, i, none⟩ = false := fun i => frozen_of_row _ _ _ _ _ hbk3
  have il : i < nd.recs.length := by rw [← hi.out]; exact hil
  have HIN := thid (delete_str (i := i) (l := nd.recs) HQ1.out il)
  rw [show ((i + 1 : Nat) : Int) = (i : Int) + 1 by omega] at HIN
  have HA3 := thid (Below.refl w3.heap.size w3)
  have hi2 : (i : Int) ≤ 1000 := by have := hsm.recs; omega
  go_wp2_with fail
  refine HIN.out.mono ?_
  rintro e w5 ⟨v', rfl, o5, hg5, _⟩
  have hnb := row_ne hbk3 HQ1.out (by decide)
  have hbk5 : w5.heap[b]? = some (.cells cs 100 (0, 0)) := (hg5.block b (Nat.lt_of_lt_of_le lb HA3.out.size) (fun e => hnb e.symm)).trans ((HA3.out.block b lb).trans hbk3)
  have hB5 : Below w.heap.size w w5 := ⟨hg5.os.trans (HA3.out.os.trans HB3.out.os), hg5.tape.trans (HA3.out.tape.trans HB3.out.tape), hg5.output.trans (HA3.out.output.trans HB3.out.output), Nat.le_trans HB3.out.size (Nat.le_trans HA3.out.size hg5.size), fun q hq => by
    have z3 := HB3.out.size
    have z4 := HA3.out.size
    rw [hg5.block q (by omega) (fun e => by have := (HQ1.out.lt q e.symm).1; omega), HA3.out.block q (by omega), HB3.out.block q hq]⟩
  have hbx : b ≠ x := tag_ne hbk3 HE3.out.ed (by decide)
  have hk5 : w5.ownsRow w.heap.size 3 1 (.slice a' nd.kids.length c') nd.kids.length (L5.ivs nd.kids) := L5.owns_of_block HQ2.out fun q hq => by
    have z := (HQ2.out.lt q hq).2
    rw [hg5.block q (Nat.lt_of_lt_of_le z HA3.out.size) (fun e => rows_ne HQ2.out HQ1.out (by decide) q hq e.symm), HA3.out.block q z]
  have e0 : cs[0]? = some (.int .i64 (r : Int)) := (cell_of_row _ _ _ _ _ _ hbk3).symm.trans q0
  have e1 : cs[1]? = some (.bool nd.leaf) := (cell_of_row _ _ _ _ _ _ hbk3).symm.trans q1
  have e2 : cs[2]? = some (.slice a nd.recs.length c) := (cell_of_row _ _ _ _ _ _ hbk3).symm.trans q2
  have e3 : cs[3]? = some (.slice a' nd.kids.length c') := (cell_of_row _ _ _ _ _ _ hbk3).symm.trans q3
  have e4 : cs[4]? = some (.int .i64 ((0 : Nat) : Int)) := (cell_of_row _ _ _ _ _ _ hbk3).symm.trans q4
  have HBE := thid HE.out.bs
  have hrl := lessRec_len nd il
  rw [← hrl] at o5
  have o5 : w5.ownsRow w.heap.size 9 1 v' (lessRec nd i).recs.length (L5.svs (lessRec nd i).recs) := o5
  obtain ⟨ra, rc, rfl⟩ := own_slice o5
  have HE5 := thid (HE.out.below hB5)
  have HB6 := thid (hB5.setCell (p := ⟨b, 2, none⟩) hbb (.slice ra (lessRec nd i).recs.length rc))
  have HE6 := thid (HE.out.below HB6.out)
  have hbk6 := heap_setCell_same w5 b 2 cs _ (.slice ra (lessRec nd i).recs.length rc) hbk5
  have HO6 := thid (ownsRow_setCell_other o5 (a := ⟨b, 2, none⟩) (row_ne hbk5 o5 (by decide)) (.slice ra (lessRec nd i).recs.length rc))
  have HK6 := thid (ownsRow_setCell_other hk5 (a := ⟨b, 2, none⟩) (row_ne hbk5 hk5 (by decide)) (.slice ra (lessRec nd i).recs.length rc))
  have own_lt : ∀ q, s.own q → q < w.heap.size := fun q hq => L4.arSt.lt s w q HE.out.ar hq
  have HKL := thid (fun q (hq : (Value.slice a' nd.kids.length c').ownBlock = some q) => (hk5.lt q hq).1)
  have g2 : w5.cell? ⟨b, 2, none⟩ = some (.slice a nd.recs.length c) := (cell_of_row _ _ _ _ _ _ hbk5).trans e2
  have gf : ∀ i, w5.frozen? ⟨b, i, none⟩ = false := fun i => frozen_of_row _ _ _ _ _ hbk5
  have gl := (Array.getElem?_eq_some_iff.1 hbk5).1
  obtain ⟨m0, m1, m2, m3, m4, m5, m6, ml, mf⟩ := HE6.out.ed.cells
  clear HIN o5 hg5 hB5 hk5 HE3 HW3 HQ1 HQ2 HB3 HA3 hbk3 hbk5 qf lb q0 q1 q2 q3 q4 d0 d1 d2 d3 d4 d5 d6 dl df HE5
  have HRL := thid hrl
  clear hrl
  go_wp2_with fail
  obtain ⟨hE7, hS7⟩ := HE6.out.lened l
  have hbk7 := (show ((w5.setCell ⟨b, 2, none⟩ (.slice ra (lessRec nd i).recs.length rc)).setCell ⟨x, 3, none⟩ (.int .i64 (l : Int))).heap[b]? = (w5.setCell ⟨b, 2, none⟩ (.slice ra (lessRec nd i).recs.length rc)).heap[b]? from heap_setCell_other _ _ _ _ hbx).trans hbk6
  have hW7 : Way1 ((w5.setCell ⟨b, 2, none⟩ (.slice ra (lessRec nd i).recs.length rc)).setCell ⟨x, 3, none⟩ (.int .i64 (l : Int))) b cp r (lessRec nd i) (.slice ra (lessRec nd i).recs.length rc) (.slice a' (lessRec nd i).kids.length c') 0 := by
    have c2 : 2 < cs.size := by
      rcases Nat.lt_or_ge 2 cs.size with h | h
      · exact h
      · rw [Array.getElem?_eq_none h] at e2; cases e2
    refine way1_blk hbk7 hcp ?_ ?_ ?_ ?_ ?_
    · rw [Array.getElem?_setIfInBounds_ne (by decide)]; exact e0
    · rw [Array.getElem?_setIfInBounds_ne (by decide)]; exact e1
    · rw [Array.getElem?_setIfInBounds_self_of_lt c2]
    · rw [Array.getElem?_setIfInBounds_ne (by decide)]; exact e3
    · rw [Array.getElem?_setIfInBounds_ne (by decide)]; exact e4
  have o7 := ownsRow_setCell_other HO6.out (a := ⟨x, 3, none⟩) (row_ne HE6.out.ed HO6.out (by decide)) (.int .i64 (l : Int))
  have k7 := ownsRow_setCell_other HK6.out (a := ⟨x, 3, none⟩) (row_ne HE6.out.ed HK6.out (by decide)) (.int .i64 (l : Int))
  rw [hi.out] at h2 h3 h4
  have HG := thid (shrink_one hE7 (by simp) hW7 (owns_weak o7 HBE.out) (owns_weak k7 HBE.out) (fun q hq e => by have := own_lt q hq; have := HKL.out q e; omega) (fun q hq => by simp [Value.ownBlock] at hq) (fun q hq => by simp [Value.ownBlock] at hq) hk0)
  have HS7 := thid ((Stp.below (B := N) (s := s) (t := t) (x := x) (HB6.out)).trans hS7)
  clear hE7 hS7 hW7 o7 k7 hbk6 hbk7 HE6 HO6 HK6 m0 m1 m2 m3 m4 m5 m6 ml mf g2 gf gl
  refine HG.out.mono ?_
  rintro e w8 ⟨rfl, ld', hE8, hS8⟩
  have HD : Hid (Done N s t x r 1 (l + 1) r 1 l (s.abs.lay r (some (L5.pageL (lessRec nd i).toNd))) w w8) := by
    refine ⟨s, .slice none 0 0, ld', .slice none 0 0, [], _, rfl, ho, hE8, by simp, fun y hy => ?_, fun y hy => ?_, rfl, HS7.out.trans hS8⟩
    · rcases List.mem_append.1 hy with hy | hy
      · simp at hy
      · cases List.mem_singleton.1 hy
        exact ⟨h2, h3, h4⟩
    · rcases List.mem_append.1 hy with hy | hy
      · simp at hy
      · cases List.mem_singleton.1 hy
        exact ⟨_, hn⟩
  clear HG HS7 hE8 hS8
  go_wp2
  go_end0
  exact ⟨rfl, by rw [hi.out]; exact HD.out⟩
end Go.Proofs.YtfdfamjajhmihaaGreat
