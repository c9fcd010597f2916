import Derived.Test.YtpcmiholbcmmjaaGreatMBK
import Derived.Test.YtpcmiholbcmmjaaGreatMBL
set_option maxRecDepth 100000
set_option maxHeartbeats 4000000
namespace Go.Proofs.YtpcmiholbcmmjaaGreat
open Go.RowKit
open L4 (Ar ArP Abs arV nv)
theorem delete_any {N : Nat} {s : Ar} {t x r h l : Nat} {k : ByteArray} {pre : List Pl} {y : Pl} {w : World} (hE : Es N s t x r h (l + 1) r h (l + 1) (.slice none 0 0) (.slice none 0 0) (.slice none 0 0) [] [] [] w) (ho : s.abs.Ok) (hp : Path s.abs k h r (pre ++ [y])) (hh : h <= 4096) (hsm : y.n.small) (hno : L5.isAt y.n.recs k (y.n.recs.countP (L5.ltB k)) = true) (hil : y.n.recs.countP (L5.ltB k) < y.n.recs.length) (hll : l <= 1000000)
 (hU : UpsOk s.abs pre.reverse y.at_ (lessRec y.n (y.n.recs.countP (L5.ltB k))).leaf) (hnz : (lessRec y.n (y.n.recs.countP (L5.ltB k))).size <= 1024) (hset : ∀ L1 G1 r1 n1, Shr s.abs pre.reverse y.at_ (lessRec y.n (y.n.recs.countP (L5.ltB k))) L1 G1 (some (r1, n1)) -> r1 = r /\ SetOk s.abs (prs [] ++ L1) r (h - 1) n1) :
 Calls Tryz.prog 68 #[.pointer (some ⟨x, 0, none⟩), .string k] w fun e w1 => e = .returned (.tuple #[]) /\ ∃ (ld gn : Value) (Ld : List Lay) (G : List Nat) (r' h' : Nat), Dels s.abs pre.reverse y.at_ (lessRec y.n (y.n.recs.countP (L5.ltB k))) r h (prs Ld) G r' h' /\ Es N s t x r h (l + 1) r' h' l (.slice none 0 0) ld gn [] Ld G w1 /\ Stp N s s t x w w1 /\ Ld.length <= 10000 /\ G.length <= 10000 := by
 have HE := thid hE
 obtain ⟨d0, d1, d2, d3, d4, d5, d6, dl, df⟩ := hE.ed.cells
 have HWY := thid (way_any hE.ar ho hE.tr hp hh)
 have HLN := thid hp.pos
 clear hE hp
 go_enter Tryz.func68, Tryz.ntmps68
 go_wp2_with fail
 refine HWY.out.mono ?_
 rintro e w1 ⟨v, Ld, rfl, hmap, hW, B1⟩
 have HWR := thid hW
 have HMAP := thid hmap
 have hLd : Ld.length = pre.length + 1 := by have := congrArg List.length hmap; simpa using this
 have hlast : Ld[pre.length]?.map Lay.pl = some y := by rw [<- List.getElem?_map, hmap]; simp
 obtain ⟨y0, hy0, hpl⟩ := Option.map_eq_some_iff.1 hlast
 obtain ⟨g, cap, hv, hg, g0, g1, g2, g3, g4⟩ := row5 hW.row (j := pre.length) (by omega)
 have hyy : Ld[pre.length] = y0 := by rw [List.getElem?_eq_getElem (by omega)] at hy0; exact Option.some.inj hy0
 rw [hyy] at g0 g1 g2 g3 g4
 have hmem : y0 ∈ Ld := List.mem_of_getElem? hy0
 have hny : y0.n = y.n := by rw [<- hpl]; rfl
 have hat_ : y0.at_ = y.at_ := by rw [<- hpl]; rfl
 have hrr := hW.rr y0 hmem
 have hrk := hW.rk y0 hmem
 rw [<- hny] at hsm hno hil hU hnz hset
 rw [<- hat_] at hU hset
 have HY0 := thid hy0
 have HLD := thid hLd
 have HNY := thid hny
 have HATT := thid hat_
 have HPO := thid HLN.out
 obtain ⟨cc, hcc⟩ : ∃ cc, v = .slice (some ⟨g, 0, none⟩) (pre.length + 1) cc := ⟨cap, by rw [hv, hLd]⟩
 subst hcc
 obtain ⟨a, c, er⟩ := own_slice hrr
 obtain ⟨a', c', ek⟩ := own_slice hrk
 have HER := thid er
 rw [er] at g2 hrr
 rw [ek] at g3 hrk
 have HFN := thid (L5.find_walk (n := y0.n) (L5.NR.mk (L5.owns_rd_slice hrr) (L5.owns_rd_slice hrk)) hsm.recs k)
 rw [hno] at HFN
 unfold L5.nodeV at HFN
 have HB1 := thid B1
 have HBW1 := thid B1
 have HO1 := thid hrr
 have HO2 := thid hrk
 obtain ⟨cs, hbk⟩ := L4.owns_tag hW.row (k := g) (by rw [hv]; rfl)
 have hbb := (hW.row.lt g (by rw [hv]; rfl)).1
 have HBK1 := thid hbk
 have hcc : pre.length + 1 <= cc := by
  obtain ⟨_, _, e, _, hc⟩ := L4.owns_slice hW.row
  injection e with _ e1 e2
  omega
 have HE1 := thid (HE.out.below B1)
 have HLN2 : Hid (pre.length + 1 = h) := by
  have := HLN.out.1
  show pre.length + 1 = h
  simpa using this
 have hml : pre.length + 1 <= 4096 := by have := HLN.out.1; simp at this; omega
 obtain ⟨m, hm⟩ : ∃ m, Hid (pre.length = m) := ⟨_, rfl⟩
 rw [hm.out] at g0 g1 g2 g3 g4 hml hcc ⊢
 clear HWY hat_ d0 d1 d2 d3 d4 d5 d6 dl df hmap hW B1 hLd hlast hy0 hpl hyy hmem hny hv er ek hrr hrk HPO HLN hno
 obtain ⟨d0, d1, d2, d3, d4, d5, d6, dl, df⟩ := HE1.out.ed.cells
 unfold nv at g0 g4
 have hs1 : ((m : Int) + 1) - 1 = (m : Int) := by omega
 go_wp2_with fail
 refine HFN.out.mono ?_
 rintro e w2 ⟨rfl, B2⟩
 have HB2 := thid B2
 have HE2 := thid (HE1.out.below B2)
 have HW2 : Hid (WayL w2 m g cc y0.at_ y0.n (.slice a y0.n.recs.length c) (.slice a' y0.n.kids.length c') y0.kid) := (⟨hg, hcc, g0, g1, g2, g3, g4⟩ : WayL w1 m g cc y0.at_ y0.n (.slice a y0.n.recs.length c) (.slice a' y0.n.kids.length c') y0.kid).on B2
 have HP1 := thid (L5.owns_below HO1.out B2)
 have HP2 := thid (L5.owns_below HO2.out B2)
 have hbk2 : w2.heap[g]? = some (.cells cs 100 (0, 0)) := (B2.block _ hg).trans hbk
 clear HFN HO1 HO2 HE1 B2 hbk d0 d1 d2 d3 d4 d5 d6 dl df g0 g1 g2 g3 g4
 obtain ⟨i, hi⟩ : ∃ i, Hid (y0.n.recs.countP (L5.ltB k) = i) := ⟨_, rfl⟩
 rw [hi.out]
 have HE3 := thid HE2.out
 have HW3 := thid HW2.out
 have HQ1 := thid HP1.out
 have HQ2 := thid HP2.out
 have HB3 := thid (tbelow_on HB1.out HB2.out)
 have HB13 := thid HB2.out
 have hbk3 := hbk2
 clear HE2 HW2 HP1 HP2 HB2 HB1 hbk2
 revert HB3 HB13
 generalize w2 = w3 at *
 intro HB3 HB13
 obtain ⟨d0, d1, d2, d3, d4, d5, d6, dl, df⟩ := HE3.out.ed.cells
 obtain ⟨lb, hcp, q0, q1, q2, q3, q4⟩ := HW3.out
 have qf : ∀ i, w3.frozen? ⟨g, i, none⟩ = false := fun i => frozen_of_row _ _ _ _ _ hbk3
 have il : i < y0.n.recs.length := by rw [<- hi.out]; exact hil
 have HIN := thid (delete_str (i := i) (l := y0.n.recs) HQ1.out il)
 rw [show ((i + 1 : Nat) : Int) = (i : Int) + 1 by omega] at HIN
 have HA3 := thid (Below.refl w3.heap.size w3)
 have hi2 : (i : Int) <= 1000 := by have := hsm.recs; omega
 go_wp2_with fail
 refine HIN.out.mono ?_
 rintro e w5 ⟨v', rfl, o5, hgr5, _⟩
 have hnb := row_ne hbk3 HQ1.out (by decide)
 have hbk5 : w5.heap[g]? = some (.cells cs 100 (0, 0)) := (hgr5.block g (Nat.lt_of_lt_of_le lb HA3.out.size) (fun e => hnb e.symm)).trans ((HA3.out.block g lb).trans hbk3)
 have hB5 : Below w.heap.size w w5 := ⟨hgr5.os.trans (HA3.out.os.trans HB3.out.os), hgr5.tape.trans (HA3.out.tape.trans HB3.out.tape), hgr5.output.trans (HA3.out.output.trans HB3.out.output), Nat.le_trans HB3.out.size (Nat.le_trans HA3.out.size hgr5.size), fun q hq => by
  have z3 := HB3.out.size
  have z4 := HA3.out.size
  rw [hgr5.block q (by omega) (fun e => by have := (HQ1.out.lt q e.symm).1; omega), HA3.out.block q (by omega), HB3.out.block q hq]⟩
 have HKP : Hid (∀ q, q < w1.heap.size -> (Value.slice a y0.n.recs.length c).ownBlock ≠ some q -> w5.heap[q]? = w1.heap[q]?) := fun q hq hn => by
  have z3 := HB13.out.size
  have z4 := HA3.out.size
  rw [hgr5.block q (by omega) (fun e => hn e.symm), HA3.out.block q (by omega), HB13.out.block q hq]
 have HB15 : Hid (w1.heap.size <= w5.heap.size) := by
  have z3 := HB13.out.size
  have z4 := HA3.out.size
  have z5 := hgr5.size
  show _ <= _
  omega
 have hbx : g ≠ x := tag_ne hbk3 HE3.out.ed (by decide)
 have hk5 : w5.ownsRow w.heap.size 3 1 (.slice a' y0.n.kids.length c') y0.n.kids.length (L5.ivs y0.n.kids) := L5.owns_of_block HQ2.out fun q hq => by
  have z := (HQ2.out.lt q hq).2
  rw [hgr5.block q (Nat.lt_of_lt_of_le z HA3.out.size) (fun e => rows_ne HQ2.out HQ1.out (by decide) q hq e.symm), HA3.out.block q z]
 have e0 : cs[m * 5]? = some (.int .i64 (y0.at_ : Int)) := (cell_of_row _ _ _ _ _ _ hbk3).symm.trans q0
 have e1 : cs[m * 5 + 1]? = some (.bool y0.n.leaf) := (cell_of_row _ _ _ _ _ _ hbk3).symm.trans q1
 have e2 : cs[m * 5 + 2]? = some (.slice a y0.n.recs.length c) := (cell_of_row _ _ _ _ _ _ hbk3).symm.trans q2
 have e3 : cs[m * 5 + 3]? = some (.slice a' y0.n.kids.length c') := (cell_of_row _ _ _ _ _ _ hbk3).symm.trans q3
 have e4 : cs[m * 5 + 4]? = some (.int .i64 (y0.kid : Int)) := (cell_of_row _ _ _ _ _ _ hbk3).symm.trans q4
 have HBE := thid HE.out.bs
 have hrl := lessRec_len y0.n il
 rw [<- hrl] at o5
 have o5 : w5.ownsRow w.heap.size 9 1 v' (lessRec y0.n i).recs.length (L5.svs (lessRec y0.n i).recs) := o5
 obtain ⟨ra, rc, rfl⟩ := own_slice o5
 have HE5 := thid (HE.out.below hB5)
 have HB6 := thid (hB5.setCell (p := ⟨g, m * 5 + 2, none⟩) hbb (.slice ra (lessRec y0.n i).recs.length rc))
 have HE6 := thid (HE.out.below HB6.out)
 have hbk6 := heap_setCell_same w5 g (m * 5 + 2) cs _ (.slice ra (lessRec y0.n i).recs.length rc) hbk5
 have HO6 := thid (ownsRow_setCell_other o5 (a := ⟨g, m * 5 + 2, none⟩) (row_ne hbk5 o5 (by decide)) (.slice ra (lessRec y0.n i).recs.length rc))
 have HK6 := thid (ownsRow_setCell_other hk5 (a := ⟨g, m * 5 + 2, none⟩) (row_ne hbk5 hk5 (by decide)) (.slice ra (lessRec y0.n i).recs.length rc))
 have own_lt : ∀ q, s.own q -> q < w.heap.size := fun q hq => L4.arSt.lt s w q HE.out.ar hq
 have HKL := thid (fun q (hq : (Value.slice a' y0.n.kids.length c').ownBlock = some q) => (hk5.lt q hq).1)
 have g2 : w5.cell? ⟨g, m * 5 + 2, none⟩ = some (.slice a y0.n.recs.length c) := (cell_of_row _ _ _ _ _ _ hbk5).trans e2
 have gf : ∀ i, w5.frozen? ⟨g, i, none⟩ = false := fun i => frozen_of_row _ _ _ _ _ hbk5
 have gl := (Array.getElem?_eq_some_iff.1 hbk5).1
 obtain ⟨m0, m1, m2, m3, m4, m5, m6, ml, mf⟩ := HE6.out.ed.cells
 clear HIN o5 hgr5 hB5 hk5 HE3 HW3 HQ1 HQ2 HB3 HA3 hbk3 hbk5 qf lb q0 q1 q2 q3 q4 d0 d1 d2 d3 d4 d5 d6 dl df HE5
 have HRL := thid hrl
 clear hrl
 go_wp2_with fail
 obtain ⟨hE7, hS7⟩ := HE6.out.lened l
 have hbk7 := (show ((w5.setCell ⟨g, m * 5 + 2, none⟩ (.slice ra (lessRec y0.n i).recs.length rc)).setCell ⟨x, 3, none⟩ (.int .i64 (l : Int))).heap[g]? = (w5.setCell ⟨g, m * 5 + 2, none⟩ (.slice ra (lessRec y0.n i).recs.length rc)).heap[g]? from heap_setCell_other _ _ _ _ hbx).trans hbk6
 have hW7 : WayL ((w5.setCell ⟨g, m * 5 + 2, none⟩ (.slice ra (lessRec y0.n i).recs.length rc)).setCell ⟨x, 3, none⟩ (.int .i64 (l : Int))) m g cc y0.at_ (lessRec y0.n i) (.slice ra (lessRec y0.n i).recs.length rc) (.slice a' (lessRec y0.n i).kids.length c') y0.kid := by
  have c2 : m * 5 + 2 < cs.size := by
   rcases Nat.lt_or_ge (m * 5 + 2) cs.size with h | h
   · exact h
   · rw [Array.getElem?_eq_none h] at e2; cases e2
  refine wayL_blk hbk7 hcp ?_ ?_ ?_ ?_ ?_
  · rw [Array.getElem?_setIfInBounds_ne (by omega)]; exact e0
  · rw [Array.getElem?_setIfInBounds_ne (by omega)]; exact e1
  · rw [Array.getElem?_setIfInBounds_self_of_lt c2]
  · rw [Array.getElem?_setIfInBounds_ne (by omega)]; exact e3
  · rw [Array.getElem?_setIfInBounds_ne (by omega)]; exact e4
 have o7 := ownsRow_setCell_other HO6.out (a := ⟨x, 3, none⟩) (row_ne HE6.out.ed HO6.out (by decide)) (.int .i64 (l : Int))
 have k7 := ownsRow_setCell_other HK6.out (a := ⟨x, 3, none⟩) (row_ne HE6.out.ed HK6.out (by decide)) (.int .i64 (l : Int))
 rw [hi.out] at hU hnz hset
 have hml2 := HLD.out
 have hm' := hm.out
 have hcl := HLN2.out
 have hWS : WayS N w1.heap.size s g (Ld.take m) ((w5.setCell ⟨g, m * 5 + 2, none⟩ (.slice ra (lessRec y0.n i).recs.length rc)).setCell ⟨x, 3, none⟩ (.int .i64 (l : Int))) := ways_of (cc := cc) (x := x) HE.out.ar HE.out.bs HWR.out (by rw [hm']) (by omega) (by rw [<- hm']; exact HY0.out) HBK1.out (HE.out.below HBW1.out).ed hbk7 (fun j hj => Array.getElem?_setIfInBounds_ne (by omega)) (fun q hq h1 h2 h3 => by
  rw [heap_setCell_other _ _ _ _ h3, heap_setCell_other _ _ _ _ h1]
  exact HKP.out q hq (by rw [<- HER.out]; exact h2))
 have hpre : (Ld.take m).reverse.map Lay.pl = pre.reverse := by
  rw [List.map_reverse, List.map_take, HMAP.out, <- hm']
  simp
 have hpre2 : (Ld.take m).map Lay.pl = pre := by
  rw [List.map_take, HMAP.out, <- hm']
  simp
 have HG := thid (shrink_any (N := N) m w1.heap.size s r h (.slice none 0 0) (.slice none 0 0) [] [] (Ld.take m) _ (lessRec y0.n i) y0.at_ g cc y0.kid ra a' rc c' (by simp; omega) (by omega) (Nat.le_trans HBE.out HBW1.out.size) (hE7.raise (by have := HB15.out; simp [World.setCell]; omega)) (by simp; omega) (by simp; omega) hWS hW7 (owns_weak o7 HBE.out) (owns_weak k7 HBE.out) (fun q hq e => by have := own_lt q hq; have := HKL.out q e; omega) (fun q hq => by simp [Value.ownBlock] at hq) (fun q hq => by simp [Value.ownBlock] at hq) ho (by rw [hpre]; exact hU) hnz (by omega) (by rw [hpre]; exact hset))
 rw [hpre] at HG
 have HS7 := thid ((Stp.below (B := N) (s := s) (t := t) (x := x) (HB6.out)).trans hS7)
 clear hE7 hS7 hW7 o7 k7 hbk6 hbk7 HE6 HO6 HK6 m0 m1 m2 m3 m4 m5 m6 ml mf g2 gf gl hWS hset hU
 refine HG.out.mono ?_
 rintro e w8 ⟨rfl, ld8, gn8, Ld8, G8, xr8, xh8, k1, k2, k3, k4, k5⟩
 have HD : Hid (∃ (ld gn : Value) (Ld : List Lay) (G : List Nat) (r' h' : Nat), Dels s.abs pre.reverse y0.at_ (lessRec y0.n i) r h (prs Ld) G r' h' /\ Es N s t x r h (l + 1) r' h' l (.slice none 0 0) ld gn [] Ld G w8 /\ Stp N s s t x w w8 /\ Ld.length <= 10000 /\ G.length <= 10000) := ⟨ld8, gn8, Ld8, G8, xr8, xh8, k3.dels, k1, HS7.out.trans k2, k4, k5⟩
 clear HG HS7 k1 k2 k3 k4 k5
 go_wp2
 go_end0
 exact ⟨rfl, by rw [<- HNY.out, <- HATT.out, hi.out]; exact HD.out⟩
end Go.Proofs.YtpcmiholbcmmjaaGreat
