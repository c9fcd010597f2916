import Derived.Test.YtiohkehcpkfleaaGreatMBJ
import Derived.Test.YtiohkehcpkfleaaGreatMBL
import Derived.Test.YtiohkehcpkfleaaGreatMBK
set_option maxRecDepth 100000
set_option maxHeartbeats 4000000
namespace Go.Proofs.YtiohkehcpkfleaaGreat
open Go.RowKit
open L4 (Ar ArP Abs arV nv)
theorem delete_any {N : Nat} {s : Ar} {t x r h l : Nat} {k : ByteArray} {pre : List Pl} {y : Pl} {w : World} (hE : Es N s t x r h (l + 1) r h (l + 1) (.slice none 0 0) (.slice none 0 0) (.slice none 0 0) [] [] [] w) (ho : s.abs.Ok) (hp : Path s.abs k h r (pre ++ [y])) (hh : h <= 4096) (hsm : y.n.small) (hno : L5.isAt y.n.recs k (y.n.recs.countP (L5.ltB k)) = true) (hil : y.n.recs.countP (L5.ltB k) < y.n.recs.length) (hll : l <= 1000000)
 (hU : UpsOk s.abs pre.reverse y.at_ (lessRec y.n (y.n.recs.countP (L5.ltB k))).leaf) (hnz : (lessRec y.n (y.n.recs.countP (L5.ltB k))).size <= 1024) (hset : ∀ L1 G1 r1 n1, Shr s.abs pre.reverse y.at_ (lessRec y.n (y.n.recs.countP (L5.ltB k))) L1 G1 (some (r1, n1)) -> r1 = r /\ SetOk s.abs (prs [] ++ L1) r (h - 1) n1) :
 Calls Tryz.prog 33 #[.pointer (some ⟨x, 0, none⟩), .string k] w fun e w1 => e = .returned (.tuple #[]) /\ ∃ (ld gn : Value) (Ld : List Lay) (G : List Nat) (r' h' : Nat), Dels s.abs pre.reverse y.at_ (lessRec y.n (y.n.recs.countP (L5.ltB k))) r h (prs Ld) G r' h' /\ Es N s t x r h (l + 1) r' h' l (.slice none 0 0) ld gn [] Ld G w1 /\ Stp N s s t x w w1 /\ Ld.length <= 10000 /\ G.length <= 10000 := by
 have HE := thid hE
 obtain ⟨d0, d1, d2, d3, d4, d5, d6, dl, df⟩ := hE.ed.cells
 have HWY := thid (way_any hE.ar ho hE.tr hp hh)
 have HLN := thid hp.pos
 clear hE hp
 go_enter Tryz.func33, Tryz.ntmps33
 go_wp2_with fail
 refine HWY.out.mono ?_
 rintro e w1 ⟨v, Ld, rfl, hmap, hW, B1⟩
 have HWR := thid hW
 have HMAP := thid hmap
 have hLd : Ld.length = pre.length + 1 := by have := congrArg List.length hmap; simpa using this
 have hlast : Ld[pre.length]?.map Lay.pl = some y := by rw [<- List.getElem?_map, hmap]; simp
 obtain ⟨y0, hy0, hpl⟩ := Option.map_eq_some_iff.1 hlast
 obtain ⟨g, cap, hv, hg, g0, g1, g2, g3, g4⟩ := row5 hW.row (j := pre.length) (by omega)
 have hyy : Ld[pre.length] = y0 := by rw [List.getElem?_eq_getElem (by omega)] at hy0; exact Option.some.inj hy0
 rw [hyy] at g0 g1 g2 g3 g4
 have hmem : y0 ∈ Ld := List.mem_of_getElem? hy0
 have hny : y0.n = y.n := by rw [<- hpl]; rfl
 have hat_ : y0.at_ = y.at_ := by rw [<- hpl]; rfl
 have hrr := hW.rr y0 hmem
 have hrk := hW.rk y0 hmem
 rw [<- hny] at hsm hno hil hU hnz hset
 rw [<- hat_] at hU hset
 have HY0 := thid hy0
 have HLD := thid hLd
 have HNY := thid hny
 have HATT := thid hat_
 have HPO := thid HLN.out
 obtain ⟨cc, hcc⟩ : ∃ cc, v = .slice (some ⟨g, 0, none⟩) (pre.length + 1) cc := ⟨cap, by rw [hv, hLd]⟩
 subst hcc
 obtain ⟨a, c, er⟩ := own_slice hrr
 obtain ⟨a', c', ek⟩ := own_slice hrk
 have HER := thid er
 rw [er] at g2 hrr
 rw [ek] at g3 hrk
 have HFN := thid (L5.find_walk (n := y0.n) (L5.NR.mk (L5.owns_rd_slice hrr) (L5.owns_rd_slice hrk)) hsm.recs k)
 rw [hno] at HFN
 unfold L5.nodeV at HFN
 have HB1 := thid B1
 have HBW1 := thid B1
 have HO1 := thid hrr
 have HO2 := thid hrk
 obtain ⟨cs, hbk⟩ := L4.owns_tag hW.row (k := g) (by rw [hv]; rfl)
 have hbb := (hW.row.lt g (by rw [hv]; rfl)).1
 have HBK1 := thid hbk
 have hcc : pre.length + 1 <= cc := by
  obtain ⟨_, _, e, _, hc⟩ := L4.owns_slice hW.row
  injection e with _ e1 e2
  omega
 have HE1 := thid (HE.out.below B1)
 have HLN2 : Hid (pre.length + 1 = h) := by
  have := HLN.out.1
  show pre.length + 1 = h
  simpa using this
 have hml : pre.length + 1 <= 4096 := by have := HLN.out.1; simp at this; omega
 obtain ⟨m, hm⟩ : ∃ m, Hid (pre.length = m) := ⟨_, rfl⟩
 rw [hm.out] at g0 g1 g2 g3 g4 hml hcc ⊢
 clear HWY hat_ d0 d1 d2 d3 d4 d5 d6 dl df hmap hW B1 hLd hlast hy0 hpl hyy hmem hny hv er ek hrr hrk HPO HLN hno
 obtain ⟨d0, d1, d2, d3, d4, d5, d6, dl, df⟩ := HE1.out.ed.cells
 unfold nv at g0 g4
 have hs1 : ((m : Int) + 1) - 1 = (m : Int) := by omega
 go_wp2_with fail
 refine HFN.out.mono ?_
 rintro e w2 ⟨rfl, B2⟩
 have HB2 := thid B2
 have HE2 := thid (HE1.out.below B2)
 have HW2 : Hid (WayL w2 m g cc y0.at_ y0.n (.slice a y0.n.recs.length c) (.slice a' y0.n.kids.length c') y0.kid) := (⟨hg, hcc, g0, g1, g2, g3, g4⟩ : WayL w1 m g cc y0.at_ y0.n (.slice a y0.n.recs.length c) (.slice a' y0.n.kids.length c') y0.kid).on B2
 have HP1 := thid (L5.owns_below HO1.out B2)
 have HP2 := thid (L5.owns_below HO2.out B2)
 have hbk2 : w2.heap[g]? = some (.cells cs 99 (0, 0)) := (B2.block _ hg).trans hbk
 clear HFN HO1 HO2 HE1 B2 hbk d0 d1 d2 d3 d4 d5 d6 dl df g0 g1 g2 g3 g4
 obtain ⟨i, hi⟩ : ∃ i, Hid (y0.n.recs.countP (L5.ltB k) = i) := ⟨_, rfl⟩
 rw [hi.out]
 have HE3 := thid HE2.out
 have HW3 := thid HW2.out
 have HQ1 := thid HP1.out
 have HQ2 := thid HP2.out
 have HB3 := thid (tbelow_on HB1.out HB2.out)
 have HB13 := thid HB2.out
 have hbk3 := hbk2
 clear HE2 HW2 HP1 HP2 HB2 HB1 hbk2
 revert HB3 HB13
 generalize w2 = w3 at *
 intro HB3 HB13
 obtain ⟨d0, d1, d2, d3, d4, d5, d6, dl, df⟩ := HE3.out.ed.cells
 obtain ⟨lb, hcp, q0, q1, q2, q3, q4⟩ := HW3.out
 have qf : ∀ i, w3.frozen? ⟨g, i, none⟩ = false := fun i => frozen_of_row _ _ _ _ _ hbk3
 have il : i < y0.n.recs.length := by rw [<- hi.out]; exact hil
 have HIN := thid (delete_str (i := i) (l := y0.n.recs) HQ1.out il)
 rw [show ((i + 1 : Nat) : Int) = (i : Int) + 1 by omega] at HIN
 have HA3 := thid (Below.refl w3.heap.size w3)
 have hi2 : (i : Int) <= 1000 := by have := hsm.recs; omega
 go_wp2_with fail
 refine HIN.out.mono ?_
 rintro e w5 ⟨v', rfl, o5, hgr5, _⟩
 have hnb := row_ne hbk3 HQ1.out (by decide)
 have hbk5 : w5.heap[g]? = some (.cells cs 99 (0, 0)) := (hgr5.block g (Nat.lt_of_lt_of_le lb HA3.out.size) (fun e => hnb e.symm)).trans ((HA3.out.block g lb).trans hbk3)
 have hB5 : Below w.heap.size w w5 := ⟨hgr5.os.trans (HA3.out.os.trans HB3.out.os), hgr5.tape.trans (HA3.out.tape.trans HB3.out.tape), hgr5.output.trans (HA3.out.output.trans HB3.out.output), Nat.le_trans HB3.out.size (Nat.le_trans HA3.out.size hgr5.size), fun q hq => by
  have z3 := HB3.out.size
  have z4 := HA3.out.size
  rw [hgr5.block q (by omega) (fun e => by have := (HQ1.out.lt q e.symm).1; omega), HA3.out.block q (by omega), HB3.out.block q hq]⟩
 have HKP : Hid (∀ q, q < w1.heap.size -> (Value.slice a y0.n.recs.length c).ownBlock ≠ some q -> w5.heap[q]? = w1.heap[q]?) := fun q hq hn => by
  have z3 := HB13.out.size
  have z4 := HA3.out.size
  rw [hgr5.block q (by omega) (fun e => hn e.symm), HA3.out.block q (by omega), HB13.out.block q hq]
 have HB15 : Hid (w1.heap.size <= w5.heap.size) := by
  have z3 := HB13.out.size
  have z4 := HA3.out.size
  have z5 := hgr5.size
  show _ <= _
  omega
 have hbx : g ≠ x := tag_ne hbk3 HE3.out.ed (by decide)
 have hk5 : w5.ownsRow w.heap.size 3 1 (.slice a' y0.n.kids.length c') y0.n.kids.length (L5.ivs y0.n.kids) := L5.owns_of_block HQ2.out fun q hq => by
  have z := (HQ2.out.lt q hq).2
  rw [hgr5.block q (Nat.lt_of_lt_of_le z HA3.out.size) (fun e => rows_ne HQ2.out HQ1.out (by decide) q hq e.symm), HA3.out.block q z]
 have e0 : cs[m * 5]? = some (.int .i64 (y0.at_ : Int)) := (cell_of_row _ _ _ _ _ _ hbk3).symm.trans q0
 have e1 : cs[m * 5 + 1]? = some (.bool y0.n.leaf) := (cell_of_row _ _ _ _ _ _ hbk3).symm.trans q1
 have e2 : cs[m * 5 + 2]? = some (.slice a y0.n.recs.length c) := (cell_of_row _ _ _ _ _ _ hbk3).symm.trans q2
 have e3 : cs[m * 5 + 3]? = some (.slice a' y0.n.kids.length c') := (cell_of_row _ _ _ _ _ _ hbk3).symm.trans q3
 have e4 : cs[m * 5 + 4]? = some (.int .i64 (y0.kid : Int)) := (cell_of_row _ _ _ _ _ _ hbk3).symm.trans q4
 have HBE := thid HE.out.bs
 have hrl := lessRec_len y0.n il
 rw [<- hrl] at o5
 have o5 : w5.ownsRow w.heap.size 9 1 v' (lessRec y0.n i).recs.length (L5.svs (lessRec y0.n i).recs) := o5
 obtain ⟨ra, rc, rfl⟩ := own_slice o5
 have HE5 := thid (HE.out.below hB5)
 have HB6 := thid (hB5.setCell (p := ⟨g, m * 5 + 2, none⟩) hbb (.slice ra (lessRec y0.n i).recs.length rc))
 have HE6 := thid (HE.out.below HB6.out)
 have hbk6 := heap_setCell_same w5 g (m * 5 + 2) cs _ (.slice ra (lessRec y0.n i).recs.length rc) hbk5
 have HO6 := thid (ownsRow_setCell_other o5 (a := ⟨g, m * 5 + 2, none⟩) (row_ne hbk5 o5 (by decide)) (.slice ra (lessRec y0.n i).recs.length rc))
 have HK6 := thid (ownsRow_setCell_other hk5 (a := ⟨g, m * 5 + 2, none⟩) (row_ne hbk5 hk5 (by decide)) (.slice ra (lessRec y0.n i).recs.length rc))
 have own_lt : ∀ q, s.own q -> q < w.heap.size := fun q hq => L4.arSt.lt s w q HE.out.ar hq
 have HKL := thid (fun q (hq : (Value.slice a' y0.n.kids.length c').ownBlock = some q) => (hk5.lt q hq).1)
 have g2 : w5.cell? ⟨g, m * 5 + 2, none⟩ = some (.slice a y0.n.recs.length c) := (cell_of_row _ _ _ _ _ _ hbk5).trans e2
 have gf : ∀ i, w5.frozen? ⟨g, i, none⟩ = false := fun i => frozen_of_row _ _ _ _ _ hbk5
 have gl := (Array.getElem?_eq_some_iff.1 hbk5).1
 obtain ⟨m0, m1, m2, m3, m4, m5, m6, ml, mf⟩ := HE6.out.ed.cells
 clear HIN o5 hgr5 hB5 hk5 HE3 HW3 HQ1 HQ2 HB3 HA3 hbk3 hbk5 qf lb q0 q1 q2 q3 q4 d0 d1 d2 d3 d4 d5 d6 dl df HE5
 have HRL := thid hrl
 clear hrl
 go_wp2_with fail
 obtain ⟨hE7, hS7⟩ := HE6.out.lened l
 have hbk7 := (show ((w5.setCell ⟨g, m * 5 + 2, none⟩ (.slice ra (lessRec y0.n i).recs.length rc)).setCell ⟨x, 3, none⟩ (.int .i64 (l : Int))).heap[g]? = (w5.setCell ⟨g, m * 5 + 2, none⟩ (.slice ra (lessRec y0.n i).recs.length rc)).heap[g]? from heap_setCell_other _ _ _ _ hbx).trans hbk6
 have hW7 : WayL ((w5.setCell ⟨g, m * 5 + 2, none⟩ (.slice ra (lessRec y0.n i).recs.length rc)).setCell ⟨x, 3, none⟩ (.int .i64 (l : Int))) m g cc y0.at_ (lessRec y0.n i) (.slice ra (lessRec y0.n i).recs.length rc) (.slice a' (lessRec y0.n i).kids.length c') y0.kid := by
  have c2 : m * 5 + 2 < cs.size := by
   rcases Nat.lt_or_ge (m * 5 + 2) cs.size with h | h
   · exact h
   · rw [Array.getElem?_eq_none h] at e2; cases e2
  refine wayL_blk hbk7 hcp ?_ ?_ ?_ ?_ ?_
  · rw [Array.getElem?_setIfInBounds_ne (by omega)]; exact e0
  · rw [Array.getElem?_setIfInBounds_ne (by omega)]; exact e1
  · rw [Array.getElem?_setIfInBounds_self_of_lt c2]
  · rw [Array.getElem?_setIfInBounds_ne (by omega)]; exact e3
  · rw [Array.getElem?_setIfInBounds_ne (by omega)]; exact e4
 have o7 := ownsRow_setCell_other HO6.out (a := ⟨x, 3, none⟩) (row_ne HE6.out.ed HO6.out (by decide)) (.int .i64 (l : Int))
 have k7 := ownsRow_setCell_other HK6.out (a := ⟨x, 3, none⟩) (row_ne HE6.out.ed HK6.out (by decide)) (.int .i64 (l : Int))
 rw [hi.out] at hU hnz hset
 have hml2 := HLD.out
 have hm' := hm.out
 have hcl := HLN2.out
 have hWS : WayS N w1.heap.size s g (Ld.take m) ((w5.setCell ⟨g, m * 5 + 2, none⟩ (.slice ra (lessRec y0.n i).recs.length rc)).setCell ⟨x, 3, none⟩ (.int .i64 (l : Int))) := ways_of (cc := cc) (x := x) HE.out.ar HE.out.bs HWR.out (by rw [hm']) (by omega) (by rw [<- hm']; exact HY0.out) HBK1.out (HE.out.below HBW1.out).ed hbk7 (fun j hj => Array.getElem?_setIfInBounds_ne (by omega)) (fun q hq h1 h2 h3 => by
  rw [heap_setCell_other _ _ _ _ h3, heap_setCell_other _ _ _ _ h1]
  exact HKP.out q hq (by rw [<- HER.out]; exact h2))
 have hpre : (Ld.take m).reverse.map Lay.pl = pre.reverse := by
  rw [List.map_reverse, List.map_take, HMAP.out, <- hm']
  simp
 have hpre2 : (Ld.take m).map Lay.pl = pre := by
  rw [List.map_take, HMAP.out, <- hm']
  simp
 have HG := thid (shrink_any (N := N) m w1.heap.size s r h (.slice none 0 0) (.slice none 0 0) [] [] (Ld.take m) _ (lessRec y0.n i) y0.at_ g cc y0.kid ra a' rc c' (by simp; omega) (by omega) (Nat.le_trans HBE.out HBW1.out.size) (hE7.raise (by have := HB15.out; simp [World.setCell]; omega)) (by simp; omega) (by simp; omega) hWS hW7 (owns_weak o7 HBE.out) (owns_weak k7 HBE.out) (fun q hq e => by have := own_lt q hq; have := HKL.out q e; omega) (fun q hq => by simp [Value.ownBlock] at hq) (fun q hq => by simp [Value.ownBlock] at hq) ho (by rw [hpre]; exact hU) hnz (by omega) (by rw [hpre]; exact hset))
 rw [hpre] at HG
 have HS7 := thid ((Stp.below (B := N) (s := s) (t := t) (x := x) (HB6.out)).trans hS7)
 clear hE7 hS7 hW7 o7 k7 hbk6 hbk7 HE6 HO6 HK6 m0 m1 m2 m3 m4 m5 m6 ml mf g2 gf gl hWS hset hU
 refine HG.out.mono ?_
 rintro e w8 ⟨rfl, ld8, gn8, Ld8, G8, xr8, xh8, k1, k2, k3, k4, k5⟩
 have HD : Hid (∃ (ld gn : Value) (Ld : List Lay) (G : List Nat) (r' h' : Nat), Dels s.abs pre.reverse y0.at_ (lessRec y0.n i) r h (prs Ld) G r' h' /\ Es N s t x r h (l + 1) r' h' l (.slice none 0 0) ld gn [] Ld G w8 /\ Stp N s s t x w w8 /\ Ld.length <= 10000 /\ G.length <= 10000) := ⟨ld8, gn8, Ld8, G8, xr8, xh8, k3.dels, k1, HS7.out.trans k2, k4, k5⟩
 clear HG HS7 k1 k2 k3 k4 k5
 go_wp2
 go_end0
 exact ⟨rfl, by rw [<- HNY.out, <- HATT.out, hi.out]; exact HD.out⟩
end Go.Proofs.YtiohkehcpkfleaaGreat
namespace Go.Proofs.YtiohkehcpkfleaaGreat
open Go.RowKit
open L4 (Ar ArP Abs arV nv)
open L5 (ltP ltB leB)
structure Turn (a A : Abs) (old new : List Nat) : Prop where
 ok : A.Ok
 q : A.q = a.q
 nodup : new.Nodup
 fresh : ∀ p ∈ new, p ∈ old \/ a.at (p : Int) = none
 frame : ∀ p : Nat, p ∉ old -> (∃ c, a.at (p : Int) = some c) -> A.at (p : Int) = a.at (p : Int)
 used : A.used + old.length = a.used + new.length
theorem Grew.turn {a A : Abs} {old new : List Nat} (k : Grew a A old new) : Turn a A old new := ⟨k.ok, k.q, k.nodup, k.fresh, k.frame, k.used⟩
theorem Shrunk.turn {a A : Abs} {old new : List Nat} (k : Shrunk a A old new) : Turn a A old new := ⟨k.ok, k.q, k.nodup, fun p hp => Or.inl (k.sub p hp), k.frame, k.used⟩
theorem Turn.refl {a : Abs} (ho : a.Ok) {ps : List Nat} (hd : ps.Nodup) : Turn a a ps ps := ⟨ho, rfl, hd, fun _ h => Or.inl h, fun _ _ _ => rfl, rfl⟩
def DelI (es : List ByteArray) (k : ByteArray) (c : Int) (es' : List ByteArray) : Prop := (k ∉ es /\ c = 2 /\ es' = es) \/ (k ∈ es /\ c = 0 /\ es' = delK k es)
def TTo (ins : Prop) (s : Ar) (t h : Nat) (es : List ByteArray) (ps : List Nat) (w : World) (s' : Ar) (r' h' : Nat) (es' : List ByteArray) (ps' : List Nat) (w' : World) : Prop :=
 TW s' t r' h' es' ps' w' /\ Ruly s'.abs r' ps' /\ s'.p = s.p /\ Turn s.abs s'.abs ps ps' /\ Only (fun k => s.own k \/ k = t) w w' /\ (∀ k, s'.own k -> s.own k \/ w.heap.size <= k) /\ Flow ins s.abs s'.abs h h' es es' ps ps'
theorem TTo.still {ins : Prop} {s : Ar} {t r h : Nat} {es : List ByteArray} {ps : List Nat} {w w' : World} (k : TW s t r h es ps w) (hr : Ruly s.abs r ps) (hb : Below w.heap.size w w') : TTo ins s t h es ps w s r h es ps w' :=
 ⟨k.on hb, hr, rfl, Turn.refl k.ok k.tp.nodup, Only.of_below hb, fun _ h => Or.inl h, Flow.refl⟩
theorem laid_prs (Ld : List Lay) (a : Abs) : Ld.foldl (fun a y => a.lay y.at_ (some (L5.pageL y.n.toNd))) a = laidL a (prs Ld) := by
 unfold laidL prs
 rw [List.foldl_map]
 rfl
theorem tdelete_rel {s : Ar} {t r h l : Nat} {k : ByteArray} {w : World} {R : Nat -> Nat -> Nat -> Abs -> Prop} (hA : ArP s w) (ht : TrC w t s.p r h (l + 1)) (hr : r ≠ 0)
 (H : ∀ (N x : Nat) (W : World), Es N s t x r h (l + 1) r h (l + 1) (.slice none 0 0) (.slice none 0 0) (.slice none 0 0) [] [] [] W -> Calls Tryz.prog 33 #[.pointer (some ⟨x, 0, none⟩), .string k] W fun e w1 => e = .returned (.tuple #[]) /\ ∃ xr xh xl A, R xr xh xl A /\ DoneG N s t x r h (l + 1) xr xh xl A W w1) :
 Calls Tryz.prog 10 #[.pointer (some ⟨t, 0, none⟩), .string k] w fun e w' => e = .returned (.int .i64 0) /\ ∃ xr xh xl A, R xr xh xl A /\ TrHas s t A xr xh xl w w' := by
 have HB1 := thid (tbelow w (.cells #[.string k] 9))
 have HA1 := thid (L4.arSt.below hA HB1.out)
 have HT1 := thid (ht.on HB1.out)
 have hc1 : (w.alloc (.cells #[.string k] 9)).cell? ⟨w.heap.size, 0, none⟩ = some (.string k) := by simp [go_sem]
 have HOV := thid (over_ok HT1.out hr)
 have HH := thid H
 clear hA ht H
 have hmf : ∀ (fn : Fn) (first cap : Array Value) (w : World), (Instr.makeFunc fn first cap).run Tryz.prog w = .ok (.func fn first cap) w := fun _ _ _ _ => rfl
 go_enter Tryz.func10, Tryz.ntmps10
 go_wp2_with fail
 refine HOV.out.mono ?_
 rintro e w2 ⟨rfl, B2⟩
 have hl2 : w.heap.size < (w.alloc (.cells #[.string k] 9)).heap.size := by simp
 have hc2 := (B2.cell (p := ⟨w.heap.size, 0, none⟩) hl2).trans hc1
 have HB2 := thid (tbelow_on HB1.out B2)
 have HA2 := thid (L4.arSt.below HA1.out B2)
 have HT2 := thid (HT1.out.on B2)
 have hl3 : w.heap.size < w2.heap.size := Nat.lt_of_lt_of_le hl2 B2.size
 clear HOV B2 HA1 HT1 HB1 hc1 hl2
 have HC := thid (change_rel (R := R) HA2.out HT2.out 32 (fun _ _ => rfl) #[.pointer (some ⟨w.heap.size, 0, none⟩)] (fun N x W _ hb hE => by
  have hcW := (hb.cell (p := ⟨w.heap.size, 0, none⟩) hl3).trans hc2
  simpa using tdelete1 hcW (HH.out N x W hE)))
 clear HA2 HT2 HH
 go_wp2_with fail
 refine HC.out.mono ?_
 rintro e w3 ⟨rfl, xr, xh, xl, A, hR, s', hp, hab, hok, hA3, hT3, hon, hown⟩
 have HF : Hid (∃ xr xh xl A, R xr xh xl A /\ TrHas s t A xr xh xl w w3) := by
  refine ⟨xr, xh, xl, A, hR, s', hp, hab, hok, hA3, hT3, ?_, fun q hq => (hown q hq).imp id fun y => Nat.le_trans HB2.out.size y⟩
  exact ⟨hon.os.trans HB2.out.os, hon.tape.trans HB2.out.tape, hon.output.trans HB2.out.output, Nat.le_trans HB2.out.size hon.size, fun q hq hs => by
   rw [hon.block q (Nat.lt_of_lt_of_le hq HB2.out.size) hs]
   exact HB2.out.block q hq⟩
 clear hA3 hT3 hon hown HC HB2 hmf hR
 go_wp2
 go_ret
 exact ⟨rfl, HF.out⟩
theorem delK_len {k : ByteArray} {es : List ByteArray} (h : es.countP (ltB k) < es.length) : (delK k es).length + 1 = es.length := by
 unfold delK
 simp
 omega
theorem tdelete_tree {s : Ar} {t r h : Nat} {es : List ByteArray} {ps : List Nat} {k : ByteArray} {w : World} (hT : TW s t r h es ps w) (hR : Ruly s.abs r ps) (hll : es.length <= 1000000) :
 Calls Tryz.prog 10 #[.pointer (some ⟨t, 0, none⟩), .string k] w fun e w' => ∃ c s' r' h' es' ps', e = .returned (.int .i64 c) /\ DelI es k c es' /\ TTo False s t h es ps w s' r' h' es' ps' w' := by
 obtain ⟨t1, t2, t3⟩ := hT.tp.tall hT.ok
 obtain ⟨pre, y, lo, hi, fL, fR, qO, f⟩ := hT.tp.sub.found k
 by_cases hm : k ∈ es
 · have hat := f.mem.1 hm
   obtain ⟨r1, r2⟩ := shaped_recs f.holds.shaped
   have hcl : y.n.recs.countP (ltB k) < y.n.recs.length := by
    have hx := hat
    unfold L5.isAt at hx
    cases hz : y.n.recs[y.n.recs.countP (ltB k)]? with
    | none => rw [hz] at hx; cases hx
    | some z => exact (List.getElem?_eq_some_iff.1 hz).1
   have hes : delK k es = fL ++ delK k y.n.recs ++ fR := by rw [f.es_, delK_mid f.lows f.highs hcl]
   have hlen : (delK k es).length + 1 = es.length := by
    have h1 := delK_len hcl
    rw [hes, f.es_]
    simp
    omega
   obtain ⟨l, hl⟩ : ∃ l, es.length = l + 1 := ⟨(delK k es).length, hlen.symm⟩
   have hless : lessRec y.n (y.n.recs.countP (ltB k)) = ⟨y.n.leaf, delK k y.n.recs, y.n.kids⟩ := rfl
   have hnz : (lessRec y.n (y.n.recs.countP (ltB k))).size <= 1024 := by
    have h1 : L5.weigh (delK k y.n.recs) <= L5.weigh y.n.recs := by
     refine weigh_sublist ?_
     unfold delK
     conv => rhs; rw [<- List.take_append_drop (y.n.recs.countP (ltB k)) y.n.recs]
     refine (List.Sublist.refl _).append ?_
     rw [<- List.drop_drop]
     exact List.drop_sublist _ _
    have h2 := f.holds.size
    rw [hless]
    unfold L5.No.size at h2 ⊢
    simp only
    omega
   have hU : UpsOk s.abs pre.reverse y.at_ (lessRec y.n (y.n.recs.countP (ltB k))).leaf := by
    have := ups_of f.ctx
    rw [hless]
    simpa [f.leaf] using this
   have hpg : ∀ p ∈ ps, ∃ c, s.abs.at (p : Int) = some c := fun p hp => by
    rcases List.mem_cons.1 (f.ps_.mem_iff.1 hp) with e | e
    · rw [e]; exact ⟨_, f.holds.page⟩
    · exact f.ctx.pages _ e
   have htr := hT.tr
   rw [hl] at htr
   refine (tdelete_rel (R := fun xr xh xl A => xl = l /\ ∃ L G, Dels s.abs pre.reverse y.at_ (lessRec y.n (y.n.recs.countP (ltB k))) r h L G xr xh /\ A = frees (laidL s.abs L) G) hT.ar htr t3 (fun N x W hE => ?_)).mono ?_
   · refine (delete_any hE hT.ok f.path t1 f.holds.small hat hcl (by omega) hU hnz (fun L1 G1 r1' n1 hs => by
      have := f.setOk hT.tp.nodup hR hless hs
      simpa [prs] using this)).mono ?_
     rintro e w1 ⟨rfl, ld, gn, Ld, G, r', h', hD, hE', hS', g1, g2⟩
     obtain ⟨ps', _, _, _, j1, j2, j3⟩ := del_tree f hT.ok hT.tp.nodup hpg hm hR hless hD
     have hthere : ∀ z ∈ prs Ld, ∃ c, s.abs.at (z.1 : Int) = some c := fun z hz => (j3 z hz).2.2
     refine ⟨rfl, r', h', l, _, ⟨rfl, prs Ld, G, hD, rfl⟩, s, .slice none 0 0, ld, gn, [], Ld, G, rfl, hT.ok, hE', j1, fun n hn => ?_, g2, g1, fun z hz => ?_, fun z hz => ?_, by rw [laid_prs]; rfl, hS'⟩
     · obtain ⟨c, hc⟩ := j2 n hn
       by_cases hin : ∃ z ∈ prs Ld, z.1 = n
       · obtain ⟨z, hz, rfl⟩ := hin
         exact hthere z hz
       · rw [laidL_other (prs Ld) hthere fun z hz e => hin ⟨z, hz, e⟩] at hc
         exact ⟨c, hc⟩
     · have := j3 (z.at_, z.n) (List.mem_map.2 ⟨z, hz, rfl⟩)
       exact ⟨small_size this.2.1, this.1, this.2.1⟩
     · exact (j3 (z.at_, z.n) (List.mem_map.2 ⟨z, hz, rfl⟩)).2.2
   · rintro e w' ⟨rfl, xr, xh, xl, A, ⟨rfl, L, G, hD, rfl⟩, s', hp, hab, hok, hA, ht, hon, hown⟩
     obtain ⟨ps', j1, j2, j3, j4, j5, j6⟩ := del_tree f hT.ok hT.tp.nodup hpg hm hR hless hD
     refine ⟨0, s', xr, xh, delK k es, ps', rfl, Or.inr ⟨hm, rfl, rfl⟩, ⟨hA, hok, ?_, ?_⟩, ?_, hp, ?_, hon, hown, ?_⟩
     · rw [hp, show (delK k es).length = xl by omega]; exact ht
     · exact ⟨by rw [hab]; exact j1, rfl, j2.nodup⟩
     · rw [hab]; exact j3
     · rw [hab]; exact j2.turn
     · rw [hab]; exact flow_del t2 hD hlen j2 (fun p hp => j1.pages p hp) j4 j5 j6
 · have hna : L5.isAt y.n.recs k (y.n.recs.countP (L5.ltB k)) = false := by
    cases hb : L5.isAt y.n.recs k (y.n.recs.countP (L5.ltB k)) with
    | false => rfl
    | true => exact absurd (f.mem.2 hb) hm
   refine (tdelete_stop hT.ar hT.tr t3 (fun x W hE => delete_absent_any hE hT.ok f.path t1 f.holds.small hna)).mono ?_
   rintro e w' ⟨rfl, hb⟩
   exact ⟨2, s, r, h, es, ps, rfl, Or.inl ⟨hm, rfl, rfl⟩, TTo.still hT hR hb⟩
theorem grows_new : ∀ (ups : List Pl) {a : Abs} {at_ : Nat} {n : L5.No} {c : List UInt8}, a.Ok -> ups.length + 2 <= a.left -> GrowOk ups a at_ n -> a.at (at_ : Int) = some c -> (∀ u ∈ ups, ∃ c, a.at (u.at_ : Int) = some c) -> ∀ rt : Nat, (grows ups a at_ n).2 = some rt -> a.at (rt : Int) = none := by
 intro ups
 induction ups with
 | nil =>
  intro a at_ n c ho hl hG hat hus rt hrt
  obtain ⟨hs, _, hd⟩ := hG
  by_cases hf : n.size <= 1024
  · rw [grows, if_pos hf] at hrt; cases hrt
  · obtain ⟨hc, hr1, hr2⟩ := hd.resolve_left hf
    obtain ⟨n1, n2⟩ := next_pos ho
    obtain ⟨⟨z, a1⟩, a2⟩ := at_alloc ho
    have ok1 := (ho.alloc (by omega)).1
    have hnx : a.next ≠ at_ := fun e => by rw [e, hat] at n2; cases n2
    have hat1 : a.alloc.at (at_ : Int) = some c := by rw [a2 at_ (fun e => hnx e.symm)]; exact hat
    have hnx1 : (layN a.alloc at_ (n.lo n.cut)).at (a.next : Int) = some z := by unfold layN; rw [at_lay_ne hnx (at_pos hat)]; exact a1
    have ok3 := layN_ok (n := n.hi n.cut) (layN_ok (n := n.lo n.cut) ok1 hat1 hc.lo.2.1) hnx1 hc.hi.2.1
    have hatA : (layN (layN a.alloc at_ (n.lo n.cut)) a.next (n.hi n.cut)).at (at_ : Int) = some (L5.pageL (n.lo n.cut).toNd) := by
     show ((layN a.alloc at_ (n.lo n.cut)).lay a.next _).at (at_ : Int) = _
     rw [at_lay_ne (fun e => hnx e.symm) n1]
     exact at_lay_same hat1 _
    have oth : ∀ p : Nat, p ≠ at_ -> p ≠ a.next -> (layN (layN a.alloc at_ (n.lo n.cut)) a.next (n.hi n.cut)).at (p : Int) = a.at (p : Int) := fun p h1 h2 => by
     unfold layN
     rw [at_lay_ne h2 n1, at_lay_ne h1 (at_pos hat), a2 p h2]
    rw [grows, if_neg hf] at hrt
    have hrt' := Option.some.inj hrt
    obtain ⟨y1, y2⟩ := next_pos ok3
    rw [hrt'] at y2
    by_cases e1 : rt = at_
    · rw [e1, hatA] at y2; cases y2
    · by_cases e2 : rt = a.next
      · rw [e2]; exact n2
      · rw [<- oth rt e1 e2]; exact y2
 | cons u us ih =>
  intro a at_ n c ho hl hG hat hus rt hrt
  obtain ⟨hs, _, hd⟩ := hG
  by_cases hf : n.size <= 1024
  · rw [grows, if_pos hf] at hrt; cases hrt
  · obtain ⟨hc, _, _, _, hG'⟩ := hd.resolve_left hf
    obtain ⟨n1, n2⟩ := next_pos ho
    obtain ⟨⟨z, a1⟩, a2⟩ := at_alloc ho
    have ok1 := (ho.alloc (by omega)).1
    have hnx : a.next ≠ at_ := fun e => by rw [e, hat] at n2; cases n2
    have hat1 : a.alloc.at (at_ : Int) = some c := by rw [a2 at_ (fun e => hnx e.symm)]; exact hat
    have hnx1 : (layN a.alloc at_ (n.lo n.cut)).at (a.next : Int) = some z := by unfold layN; rw [at_lay_ne hnx (at_pos hat)]; exact a1
    have e : grows (u :: us) a at_ n = grows us (layN (layN a.alloc at_ (n.lo n.cut)) a.next (n.hi n.cut)) u.at_ (addK u (sepOf n) a.next) := by rw [grows, if_neg hf]
    rw [e] at hrt
    have ok3 := layN_ok (n := n.hi n.cut) (layN_ok (n := n.lo n.cut) ok1 hat1 hc.lo.2.1) hnx1 hc.hi.2.1
    have hlf : (layN (layN a.alloc at_ (n.lo n.cut)) a.next (n.hi n.cut)).left = a.left - 1 := by rw [(layN_used _ _ _).2.2, (layN_used _ _ _).2.2, left_alloc ho]
    have oth : ∀ p : Nat, p ≠ at_ -> p ≠ a.next -> (layN (layN a.alloc at_ (n.lo n.cut)) a.next (n.hi n.cut)).at (p : Int) = a.at (p : Int) := fun p h1 h2 => by
     unfold layN
     rw [at_lay_ne h2 n1, at_lay_ne h1 (at_pos hat), a2 p h2]
    have hatA : (layN (layN a.alloc at_ (n.lo n.cut)) a.next (n.hi n.cut)).at (at_ : Int) = some (L5.pageL (n.lo n.cut).toNd) := by
     show ((layN a.alloc at_ (n.lo n.cut)).lay a.next _).at (at_ : Int) = _
     rw [at_lay_ne (fun e => hnx e.symm) n1]
     exact at_lay_same hat1 _
    generalize layN (layN a.alloc at_ (n.lo n.cut)) a.next (n.hi n.cut) = a1' at *
    have use1 : ∀ q : Nat, (∃ c, a.at (q : Int) = some c) -> ∃ c, a1'.at (q : Int) = some c := fun q ⟨c', hq⟩ => by
     by_cases e1 : q = at_
     · subst e1; exact ⟨_, hatA⟩
     · have e2 : q ≠ a.next := fun e => by rw [e, n2] at hq; cases hq
       exact ⟨c', by rw [oth q e1 e2]; exact hq⟩
    obtain ⟨cu, hcu⟩ := use1 u.at_ (hus u (by simp))
    have h1 := ih ok3 (by simp at hl; omega) hG' hcu (fun v hv => use1 v.at_ (hus v (by simp [hv]))) rt hrt
    cases hx : a.at (rt : Int) with
    | none => rfl
    | some d =>
     obtain ⟨c', hc'⟩ := use1 rt ⟨d, hx⟩
     rw [h1] at hc'; cases hc'
theorem tinsert_ruly {s : Ar} {t r h : Nat} {es : List ByteArray} {ps : List Nat} {k : ByteArray} {w : World} (hT : TW s t r h es ps w) (hR : Ruly s.abs r ps) (hll : es.length <= 1000000) :
 Calls Tryz.prog 9 #[.pointer (some ⟨t, 0, none⟩), .string k] w fun e w' => ∃ c s' r' h' es' ps', e = .returned (.int .i64 c) /\ InsR es k s.abs.left h c es' /\ TTo True s t h es ps w s' r' h' es' ps' w' := by
 obtain ⟨t1, t2, t3⟩ := hT.tp.tall hT.ok
 by_cases hk : k.size = 0 \/ 400 < k.size
 · refine (tinsert_arg hT.tr t3 hk).mono ?_
   rintro e w' ⟨rfl, hb⟩
   exact ⟨15, s, r, h, es, ps, rfl, Or.inl ⟨hk, rfl, rfl⟩, TTo.still hT hR hb⟩
 have hk1 : 1 <= k.size := by omega
 have hk2 : k.size <= 400 := by omega
 obtain ⟨pre, y, lo, hi, fL, fR, qO, f⟩ := hT.tp.sub.found k
 by_cases hm : k ∈ es
 · refine (tinsert_stop hT.ar hT.tr t3 hk1 hk2 (fun x W hE => insert_there_any hE hT.ok f.path t1 f.holds.small (f.mem.1 hm))).mono ?_
   rintro e w' ⟨rfl, hb⟩
   exact ⟨3, s, r, h, es, ps, rfl, Or.inr ⟨⟨hk1, hk2⟩, Or.inl ⟨hm, rfl, rfl⟩⟩, TTo.still hT hR hb⟩
 have hna : L5.isAt y.n.recs k (y.n.recs.countP (L5.ltB k)) = false := by
  cases hb : L5.isAt y.n.recs k (y.n.recs.countP (L5.ltB k)) with
  | false => rfl
  | true => exact absurd (f.mem.2 hb) hm
 by_cases hl : s.abs.left < h + 1
 · refine (tinsert_stop hT.ar hT.tr t3 hk1 hk2 (fun x W hE => insert_quota_any hE hT.ok f.path t1 f.holds.small hna hl)).mono ?_
   rintro e w' ⟨rfl, hb⟩
   exact ⟨9, s, r, h, es, ps, rfl, Or.inr ⟨⟨hk1, hk2⟩, Or.inr ⟨hm, Or.inl ⟨hl, rfl, rfl⟩⟩⟩, TTo.still hT hR hb⟩
 have hl' : h + 1 <= s.abs.left := by omega
 obtain ⟨hG, ps', hS, hGr, hFt⟩ := f.law hT.ok hT.tp.nodup hl' hk1 hk2 hm (n := withRec y.n (y.n.recs.countP (L5.ltB k)) k) rfl
 have hpl : ∀ z ∈ pre.reverse, ∃ c, s.abs.at (z.at_ : Int) = some c := fun z hz => f.ctx.steps z hz
 have hlen0 : pre.length + 1 = h := by have := f.path.pos.1; simpa using this
 refine (tinsert_any hT.ar hT.ok hT.tr t3 f.path t1 hk1 hk2 f.holds.small hna ⟨_, f.holds.page⟩ hl' (fun z hz => f.ctx.steps z (by simp [hz])) hG hll).mono ?_
 rintro e w' ⟨rfl, s', hp, hab, hok, hA, ht, hon, hown⟩
 have hlen : (insK k es).length = es.length + 1 := insK_len k es
 refine ⟨0, s', _, _, insK k es, ps', rfl, Or.inr ⟨⟨hk1, hk2⟩, Or.inr ⟨hm, Or.inr ⟨hl', rfl, rfl⟩⟩⟩, ⟨hA, hok, by rw [hlen, hp]; exact ht, ⟨by rw [hab]; exact hS, rfl, hGr.nodup⟩⟩, ?_, hp, by rw [hab]; exact hGr.turn, hon, hown, ?_⟩
 case refine_2 =>
  rw [hab]
  exact flow_ins f hT.ok hl' hG (by unfold withRec; simp) hR hT.tp.nodup (fun p hp => hS.pages p hp) hGr
 rw [hab]
 have hne : (withRec y.n (y.n.recs.countP (L5.ltB k)) k).recs ≠ [] := by
  unfold withRec
  simp
 have hturn := grows_turn pre.reverse hT.ok (by simp; omega) hG hne f.holds.page hpl
 refine ruly_ins (at_ := y.at_) hR hturn ?_ (f.ps_.mem_iff.2 (by simp)) (fun p hp => hS.pages p hp) hGr.fresh hS.tall.2.2 ?_
 · exact grows_good pre.reverse hT.ok (by simp; omega) hG hne f.holds.page hpl y.at_ (Or.inr (Or.inl rfl))
 · cases ho : (grows pre.reverse s.abs y.at_ (withRec y.n (y.n.recs.countP (L5.ltB k)) k)).2 with
   | none => exact Or.inl rfl
   | some rt => exact Or.inr (grows_new pre.reverse hT.ok (by simp; omega) hG f.holds.page hpl rt ho)
end Go.Proofs.YtiohkehcpkfleaaGreat
