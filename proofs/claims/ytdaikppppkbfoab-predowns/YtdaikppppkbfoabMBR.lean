import Derived.Test.YtdaikppppkbfoabMBQ
import Derived.Test.YtdaikppppkbfoabMBL
set_option maxRecDepth 100000
set_option maxHeartbeats 4000000
namespace Go.Proofs.Ytdaikppppkbfoab
open Go.RowKit
theorem mclo_walk (t: Tl) (r: RowL) {p: Nat} {w: World} (hp: w.heap[p]? = some (.cells #[.slice r.a r.l.length r.c] 24 (0,0))) (hR: Rw.SlG vvC 3 w r.a r.l) :
 Calls Try.prog 16 #[tlV t, .pointer (some ⟨p,0,none⟩)] w fun e w' => e = .returned (.bool (!metT r.l t)) /\ Below w.heap.size w w' := by
 have HM := Rw.dh (fun W (hb: Below w.heap.size w W) => met_walk t r.l r.a r.c W (hR.below hb))
 have hlp := (Array.getElem?_eq_some_iff.1 hp).1
 have KP := Rw.dh (fun W (hb: Below w.heap.size w W) => (show W.cell? ⟨p,0,none⟩ = some (.slice r.a r.l.length r.c) by rw [cell_of_row _ _ _ _ _ _ ((hb.block _ hlp).trans hp)]; rfl))
 have c0 := KP.out w (Below.refl _ _)
 have c1 := KP.out (w.alloc (.cells (tlC t).toArray 29)) (Rw.below_alloc _ _)
 clear hp hR
 generalize metT r.l t = m at *
 obtain ⟨col,⟨lh,li,lk,ln,ls⟩,⟨hh,hi,hk,hn,hs⟩⟩ := t
 unfold tlC at c1
 unfold tlV at HM ⊢
 go_enter Try.func16,Try.ntmps16
 go_wp2_with fail
 refine (HM.out _ (by first | exact Below.refl _ _ | exact Rw.below_alloc _ _)).mono ?_
 rintro e w1 ⟨rfl,hb⟩
 have HB: Hid (Below w.heap.size w w1) := by first | exact hb | exact below_on (Rw.below_alloc _ _) hb
 clear hb
 go_wp2
 go_ret
 exact ⟨rfl,HB.out⟩
theorem all_at_no {r: List Vv} {ts: List Tl} {j: Nat} {t: Tl} (h: ts[j]? = some t) (hm: metT r t = false): ts.all (metT r) = false := by
 rw [<- Bool.not_eq_true,List.all_eq_true]
 intro hA
 have := hA t (List.mem_of_getElem? h)
 rw [hm] at this
 cases this
theorem all_take_succ {r: List Vv} {ts: List Tl} {j: Nat} {t: Tl} (h: ts[j]? = some t) (hA: (ts.take j).all (metT r) = true) (hm: metT r t = true): (ts.take (j + 1)).all (metT r) = true := by
 obtain ⟨hj,e⟩ := List.getElem?_eq_some_iff.1 h
 rw [List.take_succ_eq_append_getElem hj,List.all_append,hA,e]
 simp [hm]
inductive IdxB: Bool -> Ending -> Prop
 | none: IdxB true (.returned (.int .i64 (-1)))
 | at (j: Nat): IdxB false (.returned (.int .i64 (j: Int)))
theorem idxT_walk {ts: List Tl} {a: Option Addr} {c: Nat} {r: RowL} {p: Nat} {w: World} (hS: Rw.SlG tlC 11 w a ts) (hl: ts.length <= 1000) (hp: w.heap[p]? = some (.cells #[.slice r.a r.l.length r.c] 24 (0,0))) (hR: Rw.SlG vvC 3 w r.a r.l) :
 Calls Try.prog 25 #[.slice a ts.length c, .func (.func 16) #[] #[.pointer (some ⟨p,0,none⟩)]] w fun e W => IdxB (ts.all (metT r.l)) e /\ Below w.heap.size w W := by
 have HS := Rw.dh hS
 have HC := Rw.dh (fun t W (hb: Below w.heap.size w W) => mclo_walk t r (p := p) (w := W) ((hb.block _ (Array.getElem?_eq_some_iff.1 hp).1).trans hp) (hR.below hb))
 clear hS hR hp
 go_enter Try.func25,Try.ntmps25
 go_wp2_with fail
 go_loopw [8] (fun i wr => ∃ j: Nat,j <= ts.length /\ i = .int .i64 (j: Int) /\ Hid (Below w.heap.size w wr) /\ Hid ((ts.take j).all (metT r.l) = true)) (fun i _ => ts.length - (intOf i).toNat)
 case atStart => exact ⟨0,Nat.zero_le _,rfl,Below.refl _ _,rfl⟩
 case round =>
  obtain ⟨j,hj,rfl,HB,HA⟩ := hrel
  by_cases hlt: j < ts.length
  · obtain ⟨b,o,t,rfl,hb,hx,hc⟩ := (HS.out.below HB.out).at hlt
    have hv := HC.out t wr HB.out
    have HX := Rw.dh hx
    have c0: wr.cell? ⟨b,o + j * 11,none⟩ = some (.int .i64 t.col) := hc 0 _ rfl
    have c1: wr.cell? ⟨b,o + j * 11 + 1,none⟩ = some (.bool t.lo.has) := hc 1 _ rfl
    have c2: wr.cell? ⟨b,o + j * 11 + 2,none⟩ = some (.bool t.lo.incl) := hc 2 _ rfl
    have c3: wr.cell? ⟨b,o + j * 11 + 3,none⟩ = some (.int .i64 t.lo.v.k) := hc 3 _ rfl
    have c4: wr.cell? ⟨b,o + j * 11 + 4,none⟩ = some (.int .i64 t.lo.v.n) := hc 4 _ rfl
    have c5: wr.cell? ⟨b,o + j * 11 + 5,none⟩ = some (.string t.lo.v.s) := hc 5 _ rfl
    have c6: wr.cell? ⟨b,o + j * 11 + 6,none⟩ = some (.bool t.hi.has) := hc 6 _ rfl
    have c7: wr.cell? ⟨b,o + j * 11 + 7,none⟩ = some (.bool t.hi.incl) := hc 7 _ rfl
    have c8: wr.cell? ⟨b,o + j * 11 + 8,none⟩ = some (.int .i64 t.hi.v.k) := hc 8 _ rfl
    have c9: wr.cell? ⟨b,o + j * 11 + 9,none⟩ = some (.int .i64 t.hi.v.n) := hc 9 _ rfl
    have c10: wr.cell? ⟨b,o + j * 11 + 10,none⟩ = some (.string t.hi.v.s) := hc 10 _ rfl
    clear hc hx
    unfold tlV at hv
    go_wp2_with fail
    refine hv.mono ?_
    clear hv
    rintro e w1 ⟨rfl,hb1⟩
    have HB1 := Rw.dh (below_on HB.out hb1)
    clear hb1 c0 c1 c2 c3 c4 c5 c6 c7 c8 c9 c10 hb HB
    cases hm: metT r.l t
    · have HE := Rw.dh (all_at_no HX.out hm)
      clear hm
      go_wp2
      go_ret
      exact ⟨by rw [HE.out]; exact .at j,HB1.out⟩
    · have HA1 := Rw.dh (all_take_succ HX.out HA.out hm)
      clear hm
      go_wp2
      go_roundw
      case rel => exact ⟨j + 1,hlt,by go_num,HB1,HA1⟩
      case measure => simp [intOf]; omega
  · have hjs: j = ts.length := by omega
    subst hjs
    have hA := HA.out
    rw [List.take_length] at hA
    have HE := Rw.dh hA
    clear hA HA
    go_wp2
    go_ret
    exact ⟨by rw [HE.out]; exact .none,HB.out⟩
theorem conT_walk {ts: List Tl} {a: Option Addr} {c: Nat} {r: RowL} {p: Nat} {w: World} (hS: Rw.SlG tlC 11 w a ts) (hl: ts.length <= 1000) (hp: w.heap[p]? = some (.cells #[.slice r.a r.l.length r.c] 24 (0,0))) (hR: Rw.SlG vvC 3 w r.a r.l) :
 Calls Try.prog 15 #[.slice a ts.length c, .func (.func 16) #[] #[.pointer (some ⟨p,0,none⟩)]] w fun e W => e = .returned (.bool (!(ts.all (metT r.l)))) /\ Below w.heap.size w W := by
 have hX := idxT_walk (c := c) hS hl hp hR
 generalize ts.all (metT r.l) = m at *
 clear hS hR hp
 go_enter Try.func15,Try.ntmps15
 go_wp2_with fail
 refine hX.mono ?_
 clear hX
 rintro e w1 ⟨hW,hb⟩
 have HB := Rw.dh hb
 clear hb
 cases hW with
 | none =>
  go_wp2
  go_ret
  exact ⟨rfl,HB.out⟩
 | «at» j =>
  have h0: decide ((j: Int) ≥ 0) = true := by simp
  have h1: decide (0 <= (j: Int)) = true := by simp
  go_wp2
  go_ret
  exact ⟨rfl,HB.out⟩
theorem row_in {w: World} {r: RowL} {T: TypeId} (hR: Rw.SlG vvC 3 (w.alloc (.cells #[.slice r.a r.l.length r.c] T)) r.a r.l): RowsIn (w.alloc (.cells #[.slice r.a r.l.length r.c] T)) (some ⟨w.heap.size,0,none⟩) [r] := by
 refine ⟨Or.inr ⟨_,0,rfl,by simp,fun j x hj i u hu => ?_⟩,fun x hx => ?_⟩
 · cases j with
   | succ j => simp at hj
   | zero =>
    simp at hj
    subst hj
    cases i with
    | succ i => simp [rowC] at hu
    | zero =>
     simp [rowC] at hu
     subst hu
     rw [cell_of_row _ _ _ _ _ _ (Rw.heap_new w _)]
     rfl
 · simp at hx
   subst hx
   exact hR
theorem row_fit {r: RowL} (h: r.l.length <= maxLen /\ ∀ v ∈ r.l,VFit v): RowsFit [r] := ⟨by simp [maxLen],fun x hx => by simp at hx; subst hx; exact h⟩
theorem meets_walk {n: Nat} (hn: n <= 65536) (k: CondL) (r: RowL) {w: World} (hI: CdIn w k) (hts: k.ts.length <= 1000) (hd: ∀ x ∈ k.l,deepN n x = false) (hl: k.l.length <= 50) (hR: Rw.SlG vvC 3 w r.a r.l) (hF: r.l.length <= maxLen /\ ∀ v ∈ r.l,VFit v) :
 Calls Try.prog 10 #[cdV k, .slice r.a r.l.length r.c] w fun e w' => e = .returned (.bool (meetsC n r k.ts k.l)) /\ Below w.heap.size w w' := by
 have hmf: ∀ (fn: Fn) (first cap: Array Value) (w: World),(Instr.makeFunc fn first cap).run Try.prog w = .ok (.func fn first cap) w := fun _ _ _ _ => rfl
 have HR := Rw.dh (fun W (hb: Below w.heap.size w W) => hR.below hb)
 have HI := Rw.dh (fun W (hb: Below w.heap.size w W) => hI.on hb)
 have HF := Rw.dh hF
 have HD := Rw.dh hd
 have HQ: Hid (∀ B,B = meetsC n r k.ts k.l -> Ending.returned (.bool B) = .returned (.bool (meetsC n r k.ts k.l))) := fun B hB => by rw [hB]
 clear hI hR hF hd
 obtain ⟨ta,tc,ts,la,lc,l⟩ := k
 unfold cdV
 go_enter Try.func10,Try.ntmps10
 go_wp2_with fail
 have hp := heap_two w (.cells #[.slice ta ts.length tc, .slice la l.length lc] 33) (.cells #[.slice r.a r.l.length r.c] 24)
 have hcw := Rw.dh ((Below.heap_alloc (w.alloc (.cells #[.slice ta ts.length tc, .slice la l.length lc] 33)) (.cells #[.slice r.a r.l.length r.c] 24) w.heap.size (by simp)).trans (Rw.heap_new w _))
 have hI1 := HI.out _ (below_two w (.cells #[.slice ta ts.length tc, .slice la l.length lc] 33) (.cells #[.slice r.a r.l.length r.c] 24))
 have HC := conT_walk (c := tc) hI1.ts hts hp (HR.out _ (below_two w _ _))
 have HP := Rw.dh hp
 clear hp hI1
 refine HC.mono ?_
 clear HC
 rintro e w1 ⟨rfl,hb⟩
 have HB := Rw.dh (below_on (below_two w _ _) hb)
 have HP1 := Rw.dh ((hb.block _ (Array.getElem?_eq_some_iff.1 HP.out).1).trans HP.out)
 have HC1 := Rw.dh ((hb.block _ (Array.getElem?_eq_some_iff.1 hcw.out).1).trans hcw.out)
 clear hb HP hcw
 have c0: w1.cell? ⟨w.heap.size,0,none⟩ = some (.slice ta ts.length tc) := by rw [cell_of_row _ _ _ _ _ _ HC1.out]; rfl
 have c1: w1.cell? ⟨w.heap.size,1,none⟩ = some (.slice la l.length lc) := by rw [cell_of_row _ _ _ _ _ _ HC1.out]; rfl
 have r0: w1.cell? ⟨w.heap.size + 1,0,none⟩ = some (.slice r.a r.l.length r.c) := by rw [cell_of_row _ _ _ _ _ _ HP1.out]; rfl
 have hs1 := (Array.getElem?_eq_some_iff.1 HP1.out).1
 cases hm: ts.all (metT r.l)
 · go_wp2
   go_ret
   exact ⟨HQ.out _ (by simp [meetsC,hm]),HB.out⟩
 · go_wp2_with fail
   have hI2 := HI.out _ (below_on HB.out (Rw.below_alloc w1 (.cells #[.slice r.a r.l.length r.c] 24)))
   have hA := all_walk (rc := 1) (c := lc) hn (row_fit HF.out) hI2.ns (fun x hx => hI2.ins x hx n) HD.out hl (row_in (T := 24) (HR.out _ (below_on HB.out (Rw.below_alloc w1 (.cells #[.slice r.a r.l.length r.c] 24)))))
   have HE: Hid (meetsC n r ts l = (allN n [r] l).1) := by show meetsC n r ts l = _; simp [meetsC,hm]
   clear hI2 c0 c1 r0
   generalize allN n [r] l = al at *
   refine hA.mono ?_
   clear hA
   rintro e w2 ⟨rfl,hb2⟩
   have HB2 := Rw.dh (below_on HB.out (below_on (Rw.below_alloc w1 _) hb2))
   clear hb2
   go_wp2
   go_ret
   exact ⟨HQ.out _ HE.out.symm,HB2.out⟩
end Go.Proofs.Ytdaikppppkbfoab
