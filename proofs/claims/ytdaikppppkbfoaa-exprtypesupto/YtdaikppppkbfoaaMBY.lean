import Derived.Test.YtdaikppppkbfoaaMBU
import Derived.Test.YtdaikppppkbfoaaMBV
import Derived.Test.YtdaikppppkbfoaaMBW
import Derived.Test.YtdaikppppkbfoaaMBX
import Derived.Deep.RegionHeld3
set_option maxRecDepth 100000
set_option maxHeartbeats 4000000
namespace Go.Proofs.Ytdaikppppkbfoaa
open Go.RowKit
theorem deep_like: ∀ {n: Nat} {x y: XL},Like n x y -> deepB n x = deepB n y
 | 0,_,_,_ => rfl
 | n + 1,x,y,h => by
  have hl: x.kids.length = y.kids.length := h.2.2.2.2.2.2.1
  have hk := h.2.2.2.2.2.2.2
  show x.kids.any (deepB n) = y.kids.any (deepB n)
  apply Bool.eq_iff_iff.2
  rw [List.any_eq_true,List.any_eq_true]
  constructor
  · rintro ⟨k,hm,hd⟩
    obtain ⟨i,hi⟩ := List.getElem?_of_mem hm
    have hil := (List.getElem?_eq_some_iff.1 hi).1
    have hy := List.getElem?_eq_getElem (l := y.kids) (i := i) (by omega)
    exact ⟨_,List.mem_of_getElem? hy,by rw [<- deep_like (hk i _ _ hi hy)]; exact hd⟩
  · rintro ⟨k,hm,hd⟩
    obtain ⟨i,hi⟩ := List.getElem?_of_mem hm
    have hil := (List.getElem?_eq_some_iff.1 hi).1
    have hx := List.getElem?_eq_getElem (l := x.kids) (i := i) (by omega)
    exact ⟨_,List.mem_of_getElem? hx,by rw [deep_like (hk i _ _ hx hi)]; exact hd⟩
theorem greatS_walk {l: List XL} {a: Option Addr} {c: Nat} {w: World} (hs: Rw.SlG xC 7 w a l) (hi: ∀ k ∈ l,In 60 w k) (hl: l.length <= 1048576): Calls Try.prog 8 #[wsV a l.length c] w fun e W => Below w.heap.size w W /\ ∃ b: Bool,e = .returned (.bool b) /\ (b = false -> l.length <= 200 /\ ∀ k ∈ l,deepB 60 k = false) := by
 have HD := Rw.dh (fun W (hb: Below w.heap.size w W) => deepS_walk (c := c) (hs.below hb) (fun k hk => (hi k hk).on hb) hl)
 have HA: Hid (l.any (deepB 60) = false -> ∀ k ∈ l,deepB 60 k = false) := fun h k hk => Bool.eq_false_iff.2 (List.any_eq_false.1 h k hk)
 have HP := Rw.dh (fun (hd: l.any (deepB 60) = false) W (hb: Below w.heap.size w W) => plainS_walk (c := c) (hs.below hb) (fun k hk => (hi k hk).on hb) (HA.out hd) hl)
 clear hs hi
 have HL := Rw.dh hl
 unfold wsV at *
 generalize hn: l.length = n at *
 have HN := Rw.dh hn
 clear hn hl
 have hw: wrap64 (n: Int) = (n: Int) := by have := HL.out; unfold wrap64; omega
 by_cases h200: 200 < n
 · have hd: decide (200 < (n: Int)) = true := decide_eq_true (by omega)
   clear h200
   go_enter Try.func8,Try.ntmps8
   go_wp2_with fail
   go_ret
   exact ⟨Rw.below_alloc _ _,true,rfl,fun h => by cases h⟩
 · have H200 := Rw.dh h200
   have hd: decide (200 < (n: Int)) = false := decide_eq_false (by omega)
   clear h200
   go_enter Try.func8,Try.ntmps8
   go_wp2_with fail
   refine (HD.out _ (Rw.below_alloc _ _)).mono ?_
   rintro e w1 ⟨rfl,hb1⟩
   have HB1 := Rw.dh (below_on (Rw.below_alloc w _) hb1)
   have hst := (hb1.block _ (by simp)).trans (Rw.heap_new w (.cells #[.int .i64 0, .string ⟨#[]⟩, .string ⟨#[]⟩, .string ⟨#[]⟩, .slice none 0 0, .slice none 0 0, .slice none 0 0, .slice a n c, .slice none 0 0, .slice none 0 0, .int .i64 0, .int .i64 0, .bool false, .bool false, .slice none 0 0] 37))
   clear hb1 HD
   generalize hdd: l.any (deepB 60) = dd at *
   cases dd
   · have HC := Rw.dh (HP.out rfl w1 HB1.out)
     have HA1 := Rw.dh (HA.out rfl)
     have x0: w1.cell? ⟨w.heap.size,0,none⟩ = some (.int .i64 0) := by rw [cell_of_row _ _ _ _ _ _ hst]; rfl
     have x1: w1.cell? ⟨w.heap.size,1,none⟩ = some (.string ⟨#[]⟩) := by rw [cell_of_row _ _ _ _ _ _ hst]; rfl
     have x2: w1.cell? ⟨w.heap.size,2,none⟩ = some (.string ⟨#[]⟩) := by rw [cell_of_row _ _ _ _ _ _ hst]; rfl
     have x3: w1.cell? ⟨w.heap.size,3,none⟩ = some (.string ⟨#[]⟩) := by rw [cell_of_row _ _ _ _ _ _ hst]; rfl
     have x4: w1.cell? ⟨w.heap.size,4,none⟩ = some (.slice none 0 0) := by rw [cell_of_row _ _ _ _ _ _ hst]; rfl
     have x5: w1.cell? ⟨w.heap.size,5,none⟩ = some (.slice none 0 0) := by rw [cell_of_row _ _ _ _ _ _ hst]; rfl
     have x6: w1.cell? ⟨w.heap.size,6,none⟩ = some (.slice none 0 0) := by rw [cell_of_row _ _ _ _ _ _ hst]; rfl
     have x7: w1.cell? ⟨w.heap.size,7,none⟩ = some (.slice a n c) := by rw [cell_of_row _ _ _ _ _ _ hst]; rfl
     have x8: w1.cell? ⟨w.heap.size,8,none⟩ = some (.slice none 0 0) := by rw [cell_of_row _ _ _ _ _ _ hst]; rfl
     have x9: w1.cell? ⟨w.heap.size,9,none⟩ = some (.slice none 0 0) := by rw [cell_of_row _ _ _ _ _ _ hst]; rfl
     have x10: w1.cell? ⟨w.heap.size,10,none⟩ = some (.int .i64 0) := by rw [cell_of_row _ _ _ _ _ _ hst]; rfl
     have x11: w1.cell? ⟨w.heap.size,11,none⟩ = some (.int .i64 0) := by rw [cell_of_row _ _ _ _ _ _ hst]; rfl
     have x12: w1.cell? ⟨w.heap.size,12,none⟩ = some (.bool false) := by rw [cell_of_row _ _ _ _ _ _ hst]; rfl
     have x13: w1.cell? ⟨w.heap.size,13,none⟩ = some (.bool false) := by rw [cell_of_row _ _ _ _ _ _ hst]; rfl
     have x14: w1.cell? ⟨w.heap.size,14,none⟩ = some (.slice none 0 0) := by rw [cell_of_row _ _ _ _ _ _ hst]; rfl
     clear HP HA hst
     go_wp2_with fail
     refine HC.out.mono ?_
     clear HC
     rintro e w2 ⟨hb2,a1,c1,a2,c2,a3,c3,l3,rfl,hal⟩
     have HB2 := Rw.dh (below_on HB1.out hb2)
     have hS := sizeS_walk (a1 := a1) (a2 := a2) (c1 := c1) (c2 := c2) (c := c3) hal.2.1 (fun k hk => ⟨(hal.2.2.2.1 k hk 60).1,by
      obtain ⟨i,hi⟩ := List.getElem?_of_mem hk
      have hil := (List.getElem?_eq_some_iff.1 hi).1
      have hx := List.getElem?_eq_getElem (l := l) (i := i) (by have := hal.1; omega)
      rw [<- deep_like (hal.2.2.2.2 i _ _ hx hi)]
      exact HA1.out _ (List.mem_of_getElem? hx)⟩) (by have := hal.1; have := HL.out; have := HN.out; omega)
     rw [hal.1,HN.out] at hS
     rw [HN.out]
     have HS := Rw.dh hS
     clear hS hal hb2 x0 x1 x2 x3 x4 x5 x6 x7 x8 x9 x10 x11 x12 x13 x14
     unfold rsV at *
     go_wp2_with fail
     refine HS.out.mono ?_
     clear HS
     rintro e w3 ⟨⟨r,rfl⟩,hb3⟩
     have HB3 := Rw.dh (below_on HB2.out hb3)
     clear hb3
     go_wp2
     go_ret
     exact ⟨HB3.out,_,rfl,fun _ => ⟨by have := H200.out; omega,HA1.out⟩⟩
   · clear HP HA hst
     go_wp2_with fail
     go_ret
     exact ⟨HB1.out,true,rfl,fun h => by cases h⟩
theorem slgx_row {W: World} {b: Nat} {l: List XL} {T: TypeId} {fz: Nat × Nat} (h: W.heap[b]? = some (.cells (Rw.flat xC l).toArray T fz)): Rw.SlG xC 7 W (some ⟨b,0,none⟩) l := slg_flat xC_len h
theorem types_walk {l: List TabL} {f: List SrcL} (x: XL) {rs: List RowL} {own: ByteArray} {a fa ra: Option Addr} {c fc rc: Nat} {w: World} (hl: TabsIn w a l) (hok: TabsOk l) (hf: Rw.SlG srcC 3 w fa f) (hfo: SrcsOk f) (hx: ∀ n,In n w x) (hr: RowsIn w ra rs) (hrf: RowsFit rs) (hrl: rs.length <= 1048576) :
 Calls Try.prog 4 #[.agg #[.slice a l.length c, .slice fa f.length fc, .string own],xV x, .slice ra rs.length rc] w fun e W => e = .returned (.bool true) /\ Below w.heap.size w W := by
 have HV := Rw.dh (fun W (hb: Below w.heap.size w W) => vars_walk own (c := c) (fc := fc) (hl.on hb) hok (hf.below hb) hfo)
 have HG := Rw.dh (fun W (hb: Below w.heap.size w W) b (hbl: W.heap[b]? = some (.cells (xC x).toArray 46 (0,0))) => greatS_walk (l := [x]) (a := some ⟨b,0,none⟩) (c := 1) (w := W) (slgx_row (l := [x]) (by simpa [Rw.flat] using hbl)) (fun k hk => by obtain rfl := List.mem_singleton.1 hk; exact (hx 60).on hb) (by simp))
 have HPX := Rw.dh (fun (hd: deepB 60 x = false) W (hb: Below w.heap.size w W) => plain_walk 60 x W ((hx 60).on hb) hd)
 have HX := Rw.dh hx
 have HRr := Rw.dh hr
 have HRf := Rw.dh hrf
 clear hl hok hf hfo hx hr hrf
 unfold wsV xV at *
 go_enter Try.func4,Try.ntmps4
 go_wp2_with fail
 have HB0 := Rw.dh (below_two w (.cells #[.slice a l.length c, .slice fa f.length fc, .string own] 25) (.cells #[.string x.op, .int .i64 x.vk, .int .i64 x.vn, .string x.vs, .string x.var, .string x.col, .slice x.a x.kids.length x.c] 46))
 have hc1 := (Below.heap_alloc (w.alloc (.cells #[.slice a l.length c, .slice fa f.length fc, .string own] 25)) (.cells #[.string x.op, .int .i64 x.vk, .int .i64 x.vn, .string x.vs, .string x.var, .string x.col, .slice x.a x.kids.length x.c] 46) w.heap.size (by simp)).trans (Rw.heap_new w _)
 have hc2 := heap_two w (.cells #[.slice a l.length c, .slice fa f.length fc, .string own] 25) (.cells #[.string x.op, .int .i64 x.vk, .int .i64 x.vn, .string x.vs, .string x.var, .string x.col, .slice x.a x.kids.length x.c] 46)
 refine (nawake_walk _).mono ?_
 rintro e w1 ⟨rfl,hb1⟩
 have hd1 := (hb1.block _ (Array.getElem?_eq_some_iff.1 hc1).1).trans hc1
 have HE1 := Rw.dh ((hb1.block _ (Array.getElem?_eq_some_iff.1 hc2).1).trans hc2)
 have HB1 := Rw.dh (below_on HB0.out hb1)
 have k0: w1.cell? ⟨w.heap.size,0,none⟩ = some (.slice a l.length c) := by rw [cell_of_row _ _ _ _ _ _ hd1]; rfl
 have k1: w1.cell? ⟨w.heap.size,1,none⟩ = some (.slice fa f.length fc) := by rw [cell_of_row _ _ _ _ _ _ hd1]; rfl
 have k2: w1.cell? ⟨w.heap.size,2,none⟩ = some (.string own) := by rw [cell_of_row _ _ _ _ _ _ hd1]; rfl
 clear hd1 hc1 hc2 hb1 HB0
 go_wp2_with fail
 refine (HV.out w1 HB1.out).mono ?_
 clear HV k0 k1 k2
 rintro e w2 ⟨hb2,hV⟩
 have HB2 := Rw.dh (below_on HB1.out hb2)
 have hE2 := (hb2.block _ (Array.getElem?_eq_some_iff.1 HE1.out).1).trans HE1.out
 have HE2 := Rw.dh hE2
 clear hb2 HB1 HE1
 rcases hV with ⟨h0,rfl⟩ | ⟨h0,vs,va,vc,hstrip,rfl,hvi,hvo⟩
 · generalize (varsP l own f []).2 = ec at *
   clear hE2
   go_wp2_with fail
   go_ret
   exact ⟨rfl,HB2.out⟩
 · clear h0
   have HVI := Rw.dh hvi
   have HVO := Rw.dh hvo
   clear hvi hvo hstrip
   by_cases hlen: rs.length = vs.length
   · obtain ⟨x0,x1,x2,x3,x4,x5,x6⟩ := xbox (x := x) hE2
     have hdl: ((rs.length: Int) != (vs.length: Int)) = false := by rw [hlen]; simp
     clear hE2
     go_wp2_with fail
     refine (HG.out _ (below_on HB2.out (Rw.below_alloc _ _)) w2.heap.size (Rw.heap_new _ _)).mono ?_
     clear HG x0 x1 x2 x3 x4 x5 x6
     rintro e w3 ⟨hb3,bg,rfl,hbf⟩
     have hb23 := below_on (Rw.below_alloc w2 (.cells #[.string x.op, .int .i64 x.vk, .int .i64 x.vn, .string x.vs, .string x.var, .string x.col, .slice x.a x.kids.length x.c] 46)) hb3
     have HB3 := Rw.dh (below_on HB2.out hb23)
     have hE3 := (hb23.block _ (Array.getElem?_eq_some_iff.1 HE2.out).1).trans HE2.out
     have HVI3 := Rw.dh (HVI.out.on hb23)
     clear hb3 hb23 HVI HB2 HE2
     cases bg
     · have hdeep: deepB 60 x = false := (hbf rfl).2 x (by simp)
       have HC := Rw.dh (HPX.out hdeep w3 HB3.out)
       obtain ⟨x0,x1,x2,x3,x4,x5,x6⟩ := xbox (x := x) hE3
       have HE3 := Rw.dh hE3
       have HDeep := Rw.dh hdeep
       clear hbf hdeep HPX hE3
       go_wp2_with fail
       refine HC.out.mono ?_
       clear HC x0 x1 x2 x3 x4 x5 x6
       rintro e w4 ⟨y,rfl,hly,hiy,hb4⟩
       have HRX := Rw.dh (rrx_walk 20 (by omega) y w4 (hiy 20).1)
       have hry: rightX 20 y = rightX 20 x := ((hly.le (by omega)).right).symm
       rw [hry] at HRX
       have HB4 := Rw.dh (below_on HB3.out hb4)
       have HE4 := Rw.dh ((hb4.block _ (Array.getElem?_eq_some_iff.1 HE3.out).1).trans HE3.out)
       have HVI4 := Rw.dh (HVI3.out.on hb4)
       clear hly hiy hb4 hry HB3 HE3 HVI3
       unfold xV at HRX ⊢
       go_wp2_with fail
       refine HRX.out.mono ?_
       clear HRX
       rintro e w5 ⟨rfl,hb5⟩
       have HB5 := Rw.dh (below_on HB4.out hb5)
       have HE5 := Rw.dh ((hb5.block _ (Array.getElem?_eq_some_iff.1 HE4.out).1).trans HE4.out)
       have HVI5 := Rw.dh (HVI4.out.on hb5)
       clear hb5 HB4 HE4 HVI4
       generalize hrt: rightX 20 x = rt at *
       have HRT := Rw.dh hrt
       clear hrt
       cases rt
       · go_wp2_with fail
         go_ret
         exact ⟨rfl,HB5.out⟩
       · go_wp2_with fail
         go_loopw [53] (fun i wr => ∃ j: Nat,j <= vs.length /\ i = .int .i64 (j: Int) /\ Hid (Below w5.heap.size w5 wr) /\ Hid (∀ (i: Nat) v r,i < j -> vs[i]? = some v -> rs[i]? = some r -> v.cols.length <= 50 /\ fitT v.cols (r.l.map vaOf) = 0)) (fun i _ => vs.length - (intOf i).toNat)
         case atStart => exact ⟨0,Nat.zero_le _,rfl,Below.refl _ _,fun i v r h => by omega⟩
         case round =>
          obtain ⟨j,hj,rfl,HL5,HFt⟩ := hrel
          by_cases hlt: j < vs.length
          · obtain ⟨b,o,v,rfl,hb,hxv,hcv⟩ := ((HVI5.out.on HL5.out).rows).at hlt
            obtain ⟨rb,ro,r,rfl,hrb,hxr,hcr⟩ := ((HRr.out.on (below_on HB5.out HL5.out)).rows).at (j := j) (by omega)
            have c0: wr.cell? ⟨b,o + j * 5,none⟩ = some (.string v.name) := hcv 0 _ rfl
            have c1: wr.cell? ⟨b,o + j * 5 + 1,none⟩ = some (.int .i64 v.sk) := hcv 1 _ rfl
            have c2: wr.cell? ⟨b,o + j * 5 + 2,none⟩ = some (.string v.st) := hcv 2 _ rfl
            have c3: wr.cell? ⟨b,o + j * 5 + 3,none⟩ = some (.string v.sv) := hcv 3 _ rfl
            have c4: wr.cell? ⟨b,o + j * 5 + 4,none⟩ = some (.slice v.a v.cols.length v.c) := hcv 4 _ rfl
            have r0: wr.cell? ⟨rb,ro + j,none⟩ = some (.slice r.a r.l.length r.c) := by simpa using hcr 0 _ rfl
            have hcol := (HVI5.out.on HL5.out).cols v (List.mem_of_getElem? hxv)
            have hval := (HRr.out.on (below_on HB5.out HL5.out)).vals r (List.mem_of_getElem? hxr)
            have HXV := Rw.dh hxv
            have HXR := Rw.dh hxr
            have hrl := World.block_lt_of_cell? _ _ r0
            clear hcv hcr
            go_wp2_with fail
            refine Rw.to_letter (F := fun U => Below wr.heap.size wr U /\ U.heap[wr.heap.size]? = some (.cells #[.string v.name, .int .i64 v.sk, .string v.st, .string v.sv, .slice v.a v.cols.length v.c] 63 (0,0))) ⟨Rw.below_alloc _ _,Rw.heap_new _ _⟩ ?_
            rintro U ⟨hU,hUb⟩
            have HU := Rw.dh (below_on HL5.out hU)
            have KS: Hid (∀ W,Below U.heap.size U W -> (W.cell? ⟨wr.heap.size,4,none⟩ = some (.slice v.a v.cols.length v.c) /\ W.cell? ⟨rb,ro + j,none⟩ = some (.slice r.a r.l.length r.c))) := fun W hW => by
             have e1 := (hW.block _ (Array.getElem?_eq_some_iff.1 hUb).1).trans hUb
             refine ⟨by rw [cell_of_row _ _ _ _ _ _ e1]; rfl, ?_⟩
             rw [(below_on hU hW).cell hrl]; exact r0
            clear c0 c1 c2 c3 c4 r0 hUb
            by_cases h50: v.cols.length <= 50
            · have HFt2: Hid (∀ W,Below U.heap.size U W -> Calls Try.prog 17 #[.slice v.a v.cols.length v.c, .slice r.a r.l.length r.c] W fun e W2 => e = .returned (.int .i64 (fitT v.cols (r.l.map vaOf))) /\ Hid (Below U.heap.size U W2)) := fun W hW => by
               have hh := rfit_walk v.cols (r.l.map vaOf) (c := v.c) (c' := r.c) (w := W) (slC_slg (hcol.below (below_on hU hW))) (slV_vv (hval.below (below_on hU hW))) h50
               rw [List.length_map] at hh
               exact hh.mono (by rintro e W2 ⟨rfl,hb2⟩; exact ⟨rfl,below_on hW hb2⟩)
              have H50 := Rw.dh h50
              have hd50: decide ((v.cols.length: Int) > 50) = false := decide_eq_false (by omega)
              have hd51: decide (50 < (v.cols.length: Int)) = false := decide_eq_false (by omega)
              generalize hfv: fitT v.cols (r.l.map vaOf) = fv at *
              have HFV := Rw.dh hfv
              generalize hM: v.cols.length = M at *
              have HM := Rw.dh hM
              generalize r.l.length = N at *
              clear hcol hval hfv h50 hU hM
              go_region_held (fun W => W.cell? ⟨wr.heap.size,4,none⟩ = some (.slice v.a M v.c) /\ W.cell? ⟨rb,ro + j,none⟩ = some (.slice r.a N r.c)) (exact KS.out _ (by with_reducible (first
               | exact (Below.refl _ _).drew
               | exact HBc.out))) (first
               | (go_at_call 17
                  refine (HFt2.out _ (by with_reducible (first | exact (Below.refl _ _).drew))).mono ?_
                  rintro e w6 ⟨rfl,HBc⟩))
              have HB7 := Rw.dh (below_on HU.out HBc.out)
              have HBW := Rw.dh (below_on HB5.out HB7.out)
              clear HFt2 KS HU HBc hd50 hd51
              by_cases hf0: fv = 0
              · have hfn: (fv != 0) = false := by rw [hf0]; rfl
                have HF0 := Rw.dh hf0
                have HS: Hid (∀ (i: Nat) v r,i < j + 1 -> vs[i]? = some v -> rs[i]? = some r -> v.cols.length <= 50 /\ fitT v.cols (r.l.map vaOf) = 0) := fun i v' r' hi h1 h2 => by
                 by_cases hij: i < j
                 · exact HFt.out i v' r' hij h1 h2
                 · have e: i = j := by omega
                   subst e
                   rw [HXV.out] at h1
                   rw [HXR.out] at h2
                   cases h1; cases h2
                   exact ⟨by have := H50.out; have := HM.out; omega,HFV.out.trans HF0.out⟩
                clear hf0
                go_wp2
                go_roundw
                case rel => exact ⟨j + 1,hlt,by go_num,HB7,HS⟩
                case measure => simp [intOf]; omega
              · have hfn: (fv != 0) = true := by simpa using hf0
                clear hf0
                go_wp2
                go_ret
                exact ⟨rfl,HBW.out⟩
            · have hd50: decide ((v.cols.length: Int) > 50) = true := decide_eq_true (by omega)
              have hd51: decide (50 < (v.cols.length: Int)) = true := decide_eq_true (by omega)
              have HBW := Rw.dh (below_on HB5.out HU.out)
              generalize v.cols.length = M at *
              generalize r.l.length = N at *
              clear hcol hval hU h50
              obtain ⟨y4,y0⟩ := KS.out U (Below.refl _ _)
              clear KS
              go_quiet (fail)
              rename_i nq
              go_wp2
              go_ret
              exact ⟨rfl,by first | exact HBW.out.drew | exact below_drewN HBW.out _⟩
          · have hjv: j = vs.length := by omega
            subst hjv
            have hE6 := (HL5.out.block _ (Array.getElem?_eq_some_iff.1 HE5.out).1).trans HE5.out
            obtain ⟨x0,x1,x2,x3,x4,x5,x6⟩ := xbox (x := x) hE6
            have HE6 := Rw.dh hE6
            have HB6 := Rw.dh (below_on HB5.out HL5.out)
            have HVI6 := Rw.dh (HVI5.out.on HL5.out)
            have hfa := fit_all (l := vs) (rs := rs) (by omega) (fun i v r h1 h2 => HFt.out i v r (List.getElem?_eq_some_iff.1 h1).1 h1 h2)
            have HFA := Rw.dh hfa
            have HCx := Rw.dh (expr_walk (a := va) (c := vc) (l := vs) (w := wr) ⟨by omega,hfa.2⟩ x ((HX.out 20).on HB6.out) HVI6.out)
            unfold xV at HCx
            clear hE6 hfa HFt HL5 HE5 HVI5 HB5
            have HRc: Hid (exprR vs x = chk 20 vs x) := by unfold exprR Hid; rw [if_pos HRT.out]
            go_wp2_with fail
            refine HCx.out.mono ?_
            clear HCx x0 x1 x2 x3 x4 x5 x6
            rintro e w7 ⟨hb7,y,t,rfl,hres⟩
            have HB7 := Rw.dh (below_on HB6.out hb7)
            have HVI7 := Rw.dh (HVI6.out.on hb7)
            clear hb7 HB6 HVI6 HE6
            rcases hres with ⟨h0,rfl,hly,hiy⟩ | ⟨h0,rfl,rfl⟩
            · have HLY := Rw.dh hly
              have HIY := Rw.dh hiy
              clear hly hiy
              have H0 := Rw.dh h0
              rw [h0]
              unfold nV
              go_wp2_with fail
              refine Rw.to_letter (F := fun V => Below w7.heap.size w7 V /\ V.heap[w7.heap.size]? = some (.cells (nC y).toArray 67 (0,0))) ⟨Rw.below_alloc _ _,Rw.heap_new _ _⟩ ?_
              rintro V ⟨hV,hVn⟩
              have HBV := Rw.dh (below_on HB7.out hV)
              have HVn := Rw.dh hVn
              have HVIV := Rw.dh (HVI7.out.on hV)
              have HIV := Rw.dh (fun m => (HIY.out m).1.on hV)
              clear hV hVn HIY HB7 HVI7
              go_loopw [84] (fun i wr => ∃ j: Nat,j <= vs.length /\ i = .int .i64 (j: Int) /\ Hid (Below V.heap.size V wr)) (fun i _ => vs.length - (intOf i).toNat)
              case atStart => exact ⟨0,Nat.zero_le _,rfl,Below.refl _ _⟩
              case round =>
               obtain ⟨j,hj,rfl,HLv⟩ := hrel
               by_cases hlt: j < vs.length
               · obtain ⟨b,o,v,rfl,hb,hxv,hcv⟩ := ((HVIV.out.on HLv.out).rows).at hlt
                 have c0: wr.cell? ⟨b,o + j * 5,none⟩ = some (.string v.name) := hcv 0 _ rfl
                 have c1: wr.cell? ⟨b,o + j * 5 + 1,none⟩ = some (.int .i64 v.sk) := hcv 1 _ rfl
                 have c2: wr.cell? ⟨b,o + j * 5 + 2,none⟩ = some (.string v.st) := hcv 2 _ rfl
                 have c3: wr.cell? ⟨b,o + j * 5 + 3,none⟩ = some (.string v.sv) := hcv 3 _ rfl
                 have c4: wr.cell? ⟨b,o + j * 5 + 4,none⟩ = some (.slice v.a v.cols.length v.c) := hcv 4 _ rfl
                 have hvm := List.mem_of_getElem? hxv
                 have hcol := (HVIV.out.on HLv.out).cols v hvm
                 have HCo := Rw.dh (rcolumns_walk v.cols (c := v.c) (w := wr.alloc (.cells #[.string v.name, .int .i64 v.sk, .string v.st, .string v.sv, .slice v.a v.cols.length v.c] 63)) (slC_slg (hcol.below (Rw.below_alloc _ _))) (HFA.out.2 v hvm) (HVO.out v hvm).2.1.2)
                 clear hcv hcol hxv hvm
                 go_wp2_with fail
                 refine HCo.out.mono ?_
                 clear HCo c0 c1 c2 c3 c4
                 rintro e w9 ⟨rfl,hb9⟩
                 have HB9 := Rw.dh (below_on HLv.out (below_on (Rw.below_alloc wr _) hb9))
                 have HBW := Rw.dh (below_on HBV.out HB9.out)
                 clear hb9
                 generalize colsT v.cols = ct at *
                 by_cases hc0: ct = 0
                 · have hcn: (ct != 0) = false := by rw [hc0]; rfl
                   clear hc0
                   go_wp2
                   go_roundw
                   case rel => exact ⟨j + 1,hlt,by go_num,HB9⟩
                   case measure => simp [intOf]; omega
                 · have hcn: (ct != 0) = true := by simpa using hc0
                   clear hc0
                   go_wp2
                   go_ret
                   exact ⟨rfl,HBW.out⟩
               · have hjv: j = vs.length := by omega
                 subst hjv
                 have k9 := (HLv.out.block _ (Array.getElem?_eq_some_iff.1 HVn.out).1).trans HVn.out
                 obtain ⟨y0,y1,y2,y3,y4,y5,y6⟩ := ncells2 k9
                 have HBW := Rw.dh (below_on HBV.out HLv.out)
                 have HK9 := Rw.dh k9
                 have hrx: chk 20 vs x = ((chk 20 vs x).1,(exprR vs x).2.1,0) := by rw [HRc.out, <- H0.out,HRc.out]
                 have hly: LikeN 20 (chk 20 vs x).1 y := by rw [<- HRc.out]; exact HLY.out 20
                 have hdp: deepN 20 y = false := by rw [<- hly.deep]; exact chk_deep (by rw [hrx])
                 have hso := sound HFA.out.1 20 x (chk 20 vs x).1 (exprR vs x).2.1 HRT.out hrx
                 unfold Sound at hso
                 rw [hly.ev rs,hly.safe2] at hso
                 have hev := evalF_walk (n := 20) (by omega) (ra := ra) (rc := rc) HRf.out y (w := wr) ((HIV.out 20).on HLv.out) hdp (HRr.out.on HBW.out)
                 have HSf := Rw.dh (fun W (hW: Below wr.heap.size wr W) => safe_walk (n := 20) (by omega) y (w := W) (((HIV.out 20).on HLv.out).on hW) hdp)
                 rw [hlen] at hev
                 generalize evN 20 rs y = ev at *
                 obtain ⟨⟨uk,un,us⟩,ec⟩ := ev
                 have HEv := Rw.dh hev
                 have HSo := Rw.dh hso
                 clear k9 hev hso hrx hly hdp
                 unfold nV vvV valV at *
                 go_wp2_with fail
                 refine HEv.out.mono ?_
                 clear HEv
                 rintro e w11 ⟨rfl,hb11⟩
                 have HB11 := Rw.dh (below_on HBW.out hb11)
                 have hal := below_on hb11 (Rw.below_alloc w11 (.cells #[.int .i64 uk, .int .i64 un, .string us] 44))
                 have k11 := (hal.block _ (Array.getElem?_eq_some_iff.1 HK9.out).1).trans HK9.out
                 have HS11 := Rw.dh (HSf.out _ hal)
                 clear HSf y0 y1 y2 y3 y4 y5 y6 HK9 hb11 hal
                 generalize safeN 20 y = sf at *
                 rcases HSo.out with ⟨h0,hty⟩ | ⟨h78,hvz,hsf⟩
                 · subst h0
                   have HTy := Rw.dh hty
                   clear hty HSo k11 HS11
                   generalize (exprR vs x).2.1 = t at *
                   go_wp2_with fail
                   refine (rright_walk uk un us _).mono ?_
                   rintro e w12 ⟨rfl,hb12⟩
                   have hr1: rightB uk un us = true := HTy.out.1
                   rw [hr1]
                   have d0: w12.cell? ⟨w11.heap.size,0,none⟩ = some (.int .i64 uk) := by
                    rw [cell_of_row _ _ _ _ _ _ ((hb12.block _ (by simp)).trans (Rw.heap_new w11 (.cells #[.int .i64 uk, .int .i64 un, .string us] 44)))]; rfl
                   have HB12 := Rw.dh (below_on HB11.out (below_on (Rw.below_alloc w11 _) hb12))
                   have hk: uk = 0 \/ uk = t := HTy.out.2
                   clear hr1 hb12 HTy
                   by_cases hk0: uk = 0
                   · subst hk0
                     clear hk
                     go_wp2
                     go_ret
                     exact ⟨rfl,HB12.out⟩
                   · have hkt: uk = t := by omega
                     subst hkt
                     have hk1: (uk == 0) = false := by simpa using hk0
                     clear hk hk0
                     go_wp2
                     go_ret
                     exact ⟨rfl,HB12.out⟩
                 · unfold vz at hvz
                   cases hvz
                   subst hsf
                   obtain ⟨y0,y1,y2,y3,y4,y5,y6⟩ := ncells2 k11
                   clear HSo k11
                   rcases h78 with rfl | rfl
                   · go_wp2_with fail
                     refine HS11.out.mono ?_
                     rintro e w12 ⟨rfl,hb12⟩
                     have HB12 := Rw.dh (below_on HB11.out (below_on (Rw.below_alloc w11 _) hb12))
                     clear hb12 HS11
                     go_wp2
                     go_ret
                     exact ⟨rfl,HB12.out⟩
                   · go_wp2_with fail
                     refine HS11.out.mono ?_
                     rintro e w12 ⟨rfl,hb12⟩
                     have HB12 := Rw.dh (below_on HB11.out (below_on (Rw.below_alloc w11 _) hb12))
                     clear hb12 HS11
                     go_wp2
                     go_ret
                     exact ⟨rfl,HB12.out⟩
            · generalize (exprR vs x).2.2 = ec at *
              unfold nV
              go_wp2_with fail
              go_ret
              exact ⟨rfl,HB7.out.alloc HB7.out.size _⟩
     · go_wp2_with fail
       go_ret
       exact ⟨rfl,HB3.out⟩
   · have hdl: ((rs.length: Int) != (vs.length: Int)) = true := by simp; omega
     clear hlen hE2
     go_wp2_with fail
     go_ret
     exact ⟨rfl,HB2.out⟩
end Go.Proofs.Ytdaikppppkbfoaa
