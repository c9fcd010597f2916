import Derived.Test.YteibhbnlcpejpaaGreatMBF
import Derived.Test.YteibhbnlcpejpaaGreatMBG
set_option maxRecDepth 100000
set_option maxHeartbeats 4000000
namespace Go.Proofs.YteibhbnlcpejpaaGreat
open Go.RowKit
theorem xbox {W: World} {p: Nat} {x: XL} (h: W.heap[p]? = some (.cells (xC x).toArray 30 (0,0))): W.cell? ⟨p,0,none⟩ = some (.string x.op) /\ W.cell? ⟨p,1,none⟩ = some (.int .i64 x.vk) /\ W.cell? ⟨p,2,none⟩ = some (.int .i64 x.vn) /\ W.cell? ⟨p,3,none⟩ = some (.string x.vs) /\ W.cell? ⟨p,4,none⟩ = some (.string x.var) /\ W.cell? ⟨p,5,none⟩ = some (.string x.col) /\ W.cell? ⟨p,6,none⟩ = some (.slice x.a x.kids.length x.c) := by
 refine ⟨?_, ?_, ?_, ?_, ?_, ?_, ?_⟩ <;> (rw [cell_of_row _ _ _ _ _ _ h]; rfl)
def FewCols (l: List VarL): Prop := l.length <= 1048576 /\ ∀ v ∈ l,v.cols.length <= 50
theorem onlyI_at {l: List VarL} {col: ByteArray} {j: Nat} {v: VarL} {i o: Int} (h: l[j]? = some v): onlyI col (l.drop j) i o = if findI v.cols col < 0 then onlyI col (l.drop (j + 1)) (i + 1) o else if 0 <= o then -1 else onlyI col (l.drop (j + 1)) (i + 1) i := by
 obtain ⟨hj,e⟩ := List.getElem?_eq_some_iff.1 h
 rw [List.drop_eq_getElem_cons hj,e]; rfl
theorem owner_walk {l: List VarL} (x: XL) {a: Option Addr} {c: Nat} {w: World} (hl: VarsIn w a l) (hf: FewCols l) :
 Calls Tryz.prog 150 #[.slice a l.length c,xV x] w fun e w' => e = .returned (.int .i64 (ownerI l x.var x.col)) /\ Below w.heap.size w w' := by
 have HN := Rw.dh (fun W (hb: Below w.heap.size w W) => named_walk l x.var (c := c) (hl.rows.below hb) hf.1)
 have HL := Rw.dh hl
 have HF := Rw.dh (fun v (hv: v ∈ l) W (hb: Below w.heap.size w W) => find_walk v.cols x.col (c := v.c) (slC_slg ((hl.cols v hv).below hb)) (hf.2 v hv))
 have hll := hf.1
 obtain ⟨xo,xk,xn,xs,xv,xc,xa,xp,kids⟩ := x
 clear hl hf
 unfold xV
 dsimp only [XL.op,XL.vk,XL.vn,XL.vs,XL.var,XL.col,XL.a,XL.c,XL.kids] at HN HF ⊢
 have HB0 := Rw.dh (Rw.below_alloc w (.cells #[.string xo, .int .i64 xk, .int .i64 xn, .string xs, .string xv, .string xc, .slice xa kids.length xp] 30))
 cases h1: (xv.toList == [])
 · have HE: Hid (ownerI l xv xc = namedI l xv) := by unfold ownerI; rw [h1]; rfl
   have h1': (xv.toList != []) = true := by simp [bne,h1]
   go_enter Tryz.func150,Tryz.ntmps150
   go_wp2_with fail
   refine (HN.out _ HB0.out).mono ?_
   rintro e w1 ⟨rfl,hb⟩
   have HB := Rw.dh (below_on HB0.out hb)
   clear hb
   go_wp2
   go_ret
   exact ⟨(by rw [HE.out]; rfl),HB.out⟩
 · have HE: Hid (ownerI l xv xc = onlyI xc l 0 (-1)) := by unfold ownerI; rw [h1]; rfl
   have h1': (xv.toList != []) = false := by simp [bne,h1]
   have e0 := Rw.heap_new w (.cells #[.string xo, .int .i64 xk, .int .i64 xn, .string xs, .string xv, .string xc, .slice xa kids.length xp] 30)
   go_enter Tryz.func150,Tryz.ntmps150
   go_wp2_with fail
   refine Rw.to_letter (F := fun W => Below w.heap.size w W /\ W.heap[w.heap.size]? = some (.cells #[.string xo, .int .i64 xk, .int .i64 xn, .string xs, .string xv, .string xc, .slice xa kids.length xp] 30 (0,0))) ⟨HB0.out,e0⟩ ?_
   rintro W0 ⟨hb0,hp0⟩
   clear HB0 e0
   go_loopw [5,17] (fun ov i wr => ∃ (j: Nat) (o: Int),j <= l.length /\ i = .int .i64 (j: Int) /\ ov = .int .i64 o /\ Hid (Below w.heap.size w wr /\ wr.heap[w.heap.size]? = some (.cells #[.string xo, .int .i64 xk, .int .i64 xn, .string xs, .string xv, .string xc, .slice xa kids.length xp] 30 (0,0)) /\ ownerI l xv xc = onlyI xc (l.drop j) (j: Int) o)) (fun _ i _ => l.length - (intOf i).toNat)
   case atStart => exact ⟨0, -1,Nat.zero_le _,rfl,rfl,hb0,hp0,HE.out⟩
   case round =>
    obtain ⟨j,o,hj,rfl,rfl,HR⟩ := hrel
    clear hb0 hp0 HE
    by_cases hlt: j < l.length
    · obtain ⟨b,o',v,rfl,hb,hx,hc⟩ := (HL.out.rows.below HR.out.1).at hlt
      have hvm := List.mem_of_getElem? hx
      have HA: Hid (ownerI l xv xc = if findI v.cols xc < 0 then onlyI xc (l.drop (j + 1)) ((j: Int) + 1) o else if 0 <= o then -1 else onlyI xc (l.drop (j + 1)) ((j: Int) + 1) (j: Int)) := HR.out.2.2.trans (onlyI_at hx)
      have c0: wr.cell? ⟨b,o' + j * 5,none⟩ = some (.string v.name) := hc 0 _ rfl
      have c1: wr.cell? ⟨b,o' + j * 5 + 1,none⟩ = some (.int .i64 v.sk) := hc 1 _ rfl
      have c2: wr.cell? ⟨b,o' + j * 5 + 2,none⟩ = some (.string v.st) := hc 2 _ rfl
      have c3: wr.cell? ⟨b,o' + j * 5 + 3,none⟩ = some (.string v.sv) := hc 3 _ rfl
      have c4: wr.cell? ⟨b,o' + j * 5 + 4,none⟩ = some (.slice v.a v.cols.length v.c) := hc 4 _ rfl
      have x5: wr.cell? ⟨w.heap.size,5,none⟩ = some (.string xc) := by rw [cell_of_row _ _ _ _ _ _ HR.out.2.1]; rfl
      have xl := (Array.getElem?_eq_some_iff.1 HR.out.2.1).1
      have hC := HF.out v hvm (wr.alloc (.cells #[.string v.name, .int .i64 v.sk, .string v.st, .string v.sv, .slice v.a v.cols.length v.c] 188)) (below_on HR.out.1 (Rw.below_alloc wr _))
      clear hc hx hvm
      generalize findI v.cols xc = f at *
      go_wp2_with fail
      refine hC.mono ?_
      clear hC
      rintro e w2 ⟨rfl,hb2⟩
      have HB2 := Rw.dh (below_on (below_on HR.out.1 (Rw.below_alloc wr _)) hb2)
      have HP2 := Rw.dh (((below_on (Rw.below_alloc wr _) hb2).block _ xl).trans HR.out.2.1)
      clear hb2 c0 c1 c2 c3 c4 x5 xl hb HR
      by_cases hf0: f < 0
      · have hA := HA.out
        rw [if_pos hf0] at hA
        have HR2: Hid (Below w.heap.size w w2 /\ w2.heap[w.heap.size]? = some (.cells #[.string xo, .int .i64 xk, .int .i64 xn, .string xs, .string xv, .string xc, .slice xa kids.length xp] 30 (0,0)) /\ ownerI l xv xc = onlyI xc (l.drop (j + 1)) ((j + 1: Nat): Int) o) := ⟨HB2.out,HP2.out,hA⟩
        have d0: decide (f < 0) = true := decide_eq_true hf0
        clear hA HA HB2 HP2 hf0
        go_wp2
        go_roundw
        case rel => exact ⟨j + 1,o,hlt,by go_num,rfl,HR2⟩
        case measure => simp [intOf]; omega
      · have d0: decide (f < 0) = false := decide_eq_false hf0
        have hA := HA.out
        rw [if_neg hf0] at hA
        by_cases ho: 0 <= o
        · rw [if_pos ho] at hA
          have HE := Rw.dh hA
          have d1: decide (o ≥ 0) = true := decide_eq_true ho
          clear hA HA hf0
          go_wp2
          go_ret
          exact ⟨(by rw [HE.out]; rfl),HB2.out⟩
        · rw [if_neg ho] at hA
          have HR2: Hid (Below w.heap.size w w2 /\ w2.heap[w.heap.size]? = some (.cells #[.string xo, .int .i64 xk, .int .i64 xn, .string xs, .string xv, .string xc, .slice xa kids.length xp] 30 (0,0)) /\ ownerI l xv xc = onlyI xc (l.drop (j + 1)) ((j + 1: Nat): Int) (j: Int)) := ⟨HB2.out,HP2.out,hA⟩
          have d1: decide (o ≥ 0) = false := decide_eq_false (by omega)
          clear hA HA HB2 HP2 hf0 ho
          go_wp2
          go_roundw
          case rel => exact ⟨j + 1,(j: Int),hlt,by go_num,rfl,HR2⟩
          case measure => simp [intOf]; omega
    · have hjs: j = l.length := by omega
      subst hjs
      have hA := HR.out.2.2
      rw [List.drop_length] at hA
      have HE: Hid (ownerI l xv xc = o) := hA
      clear hA
      go_wp2
      go_ret
      exact ⟨(by rw [HE.out]; rfl),HR.out.1⟩
theorem onlyI_in (col: ByteArray): ∀ (l: List VarL) (i o: Int),onlyI col l i o = -1 \/ onlyI col l i o = o \/ ∃ k: Nat,k < l.length /\ onlyI col l i o = i + k
 | [],_,o => Or.inr (Or.inl rfl)
 | v :: l,i,o => by
  unfold onlyI
  split
  · rcases onlyI_in col l (i + 1) o with h | h | ⟨k,hk,h⟩
    · exact Or.inl h
    · exact Or.inr (Or.inl h)
    · exact Or.inr (Or.inr ⟨k + 1,by simpa using hk,by rw [h]; omega⟩)
  split
  · exact Or.inl rfl
  · rcases onlyI_in col l (i + 1) i with h | h | ⟨k,hk,h⟩
    · exact Or.inl h
    · exact Or.inr (Or.inr ⟨0,by simp,by rw [h]; simp⟩)
    · exact Or.inr (Or.inr ⟨k + 1,by simpa using hk,by rw [h]; omega⟩)
theorem ownerI_lt {l: List VarL} {var col: ByteArray} (h: ¬ ownerI l var col < 0): ∃ j v,ownerI l var col = ((j: Nat): Int) /\ l[j]? = some v := by
 unfold ownerI at h ⊢
 split
 · rename_i e
   rw [if_pos e] at h
   rcases onlyI_in col l 0 (-1) with h1 | h1 | ⟨k,hk,h1⟩
   · omega
   · omega
   · exact ⟨k,l[k],by rw [h1]; simp,List.getElem?_eq_getElem hk⟩
 · rename_i e
   rw [if_neg e] at h
   unfold namedI at h ⊢
   cases hf: l.findIdx? (fun v => eqS v.name var) with
   | none => rw [hf] at h; exact absurd (by decide: (-1: Int) < 0) h
   | some i =>
    obtain ⟨hi,_⟩ := List.findIdx?_eq_some_iff_getElem.1 hf
    exact ⟨i,l[i],rfl,List.getElem?_eq_getElem hi⟩
theorem findI_lt {l: List Col} {s: ByteArray} (h: ¬ findI l s < 0): ∃ j c,findI l s = ((j: Nat): Int) /\ l[j]? = some c := by
 unfold findI at h ⊢
 cases hf: l.findIdx? (fun c => eqS c.s s) with
 | none => rw [hf] at h; exact absurd (by decide: (-1: Int) < 0) h
 | some i =>
  obtain ⟨hi,_⟩ := List.findIdx?_eq_some_iff_getElem.1 hf
  exact ⟨i,l[i],rfl,List.getElem?_eq_getElem hi⟩
def plE: Option (Nat × Nat × Col) -> Ending
 | none => .panicked (stopped 2 0)
 | some (v,c,_) => .returned (.tuple #[.int .i64 (v: Int), .int .i64 (c: Int)])
theorem place_walk {l: List VarL} (x: XL) {a: Option Addr} {c: Nat} {w: World} (hl: VarsIn w a l) (hf: FewCols l) :
 Calls Tryz.prog 109 #[.slice a l.length c,xV x] w fun e w' => e = plE (placeO l x.var x.col) /\ Below w.heap.size w w' := by
 have HO := Rw.dh (fun W (hb: Below w.heap.size w W) => owner_walk x (c := c) (hl.on hb) hf)
 have HL := Rw.dh hl
 have HF := Rw.dh (fun v (hv: v ∈ l) W (hb: Below w.heap.size w W) => find_walk v.cols x.col (c := v.c) (slC_slg ((hl.cols v hv).below hb)) (hf.2 v hv))
 have HPn: Hid (ownerI l x.var x.col < 0 -> plE (placeO l x.var x.col) = plE none) := fun h => by unfold placeO; rw [if_pos h]
 have HPy: Hid (∀ (j: Nat) v,ownerI l x.var x.col = (j: Int) -> l[j]? = some v -> (findI v.cols x.col < 0 -> plE (placeO l x.var x.col) = plE none) /\ ∀ (i: Nat) c,findI v.cols x.col = (i: Int) -> v.cols[i]? = some c -> plE (placeO l x.var x.col) = plE (some (j,i,c))) := fun j v h1 h2 => by
  have h3: placeO l x.var x.col = if findI v.cols x.col < 0 then none else match v.cols[(findI v.cols x.col).toNat]? with
   | none => none
   | some c => some (j,(findI v.cols x.col).toNat,c) := by
   unfold placeO
   rw [if_neg (by omega),h1,Int.toNat_natCast,h2]
   rfl
  refine ⟨fun h => by rw [h3,if_pos h],fun i c h4 h5 => ?_⟩
  rw [h3,if_neg (by omega),h4,Int.toNat_natCast,h5]
 have hOw := fun h => ownerI_lt (l := l) (var := x.var) (col := x.col) h
 have HOw := Rw.dh hOw
 clear hOw hl
 have hll := hf.1
 have HFc := Rw.dh hf.2
 clear hf
 obtain ⟨xo,xk,xn,xs,xv,xc,xa,xp,kids⟩ := x
 unfold xV at HO ⊢
 dsimp only [XL.op,XL.vk,XL.vn,XL.vs,XL.var,XL.col,XL.a,XL.c,XL.kids] at HO HF HPn HPy HOw ⊢
 generalize plE (placeO l xv xc) = R at *
 generalize ownerI l xv xc = ow at *
 have HB0 := Rw.dh (Rw.below_alloc w (.cells #[.string xo, .int .i64 xk, .int .i64 xn, .string xs, .string xv, .string xc, .slice xa kids.length xp] 30))
 have e0 := Rw.heap_new w (.cells #[.string xo, .int .i64 xk, .int .i64 xn, .string xs, .string xv, .string xc, .slice xa kids.length xp] 30)
 go_enter Tryz.func109,Tryz.ntmps109
 go_wp2_with fail
 refine (HO.out _ HB0.out).mono ?_
 rintro e w1 ⟨rfl,hb⟩
 have HB := Rw.dh (below_on HB0.out hb)
 have hp1 := (hb.block _ (by simp)).trans e0
 have HP1 := Rw.dh hp1
 clear hb HB0 e0 hp1 HO
 by_cases h0: ow < 0
 · have hR: R = plE none := HPn.out h0
   subst hR
   have d0: decide (ow < 0) = true := decide_eq_true h0
   clear HPn HPy HOw h0
   go_wp2_with (go_at_call 151; refine (check_no 2 rfl _).mono ?_; rintro e w' ⟨rfl,rfl⟩)
   exact ⟨rfl,rfl,HB.out⟩
 · obtain ⟨j,v,rfl,hj⟩ := HOw.out (by omega)
   have hjl := (List.getElem?_eq_some_iff.1 hj).1
   have hvm := List.mem_of_getElem? hj
   have HRn := Rw.dh (HPy.out j v rfl hj).1
   have HRy := Rw.dh (HPy.out j v rfl hj).2
   have HFi := Rw.dh (fun h => findI_lt (l := v.cols) (s := xc) h)
   have d0: decide ((j: Int) < 0) = false := decide_eq_false h0
   obtain ⟨b,o,v',rfl,hb,hx,hc⟩ := (HL.out.rows.below HB.out).at hjl
   rw [hj] at hx
   cases hx
   have c4: w1.cell? ⟨b,o + j * 5 + 4,none⟩ = some (.slice v.a v.cols.length v.c) := hc 4 _ rfl
   have x5: w1.cell? ⟨w.heap.size,5,none⟩ = some (.string xc) := by rw [cell_of_row _ _ _ _ _ _ HP1.out]; rfl
   have xl := (Array.getElem?_eq_some_iff.1 HP1.out).1
   have K4: ∀ q: BelowW w1,q.w.cell? ⟨b,o + j * 5 + 4,none⟩ = some (.slice v.a v.cols.length v.c) := fun q => (q.below.cell (p := ⟨b,o + j * 5 + 4,none⟩) hb).trans c4
   have K5: ∀ q: BelowW w1,q.w.cell? ⟨w.heap.size,5,none⟩ = some (.string xc) := fun q => (q.below.cell (p := ⟨w.heap.size,5,none⟩) xl).trans x5
   have HC := Rw.dh (fun q: BelowW w1 => HF.out v hvm q.w (below_on HB.out q.below))
   clear hc c4 x5 xl hb HPn HPy HOw h0 hj hvm HF
   generalize findI v.cols xc = f at *
   go_wp2_with fail
   refine wp_region_below (by kernel_rfl) (by kernel_rfl) (fun _ => ?_)
   repeat (go_big_quiet_step (first | rfl | (go_at_call 152; exact quiet_of_below (HC.out _))))
   refine wpQuiet_nil ?_
   rintro _ ⟨q,rfl⟩
   have HB2 := Rw.dh (below_on HB.out q.below)
   clear K4 K5 HC HP1 HB
   generalize q.w = w2 at *
   clear q
   by_cases h1: f < 0
   · have hR: R = plE none := HRn.out h1
     subst hR
     have d1: decide (f < 0) = true := decide_eq_true h1
     clear HRn HRy HFi h1
     go_wp2_with (go_at_call 151; refine (check_no 2 rfl _).mono ?_; rintro e w' ⟨rfl,rfl⟩)
     exact ⟨rfl,rfl,HB2.out⟩
   · obtain ⟨i,cc,rfl,hi⟩ := HFi.out (by omega)
     have hR: R = plE (some (j,i,cc)) := HRy.out i cc rfl hi
     subst hR
     have d1: decide ((i: Int) < 0) = false := decide_eq_false h1
     clear HRn HRy HFi h1 hi
     go_wp2
     go_ret2
     exact ⟨rfl,HB2.out⟩
section
variable {Q: Exit -> Act -> World -> Prop} {K: Act -> World -> Prop} {o: Oper} {a: Act} {w: World}
theorem xop_f0 {s p: Nat} (ho: o.op = .fieldAddr 30 (.tmp s) 0) (hs: a.eval (.tmp s) = .pointer (some ⟨p,0,none⟩)) (hK: K (a.put o.dst (.pointer (some ⟨p,0,none⟩))) w): Oper.wp Tryz.prog o a w K Q := by
 have hs' := kslot_of hs
 unfold Oper.wp
 simp [execOp,ho,go_sem,hs',run_underlying Tryz.underlying30]
 exact hK
theorem xop_f1 {s p: Nat} (ho: o.op = .fieldAddr 30 (.tmp s) 1) (hs: a.eval (.tmp s) = .pointer (some ⟨p,0,none⟩)) (hK: K (a.put o.dst (.pointer (some ⟨p,1,none⟩))) w): Oper.wp Tryz.prog o a w K Q := by
 have hs' := kslot_of hs
 unfold Oper.wp
 simp [execOp,ho,go_sem,hs',run_underlying Tryz.underlying30]
 exact hK
theorem xop_f4 {s p: Nat} (ho: o.op = .fieldAddr 30 (.tmp s) 4) (hs: a.eval (.tmp s) = .pointer (some ⟨p,0,none⟩)) (hK: K (a.put o.dst (.pointer (some ⟨p,6,none⟩))) w): Oper.wp Tryz.prog o a w K Q := by
 have hs' := kslot_of hs
 unfold Oper.wp
 simp [execOp,ho,go_sem,hs',run_underlying Tryz.underlying30]
 exact hK
theorem nop_f4 {s p: Nat} (ho: o.op = .fieldAddr 44 (.tmp s) 4) (hs: a.eval (.tmp s) = .pointer (some ⟨p,0,none⟩)) (hK: K (a.put o.dst (.pointer (some ⟨p,6,none⟩))) w): Oper.wp Tryz.prog o a w K Q := by
 have hs' := kslot_of hs
 unfold Oper.wp
 simp [execOp,ho,go_sem,hs',run_underlying Tryz.underlying44]
 exact hK
theorem vop_f0 {s p q: Nat} (ho: o.op = .fieldAddr 27 (.tmp s) 0) (hs: a.eval (.tmp s) = .pointer (some ⟨p,q,none⟩)) (hK: K (a.put o.dst (.pointer (some ⟨p,q,none⟩))) w): Oper.wp Tryz.prog o a w K Q := by
 have hs' := kslot_of hs
 unfold Oper.wp
 simp [execOp,ho,go_sem,hs',run_underlying Tryz.underlying27]
 exact hK
theorem vop_f1 {s p q: Nat} (ho: o.op = .fieldAddr 27 (.tmp s) 1) (hs: a.eval (.tmp s) = .pointer (some ⟨p,q,none⟩)) (hK: K (a.put o.dst (.pointer (some ⟨p,q + 1,none⟩))) w): Oper.wp Tryz.prog o a w K Q := by
 have hs' := kslot_of hs
 unfold Oper.wp
 simp [execOp,ho,go_sem,hs',run_underlying Tryz.underlying27]
 exact hK
theorem vop_f2 {s p q: Nat} (ho: o.op = .fieldAddr 27 (.tmp s) 2) (hs: a.eval (.tmp s) = .pointer (some ⟨p,q,none⟩)) (hK: K (a.put o.dst (.pointer (some ⟨p,q + 2,none⟩))) w): Oper.wp Tryz.prog o a w K Q := by
 have hs' := kslot_of hs
 unfold Oper.wp
 simp [execOp,ho,go_sem,hs',run_underlying Tryz.underlying27]
 exact hK
theorem vop_build {s t u: Nat} {k n: Int} {x: ByteArray} (ho: o.op = .build 27 #[(0, .tmp s),(1, .tmp t),(2, .tmp u)]) (hs: a.eval (.tmp s) = .int .i64 k) (ht: a.eval (.tmp t) = .int .i64 n) (hu: a.eval (.tmp u) = .string x) (hK: K (a.put o.dst (.agg #[.int .i64 k, .int .i64 n, .string x])) w): Oper.wp Tryz.prog o a w K Q := by
 have hs' := kslot_of hs
 have ht' := kslot_of ht
 have hu' := kslot_of hu
 unfold Oper.wp
 simp [execOp,ho,go_sem,hs',ht',hu']
 exact hK
theorem nop_value {s: Nat} {b: ByteArray} {k n: Int} {x: ByteArray} (ho: o.op = .build 44 #[(0, .const (.string b)),(1, .tmp s)]) (hs: a.eval (.tmp s) = .agg #[.int .i64 k, .int .i64 n, .string x]) (hK: K (a.put o.dst (nV (.mk b k n x 0 0 none 0 []))) w): Oper.wp Tryz.prog o a w K Q := by
 have hs' := kslot_of hs
 unfold Oper.wp
 simp [execOp,ho,go_sem,hs']
 exact hK
theorem nop_column {s t: Nat} {b: ByteArray} {j i: Int} (ho: o.op = .build 44 #[(0, .const (.string b)),(2, .tmp s),(3, .tmp t)]) (hs: a.eval (.tmp s) = .int .i64 j) (ht: a.eval (.tmp t) = .int .i64 i) (hK: K (a.put o.dst (nV (.mk b 0 0 ⟨#[]⟩ j i none 0 []))) w): Oper.wp Tryz.prog o a w K Q := by
 have hs' := kslot_of hs
 have ht' := kslot_of ht
 unfold Oper.wp
 simp [execOp,ho,go_sem,hs',ht']
 exact hK
def NBox (p: Nat) (W: World): Prop := ∃ y: NL,W.heap[p]? = some (.cells (nC y).toArray 44 (0,0))
theorem set7_row {w: World} {p: Nat} {T: TypeId} {a0 a1 a2 a3 a4 a5 a6 b0 b1 b2 b3 b4 b5 b6: Value} (h: w.heap[p]? = some (.cells #[a0,a1,a2,a3,a4,a5,a6] T (0,0))): (((((((w.setCell ⟨p,0,none⟩ b0).setCell ⟨p,1,none⟩ b1).setCell ⟨p,2,none⟩ b2).setCell ⟨p,3,none⟩ b3).setCell ⟨p,4,none⟩ b4).setCell ⟨p,5,none⟩ b5).setCell ⟨p,6,none⟩ b6).heap[p]? = some (.cells #[b0,b1,b2,b3,b4,b5,b6] T (0,0)) := by
 have h0 := heap_setCell_same w p 0 _ T b0 h
 have h1 := heap_setCell_same _ p 1 _ T b1 h0
 have h2 := heap_setCell_same _ p 2 _ T b2 h1
 have h3 := heap_setCell_same _ p 3 _ T b3 h2
 have h4 := heap_setCell_same _ p 4 _ T b4 h3
 have h5 := heap_setCell_same _ p 5 _ T b5 h4
 have h6 := heap_setCell_same _ p 6 _ T b6 h5
 simpa using h6
theorem nstore_heap {w: World} {p: Nat} {y z: NL} (h: w.heap[p]? = some (.cells (nC y).toArray 44 (0,0))): (((((((w.setCell ⟨p,0,none⟩ (.string z.op)).setCell ⟨p,1,none⟩ (.int .i64 z.vk)).setCell ⟨p,2,none⟩ (.int .i64 z.vn)).setCell ⟨p,3,none⟩ (.string z.vs)).setCell ⟨p,4,none⟩ (.int .i64 z.var)).setCell ⟨p,5,none⟩ (.int .i64 z.col)).setCell ⟨p,6,none⟩ (.slice z.a z.kids.length z.c)).heap[p]? = some (.cells (nC z).toArray 44 (0,0)) :=
 set7_row h
theorem nop_store {s t p: Nat} {z: NL} (ho: o.op = .store 44 (.tmp s) (.tmp t)) (hd: o.dst = none) (hs: a.eval (.tmp s) = .pointer (some ⟨p,0,none⟩)) (ht: a.eval (.tmp t) = nV z) (hb: NBox p w) (hK: ∀ w',w'.heap[p]? = some (.cells (nC z).toArray 44 (0,0)) -> (∀ q,q ≠ p -> w'.heap[q]? = w.heap[q]?) -> w'.heap.size = w.heap.size -> Below p w w' -> K a w'): Oper.wp Tryz.prog o a w K Q := by
 have hs' := kslot_of hs
 have ht' := kslot_of ht
 obtain ⟨y,hy⟩ := hb
 have e0: w.cell? ⟨p,0,none⟩ = some (.string y.op) := by rw [cell_of_row _ _ _ _ _ _ hy]; rfl
 have e1: w.cell? ⟨p,1,none⟩ = some (.int .i64 y.vk) := by rw [cell_of_row _ _ _ _ _ _ hy]; rfl
 have e2: w.cell? ⟨p,2,none⟩ = some (.int .i64 y.vn) := by rw [cell_of_row _ _ _ _ _ _ hy]; rfl
 have e3: w.cell? ⟨p,3,none⟩ = some (.string y.vs) := by rw [cell_of_row _ _ _ _ _ _ hy]; rfl
 have e4: w.cell? ⟨p,4,none⟩ = some (.int .i64 y.var) := by rw [cell_of_row _ _ _ _ _ _ hy]; rfl
 have e5: w.cell? ⟨p,5,none⟩ = some (.int .i64 y.col) := by rw [cell_of_row _ _ _ _ _ _ hy]; rfl
 have e6: w.cell? ⟨p,6,none⟩ = some (.slice y.a y.kids.length y.c) := by rw [cell_of_row _ _ _ _ _ _ hy]; rfl
 have f: ∀ i,w.frozen? ⟨p,i,none⟩ = false := fun i => frozen_of_row _ _ _ _ _ hy
 have k := hK _ (nstore_heap (z := z) hy) (fun q hq => nheap_set7 hq w _ _ _ _ _ _ _) (by simp) (nbelow_set7 (Nat.le_refl _) (Below.refl _ _) _ _ _ _ _ _ _)
 unfold nV at ht'
 unfold Oper.wp
 simp [execOp,ho,go_sem,hs',ht',e0,e1,e2,e3,e4,e5,e6,f,hd]
 exact k
theorem kop_move {s: Nat} {v: Value} (ho: o.op = .move (.tmp s)) (hs: a.eval (.tmp s) = v) (hK: K (a.put o.dst v) w): Oper.wp Tryz.prog o a w K Q := by
 have hs' := kslot_of hs
 unfold Oper.wp
 simp [execOp,ho,go_sem,hs']
 exact hK
theorem kop_indexV {s t b o' n c j: Nat} (ho: o.op = .indexAddr 32 (.tmp s) (.tmp t)) (hs: a.eval (.tmp s) = .slice (some ⟨b,o',none⟩) n c) (ht: a.eval (.tmp t) = .int .i64 (j: Int)) (hj: j < n) (hK: K (a.put o.dst (.pointer (some ⟨b,o' + j * 5,none⟩))) w): Oper.wp Tryz.prog o a w K Q := by
 have hs' := kslot_of hs
 have ht' := kslot_of ht
 unfold Oper.wp
 simp [execOp,ho,go_sem,hs',ht',hj]
 exact hK
theorem kop_indexC {s t b o' n c j: Nat} (ho: o.op = .indexAddr 37 (.tmp s) (.tmp t)) (hs: a.eval (.tmp s) = .slice (some ⟨b,o',none⟩) n c) (ht: a.eval (.tmp t) = .int .i64 (j: Int)) (hj: j < n) (hK: K (a.put o.dst (.pointer (some ⟨b,o' + j * 4,none⟩))) w): Oper.wp Tryz.prog o a w K Q := by
 have hs' := kslot_of hs
 have ht' := kslot_of ht
 unfold Oper.wp
 simp [execOp,ho,go_sem,hs',ht',hj]
 exact hK
theorem rop_f2 {s p q: Nat} (ho: o.op = .fieldAddr 188 (.tmp s) 2) (hs: a.eval (.tmp s) = .pointer (some ⟨p,q,none⟩)) (hK: K (a.put o.dst (.pointer (some ⟨p,q + 4,none⟩))) w): Oper.wp Tryz.prog o a w K Q := by
 have hs' := kslot_of hs
 unfold Oper.wp
 simp [execOp,ho,go_sem,hs',run_underlying Tryz.underlying188]
 exact hK
theorem colop_f1 {s p q: Nat} (ho: o.op = .fieldAddr 138 (.tmp s) 1) (hs: a.eval (.tmp s) = .pointer (some ⟨p,q,none⟩)) (hK: K (a.put o.dst (.pointer (some ⟨p,q + 1,none⟩))) w): Oper.wp Tryz.prog o a w K Q := by
 have hs' := kslot_of hs
 unfold Oper.wp
 simp [execOp,ho,go_sem,hs',run_underlying Tryz.underlying138]
 exact hK
theorem kop_cols {s: Nat} {ad: Addr} {v: Value} (ho: o.op = .load 37 (.tmp s)) (hs: a.eval (.tmp s) = .pointer (some ad)) (hc: w.cell? ad = some v) (hK: K (a.put o.dst v) w): Oper.wp Tryz.prog o a w K Q := by
 have hs' := kslot_of hs
 unfold Oper.wp
 simp [execOp,ho,go_sem,hs',hc]
 exact hK
end
end Go.Proofs.YteibhbnlcpejpaaGreat
