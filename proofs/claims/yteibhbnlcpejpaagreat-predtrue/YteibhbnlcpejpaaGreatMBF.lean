import Derived.Test.YteibhbnlcpejpaaGreatMBA
import Derived.Test.YteibhbnlcpejpaaGreatMAS
set_option maxRecDepth 100000
set_option maxHeartbeats 4000000
namespace Go.Proofs.YteibhbnlcpejpaaGreat
open Go.RowKit
def SrcsOk (l: List SrcL): Prop := l.length <= 1048576 /\ ∀ s ∈ l,SrcOk s
structure VarsIn (w: World) (a: Option Addr) (l: List VarL): Prop where
 rows: Rw.SlG varC 5 w a l
 cols: ∀ v ∈ l,Rw.SlG colC 4 w v.a v.cols
theorem VarsIn.on {w W: World} {a: Option Addr} {l: List VarL} (h: VarsIn w a l) (hb: Below w.heap.size w W): VarsIn W a l := ⟨h.rows.below hb,fun t ht => (h.cols t ht).below hb⟩
def VarOk (v: VarL): Prop := v.name.size <= 140737488355328 /\ ColsOk v.cols /\ (v.a = none -> v.c = 0)
def strip (v: VarL): VarL := ⟨v.name,v.sk,v.st,v.sv,none,0,v.cols⟩
theorem namedI_strip (l: List VarL) (s: ByteArray): namedI (l.map strip) s = namedI l s := by
 unfold namedI
 rw [List.findIdx?_map]
 rfl
def vars1 (l: List TabL) (own: ByteArray) (acc: List VarL) (s: SrcL): List VarL × Int := match tabO l s own with
 | none => ([],2)
 | some t => if namedI acc (nameO s) < 0 then (acc ++ [⟨nameO s,s.k,s.t,s.v,none,0,t.cols⟩],0) else ([],3)
def varsP (l: List TabL) (own: ByteArray): List SrcL -> List VarL -> List VarL × Int
 | [],acc => (acc,0)
 | s :: f,acc => if (vars1 l own acc s).2 == 0 then varsP l own f (vars1 l own acc s).1 else ([],(vars1 l own acc s).2)
theorem varsP_at {l: List TabL} {own: ByteArray} {f: List SrcL} {j: Nat} {s: SrcL} {acc: List VarL} (h: f[j]? = some s): varsP l own (f.drop j) acc = if (vars1 l own acc s).2 == 0 then varsP l own (f.drop (j + 1)) (vars1 l own acc s).1 else ([],(vars1 l own acc s).2) := by
 obtain ⟨hj,e⟩ := List.getElem?_eq_some_iff.1 h
 rw [List.drop_eq_getElem_cons hj,e]; rfl
theorem tabO_ok {l: List TabL} {s: SrcL} {own: ByteArray} {t: TabL} (hok: TabsOk l) (h: tabO l s own = some t): TabOk t := by
 have hf: ∀ x,findTab l x = some t -> TabOk t := fun x h => by
  unfold findTab at h
  split at h
  · cases h
  · exact hok.2 t (List.mem_of_getElem? h)
 unfold tabO at h
 split at h
 · exact hf _ h
 split at h
 · cases h
 split at h
 · cases h
 · exact hf _ h
theorem nameO_size {s: SrcL} (h: SrcOk s): (nameO s).size <= 140737488355328 := by
 unfold nameO
 split
 · split
   · exact h.1
   · have := transB_size s.k; omega
 · exact h.2
structure VrI (w wr: World) (V: Value) (vs: List VarL): Prop where
 own: wr.ownsRow w.heap.size 188 5 V vs.length (Rw.flat varC vs)
 cols: ∀ v ∈ vs,Rw.SlG colC 4 wr v.a v.cols
 off: ∀ v ∈ vs,v.cols = [] \/ ∀ b o,v.a = some ⟨b,o,none⟩ -> V.ownBlock ≠ some b
 ok: ∀ v ∈ vs,VarOk v
 bel: Below w.heap.size w wr
theorem VrI.step {w wr U W2: World} {V V2: Value} {vs: List VarL} {v: VarL} (h: VrI w wr V vs) (bU: Below wr.heap.size wr U) (hv: Rw.SlG colC 4 U v.a v.cols) (hlo: ∀ b o,v.a = some ⟨b,o,none⟩ -> wr.heap.size <= b) (hok: VarOk v)
 (O2: W2.ownsRow w.heap.size 188 5 V2 (vs.length + 1) (Rw.flat varC (vs ++ [v]))) (G2: U.grownBy W2 V.ownBlock) (hV: V2.ownBlock = V.ownBlock \/ V2.ownBlock = some U.heap.size): VrI w W2 V2 (vs ++ [v]) := by
 have oU := Rw.owns_on h.own bU
 have key: ∀ (a: Option Addr) (cs: List Col),Rw.SlG colC 4 U a cs -> (cs = [] \/ ∀ b o,a = some ⟨b,o,none⟩ -> V.ownBlock ≠ some b) -> Rw.SlG colC 4 W2 a cs /\ (cs = [] \/ ∀ b o,a = some ⟨b,o,none⟩ -> V2.ownBlock ≠ some b) := fun a cs h1 h2 => by
  rcases h2 with e | e
  · subst e; exact ⟨Or.inl rfl,Or.inl rfl⟩
  · refine ⟨h1.turn G2.size fun b o ea hb => G2.block b hb fun e' => e b o ea e'.symm, ?_⟩
    rcases h1 with e1 | ⟨b',o',ea',hb',_⟩
    · exact Or.inl e1
    · refine Or.inr fun b o ea e' => ?_
      rw [ea'] at ea
      cases ea
      rcases hV with e2 | e2
      · exact e b' o' ea' (e2 ▸ e')
      · rw [e2] at e'; cases e'; exact absurd hb' (Nat.lt_irrefl _)
 have hnew: ∀ b o,v.a = some ⟨b,o,none⟩ -> V.ownBlock ≠ some b := fun b o e e' => by
  have h1 := (h.own.lt b e').2
  have h2 := hlo b o e
  omega
 refine ⟨by rw [List.length_append]; exact O2, ?_, ?_, ?_,(below_on h.bel bU).grown G2 (by have := h.bel.size; have := bU.size; omega) fun p hp => (oU.lt p hp).1⟩
 · intro u hu
   rcases List.mem_append.1 hu with hu | hu
   · exact (key _ _ ((h.cols u hu).below bU) (h.off u hu)).1
   · simp at hu; subst hu; exact (key _ _ hv (Or.inr hnew)).1
 · intro u hu
   rcases List.mem_append.1 hu with hu | hu
   · exact (key _ _ ((h.cols u hu).below bU) (h.off u hu)).2
   · simp at hu; subst hu; exact (key _ _ hv (Or.inr hnew)).2
 · intro u hu
   rcases List.mem_append.1 hu with hu | hu
   · exact h.ok u hu
   · simp at hu; subst hu; exact hok
theorem infoVar: (Tryz.prog.info? 188).map (fun i => (i.zero,i.size,i.bytes)) = some (some (varV ⟨⟨#[]⟩,0,⟨#[]⟩,⟨#[]⟩,none,0,[]⟩),5,80) := by kernel_rfl
def VarsR (r: List VarL × Int) (w: World) (e: Ending) (W: World): Prop := Below w.heap.size w W /\ (((r.2 != 0) = true /\ e = .returned (.tuple #[.slice none 0 0, .int .i64 r.2])) \/
 (r.2 = 0 /\ ∃ vs a c,vs.map strip = r.1 /\ e = .returned (.tuple #[.slice a (vs: List VarL).length c, .int .i64 0]) /\ VarsIn W a vs /\ ∀ v ∈ vs,VarOk v))
theorem sbox {W w1: World} {p: Nat} {a b c: Value} (h: W.heap[p]? = some (.cells #[a,b,c] 101 (0,0))) (hb: Below W.heap.size W w1) :
 w1.cell? ⟨p,0,none⟩ = some a /\ w1.cell? ⟨p,1,none⟩ = some b /\ w1.cell? ⟨p,2,none⟩ = some c := by
 have h1: w1.heap[p]? = some (.cells #[a,b,c] 101 (0,0)) := (hb.block p (Array.getElem?_eq_some_iff.1 h).1).trans h
 exact ⟨by rw [cell_of_row _ _ _ _ _ _ h1]; rfl,by rw [cell_of_row _ _ _ _ _ _ h1]; rfl,by rw [cell_of_row _ _ _ _ _ _ h1]; rfl⟩
def cpF (B p: Nat) (s: SrcL): Nat -> Value -> World -> Prop
 | 0,v,_ => v = .pointer (some ⟨p,0,none⟩)
 | 1,v,_ => v = .int .i64 s.k
 | 2,v,_ => v = .pointer (some ⟨p,1,none⟩)
 | 3,v,_ => v = .string s.t
 | 4,v,_ => v = .string s.t
 | 5,v,_ => v = .pointer (some ⟨p,2,none⟩)
 | 6,v,_ => v = .string s.v
 | 7,v,_ => v = .string s.v
 | 8,v,_ => v = .agg #[.int .i64 s.k, .string s.t, .string s.v]
 | 9,v,w => ∃ q,v = .pointer (some ⟨q,0,none⟩) /\ w.heap[q]? = some (.cells #[.int .i64 0, .string ⟨#[]⟩, .string ⟨#[]⟩] 101 (0,0)) /\ B <= q
 | _,_,_ => True
theorem cpF_mono {B p: Nat} {s: SrcL}: ∀ (i: Nat) (v: Value) (w w': World),cpF B p s i v w -> Below w.heap.size w w' -> cpF B p s i v w'
 | 0,_,_,_,h,_ => h
 | 1,_,_,_,h,_ => h
 | 2,_,_,_,h,_ => h
 | 3,_,_,_,h,_ => h
 | 4,_,_,_,h,_ => h
 | 5,_,_,_,h,_ => h
 | 6,_,_,_,h,_ => h
 | 7,_,_,_,h,_ => h
 | 8,_,_,_,h,_ => h
 | 9,_,_,_,⟨q,h,h1,h2⟩,hb => ⟨q,h,(hb.block _ (Array.getElem?_eq_some_iff.1 h1).1).trans h1,h2⟩
 | _ + 10,_,_,_,_,_ => trivial
def cpS (i: Nat): Nat := if i = 9 then 14 else 37 + i
def cpL: List Nat := [14,37,38,39,40,41,42,43,44,45]
section
variable {Q: Exit -> Act -> World -> Prop} {K: Act -> World -> Prop} {o: Oper} {a: Act} {w: World}
theorem kslot_of {a: Act} {t: Nat} {v: Value} (h: a.eval (.tmp t) = v): a.tmps[t]?.getD undef = v := by simpa [Act.eval] using h
theorem cop_f0 {s p: Nat} (ho: o.op = .fieldAddr 101 (.tmp s) 0) (hs: a.eval (.tmp s) = .pointer (some ⟨p,0,none⟩)) (hK: K (a.put o.dst (.pointer (some ⟨p,0,none⟩))) w): Oper.wp Tryz.prog o a w K Q := by
 have hs' := kslot_of hs
 unfold Oper.wp
 simp [execOp,ho,go_sem,hs',run_underlying Tryz.underlying101]
 exact hK
theorem cop_f1 {s p: Nat} (ho: o.op = .fieldAddr 101 (.tmp s) 1) (hs: a.eval (.tmp s) = .pointer (some ⟨p,0,none⟩)) (hK: K (a.put o.dst (.pointer (some ⟨p,1,none⟩))) w): Oper.wp Tryz.prog o a w K Q := by
 have hs' := kslot_of hs
 unfold Oper.wp
 simp [execOp,ho,go_sem,hs',run_underlying Tryz.underlying101]
 exact hK
theorem cop_f2 {s p: Nat} (ho: o.op = .fieldAddr 101 (.tmp s) 2) (hs: a.eval (.tmp s) = .pointer (some ⟨p,0,none⟩)) (hK: K (a.put o.dst (.pointer (some ⟨p,2,none⟩))) w): Oper.wp Tryz.prog o a w K Q := by
 have hs' := kslot_of hs
 unfold Oper.wp
 simp [execOp,ho,go_sem,hs',run_underlying Tryz.underlying101]
 exact hK
theorem cop_int {s: Nat} {ad: Addr} {n: Int} (ho: o.op = .load 3 (.tmp s)) (hs: a.eval (.tmp s) = .pointer (some ad)) (hc: w.cell? ad = some (.int .i64 n)) (hK: K (a.put o.dst (.int .i64 n)) w): Oper.wp Tryz.prog o a w K Q := by
 have hs' := kslot_of hs
 unfold Oper.wp
 simp [execOp,ho,go_sem,hs',hc]
 exact hK
theorem cop_str {s: Nat} {ad: Addr} {n: ByteArray} (ho: o.op = .load 9 (.tmp s)) (hs: a.eval (.tmp s) = .pointer (some ad)) (hc: w.cell? ad = some (.string n)) (hK: K (a.put o.dst (.string n)) w): Oper.wp Tryz.prog o a w K Q := by
 have hs' := kslot_of hs
 unfold Oper.wp
 simp [execOp,ho,go_sem,hs',hc]
 exact hK
theorem cop_clone {s: Nat} {T: TypeId} {x: ByteArray} (ho: o.op = .call { callee := .value (.func 85),args := #[.tmp s],argTypes := #[T] }) (hs: a.eval (.tmp s) = .string x) (hx: x.size <= 140737488355328) (hK: ∀ w',Below w.heap.size w w' -> K (a.put o.dst (.string x)) w'): Oper.wp Tryz.prog o a w K Q := by
 have hs' := kslot_of hs
 unfold Oper.wp
 simp [execOp,ho,resolve,invoke,go_sem,hs']
 refine (kclone_walk x w hx).mono ?_
 rintro e w' ⟨rfl,hb⟩
 exact hK w' hb
theorem cop_build {s t u: Nat} {k: Int} {x y: ByteArray} (ho: o.op = .build 101 #[(0, .tmp s),(1, .tmp t),(2, .tmp u)]) (hs: a.eval (.tmp s) = .int .i64 k) (ht: a.eval (.tmp t) = .string x) (hu: a.eval (.tmp u) = .string y) (hK: K (a.put o.dst (.agg #[.int .i64 k, .string x, .string y])) w): Oper.wp Tryz.prog o a w K Q := by
 have hs' := kslot_of hs
 have ht' := kslot_of ht
 have hu' := kslot_of hu
 unfold Oper.wp
 simp [execOp,ho,go_sem,hs',ht',hu']
 exact hK
theorem cop_alloc (ho: o.op = .alloc 101) (hK: K (a.put o.dst (.pointer (some ⟨w.heap.size,0,none⟩))) (w.alloc (.cells #[.int .i64 0, .string ⟨#[]⟩, .string ⟨#[]⟩] 101))): Oper.wp Tryz.prog o a w K Q := by
 unfold Oper.wp
 simp [execOp,ho,go_sem]
 exact hK
end
theorem vars_walk {l: List TabL} (own: ByteArray) {f: List SrcL} {a fa: Option Addr} {c fc: Nat} {w: World} (hl: TabsIn w a l) (hok: TabsOk l) (hf: Rw.SlG srcC 3 w fa f) (hfo: SrcsOk f) :
 Calls Tryz.prog 34 #[.slice a l.length c, .slice fa f.length fc, .string own] w (VarsR (varsP l own f []) w) := by
 have HT := Rw.dh (fun s W (hb: Below w.heap.size w W) => tableOf_walk s own (c := c) (hl.on hb) hok)
 have HTO := Rw.dh (fun s t h => tabO_ok (own := own) (s := s) (t := t) hok h)
 have HF := Rw.dh hf
 have HFO := Rw.dh hfo.2
 have hfl := hfo.1
 clear hl hok hf hfo
 go_enter Tryz.func34,Tryz.ntmps34
 go_wp2_with fail
 go_loopw [8,17] (fun V i wr => ∃ (j: Nat) (vs: List VarL),j <= f.length /\ i = .int .i64 (j: Int) /\ vs.length = j /\ Hid (VrI w wr V vs) /\ Hid (varsP l own f [] = varsP l own (f.drop j) (vs.map strip))) (fun _ i _ => f.length - (intOf i).toNat)
 case atStart => exact ⟨0,[],Nat.zero_le _,rfl,rfl,⟨World.ownsRow_nil _ _ _ _,fun v h => (by cases h),fun v h => (by cases h),fun v h => (by cases h),Below.refl _ _⟩,rfl⟩
 case round =>
  obtain ⟨j,vs,hj,rfl,hvl,HR,HA⟩ := hrel
  have HVL := Rw.dh hvl
  clear hvl
  by_cases hlt: j < f.length
  · obtain ⟨b,o,s,rfl,hb,hx,hc⟩ := (HF.out.below HR.out.bel).at hlt
    have hs := HFO.out s (List.mem_of_getElem? hx)
    have HA1: Hid (varsP l own f [] = if (vars1 l own (vs.map strip) s).2 == 0 then varsP l own (f.drop (j + 1)) (vars1 l own (vs.map strip) s).1 else ([],(vars1 l own (vs.map strip) s).2)) := HA.out.trans (varsP_at hx)
    have HNm := Rw.dh (fun W => nameOf_walk s hs W)
    have HNs := Rw.dh (nameO_size hs)
    have HSo := Rw.dh hs
    have c0: wr.cell? ⟨b,o + j * 3,none⟩ = some (.int .i64 s.k) := hc 0 _ rfl
    have c1: wr.cell? ⟨b,o + j * 3 + 1,none⟩ = some (.string s.t) := hc 1 _ rfl
    have c2: wr.cell? ⟨b,o + j * 3 + 2,none⟩ = some (.string s.v) := hc 2 _ rfl
    have hC := HT.out s (wr.alloc (.cells #[.int .i64 s.k, .string s.t, .string s.v] 101)) (below_on HR.out.bel (Rw.below_alloc wr _))
    clear hc hx HA hs
    obtain ⟨V',cV,rfl⟩ := Rw.owns_slice HR.out.own
    unfold srcV at hC HNm
    go_wp2_with fail
    refine hC.mono ?_
    clear hC
    rintro e w2 ⟨hb2,hW⟩
    have HB2 := Rw.dh (below_on (Rw.below_alloc wr (.cells #[.int .i64 s.k, .string s.t, .string s.v] 101)) hb2)
    have HP2 := Rw.dh ((hb2.block _ (by simp)).trans (Rw.heap_new wr (.cells #[.int .i64 s.k, .string s.t, .string s.v] 101)))
    clear c0 c1 c2 hb hb2
    rcases hW with ⟨h,rfl⟩ | ⟨t,a',c',h,rfl,hS,hn,hlo⟩
    · have HE: Hid (varsP l own f [] = ([],2)) := by rw [Hid,HA1.out]; unfold vars1; rw [h]; rfl
      clear HA1 h
      have HB3 := Rw.dh (below_on HR.out.bel (below_on HB2.out (Rw.below_alloc w2 (.cells #[.string ⟨#[]⟩, .slice none 0 0] 96))))
      go_wp2
      go_ret2
      rw [HE.out]
      exact ⟨HB3.out,Or.inl ⟨rfl,rfl⟩⟩
    · have hV1: vars1 l own (vs.map strip) s = if namedI vs (nameO s) < 0 then (vs.map strip ++ [⟨nameO s,s.k,s.t,s.v,none,0,t.cols⟩],0) else ([],3) := by
       unfold vars1; rw [h]; simp only [namedI_strip]
      have HV1 := Rw.dh hV1
      have HTk := Rw.dh (HTO.out s t h)
      clear hV1 h
      have hlo': ∀ b o,a' = some ⟨b,o,none⟩ -> wr.heap.size <= b := fun b o e => by have := hlo b o e; simp at this; omega
      have HLo := Rw.dh hlo'
      have HS := Rw.dh (hS.below (Rw.below_alloc w2 (.cells #[.string t.name, .slice a' t.cols.length c'] 96)))
      have HN := Rw.dh hn
      have HB3 := Rw.dh (below_on HB2.out (Rw.below_alloc w2 (.cells #[.string t.name, .slice a' t.cols.length c'] 96)))
      have hp3 := (Below.heap_alloc w2 (.cells #[.string t.name, .slice a' t.cols.length c'] 96) _ (Array.getElem?_eq_some_iff.1 HP2.out).1).trans HP2.out
      have HQ3 := Rw.dh (Rw.heap_new w2 (.cells #[.string t.name, .slice a' t.cols.length c'] 96))
      obtain ⟨s0,s1,s2⟩ := sbox hp3 (Below.refl _ _)
      have HP3 := Rw.dh hp3
      clear hS hlo hlo' hn hp3 HP2 HB2
      go_wp2_with fail
      refine (HNm.out _).mono ?_
      rintro e w4 ⟨rfl,hb4⟩
      have HB4 := Rw.dh (below_on HB3.out hb4)
      have HP4 := Rw.dh ((hb4.block _ (Array.getElem?_eq_some_iff.1 HP3.out).1).trans HP3.out)
      have HQ4 := Rw.dh ((hb4.block _ (Array.getElem?_eq_some_iff.1 HQ3.out).1).trans HQ3.out)
      have HS4 := Rw.dh (HS.out.below hb4)
      clear hb4 s0 s1 s2 HS HB3 HP3 HQ3 HNm
      have hNC := named_walk vs (nameO s) (c := cV) (w := w4) ((Rw.owns_slg varC_len (by decide) HR.out.own).2.1.below HB4.out) (by have := HVL.out; omega)
      generalize nameO s = nm at *
      have HNI: Hid (∀ i,namedI vs nm = i -> vars1 l own (vs.map strip) s = if i < 0 then (vs.map strip ++ [⟨nm,s.k,s.t,s.v,none,0,t.cols⟩],0) else ([],3)) := fun i e => by rw [HV1.out,e]
      clear HV1
      generalize namedI vs nm = i at *
      go_wp2_with fail
      refine hNC.mono ?_
      clear hNC
      rintro e w5 ⟨rfl,hb5⟩
      have HB5 := Rw.dh (below_on HB4.out hb5)
      have HP5 := Rw.dh ((hb5.block _ (Array.getElem?_eq_some_iff.1 HP4.out).1).trans HP4.out)
      have HQ5 := Rw.dh ((hb5.block _ (Array.getElem?_eq_some_iff.1 HQ4.out).1).trans HQ4.out)
      have HS5 := Rw.dh (HS4.out.below hb5)
      clear hb5 HB4 HP4 HQ4 HS4
      by_cases hi: i < 0
      · have hV := HNI.out i rfl
        rw [if_pos hi] at hV
        have HA2: Hid (varsP l own f [] = varsP l own (f.drop (j + 1)) ((vs ++ [(⟨nm,s.k,s.t,s.v,a',c',t.cols⟩: VarL)]).map strip)) := by
         rw [Hid,HA1.out,hV,List.map_append]; rfl
        clear hV HA1 HNI
        have hi': decide (i ≥ 0) = false := decide_eq_false (by omega)
        have hi'': decide (0 <= i) = false := decide_eq_false (by omega)
        clear hi
        go_wp2_with fail
        have hp5 := HP5.out
        refine Rw.wp_region_facts (U := w5) 10 cpS cpL (cpF w5.heap.size wr.heap.size s) cpF_mono (by intro i j hi hj; unfold cpS; split <;> split <;> omega) (by intro i hi; have: i = 0 \/ i = 1 \/ i = 2 \/ i = 3 \/ i = 4 \/ i = 5 \/ i = 6 \/ i = 7 \/ i = 8 \/ i = 9 := (by omega); rcases this with rfl | rfl | rfl | rfl | rfl | rfl | rfl | rfl | rfl | rfl <;> decide) (by intro i hi; show cpS i < 56; unfold cpS; split <;> omega) (by kernel_rfl) (by kernel_rfl) (by kernel_rfl) (by simp) (Rw.lowO_of (by kernel_rfl)) (by kernel_rfl) ?_ ?_
        · intro i o a w6 hi hi6 hfr hbw hdep
          have e0: a.eval (.tmp 10) = .pointer (some ⟨wr.heap.size,0,none⟩) := hfr.eval (by decide)
          have hp6 := (hbw.block _ (Array.getElem?_eq_some_iff.1 hp5).1).trans hp5
          have dep: ∀ q,(o.after.any fun e => Region.binds .any e && e.on == q) = true -> cpF w5.heap.size wr.heap.size s q (a.eval (.tmp (cpS q))) w6 := fun q h => Rw.depO (F := fun q => cpF w5.heap.size wr.heap.size s q (a.eval (.tmp (cpS q))) w6) q h hdep
          obtain ⟨s0,s1,s2⟩ := sbox hp6 (Below.refl _ _)
          have hcs: i = 0 \/ i = 1 \/ i = 2 \/ i = 3 \/ i = 4 \/ i = 5 \/ i = 6 \/ i = 7 \/ i = 8 \/ i = 9 := by omega
          rcases hcs with rfl | rfl | rfl | rfl | rfl | rfl | rfl | rfl | rfl | rfl
          · obtain rfl := Option.some.inj hi
            exact ⟨rfl,fun K hK => cop_f0 rfl e0 (hK _ _ (Below.refl _ _) rfl)⟩
          · obtain rfl := Option.some.inj hi
            have d0: a.eval (.tmp 37) = .pointer (some ⟨wr.heap.size,0,none⟩) := dep 0 (by kernel_rfl)
            exact ⟨rfl,fun K hK => cop_int rfl d0 s0 (hK _ _ (Below.refl _ _) rfl)⟩
          · obtain rfl := Option.some.inj hi
            exact ⟨rfl,fun K hK => cop_f1 rfl e0 (hK _ _ (Below.refl _ _) rfl)⟩
          · obtain rfl := Option.some.inj hi
            have d0: a.eval (.tmp 39) = .pointer (some ⟨wr.heap.size,1,none⟩) := dep 2 (by kernel_rfl)
            exact ⟨rfl,fun K hK => cop_str rfl d0 s1 (hK _ _ (Below.refl _ _) rfl)⟩
          · obtain rfl := Option.some.inj hi
            have d0: a.eval (.tmp 40) = .string s.t := dep 3 (by kernel_rfl)
            exact ⟨rfl,fun K hK => cop_clone rfl d0 HSo.out.1 fun w7 hb => hK _ _ hb rfl⟩
          · obtain rfl := Option.some.inj hi
            exact ⟨rfl,fun K hK => cop_f2 rfl e0 (hK _ _ (Below.refl _ _) rfl)⟩
          · obtain rfl := Option.some.inj hi
            have d0: a.eval (.tmp 42) = .pointer (some ⟨wr.heap.size,2,none⟩) := dep 5 (by kernel_rfl)
            exact ⟨rfl,fun K hK => cop_str rfl d0 s2 (hK _ _ (Below.refl _ _) rfl)⟩
          · obtain rfl := Option.some.inj hi
            have d0: a.eval (.tmp 43) = .string s.v := dep 6 (by kernel_rfl)
            exact ⟨rfl,fun K hK => cop_clone rfl d0 HSo.out.2 fun w7 hb => hK _ _ hb rfl⟩
          · obtain rfl := Option.some.inj hi
            have d0: a.eval (.tmp 38) = .int .i64 s.k := dep 1 (by kernel_rfl)
            have d1: a.eval (.tmp 41) = .string s.t := dep 4 (by kernel_rfl)
            have d2: a.eval (.tmp 44) = .string s.v := dep 7 (by kernel_rfl)
            exact ⟨rfl,fun K hK => cop_build rfl d0 d1 d2 (hK _ _ (Below.refl _ _) rfl)⟩
          · obtain rfl := Option.some.inj hi
            exact ⟨rfl,fun K hK => cop_alloc rfl (hK _ _ (Rw.below_alloc _ _) ⟨_,rfl,Rw.heap_new _ _,hbw.size⟩)⟩
        · intro a w6 hfr hbw hk
          have k8: a.eval (.tmp 45) = .agg #[.int .i64 s.k, .string s.t, .string s.v] := hk 8 (by decide)
          obtain ⟨q,k9,hq,hql⟩: ∃ q,a.eval (.tmp 14) = .pointer (some ⟨q,0,none⟩) /\ w6.heap[q]? = some (.cells #[.int .i64 0, .string ⟨#[]⟩, .string ⟨#[]⟩] 101 (0,0)) /\ w5.heap.size <= q := hk 9 (by decide)
          have ha := hfr.all (by intro t ht; simp [cpL] at ht; show t < 56; omega)
          rw [ha]
          simp only [Rw.putAll,cpL]
          rw [k8,k9]
          generalize a.eval (.tmp 37) = u37,a.eval (.tmp 38) = u38,a.eval (.tmp 39) = u39,a.eval (.tmp 40) = u40,a.eval (.tmp 41) = u41,a.eval (.tmp 42) = u42,a.eval (.tmp 43) = u43,a.eval (.tmp 44) = u44
          simp only [Act.put,List.setIfInBounds_toArray,List.set_cons_succ,List.set_cons_zero]
          obtain ⟨z0,z1,z2⟩ := sbox hq (Below.refl _ _)
          have y0: w6.frozen? ⟨q,0,none⟩ = false := frozen_of_row _ _ _ _ _ hq
          have y1: w6.frozen? ⟨q,1,none⟩ = false := frozen_of_row _ _ _ _ _ hq
          have y2: w6.frozen? ⟨q,2,none⟩ = false := frozen_of_row _ _ _ _ _ hq
          have hqs := (Array.getElem?_eq_some_iff.1 hq).1
          have HBw := Rw.dh hbw
          have HQl := Rw.dh hql
          have HQ := Rw.dh hq
          have hq6 := (hbw.block _ (Array.getElem?_eq_some_iff.1 HQ5.out).1).trans HQ5.out
          have hlt6: w2.heap.size < w5.heap.size := (Array.getElem?_eq_some_iff.1 HQ5.out).1
          have hne: w2.heap.size ≠ q := by omega
          have t1: (((w6.setCell ⟨q,0,none⟩ (.int .i64 s.k)).setCell ⟨q,1,none⟩ (.string s.t)).setCell ⟨q,2,none⟩ (.string s.v)).cell? ⟨w2.heap.size,1,none⟩ = some (.slice a' t.cols.length c') := by
           rw [cell_of_row _ _ _ _ _ _ ((heap_setCell_other _ _ _ _ hne).trans ((heap_setCell_other _ _ _ _ hne).trans ((heap_setCell_other _ _ _ _ hne).trans hq6)))]; rfl
          have HBz: Hid (Below wr.heap.size wr (((w6.setCell ⟨q,0,none⟩ (.int .i64 s.k)).setCell ⟨q,1,none⟩ (.string s.t)).setCell ⟨q,2,none⟩ (.string s.v))) := below_set3 (by have := HB5.out.size; omega) (below_on HB5.out hbw) _ _ _
          have HSz: Hid (Rw.SlG colC 4 (((w6.setCell ⟨q,0,none⟩ (.int .i64 s.k)).setCell ⟨q,1,none⟩ (.string s.t)).setCell ⟨q,2,none⟩ (.string s.v)) a' t.cols) := HS5.out.below (below_set3 hql hbw _ _ _)
          clear k8 k9 ha hq hk hfr hbw hql hp5 hq6 hlt6 hne HQ5 HP5 HS5 HB5
          go_wp2_with (at_builtin; revert HR)
          intro HR
          refine Rw.to_letter (F := fun U => Below wr.heap.size wr U /\ Rw.SlG colC 4 U a' t.cols /\ Rw.Src U (some ⟨w6.heap.size,0,none⟩) 1 1 (varC ⟨nm,s.k,s.t,s.v,a',c',t.cols⟩)) ⟨HBz.out.alloc HBz.out.size _,HSz.out.below (Rw.below_alloc _ _),Rw.src_new _ (varC ⟨nm,s.k,s.t,s.v,a',c',t.cols⟩) _ 1 1 (by simp)⟩ ?_
          rintro U ⟨bU,sU,rU⟩
          have o1 := Rw.owns_on HR.out.own bU
          refine append_bigN Tryz.underlying32 infoVar rfl (by decide) rfl _ _ rfl w.heap.size (below_on HR.out.bel bU).size _ vs.length (Rw.flat varC vs) rfl o1 _ 1 1 (varC ⟨nm,s.k,s.t,s.v,a',c',t.cols⟩) rfl rU rfl (varC_one _) (by unfold maxLen; have := HVL.out; omega) (by have := HVL.out; omega) ?_
          intro V2 W2 O2 G2 hV2
          have HR2: Hid (VrI w W2 V2 (vs ++ [(⟨nm,s.k,s.t,s.v,a',c',t.cols⟩: VarL)])) := HR.out.step bU sU HLo.out ⟨HNs.out,HTk.out.2.1,HN.out⟩ (by rw [Rw.flat_append]; simpa [Rw.flat] using O2) G2 hV2
          have HVL2: Hid ((vs ++ [(⟨nm,s.k,s.t,s.v,a',c',t.cols⟩: VarL)]).length = j + 1) := by rw [Hid,List.length_append,HVL.out]; rfl
          clear O2 G2 hV2 o1 bU sU rU HR HLo HNs HTk HN HBz HSz
          go_wp2_with fail
          exact ⟨⟨j + 1,_,hlt,by go_num,HVL2.out,HR2,HA2⟩,by simp [intOf]; omega⟩
      · have hV := HNI.out i rfl
        rw [if_neg hi] at hV
        have HE: Hid (varsP l own f [] = ([],3)) := by rw [Hid,HA1.out,hV]; rfl
        have HBE := Rw.dh (below_on HR.out.bel HB5.out)
        have hi': decide (i ≥ 0) = true := decide_eq_true (by omega)
        clear hV HA1 HNI
        go_wp2
        go_ret2
        rw [HE.out]
        exact ⟨HBE.out,Or.inl ⟨rfl,rfl⟩⟩
  · have hjs: j = f.length := by omega
    subst hjs
    have hA := HA.out
    rw [List.drop_length] at hA
    have HE: Hid (varsP l own f [] = (vs.map strip,0)) := hA
    obtain ⟨V',cV,rfl⟩ := Rw.owns_slice HR.out.own
    have hs := (Rw.owns_slg varC_len (by decide) HR.out.own).2.1
    have HX: Hid (VarsR (vs.map strip,0) w (.returned (.tuple #[.slice V' vs.length cV, .int .i64 0])) wr) := ⟨HR.out.bel,Or.inr ⟨rfl,vs,V',cV,rfl,rfl,⟨hs,HR.out.cols⟩,HR.out.ok⟩⟩
    clear hA hs
    go_wp2
    go_ret2
    rw [HE.out]
    exact HX.out
end Go.Proofs.YteibhbnlcpejpaaGreat
