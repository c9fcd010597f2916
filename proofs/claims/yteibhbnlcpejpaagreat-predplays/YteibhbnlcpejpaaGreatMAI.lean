import Derived.Test.YteibhbnlcpejpaaGreatMAH
import Derived.Test.YteibhbnlcpejpaaGreatRows
set_option maxRecDepth 100000
set_option maxHeartbeats 4000000
namespace Go.Proofs.YteibhbnlcpejpaaGreat
open Go.RowKit Go.Deep
theorem nfits {n: Int} (h: (Lit.int .i64 n).wf = true): fits n = true := by
 simpa [Lit.wf,IntKind.min,IntKind.max,IntKind.signed,IntKind.bits,fits] using h
theorem ncellsT: Tryz.prog.cellsOf 44 = 7 := by kernel_rfl
theorem nbytesT: Tryz.prog.bytesOf 44 = 88 := by kernel_rfl
theorem nbulk_at {H: Type} (D: Nat -> DataW H): ∀ n i,i < n -> Rows.uptoBulk (D i) <= Rows.uptoBulkAll ((List.range n).map D) := by
 intro n
 induction n with
 | zero => intro i hi; omega
 | succ n ih =>
  intro i hi
  have happ: ∀ a b: List (DataW H),Rows.uptoBulkAll (a ++ b) = Rows.uptoBulkAll a + Rows.uptoBulkAll b := by
   intro a b
   induction a with
   | nil => simp [Rows.uptoBulkAll]
   | cons x a ih => simp [Rows.uptoBulkAll,ih]; omega
  rw [List.range_succ,List.map_append,happ]
  by_cases e: i = n
  · subst e; simp [Rows.uptoBulkAll]
  · have := ih i (by omega); omega
theorem nweights_mem {H: Type} {P: Program} {e: TypeId} {q: Nat -> Bool}: ∀ {l: List (DataW H)},(DataW.weightsAll P e l).all q = true -> ∀ d ∈ l,(d.weights P e).all q = true
 | [],_,d,hd => by cases hd
 | x :: l,h,d,hd => by
  rw [DataW.weightsAll,List.all_append,Bool.and_eq_true] at h
  rcases List.mem_cons.1 hd with rfl | hd
  · exact h.1
  · exact nweights_mem h.2 d hd
def ReachN {H: Type} (t: TypeId) (d: DataW H): Prop := (d.weights Tryz.prog t).all (fun x => decide (x <= reachBytes)) = true
section
variable {H: Type} {enc: TypeId × Value -> H} {w: World}
def KidsRN (w: World) (cs: List Value): Prop := ∃ a c,∃ l: List NL,cs = [.slice a l.length c] /\ l.length <= 1599289640401 /\ Rw.SlG nC 7 w a l /\ ∀ k ∈ l,∀ n,InN n w k
theorem nseven_of {cs: List Value} {a b c d e f g: Value} (hl: cs.length = 7) (h0: (cs.drop 0).take 1 = [a]) (h1: (cs.drop 1).take 3 = [b,c,d]) (h2: (cs.drop 4).take 1 = [e]) (h3: (cs.drop 5).take 1 = [f]) (h4: (cs.drop 6).take 1 = [g]): cs = [a,b,c,d,e,f,g] := by
 match cs,hl with
 | [c0,c1,c2,c3,c4,c5,c6],_ =>
  simp at h0 h1 h2 h3 h4
  rw [h0,h1.1,h1.2.1,h1.2.2,h2,h3,h4]
theorem nthree_of {cs: List Value} {a b c: Value} (hl: cs.length = 3) (h0: (cs.drop 0).take 1 = [a]) (h1: (cs.drop 1).take 1 = [b]) (h2: (cs.drop 2).take 1 = [c]): cs = [a,b,c] := by
 match cs,hl with
 | [c0,c1,c2],_ =>
  simp at h0 h1 h2
  rw [h0,h1,h2]
theorem read_n1 {fuel: Nat} {cs: List Value} {d: DataW H} {p: List MemPlace} (h: DataW.trod enc Tryz.prog w 0 (fun _ => true) true fuel 44 cs = some (d,p)) (hW: ReachN 44 d)
 (hk: ∀ fuel' cs' d' p',DataW.trod enc Tryz.prog w 0 (fun _ => true) true fuel' 42 cs' = some (d',p') -> Rows.uptoBulk d' < Rows.uptoBulk d -> ReachN 42 d' -> KidsRN w cs'): ∃ x,cs = nC x /\ ∀ n,InN n w x := by
 obtain ⟨xs,n',hd,hxs,hl,hlen,hf⟩ := DataW.trod_struct Tryz.underlying44 h
 simp only [Prod.mk.injEq] at hxs
 match xs,hlen with
 | [y0,y1,y2,y3,y4],_ =>
  have f0 := hf 0 _ rfl
  have f1 := hf 1 _ rfl
  have f2 := hf 2 _ rfl
  have f3 := hf 3 _ rfl
  have f4 := hf 4 _ rfl
  simp only [List.getElem?_cons_zero,List.getElem?_cons_succ] at f0 f1 f2 f3 f4
  obtain ⟨s0,g0,hj0,hs0⟩ := DataW.trod_string Tryz.underlying9 f0
  obtain ⟨s2,g2, -, -⟩ := DataW.trod_int Tryz.underlying3 f2
  obtain ⟨s3,g3, -, -⟩ := DataW.trod_int Tryz.underlying3 f3
  obtain ⟨zs,n2, -, hzs,hzl,hzlen,hzf⟩ := DataW.trod_struct Tryz.underlying27 f1
  match zs,hzlen with
  | [v0,v1,v2],_ =>
   have e0 := hzf 0 _ rfl
   have e1 := hzf 1 _ rfl
   have e2 := hzf 2 _ rfl
   simp only [List.getElem?_cons_zero,List.getElem?_cons_succ] at e0 e1 e2
   obtain ⟨k0,j0, -, hk0⟩ := DataW.trod_int Tryz.underlying3 e0
   obtain ⟨k1,j1, -, hk1⟩ := DataW.trod_int Tryz.underlying3 e1
   obtain ⟨s1,j2,hj2,hs1⟩ := DataW.trod_string Tryz.underlying9 e2
   have hd': d = .agg [y0.1,y1.1,y2.1,y3.1,y4.1] := hxs.1
   have hW4: ReachN 42 y4.1 := by
    have := hW
    unfold ReachN at this ⊢
    rw [hd',DataW.weights,Tryz.underlying44] at this
    simp only [DataW.weightsEach,List.map_cons,List.map_nil,List.all_append,Bool.and_eq_true] at this
    exact this.2.2.2.2.1
   have hB4: Rows.uptoBulk y4.1 < Rows.uptoBulk d := by
    rw [hd']
    simp only [Rows.uptoBulk,Rows.uptoBulkAll]
    omega
   have hop: s0.size <= 281474976710656 := by
    have hv0: y0.1 = .lit (.string s0.data.toList) := by rw [hj0]
    have := hW
    unfold ReachN at this
    rw [hd',DataW.weights,Tryz.underlying44] at this
    simp only [DataW.weightsEach,List.map_cons,List.map_nil,List.all_append,Bool.and_eq_true] at this
    have h2 := this.1
    rw [hv0,DataW.weights] at h2
    have h3: s0.data.toList.length <= reachBytes := of_decide_eq_true (List.all_eq_true.1 h2 _ (List.mem_singleton.2 rfl))
    have h4: s0.data.toList.length = s0.size := Array.length_toList
    unfold reachBytes at h3
    omega
   have hvs: s1.size <= 281474976710656 := by
    have hv2: v2.1 = .lit (.string s1.data.toList) := by rw [hj2]
    have hy1: y1.1 = .agg [v0.1,v1.1,v2.1] := congrArg Prod.fst hzs
    have := hW
    unfold ReachN at this
    rw [hd',DataW.weights,Tryz.underlying44] at this
    simp only [DataW.weightsEach,List.map_cons,List.map_nil,List.all_append,Bool.and_eq_true] at this
    have h1 := this.2.1
    rw [hy1,DataW.weights,Tryz.underlying27] at h1
    simp only [DataW.weightsEach,List.map_cons,List.map_nil,List.all_append,Bool.and_eq_true] at h1
    have h2 := h1.2.2.1
    rw [hv2,DataW.weights] at h2
    have h3: s1.data.toList.length <= reachBytes := of_decide_eq_true (List.all_eq_true.1 h2 _ (List.mem_singleton.2 rfl))
    have h4: s1.data.toList.length = s1.size := Array.length_toList
    unfold reachBytes at h3
    omega
   obtain ⟨a,c,l,hcs,hll,hS,hIn⟩ := hk n' _ y4.1 y4.2 f4 hB4 hW4
   have t1: ((cs.drop 1).take 3) = [.int .i64 k0, .int .i64 k1, .string s1] := nthree_of hzl j0 j1 j2
   refine ⟨.mk s0 k0 k1 s1 s2 s3 a c l,nseven_of hl g0 t1 g2 g3 hcs,fun n => ?_⟩
   cases n with
   | zero => trivial
   | succ n => exact ⟨⟨nfits hk0,nfits hk1,hop,hvs,hll⟩,hS,fun k hk => hIn k hk n⟩
theorem read_ns: ∀ (B: Nat) (d: DataW H),Rows.uptoBulk d <= B -> ∀ (fuel: Nat) (cs: List Value) (p: List MemPlace),DataW.trod enc Tryz.prog w 0 (fun _ => true) true fuel 42 cs = some (d,p) -> ReachN 42 d -> KidsRN w cs := by
 intro B
 induction B with
 | zero =>
  intro d hd fuel cs p h _
  rcases open_slice Tryz.underlying42 h with ⟨rfl,hx⟩ | ⟨a,len,cap,m,n,D,Pl,rfl,hb,hl,hm,hmm,hx,hel⟩
  · exact ⟨none,0,[],rfl,by simp,Or.inl rfl,fun k hk => by cases hk⟩
  · simp only [Prod.mk.injEq] at hx
    rw [hx.1] at hd
    simp [Rows.uptoBulk] at hd
 | succ B ih =>
  intro d hd fuel cs p h hW
  rcases open_slice Tryz.underlying42 h with ⟨rfl,hx⟩ | ⟨a,len,cap,m,n,D,Pl,rfl,hb,hl,hm,hmm,hx,hel⟩
  · exact ⟨none,0,[],rfl,by simp,Or.inl rfl,fun k hk => by cases hk⟩
  · simp only [Prod.mk.injEq] at hx
    obtain ⟨rfl, -⟩ := hx
    simp only [if_true] at hmm
    subst hmm
    simp only [Rows.uptoBulk] at hd
    unfold ReachN at hW
    rw [DataW.weights,Tryz.underlying42] at hW
    simp only [List.all_cons,List.all_append,Bool.and_eq_true,decide_eq_true_eq,nbytesT] at hW
    have hlen: len <= 1599289640401 := by
     have := hW.1
     simp only [List.length_map,List.length_range,reachBytes] at this
     omega
    have key: ∀ i,i < len -> ∃ x: NL,(∀ n,InN n w x) /\ ∀ b o,a = ⟨b,o,none⟩ -> ∀ j u,(nC x)[j]? = some u -> w.cell? ⟨b,o + i * 7 + j,none⟩ = some u := by
     intro i hi
     obtain ⟨cs',hc,ht⟩ := hel i (by omega)
     rw [ncellsT] at hc
     obtain ⟨-, hlc,hcell⟩ := World.cells?_some hc
     have hbi := nbulk_at D len i hi
     obtain ⟨x,rfl,hIn⟩ := read_n1 ht (nweights_mem hW.2.1 (D i) (List.mem_map.2 ⟨i,List.mem_range.2 hi,rfl⟩)) (fun fuel' cs' d' p' h' hb' hW' => ih d' (by omega) fuel' cs' p' h' hW')
     refine ⟨x,hIn, ?_⟩
     rintro b o rfl j u hu
     have hj: j < 7 := by rw [<- hlc]; exact (List.getElem?_eq_some_iff.1 hu).1
     have := hcell j hj
     rw [Rw.add_none,Rw.add_none] at this
     rw [this,hu]
    have hinh: Inhabited NL := ⟨zNL⟩
    obtain ⟨S,hS⟩ := choose_lt key
    refine ⟨some a,m,(List.range len).map S,by simp,by simpa using hlen, ?_, ?_⟩
    · cases len with
      | zero => exact Or.inl rfl
      | succ len =>
       right
       obtain ⟨cs',hc, -⟩ := hel 0 (by omega)
       rw [ncellsT] at hc
       obtain ⟨-, hlc,hcell⟩ := World.cells?_some hc
       have h0 := hcell 0 (by decide)
       rw [List.getElem?_eq_getElem (by omega)] at h0
       have hsp: a.spot = none := by
        have := World.cell?_spot h0
        simpa [Addr.add] using this
       obtain ⟨b,o,sp⟩ := a
       simp only at hsp
       subst hsp
       refine ⟨b,o,rfl, ?_, ?_⟩
       · have := World.block_lt_of_cell? _ _ h0
         simpa [Addr.add] using this
       · intro j x hx
         rw [List.getElem?_map] at hx
         obtain ⟨i,hi,rfl⟩ := Option.map_eq_some_iff.1 hx
         have hj: j < len + 1 := by
          have := (List.getElem?_eq_some_iff.1 hi).1
          simpa using this
         have: i = j := by
          rw [List.getElem?_range hj] at hi
          exact (Option.some.inj hi).symm
         subst this
         exact (hS i hj).2 b o rfl
    · intro k hk n
      obtain ⟨i,hi,rfl⟩ := List.mem_map.1 hk
      exact (hS i (List.mem_range.1 hi)).1 n
theorem read_rowW {α: Type} [Inhabited α] {t e: TypeId} {size: Nat} (ht: Tryz.prog.underlying t = some (.slice e)) (hsz: Tryz.prog.cellsOf e = size) (hpos: 0 < size) (R: α -> List Value) (Ok: α -> Prop)
 (helem: ∀ fuel cs x,DataW.trod enc Tryz.prog w 0 (fun _ => true) true fuel e cs = some x -> ReachN e x.1 -> cs.length = size -> ∃ v,cs = R v /\ Ok v)
 {fuel: Nat} {cs: List Value} {x: DataW H × List MemPlace} (h: DataW.trod enc Tryz.prog w 0 (fun _ => true) true fuel t cs = some x) (hW: ReachN t x.1) :
 ∃ a cap,∃ l: List α,cs = [.slice a l.length cap] /\ l.length <= maxLen /\ (∀ x ∈ l,Ok x) /\ Rw.SlG R size w a l := by
 rcases open_slice ht h with ⟨rfl,hx⟩ | ⟨a,len,cap,m,n,D,Pl,rfl,hb,hl,hm,hmm,hx,hel⟩
 · exact ⟨none,0,[],rfl,by simp,fun _ h => (by cases h),Or.inl rfl⟩
 · simp only [if_true] at hmm
   subst hmm
   have hx1 := congrArg Prod.fst hx
   simp only at hx1
   rw [hx1] at hW
   unfold ReachN at hW
   rw [DataW.weights,ht] at hW
   simp only [List.all_cons,List.all_append,Bool.and_eq_true] at hW
   have key: ∀ i,i < len -> ∃ v: α,Ok v /\ ∀ b o,a = ⟨b,o,none⟩ -> ∀ j u,(R v)[j]? = some u -> w.cell? ⟨b,o + i * size + j,none⟩ = some u := by
    intro i hi
    obtain ⟨cs',hc,ht'⟩ := hel i (by omega)
    rw [hsz] at hc
    obtain ⟨-, hlen,hcell⟩ := World.cells?_some hc
    obtain ⟨v,rfl,hok⟩ := helem _ _ _ ht' (nweights_mem hW.2.1 (D i) (List.mem_map.2 ⟨i,List.mem_range.2 hi,rfl⟩)) hlen
    refine ⟨v,hok, ?_⟩
    rintro b o rfl j u hu
    have hj: j < size := by rw [<- hlen]; exact (List.getElem?_eq_some_iff.1 hu).1
    have := hcell j hj
    rw [Rw.add_none,Rw.add_none] at this
    rw [this,hu]
   obtain ⟨S,hS⟩ := choose_lt key
   refine ⟨some a,m,(List.range len).map S,by simp,by simp; omega, ?_, ?_⟩
   · intro x hx
     obtain ⟨i,hi,rfl⟩ := List.mem_map.1 hx
     exact (hS i (List.mem_range.1 hi)).1
   cases len with
   | zero => exact Or.inl rfl
   | succ len =>
    right
    obtain ⟨cs',hc, -⟩ := hel 0 (by omega)
    rw [hsz] at hc
    obtain ⟨-, hlen,hcell⟩ := World.cells?_some hc
    have h0 := hcell 0 hpos
    rw [List.getElem?_eq_getElem (by omega)] at h0
    have hsp: a.spot = none := by
     have := World.cell?_spot h0
     simpa [Addr.add] using this
    obtain ⟨b,o,sp⟩ := a
    simp only at hsp
    subst hsp
    refine ⟨b,o,rfl, ?_, ?_⟩
    · have := World.block_lt_of_cell? _ _ h0
      simpa [Addr.add] using this
    · intro j v hv
      rw [List.getElem?_map] at hv
      obtain ⟨i,hi,rfl⟩ := Option.map_eq_some_iff.1 hv
      have hj: j < len + 1 := by
       have := (List.getElem?_eq_some_iff.1 hi).1
       simpa using this
      have: i = j := by
       rw [List.getElem?_range hj] at hi
       exact (Option.some.inj hi).symm
      subst this
      exact (hS i hj).2 b o rfl
theorem vcells: Tryz.prog.cellsOf 27 = 3 := by kernel_rfl
theorem read_vv {fuel: Nat} {cs: List Value} {x: DataW H × List MemPlace} (h: DataW.trod enc Tryz.prog w 0 (fun _ => true) true fuel 27 cs = some x) (hW: ReachN 27 x.1): ∃ v: Vv,cs = vvC v /\ VFit v := by
 obtain ⟨zs,n2, -, hzs,hzl,hzlen,hzf⟩ := DataW.trod_struct Tryz.underlying27 h
 match zs,hzlen with
 | [v0,v1,v2],_ =>
  have e0 := hzf 0 _ rfl
  have e1 := hzf 1 _ rfl
  have e2 := hzf 2 _ rfl
  simp only [List.getElem?_cons_zero,List.getElem?_cons_succ] at e0 e1 e2
  obtain ⟨k0,j0, -, hk0⟩ := DataW.trod_int Tryz.underlying3 e0
  obtain ⟨k1,j1, -, hk1⟩ := DataW.trod_int Tryz.underlying3 e1
  obtain ⟨s1,j2,hj2,hs1⟩ := DataW.trod_string Tryz.underlying9 e2
  refine ⟨⟨k0,k1,s1⟩,nthree_of hzl j0 j1 j2,nfits hk0,nfits hk1, ?_⟩
  have hv2: v2.1 = .lit (.string s1.data.toList) := by rw [hj2]
  have hy1: x.1 = .agg [v0.1,v1.1,v2.1] := congrArg Prod.fst hzs
  have h1 := hW
  unfold ReachN at h1
  rw [hy1,DataW.weights,Tryz.underlying27] at h1
  simp only [DataW.weightsEach,List.map_cons,List.map_nil,List.all_append,Bool.and_eq_true] at h1
  have h2 := h1.2.2.1
  rw [hv2,DataW.weights] at h2
  have h3: s1.data.toList.length <= reachBytes := of_decide_eq_true (List.all_eq_true.1 h2 _ (List.mem_singleton.2 rfl))
  have h4: s1.data.toList.length = s1.size := Array.length_toList
  unfold reachBytes at h3
  show s1.size <= _
  omega
end
end Go.Proofs.YteibhbnlcpejpaaGreat
