import Derived.Test.YtdaikppppkbfoaaMBY
import Derived.Test.YtdaikppppkbfoaaMBZ
set_option maxRecDepth 100000
set_option maxHeartbeats 4000000
namespace Go.Proofs.Ytdaikppppkbfoaa
open Go.RowKit Go.Deep
theorem bulk_pos {H: Type} (d: DataW H): 1 <= Rows.uptoBulk d := by
 cases d with
 | lit l => cases l <;> simp [Rows.uptoBulk]
 | _ => simp [Rows.uptoBulk]
theorem bulk_app {H: Type}: ∀ a b: List (DataW H),Rows.uptoBulkAll (a ++ b) = Rows.uptoBulkAll a + Rows.uptoBulkAll b
 | [],b => by simp [Rows.uptoBulkAll]
 | x :: a,b => by simp [Rows.uptoBulkAll,bulk_app a b]; omega
theorem bulk_atB {H: Type} (D: Nat -> DataW H): ∀ n i,i < n -> Rows.uptoBulk (D i) <= Rows.uptoBulkAll ((List.range n).map D) := by
 intro n
 induction n with
 | zero => intro i hi; omega
 | succ n ih =>
  intro i hi
  rw [List.range_succ,List.map_append,bulk_app]
  by_cases e: i = n
  · subst e; simp [Rows.uptoBulkAll]
  · have := ih i (by omega); omega
theorem bulk_lenB {H: Type} (D: Nat -> DataW H): ∀ n,n <= Rows.uptoBulkAll ((List.range n).map D) := by
 intro n
 induction n with
 | zero => omega
 | succ n ih =>
  rw [List.range_succ,List.map_append,bulk_app]
  have := bulk_pos (D n)
  simp only [List.map_cons,List.map_nil,Rows.uptoBulkAll]
  omega
section
variable {H: Type} {enc: TypeId × Value -> H} {w: World}
theorem read_rowB {α: Type} {B: Nat} [Inhabited α] {t e: TypeId} {size: Nat} (ht: Try.prog.underlying t = some (.slice e)) (hsz: Try.prog.cellsOf e = size) (hpos: 0 < size) (R: α -> List Value) (Ok: α -> Prop)
 (helem: ∀ fuel cs x,DataW.trod enc Try.prog w 0 (fun _ => true) true fuel e cs = some x -> Rows.uptoBulk x.1 <= B -> cs.length = size -> ∃ v,cs = R v /\ Ok v)
 {fuel: Nat} {cs: List Value} {x: DataW H × List MemPlace} (h: DataW.trod enc Try.prog w 0 (fun _ => true) true fuel t cs = some x) (hW: Rows.uptoBulk x.1 <= B) :
 ∃ a cap,∃ l: List α,cs = [.slice a l.length cap] /\ l.length <= B /\ (a = none -> cap = 0) /\ (∀ x ∈ l,Ok x) /\ Rw.SlG R size w a l := by
 rcases open_slice ht h with ⟨rfl,hx⟩ | ⟨a,len,cap,m,n,D,Pl,rfl,hb,hl,hm,hmm,hx,hel⟩
 · exact ⟨none,0,[],rfl,by simp,fun _ => rfl,fun _ h => (by cases h),Or.inl rfl⟩
 · simp only [if_true] at hmm
   subst hmm
   have hx1 := congrArg Prod.fst hx
   simp only at hx1
   rw [hx1] at hW
   simp only [Rows.uptoBulk] at hW
   have key: ∀ i,i < len -> ∃ v: α,Ok v /\ ∀ b o,a = ⟨b,o,none⟩ -> ∀ j u,(R v)[j]? = some u -> w.cell? ⟨b,o + i * size + j,none⟩ = some u := by
    intro i hi
    obtain ⟨cs',hc,ht'⟩ := hel i (by omega)
    rw [hsz] at hc
    obtain ⟨-, hlen,hcell⟩ := World.cells?_some hc
    obtain ⟨v,rfl,hok⟩ := helem _ _ _ ht' (by have := bulk_atB D len i hi; show Rows.uptoBulk (D i) <= B; omega) hlen
    refine ⟨v,hok, ?_⟩
    rintro b o rfl j u hu
    have hj: j < size := by rw [<- hlen]; exact (List.getElem?_eq_some_iff.1 hu).1
    have := hcell j hj
    rw [Rw.add_none,Rw.add_none] at this
    rw [this,hu]
   obtain ⟨S,hS⟩ := choose_lt key
   refine ⟨some a,m,(List.range len).map S,by simp,by have := bulk_lenB D len; simp; omega,fun h => (by cases h), ?_, ?_⟩
   · intro x hx
     obtain ⟨i,hi,rfl⟩ := List.mem_map.1 hx
     exact (hS i (List.mem_range.1 hi)).1
   cases len with
   | zero => exact Or.inl rfl
   | succ len =>
    right
    obtain ⟨cs',hc, -⟩ := hel 0 (by omega)
    rw [hsz] at hc
    obtain ⟨-, hlen,hcell⟩ := World.cells?_some hc
    have h0 := hcell 0 hpos
    rw [List.getElem?_eq_getElem (by omega)] at h0
    have hsp: a.spot = none := by
     have := World.cell?_spot h0
     simpa [Addr.add] using this
    obtain ⟨b,o,sp⟩ := a
    simp only at hsp
    subst hsp
    refine ⟨b,o,rfl, ?_, ?_⟩
    · have := World.block_lt_of_cell? _ _ h0
      simpa [Addr.add] using this
    · intro j v hv
      rw [List.getElem?_map] at hv
      obtain ⟨i,hi,rfl⟩ := Option.map_eq_some_iff.1 hv
      have hj: j < len + 1 := by
       have := (List.getElem?_eq_some_iff.1 hi).1
       simpa using this
      have: i = j := by
       rw [List.getElem?_range hj] at hi
       exact (Option.some.inj hi).symm
      subst this
      exact (hS i hj).2 b o rfl
end
theorem one_takeB {cs: List Value} {j: Nat} {v: Value} (h: (cs.drop j).take 1 = [v]): cs[j]? = some v := by
 have := congrArg (fun l => l[0]?) h
 simpa using this
theorem bal2 (s: ByteArray): s.data.toList.length = s.size := Array.length_toList
section
variable {H: Type} {enc: TypeId × Value -> H} {w: World}
theorem read_col1 {B fuel: Nat} {cs: List Value} {x: DataW H × List MemPlace} (h: DataW.trod enc Try.prog w 0 (fun _ => true) true fuel 87 cs = some x) (hB: Rows.uptoBulk x.1 <= B) (hl: cs.length = 4): ∃ c: Col,cs = colC c /\ c.s.size <= B := by
 obtain ⟨zs,n2, -, hzs,hzl,hzlen,hzf⟩ := DataW.trod_struct Try.underlying87 h
 match zs,hzlen with
 | [v0,v1,v2,v3],_ =>
  have e0 := hzf 0 _ rfl
  have e1 := hzf 1 _ rfl
  have e2 := hzf 2 _ rfl
  have e3 := hzf 3 _ rfl
  simp only [List.getElem?_cons_zero,List.getElem?_cons_succ] at e0 e1 e2 e3
  obtain ⟨s0,j0,hj0, -⟩ := DataW.trod_string Try.underlying9 e0
  obtain ⟨k1,j1, -, -⟩ := DataW.trod_int Try.underlying3 e1
  obtain ⟨b2,j2, -⟩ := DataW.trod_bool Try.underlying4 e2
  obtain ⟨b3,j3, -⟩ := DataW.trod_bool Try.underlying4 e3
  have hv0: v0.1 = .lit (.string s0.data.toList) := by rw [hj0]
  have hx: x.1 = .agg [v0.1,v1.1,v2.1,v3.1] := congrArg Prod.fst hzs
  rw [hx,hv0] at hB
  simp only [Rows.uptoBulk,Rows.uptoBulkAll] at hB
  refine ⟨⟨s0,k1,b2,b3⟩, ?_,by have := bal2 s0; show s0.size <= B; omega⟩
  have i0 := one_takeB j0
  have i1 := one_takeB j1
  have i2 := one_takeB j2
  have i3 := one_takeB j3
  match cs,hl with
  | [a0,a1,a2,a3],_ =>
   simp at i0 i1 i2 i3
   subst i0 i1 i2 i3
   rfl
theorem read_src1 {B fuel: Nat} {cs: List Value} {x: DataW H × List MemPlace} (h: DataW.trod enc Try.prog w 0 (fun _ => true) true fuel 61 cs = some x) (hB: Rows.uptoBulk x.1 <= B) (hl: cs.length = 3): ∃ c: SrcL,cs = srcC c /\ c.t.size <= B /\ c.v.size <= B := by
 obtain ⟨zs,n2, -, hzs,hzl,hzlen,hzf⟩ := DataW.trod_struct Try.underlying61 h
 match zs,hzlen with
 | [v0,v1,v2],_ =>
  have e0 := hzf 0 _ rfl
  have e1 := hzf 1 _ rfl
  have e2 := hzf 2 _ rfl
  simp only [List.getElem?_cons_zero,List.getElem?_cons_succ] at e0 e1 e2
  obtain ⟨k0,j0, -, -⟩ := DataW.trod_int Try.underlying3 e0
  obtain ⟨s1,j1,hj1, -⟩ := DataW.trod_string Try.underlying9 e1
  obtain ⟨s2,j2,hj2, -⟩ := DataW.trod_string Try.underlying9 e2
  have hv1: v1.1 = .lit (.string s1.data.toList) := by rw [hj1]
  have hv2: v2.1 = .lit (.string s2.data.toList) := by rw [hj2]
  have hx: x.1 = .agg [v0.1,v1.1,v2.1] := congrArg Prod.fst hzs
  rw [hx,hv1,hv2] at hB
  simp only [Rows.uptoBulk,Rows.uptoBulkAll] at hB
  refine ⟨⟨k0,s1,s2⟩, ?_,by have := bal2 s1; show s1.size <= B; omega,by have := bal2 s2; show s2.size <= B; omega⟩
  have i0 := one_takeB j0
  have i1 := one_takeB j1
  have i2 := one_takeB j2
  match cs,hl with
  | [a0,a1,a2],_ =>
   simp at i0 i1 i2
   subst i0 i1 i2
   rfl
theorem bcellsCol: Try.prog.cellsOf 87 = 4 := by kernel_rfl
theorem bcellsSrc: Try.prog.cellsOf 61 = 3 := by kernel_rfl
theorem bcellsTab: Try.prog.cellsOf 89 = 2 := by kernel_rfl
theorem read_colsB {B fuel: Nat} {cs: List Value} {x: DataW H × List MemPlace} (h: DataW.trod enc Try.prog w 0 (fun _ => true) true fuel 33 cs = some x) (hB: Rows.uptoBulk x.1 <= B): ∃ a cap,∃ l: List Col,cs = [.slice a l.length cap] /\ l.length <= B /\ (a = none -> cap = 0) /\ (∀ c ∈ l,c.s.size <= B) /\ Rw.SlG colC 4 w a l := by
 have: Inhabited Col := ⟨⟨⟨#[]⟩,0,false,false⟩⟩
 exact read_rowB Try.underlying33 bcellsCol (by decide) colC (fun c => c.s.size <= B) (fun fuel cs x h hb hl => read_col1 h hb hl) h hB
theorem read_srcsB {B fuel: Nat} {cs: List Value} {x: DataW H × List MemPlace} (h: DataW.trod enc Try.prog w 0 (fun _ => true) true fuel 23 cs = some x) (hB: Rows.uptoBulk x.1 <= B): ∃ a cap,∃ l: List SrcL,cs = [.slice a l.length cap] /\ l.length <= B /\ (a = none -> cap = 0) /\ (∀ c ∈ l,c.t.size <= B /\ c.v.size <= B) /\ Rw.SlG srcC 3 w a l := by
 have: Inhabited SrcL := ⟨⟨0,⟨#[]⟩,⟨#[]⟩⟩⟩
 exact read_rowB Try.underlying23 bcellsSrc (by decide) srcC (fun c => c.t.size <= B /\ c.v.size <= B) (fun fuel cs x h hb hl => read_src1 h hb hl) h hB
end
section
variable {H: Type} {enc: TypeId × Value -> H} {w: World}
theorem read_tab1 {fuel: Nat} {cs: List Value} {x: DataW H × List MemPlace} (h: DataW.trod enc Try.prog w 0 (fun _ => true) true fuel 89 cs = some x) (hB: Rows.uptoBulk x.1 <= 1048576) (hl: cs.length = 2): ∃ t: TabL,cs = tabC t /\ TabOk t /\ Rw.SlG colC 4 w t.a t.cols := by
 obtain ⟨zs,n2, -, hzs,hzl,hzlen,hzf⟩ := DataW.trod_struct Try.underlying89 h
 match zs,hzlen with
 | [v0,v1],_ =>
  have e0 := hzf 0 _ rfl
  have e1 := hzf 1 _ rfl
  simp only [List.getElem?_cons_zero,List.getElem?_cons_succ] at e0 e1
  obtain ⟨s0,j0,hj0, -⟩ := DataW.trod_string Try.underlying9 e0
  have hv0: v0.1 = .lit (.string s0.data.toList) := by rw [hj0]
  have hx: x.1 = .agg [v0.1,v1.1] := congrArg Prod.fst hzs
  rw [hx,hv0] at hB
  simp only [Rows.uptoBulk,Rows.uptoBulkAll] at hB
  obtain ⟨a,cap,l,hcs,h1,h2,h3,h4⟩ := read_colsB e1 (B := 1048576) (by omega)
  refine ⟨⟨s0,a,cap,l⟩, ?_,⟨by have := bal2 s0; show s0.size <= _; omega,⟨h1,h3⟩,h2⟩,h4⟩
  have i0 := one_takeB j0
  have i1 := one_takeB hcs
  match cs,hl with
  | [a0,a1],_ =>
   simp at i0 i1
   subst i0 i1
   rfl
theorem read_tabsB {fuel: Nat} {cs: List Value} {x: DataW H × List MemPlace} (h: DataW.trod enc Try.prog w 0 (fun _ => true) true fuel 22 cs = some x) (hB: Rows.uptoBulk x.1 <= 1048576): ∃ a cap,∃ l: List TabL,cs = [.slice a l.length cap] /\ TabsOk l /\ TabsIn w a l := by
 have: Inhabited TabL := ⟨⟨⟨#[]⟩,none,0,[]⟩⟩
 obtain ⟨a,cap,l,hcs,h1,_,h3,h4⟩ := read_rowB Try.underlying22 bcellsTab (by decide) tabC (fun t => TabOk t /\ Rw.SlG colC 4 w t.a t.cols) (fun fuel cs x h hb hl => read_tab1 h hb hl) h hB
 exact ⟨a,cap,l,hcs,⟨h1,fun t ht => (h3 t ht).1⟩,⟨h4,fun t ht => (h3 t ht).2⟩⟩
theorem read_case {fuel: Nat} {cs: List Value} {x: DataW H × List MemPlace} (h: DataW.trod enc Try.prog w 0 (fun _ => true) true fuel 25 cs = some x) (hB: Rows.uptoBulk x.1 <= 1048576) (hl: cs.length = 3): ∃ a c fa fc own,∃ l: List TabL,∃ f: List SrcL,cs = [.slice a l.length c, .slice fa f.length fc, .string own] /\ TabsIn w a l /\ TabsOk l /\ Rw.SlG srcC 3 w fa f /\ SrcsOk f := by
 obtain ⟨zs,n2, -, hzs,hzl,hzlen,hzf⟩ := DataW.trod_struct Try.underlying25 h
 match zs,hzlen with
 | [v0,v1,v2],_ =>
  have e0 := hzf 0 _ rfl
  have e1 := hzf 1 _ rfl
  have e2 := hzf 2 _ rfl
  simp only [List.getElem?_cons_zero,List.getElem?_cons_succ] at e0 e1 e2
  have hx: x.1 = .agg [v0.1,v1.1,v2.1] := congrArg Prod.fst hzs
  rw [hx] at hB
  simp only [Rows.uptoBulk,Rows.uptoBulkAll] at hB
  obtain ⟨a,c,l,g0,h1,h2⟩ := read_tabsB e0 (by omega)
  obtain ⟨fa,fc,f,g1,k1,_,k3,k4⟩ := read_srcsB e1 (B := 1048576) (by omega)
  obtain ⟨own,g2, -, -⟩ := DataW.trod_string Try.underlying9 e2
  refine ⟨a,c,fa,fc,own,l,f, ?_,h2,h1,k4,⟨k1,fun s hs => k3 s hs⟩⟩
  have i0 := one_takeB g0
  have i1 := one_takeB g1
  have i2 := one_takeB g2
  match cs,hl with
  | [a0,a1,a2],_ =>
   simp at i0 i1 i2
   subst i0 i1 i2
   rfl
end
end Go.Proofs.Ytdaikppppkbfoaa
