import Derived.Deep.Slices
import Derived.Deep.Strs
import Derived.Lib.SmallJoins
import Derived.Test.YtdnkbdjhccckhaaGreatMBL
set_option maxRecDepth 100000
set_option maxHeartbeats 4000000
namespace Go.Proofs.YtdnkbdjhccckhaaGreat.Rw
open Go.RowKit Go.Deep
theorem one_of_take {cs: List Value} {j: Nat} {v: Value} (h: (cs.drop j).take 1 = [v]): cs[j]? = some v := by
 have := congrArg (·[0]?) h
 simpa using this
section
variable {H: Type} {enc: TypeId × Value -> H} {w: World}
theorem read_row {α: Type} [Inhabited α] {t e: TypeId} {size: Nat} (ht: Tryz.prog.underlying t = some (.slice e)) (hsz: Tryz.prog.cellsOf e = size) (hpos: 0 < size) (R: α -> List Value) (Ok: α -> Prop)
 (helem: ∀ fuel cs x,DataW.trod enc Tryz.prog w 0 (fun _ => true) true fuel e cs = some x -> cs.length = size -> ∃ v,cs = R v /\ Ok v)
 {fuel: Nat} {cs: List Value} {x: DataW H × List MemPlace} (h: DataW.trod enc Tryz.prog w 0 (fun _ => true) true fuel t cs = some x) :
 ∃ a cap,∃ l: List α,cs = [.slice a l.length cap] /\ l.length <= maxLen /\ (a = none -> cap = 0) /\ (∀ x ∈ l,Ok x) /\
  (l = [] \/ ∃ b o,a = some ⟨b,o,none⟩ /\ b < w.heap.size /\ ∀ j x,l[j]? = some x -> ∀ i v,(R x)[i]? = some v -> w.cell? ⟨b,o + j * size + i,none⟩ = some v) := by
 rcases open_slice ht h with ⟨rfl,hx⟩ | ⟨a,len,cap,m,n,D,Pl,rfl,hb,hl,hm,hmm,hx,hel⟩
 · exact ⟨none,0,[],rfl,by simp,fun _ => rfl,fun _ h => (by cases h),Or.inl rfl⟩
 · simp only [if_true] at hmm
   subst hmm
   have key: ∀ i,i < len -> ∃ v: α,Ok v /\ ∀ b o,a = ⟨b,o,none⟩ -> ∀ j u,(R v)[j]? = some u -> w.cell? ⟨b,o + i * size + j,none⟩ = some u := by
    intro i hi
    obtain ⟨cs',hc,ht'⟩ := hel i (by omega)
    rw [hsz] at hc
    obtain ⟨-, hlen,hcell⟩ := World.cells?_some hc
    obtain ⟨v,rfl,hok⟩ := helem _ _ _ ht' hlen
    refine ⟨v,hok, ?_⟩
    rintro b o rfl j u hu
    have hj: j < size := by rw [<- hlen]; exact (List.getElem?_eq_some_iff.1 hu).1
    have := hcell j hj
    rw [add_none,add_none] at this
    rw [this,hu]
   obtain ⟨S,hS⟩ := choose_lt key
   refine ⟨some a,m,(List.range len).map S,by simp,by simp; omega,fun h => (by cases h), ?_, ?_⟩
   · intro x hx
     obtain ⟨i,hi,rfl⟩ := List.mem_map.1 hx
     exact (hS i (List.mem_range.1 hi)).1
   cases len with
   | zero => exact Or.inl rfl
   | succ len =>
    right
    obtain ⟨cs',hc, -⟩ := hel 0 (by omega)
    rw [hsz] at hc
    obtain ⟨-, hlen,hcell⟩ := World.cells?_some hc
    have h0 := hcell 0 hpos
    rw [List.getElem?_eq_getElem (by omega)] at h0
    have hsp: a.spot = none := by
     have := World.cell?_spot h0
     simpa [Addr.add] using this
    obtain ⟨b,o,sp⟩ := a
    simp only at hsp
    subst hsp
    refine ⟨b,o,rfl, ?_, ?_⟩
    · have := World.block_lt_of_cell? _ _ h0
      simpa [Addr.add] using this
    · intro j v hv
      rw [List.getElem?_map] at hv
      obtain ⟨i,hi,rfl⟩ := Option.map_eq_some_iff.1 hv
      have hj: j < len + 1 := by
       have := (List.getElem?_eq_some_iff.1 hi).1
       simpa using this
      have: i = j := by
       rw [List.getElem?_range hj] at hi
       exact (Option.some.inj hi).symm
      subst this
      exact (hS i hj).2 b o rfl
theorem open_row {α: Type} [Inhabited α] {t e: TypeId} {size: Nat} (ht: Tryz.prog.underlying t = some (.slice e)) (hsz: Tryz.prog.cellsOf e = size) (hpos: 0 < size) (R: α -> List Value) (Ok: α -> Prop)
 (helem: ∀ fuel cs x,DataW.trod enc Tryz.prog w 0 (fun _ => true) true fuel e cs = some x -> cs.length = size -> ∃ v,cs = R v /\ Ok v) {base: Nat} {v: Value} {d: DataW H} {p: List MemPlace} (hv: Value.okWide Tryz.prog w .any base t v) (h: DataW.Trod enc Tryz.prog w 0 (fun _ => true) true t v d p) :
 ∃ a cap,∃ l: List α,v = .slice a l.length cap /\ l.length <= maxLen /\ (a = none -> cap = 0) /\ (∀ x ∈ l,Ok x) /\ SlG R size w a l := by
 obtain ⟨a0,n0,cap0,rfl⟩ := Go.WideShapes.okWide_slice ht hv
 obtain ⟨fuel,hf⟩ := h
 obtain ⟨a,cap,l,hcs,h1,h2,hok,h3⟩ := read_row ht hsz hpos R Ok helem hf
 simp [Value.cells] at hcs
 obtain ⟨rfl,rfl,rfl⟩ := hcs
 exact ⟨a0,cap0,l,rfl,h1,h2,hok,h3⟩
end
end Go.Proofs.YtdnkbdjhccckhaaGreat.Rw
namespace Go.Proofs.YtdnkbdjhccckhaaGreat
open Go.RowKit Go.Deep
theorem tcells: Tryz.prog.cellsOf 37 = 3 := by kernel_rfl
theorem trod_struct3 {H: Type} {enc: TypeId × Value -> H} {P: Program} {w: World} {base: Nat} {spare: Nat -> Bool} {held: Bool} {t: TypeId} {f0 f1 f2: Field} {fuel: Nat} {cs: List Value} {x: DataW H × List MemPlace} (ht: P.underlying t = some (.struct #[f0,f1,f2])) (h: DataW.trod enc P w base spare held fuel t cs = some x) :
 ∃ y0 y1 y2 n,cs.length = P.cellsOf t /\ DataW.trod enc P w base spare held n f0.type ((cs.drop f0.offset).take (P.cellsOf f0.type)) = some y0 /\
  DataW.trod enc P w base spare held n f1.type ((cs.drop f1.offset).take (P.cellsOf f1.type)) = some y1 /\ DataW.trod enc P w base spare held n f2.type ((cs.drop f2.offset).take (P.cellsOf f2.type)) = some y2 := by
 obtain ⟨xs,n,_,rfl,hl,hlen,hf⟩ := DataW.trod_struct ht h
 match xs,hlen with
 | [y0,y1,y2],_ => exact ⟨y0,y1,y2,n,hl,by simpa using hf 0 f0 rfl,by simpa using hf 1 f1 rfl,by simpa using hf 2 f2 rfl⟩
theorem three_at {cs: List Value} {a b c: Value} (hl: cs.length = 3) (h0: cs[0]? = some a) (h1: cs[1]? = some b) (h2: cs[2]? = some c): cs = [a,b,c] := by
 match cs,hl with
 | [c0,c1,c2],_ =>
  simp at h0 h1 h2
  rw [h0,h1,h2]
theorem read_top {H: Type} {enc: TypeId × Value -> H} {w: World} (fuel: Nat) (cs: List Value) (x: DataW H × List MemPlace) (h: DataW.trod enc Tryz.prog w 0 (fun _ => true) true fuel 37 cs = some x) (hl: cs.length = 3): ∃ o: TOp,cs = oC o /\ True := by
 obtain ⟨y0,y1,y2,n, -, f0,f1,f2⟩ := trod_struct3 Tryz.underlying37 h
 obtain ⟨k,g0, -, -⟩ := DataW.trod_int Tryz.underlying3 f0
 obtain ⟨q,g1, -, -⟩ := DataW.trod_int Tryz.underlying3 f1
 obtain ⟨s,g2, -, -⟩ := DataW.trod_string Tryz.underlying9 f2
 exact ⟨⟨k,q,s⟩,three_at hl (Rw.one_of_take g0) (Rw.one_of_take g1) (Rw.one_of_take g2),trivial⟩
theorem open_tops {H: Type} {enc: TypeId × Value -> H} {w: World} {base: Nat} {v: Value} {d: DataW H} {p: List MemPlace} (hv: Value.okWide Tryz.prog w .any base 22 v) (h: DataW.Trod enc Tryz.prog w 0 (fun _ => true) true 22 v d p) :
 ∃ a c,∃ l: List TOp,v = .slice a l.length c /\ Rw.SlG oC 3 w a l := by
 haveI: Inhabited TOp := ⟨⟨0,0,⟨#[]⟩⟩⟩
 obtain ⟨a,c,l,rfl, -, -, -, hS⟩ := Rw.open_row Tryz.underlying22 tcells (by decide) oC (fun _ => True) read_top hv h
 exact ⟨a,c,l,rfl,hS⟩
end Go.Proofs.YtdnkbdjhccckhaaGreat
