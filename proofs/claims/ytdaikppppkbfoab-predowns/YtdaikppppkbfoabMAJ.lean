import Derived.Deep.Slices
import Derived.Deep.Strs
import Derived.ProofKit
import Derived.OpenShut
import Derived.Lib.SmallJoins
import Derived.Test.YtdaikppppkbfoabMAI
import Derived.Test.YtdaikppppkbfoabRows
set_option maxRecDepth 100000
set_option maxHeartbeats 4000000
namespace Go.Proofs.Ytdaikppppkbfoab.Rw
open Go.RowKit Go.Deep
section
variable {H: Type} {enc: TypeId × Value -> H} {w: World}
end
end Go.Proofs.Ytdaikppppkbfoab.Rw
namespace Go.Proofs.Ytdaikppppkbfoab
open Go.RowKit Go.Deep
theorem nfits {n: Int} (h: (Lit.int .i64 n).wf = true): fits n = true := by
 simpa [Lit.wf,IntKind.min,IntKind.max,IntKind.signed,IntKind.bits,fits] using h
theorem nweights_mem {H: Type} {P: Program} {e: TypeId} {q: Nat -> Bool}: ∀ {l: List (DataW H)},(DataW.weightsAll P e l).all q = true -> ∀ d ∈ l,(d.weights P e).all q = true
 | [],_,d,hd => by cases hd
 | x :: l,h,d,hd => by
  rw [DataW.weightsAll,List.all_append,Bool.and_eq_true] at h
  rcases List.mem_cons.1 hd with rfl | hd
  · exact h.1
  · exact nweights_mem h.2 d hd
def ReachN {H: Type} (t: TypeId) (d: DataW H): Prop := (d.weights Try.prog t).all (fun x => decide (x <= reachBytes)) = true
section
variable {H: Type} {enc: TypeId × Value -> H} {w: World}
theorem nthree_of {cs: List Value} {a b c: Value} (hl: cs.length = 3) (h0: (cs.drop 0).take 1 = [a]) (h1: (cs.drop 1).take 1 = [b]) (h2: (cs.drop 2).take 1 = [c]): cs = [a,b,c] := by
 match cs,hl with
 | [c0,c1,c2],_ =>
  simp at h0 h1 h2
  rw [h0,h1,h2]
theorem read_rowW {α: Type} [Inhabited α] {t e: TypeId} {size: Nat} (ht: Try.prog.underlying t = some (.slice e)) (hsz: Try.prog.cellsOf e = size) (hpos: 0 < size) (R: α -> List Value) (Ok: α -> Prop)
 (helem: ∀ fuel cs x,DataW.trod enc Try.prog w 0 (fun _ => true) true fuel e cs = some x -> ReachN e x.1 -> cs.length = size -> ∃ v,cs = R v /\ Ok v)
 {fuel: Nat} {cs: List Value} {x: DataW H × List MemPlace} (h: DataW.trod enc Try.prog w 0 (fun _ => true) true fuel t cs = some x) (hW: ReachN t x.1) :
 ∃ a cap,∃ l: List α,cs = [.slice a l.length cap] /\ l.length <= maxLen /\ (∀ x ∈ l,Ok x) /\ Rw.SlG R size w a l := by
 rcases open_slice ht h with ⟨rfl,hx⟩ | ⟨a,len,cap,m,n,D,Pl,rfl,hb,hl,hm,hmm,hx,hel⟩
 · exact ⟨none,0,[],rfl,by simp,fun _ h => (by cases h),Or.inl rfl⟩
 · simp only [if_true] at hmm
   subst hmm
   have hx1 := congrArg Prod.fst hx
   simp only at hx1
   rw [hx1] at hW
   unfold ReachN at hW
   rw [DataW.weights,ht] at hW
   simp only [List.all_cons,List.all_append,Bool.and_eq_true] at hW
   have key: ∀ i,i < len -> ∃ v: α,Ok v /\ ∀ b o,a = ⟨b,o,none⟩ -> ∀ j u,(R v)[j]? = some u -> w.cell? ⟨b,o + i * size + j,none⟩ = some u := by
    intro i hi
    obtain ⟨cs',hc,ht'⟩ := hel i (by omega)
    rw [hsz] at hc
    obtain ⟨-, hlen,hcell⟩ := World.cells?_some hc
    obtain ⟨v,rfl,hok⟩ := helem _ _ _ ht' (nweights_mem hW.2.1 (D i) (List.mem_map.2 ⟨i,List.mem_range.2 hi,rfl⟩)) hlen
    refine ⟨v,hok, ?_⟩
    rintro b o rfl j u hu
    have hj: j < size := by rw [<- hlen]; exact (List.getElem?_eq_some_iff.1 hu).1
    have := hcell j hj
    rw [Rw.add_none,Rw.add_none] at this
    rw [this,hu]
   obtain ⟨S,hS⟩ := choose_lt key
   refine ⟨some a,m,(List.range len).map S,by simp,by simp; omega, ?_, ?_⟩
   · intro x hx
     obtain ⟨i,hi,rfl⟩ := List.mem_map.1 hx
     exact (hS i (List.mem_range.1 hi)).1
   cases len with
   | zero => exact Or.inl rfl
   | succ len =>
    right
    obtain ⟨cs',hc, -⟩ := hel 0 (by omega)
    rw [hsz] at hc
    obtain ⟨-, hlen,hcell⟩ := World.cells?_some hc
    have h0 := hcell 0 hpos
    rw [List.getElem?_eq_getElem (by omega)] at h0
    have hsp: a.spot = none := by
     have := World.cell?_spot h0
     simpa [Addr.add] using this
    obtain ⟨b,o,sp⟩ := a
    simp only at hsp
    subst hsp
    refine ⟨b,o,rfl, ?_, ?_⟩
    · have := World.block_lt_of_cell? _ _ h0
      simpa [Addr.add] using this
    · intro j v hv
      rw [List.getElem?_map] at hv
      obtain ⟨i,hi,rfl⟩ := Option.map_eq_some_iff.1 hv
      have hj: j < len + 1 := by
       have := (List.getElem?_eq_some_iff.1 hi).1
       simpa using this
      have: i = j := by
       rw [List.getElem?_range hj] at hi
       exact (Option.some.inj hi).symm
      subst this
      exact (hS i hj).2 b o rfl
theorem vcells: Try.prog.cellsOf 23 = 3 := by kernel_rfl
theorem read_vv {fuel: Nat} {cs: List Value} {x: DataW H × List MemPlace} (h: DataW.trod enc Try.prog w 0 (fun _ => true) true fuel 23 cs = some x) (hW: ReachN 23 x.1): ∃ v: Vv,cs = vvC v /\ VFit v := by
 obtain ⟨zs,n2, -, hzs,hzl,hzlen,hzf⟩ := DataW.trod_struct Try.underlying23 h
 match zs,hzlen with
 | [v0,v1,v2],_ =>
  have e0 := hzf 0 _ rfl
  have e1 := hzf 1 _ rfl
  have e2 := hzf 2 _ rfl
  simp only [List.getElem?_cons_zero,List.getElem?_cons_succ] at e0 e1 e2
  obtain ⟨k0,j0, -, hk0⟩ := DataW.trod_int Try.underlying3 e0
  obtain ⟨k1,j1, -, hk1⟩ := DataW.trod_int Try.underlying3 e1
  obtain ⟨s1,j2,hj2,hs1⟩ := DataW.trod_string Try.underlying9 e2
  refine ⟨⟨k0,k1,s1⟩,nthree_of hzl j0 j1 j2,nfits hk0,nfits hk1, ?_⟩
  have hv2: v2.1 = .lit (.string s1.data.toList) := by rw [hj2]
  have hy1: x.1 = .agg [v0.1,v1.1,v2.1] := congrArg Prod.fst hzs
  have h1 := hW
  unfold ReachN at h1
  rw [hy1,DataW.weights,Try.underlying23] at h1
  simp only [DataW.weightsEach,List.map_cons,List.map_nil,List.all_append,Bool.and_eq_true] at h1
  have h2 := h1.2.2.1
  rw [hv2,DataW.weights] at h2
  have h3: s1.data.toList.length <= reachBytes := of_decide_eq_true (List.all_eq_true.1 h2 _ (List.mem_singleton.2 rfl))
  have h4: s1.data.toList.length = s1.size := Array.length_toList
  unfold reachBytes at h3
  show s1.size <= _
  omega
end
end Go.Proofs.Ytdaikppppkbfoab
