import Derived.Test.YteibhbnlcpejpaaGreatMAZ
namespace Go.Proofs.YteibhbnlcpejpaaGreat
open Go.RowKit
def vaOf (v: Vv): Va := ⟨v.k,v.n,v.s⟩
theorem slV_vv {W: World} {a: Option Addr} {l: List Vv} (h: Rw.SlG vvC 3 W a l): SlV W a (l.map vaOf) := by
 rcases h with h | ⟨b,o,e,hlt,hc⟩
 · left; rw [h]; rfl
 · refine Or.inr ⟨b,o,e,hlt,fun j v hj => ?_⟩
   rw [List.getElem?_map] at hj
   obtain ⟨u,hu,rfl⟩ := Option.map_eq_some_iff.1 hj
   refine ⟨?_, ?_, ?_⟩
   · exact hc j u hu 0 _ rfl
   · exact hc j u hu 1 _ rfl
   · exact hc j u hu 2 _ rfl
theorem fitL_all: ∀ {l: List Col} {r: List Va},fitL l r = 0 -> ∀ (j: Nat) c u,l[j]? = some c -> r[j]? = some u -> fitE c u = 0
 | [],_,_,j,_,_,h,_ => by simp at h
 | _ :: _,[],_,j,_,_,_,h => by simp at h
 | c :: l,v :: r,h,j,c',u,h1,h2 => by
  unfold fitL at h
  split at h
  · rename_i e
    cases j with
    | zero => cases h1; cases h2; exact e
    | succ j => exact fitL_all h j c' u (by simpa using h1) (by simpa using h2)
  · rename_i e
    exact absurd h e
theorem fitE_typed {c: Col} {u: Vv} (h: fitE c (vaOf u) = 0): Typed u c.t := by
 unfold fitE vaOf at h
 dsimp only at h
 split at h
 · cases h
 rename_i hr
 refine ⟨by simpa using hr, ?_⟩
 split at h
 · rename_i hk; exact Or.inl hk
 · split at h
   · rename_i hk; exact Or.inr hk
   · cases h
theorem fitT_one {l: List Col} {r: List Vv} (h: fitT l (r.map vaOf) = 0): r.length = l.length /\ ∀ (j: Nat) c u,l[j]? = some c -> r[j]? = some u -> Typed u c.t := by
 unfold fitT at h
 split at h
 · rename_i e
   rw [List.length_map] at e
   exact ⟨e.symm,fun j c u h1 h2 => fitE_typed (fitL_all h j c (vaOf u) h1 (by rw [List.getElem?_map,h2]; rfl))⟩
 · cases h
theorem fit_all {l: List VarL} {rs: List RowL} (hl: l.length = rs.length) (h: ∀ (i: Nat) v r,l[i]? = some v -> rs[i]? = some r -> v.cols.length <= 50 /\ fitT v.cols (r.l.map vaOf) = 0): FitAll l rs /\ ∀ v ∈ l,v.cols.length <= 50 := by
 refine ⟨⟨hl,fun i v r h1 h2 => fitT_one (h i v r h1 h2).2⟩,fun v hv => ?_⟩
 obtain ⟨i,hi⟩ := List.getElem?_of_mem hv
 have hil := (List.getElem?_eq_some_iff.1 hi).1
 exact (h i v _ hi (List.getElem?_eq_getElem (l := rs) (i := i) (by omega))).1
end Go.Proofs.YteibhbnlcpejpaaGreat
