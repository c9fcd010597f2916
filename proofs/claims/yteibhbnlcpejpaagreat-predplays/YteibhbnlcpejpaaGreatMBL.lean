import Derived.Test.YteibhbnlcpejpaaGreatMBG
namespace Go.Proofs.YteibhbnlcpejpaaGreat
open Go.RowKit
abbrev EntL := Int × CondL × Nat
def entM (x: EntL): MapEntry := ⟨.int .i64 x.1,cdV x.2.1,x.2.2⟩
theorem filt_push: ∀ {L: List EntL},(L.map fun y => y.2.2).Nodup -> ∀ {x: EntL},x ∈ L -> ∀ {s s': Nat -> Bool},(∀ b,s' b = (s b || b == x.2.2)) -> s x.2.2 = false -> ∀ p: EntL -> Bool,(L.filter fun y => s' y.2.2 && p y).Perm ((L.filter fun y => s y.2.2 && p y) ++ if p x then [x] else [])
 | [],_,_,hx,_,_,_,_,_ => by cases hx
 | z :: L,hb,x,hx,s,s',hs,hn,p => by
  rw [List.map_cons,List.nodup_cons] at hb
  by_cases hz: z = x
  · subst hz
    have hL: (L.filter fun y => s' y.2.2 && p y) = L.filter fun y => s y.2.2 && p y := List.filter_congr fun y hy => by
     have hne: y.2.2 ≠ z.2.2 := fun e => hb.1 (List.mem_map.2 ⟨y,hy,e⟩)
     rw [hs,beq_eq_false_iff_ne.2 hne,Bool.or_false]
    have h1: s' z.2.2 = true := by rw [hs]; simp
    rw [List.filter_cons,List.filter_cons,hL,h1,hn]
    cases p z
    · simp
    · simp only [Bool.and_true,if_true,Bool.false_eq_true,if_false]
      exact (List.perm_append_singleton z _).symm
  · have hxL: x ∈ L := (List.mem_cons.1 hx).resolve_left fun e => hz e.symm
    have hne: z.2.2 ≠ x.2.2 := fun e => hb.1 (List.mem_map.2 ⟨x,hxL,e.symm⟩)
    have h1: s' z.2.2 = s z.2.2 := by rw [hs,beq_eq_false_iff_ne.2 hne,Bool.or_false]
    have ih := filt_push hb.2 hxL hs hn p
    rw [List.filter_cons,List.filter_cons,h1]
    split
    · exact ih.cons z
    · exact ih
theorem rise_eq {l m: List Int} (hp: l.Perm m) (hl: l.Pairwise (· <= ·)) (hm: m.Pairwise (· <= ·)): l = m :=
 hp.eq_of_pairwise (fun _ _ _ _ h1 h2 => Int.le_antisymm h1 h2) hl hm
theorem sort_rise (l: List Int): (l.mergeSort fun x y => decide (x <= y)).Pairwise (· <= ·) := by
 have := List.pairwise_mergeSort (le := fun x y: Int => decide (x <= y)) (fun a b c h1 h2 => by simp at *; omega) (fun a b => by simp; omega) l
 exact this.imp fun h => by simpa using h
theorem sort_perm (l: List Int): (l.mergeSort fun x y => decide (x <= y)).Perm l := List.mergeSort_perm _ _
end Go.Proofs.YteibhbnlcpejpaaGreat
