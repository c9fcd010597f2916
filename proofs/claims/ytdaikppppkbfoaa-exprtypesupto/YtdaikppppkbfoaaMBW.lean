import Derived.Test.YtdaikppppkbfoaaMAQ
namespace Go.Proofs.Ytdaikppppkbfoaa
open Go.RowKit
theorem all_atN2 {f: NL -> Bool} {g: NL -> Bool}: ∀ {l m: List NL},l.length = m.length -> (∀ (j: Nat) k k',l[j]? = some k -> m[j]? = some k' -> f k = g k') -> l.all f = m.all g
 | [],[],_,_ => rfl
 | x :: l,y :: m,hl,h => by
  rw [List.all_cons,List.all_cons,h 0 x y rfl rfl,all_atN2 (by simpa using hl) fun j k k' h1 h2 => h (j + 1) k k' (by simpa using h1) (by simpa using h2)]
 | [],_ :: _,hl,_ => by simp at hl
 | _ :: _,[],hl,_ => by simp at hl
theorem LikeN.safe2: ∀ {n: Nat} {x y: NL},LikeN n x y -> safeN n x = safeN n y
 | 0,_,_,_ => rfl
 | n + 1,x,y,h => by
  unfold safeN
  rw [h.1,all_atN2 h.2.2.2.2.2.2.1 fun j k k' a b => LikeN.safe2 (h.2.2.2.2.2.2.2 j k k' a b)]
theorem chk_deep: ∀ {n: Nat} {l: List VarL} {x: XL},(chk n l x).2.2 = 0 -> deepN n (chk n l x).1 = false
 | 0,_,_,h => by cases h
 | n + 1,l, .mk xo xk xn xs xv xc xa xp kids,h => by
  rw [chk_mk] at h ⊢
  split at h
  · rename_i e; rw [if_pos e]; rfl
  · rename_i e
    rw [if_neg e]
    split at h
    · rename_i e2
      rw [if_pos e2]
      unfold chkPlace at h ⊢
      split at h
      · cases h
      · rfl
    · rename_i e2
      rw [if_neg e2]
      match kids,h with
      | [],h => cases h
      | [k],h =>
       simp only [chkKids,chkOne] at h ⊢
       split at h
       · rename_i e3
         rw [if_pos e3]
         unfold chkTyped at h ⊢
         split at h
         · cases h
         · show [(chk n l k).1].any (deepN n) = false
           simp [chk_deep (n := n) (l := l) (x := k) (by simpa using e3)]
       · rename_i e3
         simp only [] at h
         rw [h] at e3
         exact absurd rfl e3
      | k :: k2 :: ks,h =>
       simp only [chkKids,chkTwo] at h ⊢
       split at h
       · rename_i e3
         rw [if_pos e3]
         split at h
         · rename_i e4
           rw [if_pos e4]
           unfold chkTyped at h ⊢
           split at h
           · cases h
           · show [(chk n l k).1,(chk n l k2).1].any (deepN n) = false
             simp [chk_deep (n := n) (l := l) (x := k) (by simpa using e3),chk_deep (n := n) (l := l) (x := k2) (by simpa using e4)]
         · rename_i e4
           simp only [] at h
           rw [h] at e4
           exact absurd rfl e4
       · rename_i e3
         simp only [] at h
         rw [h] at e3
         exact absurd rfl e3
end Go.Proofs.Ytdaikppppkbfoaa
