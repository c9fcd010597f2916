import Derived.Test.YtdaikppppkbfoaaMBT
set_option maxRecDepth 100000
set_option maxHeartbeats 4000000
namespace Go.Proofs.Ytdaikppppkbfoaa
open Go.RowKit
theorem deepS_walk {l: List XL} {a: Option Addr} {c: Nat} {w: World} (hs: Rw.SlG xC 7 w a l) (hi: ∀ k ∈ l,In 60 w k) (hl: l.length <= 1048576): Calls Try.prog 32 #[wsV a l.length c, .int .i64 4] w fun e W => e = .returned (.bool (l.any (deepB 60))) /\ Below w.heap.size w W := by
 have HC := Rw.dh (fun x (hx: x ∈ l) W (hb: Below w.heap.size w W) => deep_walk 60 (by omega) x W ((hi x hx).on hb))
 generalize hn: l.length = n at *
 have HN := Rw.dh hn
 clear hn
 have HS := Rw.dh hs
 clear hs hi
 unfold wsV xV at *
 go_enter Try.func32,Try.ntmps32
 go_wp2_with fail
 refine Rw.to_letter (F := fun W => Below w.heap.size w W /\ W.heap[w.heap.size]? = some (.cells #[.int .i64 0, .string ⟨#[]⟩, .string ⟨#[]⟩, .string ⟨#[]⟩, .slice none 0 0, .slice none 0 0, .slice none 0 0, .slice a n c, .slice none 0 0, .slice none 0 0, .int .i64 0, .int .i64 0, .bool false, .bool false, .slice none 0 0] 37 (0,0)) /\ W.heap[w.heap.size + 1]? = some (.cells #[.slice none 0 0, .slice none 0 0, .slice a n c] 26 (0,0))) ⟨below_two w _ _,(Below.heap_alloc _ _ _ (by simp)).trans (Rw.heap_new w _),heap_two w _ _⟩ ?_
 rintro W ⟨hB,hst,hro⟩
 have HW := Rw.dh (And.intro hB (And.intro hst hro))
 clear hB hst hro
 go_loopw [41] (fun i wr => ∃ j: Nat,j <= 3 /\ i = .int .i64 (j: Int) /\ Hid (Below w.heap.size w wr /\ Below W.heap.size W wr) /\ Hid (j = 3 -> l.any (deepB 60) = false)) (fun i _ => 3 - (intOf i).toNat)
 case atStart => exact ⟨0,by omega,rfl,⟨HW.out.1,Below.refl _ _⟩,fun h => by cases h⟩
 case round =>
  obtain ⟨j,hj,rfl,HR,HD⟩ := hrel
  have hrow := (HR.out.2.block _ (Array.getElem?_eq_some_iff.1 HW.out.2.2).1).trans HW.out.2.2
  by_cases h2: j < 2
  · have c0: wr.cell? ⟨w.heap.size + 1,j,none⟩ = some (.slice none 0 0) := by
     rw [cell_of_row _ _ _ _ _ _ hrow]
     rcases (by omega: j = 0 \/ j = 1) with rfl | rfl <;> rfl
    have hj3: j < 3 := by omega
    clear hrow
    go_wp2_with fail
    clear c0
    go_loopw [47] (fun i wr => i = .int .i64 0 /\ Hid (Below w.heap.size w wr /\ Below W.heap.size W wr)) (fun _ _ => 0)
    case atStart => exact ⟨rfl,HR⟩
    case round =>
     obtain ⟨rfl,HR2⟩ := hrel
     go_wp2
     go_roundw
     case rel => exact ⟨j + 1,by omega,by go_num,HR2,fun e => by omega⟩
     case measure => simp [intOf]; omega
  · by_cases h3: j = 2
    · subst h3
      have c0: wr.cell? ⟨w.heap.size + 1,2,none⟩ = some (.slice a n c) := by
       rw [cell_of_row _ _ _ _ _ _ hrow]; rfl
      clear hrow
      go_wp2_with fail
      clear c0
      go_loopw [47] (fun i wr => ∃ k: Nat,k <= n /\ i = .int .i64 (k: Int) /\ Hid (Below w.heap.size w wr /\ Below W.heap.size W wr) /\ Hid ((l.take k).any (deepB 60) = false)) (fun i _ => n - (intOf i).toNat)
      case atStart => exact ⟨0,by omega,rfl,HR,rfl⟩
      case round =>
       obtain ⟨k,hk,rfl,HR2,HD2⟩ := hrel
       by_cases k0: k < n
       · obtain ⟨b,o,x,rfl,hb,hx,hc⟩ := (HS.out.below HR2.out.1).at (j := k) (by rw [HN.out]; exact k0)
         have HXK := Rw.dh hx
         have d0: wr.cell? ⟨b,o + k * 7,none⟩ = some (.string x.op) := hc 0 _ rfl
         have d1: wr.cell? ⟨b,o + k * 7 + 1,none⟩ = some (.int .i64 x.vk) := hc 1 _ rfl
         have d2: wr.cell? ⟨b,o + k * 7 + 2,none⟩ = some (.int .i64 x.vn) := hc 2 _ rfl
         have d3: wr.cell? ⟨b,o + k * 7 + 3,none⟩ = some (.string x.vs) := hc 3 _ rfl
         have d4: wr.cell? ⟨b,o + k * 7 + 4,none⟩ = some (.string x.var) := hc 4 _ rfl
         have d5: wr.cell? ⟨b,o + k * 7 + 5,none⟩ = some (.string x.col) := hc 5 _ rfl
         have d6: wr.cell? ⟨b,o + k * 7 + 6,none⟩ = some (.slice x.a x.kids.length x.c) := hc 6 _ rfl
         have hCC := HC.out x (List.mem_of_getElem? hx) (wr.alloc (.cells #[.string x.op, .int .i64 x.vk, .int .i64 x.vn, .string x.vs, .string x.var, .string x.col, .slice x.a x.kids.length x.c] 46)) (below_on HR2.out.1 (Rw.below_alloc _ _))
         clear hc hx
         go_wp2_with fail
         refine hCC.mono ?_
         rintro e w2 ⟨rfl,hb2⟩
         have HR3 := Rw.dh (And.intro (below_on (below_on HR2.out.1 (Rw.below_alloc _ _)) hb2) (below_on (below_on HR2.out.2 (Rw.below_alloc _ _)) hb2))
         clear hCC d0 d1 d2 d3 d4 d5 d6 hb2
         generalize hdd: deepB 60 x = dd at *
         cases dd
         · go_wp2
           go_roundw
           case rel =>
            refine ⟨_,_,_,_,_,_,_,_,_, ?_,rfl⟩
            exact ⟨k + 1,k0,by go_num,HR3,by rw [Hid,List.take_add_one,List.any_append,HD2.out,HXK.out]; simp [hdd]⟩
           case measure => simp [intOf]; omega
         · go_wp2
           go_ret
           exact ⟨by rw [List.any_eq_true.2 ⟨x,List.mem_of_getElem? HXK.out,hdd⟩]; rfl,HR3.out.1⟩
       · have hk1: k = n := by omega
         subst hk1
         have HAL: Hid (l.any (deepB 60) = false) := by have := HD2.out; rw [<- HN.out,List.take_length] at this; exact this
         go_wp2
         go_roundw
         case rel => exact ⟨3,by omega,by go_num,HR2,fun _ => HAL.out⟩
         case measure => simp [intOf]
    · have hj3: j = 3 := by omega
      subst hj3
      have hst := (HR.out.2.block _ (Array.getElem?_eq_some_iff.1 HW.out.2.1).1).trans HW.out.2.1
      have c8: wr.cell? ⟨w.heap.size,8,none⟩ = some (.slice none 0 0) := by rw [cell_of_row _ _ _ _ _ _ hst]; rfl
      clear hrow hst
      go_wp2_with fail
      clear c8
      go_loopw [58] (fun i wr => i = .int .i64 0 /\ Hid (Below w.heap.size w wr /\ Below W.heap.size W wr)) (fun _ _ => 0)
      case atStart => exact ⟨rfl,HR⟩
      case round =>
       obtain ⟨rfl,HR2⟩ := hrel
       have hst := (HR2.out.2.block _ (Array.getElem?_eq_some_iff.1 HW.out.2.1).1).trans HW.out.2.1
       have c14: wr.cell? ⟨w.heap.size,14,none⟩ = some (.slice none 0 0) := by rw [cell_of_row _ _ _ _ _ _ hst]; rfl
       clear hst
       go_wp2_with fail
       clear c14
       go_loopw [69] (fun i wr => i = .int .i64 0 /\ Hid (Below w.heap.size w wr)) (fun _ _ => 0)
       case atStart => exact ⟨rfl,HR2.out.1⟩
       case round =>
        obtain ⟨rfl,HR3⟩ := hrel
        have HE: Hid (l.any (deepB 60) = false) := HD.out trivial
        go_wp2
        go_ret
        exact ⟨by rw [HE.out]; rfl,HR3.out⟩
theorem sizeS_walk {l: List XL} {a1 a2 a: Option Addr} {c1 c2 c: Nat} {w: World} (hs: Rw.SlG xC 7 w a l) (hi: ∀ k ∈ l,In 60 w k /\ deepB 60 k = false) (hl: l.length <= 1048576): Calls Try.prog 33 #[rsV a1 a2 a l.length c1 c2 c, .int .i64 400] w fun e W => (∃ r: Int,e = .returned (.int .i64 r)) /\ Below w.heap.size w W := by
 have HC := Rw.dh (fun x (hx: x ∈ l) W (hb: Below w.heap.size w W) M => size_walk 60 x W M ((hi x hx).1.on hb) (hi x hx).2)
 have HS := Rw.dh hs
 clear hs hi
 generalize hn: l.length = n at *
 have HN := Rw.dh hn
 clear hn
 unfold rsV xV at *
 go_enter Try.func33,Try.ntmps33
 go_wp2_with fail
 refine Rw.to_letter (F := fun W => Below w.heap.size w W /\ W.heap[w.heap.size]? = some (.cells #[.int .i64 0, .string ⟨#[]⟩, .string ⟨#[]⟩, .string ⟨#[]⟩, .slice none 0 0, .slice a1 0 c1, .slice a2 0 c2, .slice a n c, .slice none 0 0, .slice none 0 0, .int .i64 0, .int .i64 0, .bool false, .bool false, .slice none 0 0] 102 (0,0)) /\ W.heap[w.heap.size + 1]? = some (.cells #[.slice a1 0 c1, .slice a2 0 c2, .slice a n c] 42 (0,0))) ⟨below_two w _ _,(Below.heap_alloc _ _ _ (by simp)).trans (Rw.heap_new w _),heap_two w _ _⟩ ?_
 rintro W ⟨hB,hst,hro⟩
 have HW := Rw.dh (And.intro hB (And.intro hst hro))
 clear hB hst hro
 go_loopw [5,27] (fun v i wr => ∃ (j: Nat) (N: Int),j <= 3 /\ i = .int .i64 (j: Int) /\ v = .int .i64 N /\ 1 <= N /\ N <= 401 /\ Hid (Below w.heap.size w wr /\ Below W.heap.size W wr)) (fun _ i _ => 3 - (intOf i).toNat)
 case atStart => exact ⟨0,1,by omega,rfl,rfl,by omega,by omega,HW.out.1,Below.refl _ _⟩
 case round =>
  obtain ⟨j,N,hj,rfl,rfl,hN1,hN2,HR⟩ := hrel
  have hrow := (HR.out.2.block _ (Array.getElem?_eq_some_iff.1 HW.out.2.2).1).trans HW.out.2.2
  by_cases h2: j < 2
  · obtain ⟨a0,c0',c0⟩: ∃ a0 c0',wr.cell? ⟨w.heap.size + 1,j,none⟩ = some (.slice a0 0 c0') := by
     rcases (by omega: j = 0 \/ j = 1) with rfl | rfl
     · exact ⟨a1,c1,by rw [cell_of_row _ _ _ _ _ _ hrow]; rfl⟩
     · exact ⟨a2,c2,by rw [cell_of_row _ _ _ _ _ _ hrow]; rfl⟩
    have hj3: j < 3 := by omega
    clear hrow
    go_wp2_with fail
    clear c0
    go_loopw [5,8] (fun v i wr => v = .int .i64 N /\ i = .int .i64 0 /\ Hid (Below w.heap.size w wr /\ Below W.heap.size W wr)) (fun _ _ _ => 0)
    case atStart => exact ⟨rfl,rfl,HR⟩
    case round =>
     obtain ⟨rfl,rfl,HR2⟩ := hrel
     go_wp2
     go_roundw
     case rel => exact ⟨j + 1,N,by omega,by go_num,rfl,by omega,by omega,HR2⟩
     case measure => simp [intOf]; omega
  · by_cases h3: j = 2
    · subst h3
      have c0: wr.cell? ⟨w.heap.size + 1,2,none⟩ = some (.slice a n c) := by
       rw [cell_of_row _ _ _ _ _ _ hrow]; rfl
      clear hrow
      go_wp2_with fail
      clear c0
      go_loopw [5,8] (fun v i wr => ∃ (k: Nat) (N: Int),k <= n /\ i = .int .i64 (k: Int) /\ v = .int .i64 N /\ 1 <= N /\ N <= 401 /\ Hid (Below w.heap.size w wr /\ Below W.heap.size W wr)) (fun _ i _ => n - (intOf i).toNat)
      case atStart => exact ⟨0,N,by omega,rfl,rfl,by omega,by omega,HR⟩
      case round =>
       clear hN1 hN2
       obtain ⟨k,N,hk,rfl,rfl,hN1,hN2,HR2⟩ := hrel
       by_cases k0: k < n
       · by_cases hNM: N <= 400
         · obtain ⟨b,o,x,rfl,hb,hx,hc⟩ := (HS.out.below HR2.out.1).at (j := k) (by rw [HN.out]; exact k0)
           have d0: wr.cell? ⟨b,o + k * 7,none⟩ = some (.string x.op) := hc 0 _ rfl
           have d1: wr.cell? ⟨b,o + k * 7 + 1,none⟩ = some (.int .i64 x.vk) := hc 1 _ rfl
           have d2: wr.cell? ⟨b,o + k * 7 + 2,none⟩ = some (.int .i64 x.vn) := hc 2 _ rfl
           have d3: wr.cell? ⟨b,o + k * 7 + 3,none⟩ = some (.string x.vs) := hc 3 _ rfl
           have d4: wr.cell? ⟨b,o + k * 7 + 4,none⟩ = some (.string x.var) := hc 4 _ rfl
           have d5: wr.cell? ⟨b,o + k * 7 + 5,none⟩ = some (.string x.col) := hc 5 _ rfl
           have d6: wr.cell? ⟨b,o + k * 7 + 6,none⟩ = some (.slice x.a x.kids.length x.c) := hc 6 _ rfl
           have hCC := HC.out x (List.mem_of_getElem? hx) wr HR2.out.1 (400 - N) (by omega) (by omega)
           clear hc hx
           go_wp2_with fail
           refine hCC.mono ?_
           rintro e w2 ⟨v,rfl,hv1,hv2,hb2⟩
           have HR3 := Rw.dh (And.intro (below_on HR2.out.1 hb2) (below_on HR2.out.2 hb2))
           clear hCC d0 d1 d2 d3 d4 d5 d6 hb2
           go_wp2
           go_roundw
           case rel =>
            refine ⟨_,_,_,_,_,_,_,_,_,_,_,_,_,_,_,_,_,_,_,_,_,_,_, ?_,rfl⟩
            exact ⟨k + 1,N + v,k0,by go_num,rfl,by omega,by omega,HR3⟩
           case measure => simp [intOf]; omega
         · go_wp2
           go_roundw
           case rel => exact ⟨3,N,by omega,by go_num,rfl,by omega,by omega,HR2⟩
           case measure => simp [intOf]
       · go_wp2
         go_roundw
         case rel => exact ⟨3,N,by omega,by go_num,rfl,by omega,by omega,HR2⟩
         case measure => simp [intOf]
    · have hj3: j = 3 := by omega
      subst hj3
      clear hrow
      have hst := (HR.out.2.block _ (Array.getElem?_eq_some_iff.1 HW.out.2.1).1).trans HW.out.2.1
      have c8: wr.cell? ⟨w.heap.size,8,none⟩ = some (.slice none 0 0) := by rw [cell_of_row _ _ _ _ _ _ hst]; rfl
      clear hst
      go_wp2_with fail
      clear c8
      go_loopw [5,9] (fun v i wr => v = .int .i64 N /\ i = .int .i64 0 /\ Hid (Below w.heap.size w wr /\ Below W.heap.size W wr)) (fun _ _ _ => 0)
      case atStart => exact ⟨rfl,rfl,HR⟩
      case round =>
       obtain ⟨rfl,rfl,HR2⟩ := hrel
       have hst := (HR2.out.2.block _ (Array.getElem?_eq_some_iff.1 HW.out.2.1).1).trans HW.out.2.1
       have c8: wr.cell? ⟨w.heap.size,8,none⟩ = some (.slice none 0 0) := by rw [cell_of_row _ _ _ _ _ _ hst]; rfl
       have c14: wr.cell? ⟨w.heap.size,14,none⟩ = some (.slice none 0 0) := by rw [cell_of_row _ _ _ _ _ _ hst]; rfl
       clear hst
       go_wp2_with fail
       clear c8 c14
       go_loopw [5,10] (fun v i wr => v = .int .i64 N /\ i = .int .i64 0 /\ Hid (Below w.heap.size w wr /\ Below W.heap.size W wr)) (fun _ _ _ => 0)
       case atStart => exact ⟨rfl,rfl,HR2⟩
       case round =>
        obtain ⟨rfl,rfl,HR3⟩ := hrel
        have hst := (HR3.out.2.block _ (Array.getElem?_eq_some_iff.1 HW.out.2.1).1).trans HW.out.2.1
        have c14: wr.cell? ⟨w.heap.size,14,none⟩ = some (.slice none 0 0) := by rw [cell_of_row _ _ _ _ _ _ hst]; rfl
        clear hst
        go_wp2
        go_ret
        exact ⟨⟨N,rfl⟩,HR3.out.1⟩
end Go.Proofs.Ytdaikppppkbfoaa
