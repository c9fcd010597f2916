import Derived.Test.YtdaikppppkbfoaaMAT
set_option maxRecDepth 100000
set_option maxHeartbeats 4000000
namespace Go.Proofs.Ytdaikppppkbfoaa
open Go.RowKit
def FitP (w: World) (e: Ending) (W: World): Prop := ∃ B: Bool,e = .returned (.bool B) /\ Below w.heap.size w W
theorem ops_fit (l: List UInt8): (l == [118,97,108,117,101]) = true \/ ((l == [118,97,108,117,101]) = false /\ (l == [99,111,108,117,109,110]) = true) \/ ((l == [118,97,108,117,101]) = false /\ (l == [99,111,108,117,109,110]) = false /\ (l == [110,101,103]) = true) \/ ((l == [118,97,108,117,101]) = false /\ (l == [99,111,108,117,109,110]) = false /\ (l == [110,101,103]) = false /\ (l == [110,111,116]) = true) \/ ((l == [118,97,108,117,101]) = false /\ (l == [99,111,108,117,109,110]) = false /\ (l == [110,101,103]) = false /\ (l == [110,111,116]) = false /\ (l == [110,117,108,108]) = true) \/ ((l == [118,97,108,117,101]) = false /\ (l == [99,111,108,117,109,110]) = false /\ (l == [110,101,103]) = false /\ (l == [110,111,116]) = false /\ (l == [110,117,108,108]) = false) := by
 cases h1: (l == [118,97,108,117,101]) <;> cases h2: (l == [99,111,108,117,109,110]) <;> cases h3: (l == [110,101,103]) <;> cases h4: (l == [110,111,116]) <;> cases h5: (l == [110,117,108,108]) <;> simp
theorem fit_walk: ∀ (n: Nat) (x: NL) (w: World),InN n w x -> deepN n x = false -> Calls Try.prog 94 #[nV x] w (FitP w)
 | 0,_,_,_,h => by cases h
 | n + 1, .mk xo xk xn xs xv xc xa xp l,w,hi,hd => by
  have IH := Rw.dh (fit_walk n)
  have HS: Hid (Rw.SlG nC 7 w xa l) := hi.2.1
  have HK: Hid (∀ k ∈ l,InN n w k) := hi.2.2
  have HD: Hid (∀ k ∈ l,deepN n k = false) := fun k hk => by
   have: l.any (deepN n) = false := hd
   exact Bool.eq_false_iff.2 (List.any_eq_false.1 this k hk)
  have hkl: l.length <= 1599289640401 := hi.1.kids
  have HO := Rw.dh (ops_fit xo.toList)
  clear hi hd
  show Calls Try.prog 94 #[.agg #[.string xo, .int .i64 xk, .int .i64 xn, .string xs, .int .i64 xv, .int .i64 xc, .slice xa l.length xp]] w _
  rcases HO.out with h | ⟨h1,h⟩ | ⟨h1,h2,h⟩ | ⟨h1,h2,h3,h⟩ | ⟨h1,h2,h3,h4,h⟩ | ⟨h1,h2,h3,h4,h⟩
  all_goals
   clear HO
   go_enter Try.func94,Try.ntmps94
   go_wp2_with fail
   · go_ret
     exact ⟨false,rfl,Rw.below_alloc _ _⟩
   · rename (((l.length: Int) != _) = false) => hw
     go_loopw [4] (fun i wr => ∃ j: Nat,j <= l.length /\ i = .int .i64 (j: Int) /\ Hid (Below w.heap.size w wr /\ wr.heap[w.heap.size]? = some (.cells #[.string xo, .int .i64 xk, .int .i64 xn, .string xs, .int .i64 xv, .int .i64 xc, .slice xa l.length xp] 109 (0,0)))) (fun i _ => l.length - (intOf i).toNat)
     case atStart => exact ⟨0,Nat.zero_le _,rfl,Rw.below_alloc _ _,Rw.heap_new _ _⟩
     case round =>
      obtain ⟨j,hj,rfl,HR⟩ := hrel
      have z6: wr.cell? ⟨w.heap.size,6,none⟩ = some (.slice xa l.length xp) := by rw [cell_of_row _ _ _ _ _ _ HR.out.2]; rfl
      by_cases hlt: j < l.length
      · obtain ⟨b,o,k,rfl,hb,hx,hc⟩ := (HS.out.below HR.out.1).at hlt
        have HKk := Rw.dh ((HK.out k (List.mem_of_getElem? hx)).on HR.out.1)
        have HDk := Rw.dh (HD.out k (List.mem_of_getElem? hx))
        have c0: wr.cell? ⟨b,o + j * 7,none⟩ = some (.string k.op) := hc 0 _ rfl
        have c1: wr.cell? ⟨b,o + j * 7 + 1,none⟩ = some (.int .i64 k.vk) := hc 1 _ rfl
        have c2: wr.cell? ⟨b,o + j * 7 + 2,none⟩ = some (.int .i64 k.vn) := hc 2 _ rfl
        have c3: wr.cell? ⟨b,o + j * 7 + 3,none⟩ = some (.string k.vs) := hc 3 _ rfl
        have c4: wr.cell? ⟨b,o + j * 7 + 4,none⟩ = some (.int .i64 k.var) := hc 4 _ rfl
        have c5: wr.cell? ⟨b,o + j * 7 + 5,none⟩ = some (.int .i64 k.col) := hc 5 _ rfl
        have c6: wr.cell? ⟨b,o + j * 7 + 6,none⟩ = some (.slice k.a k.kids.length k.c) := hc 6 _ rfl
        clear hc hx
        go_wp2_with fail
        refine (IH.out k _ (by first | exact HKk.out | exact HKk.out.on (Rw.below_alloc _ _)) HDk.out).mono ?_
        rintro e w1 ⟨B,rfl,hb1⟩
        have hp := HR.out.2
        have HB1: Hid (Below w.heap.size w w1 /\ w1.heap[w.heap.size]? = some (.cells #[.string xo, .int .i64 xk, .int .i64 xn, .string xs, .int .i64 xv, .int .i64 xc, .slice (some ⟨b,o,none⟩) l.length xp] 109 (0,0))) := ⟨below_on HR.out.1 hb1,(hb1.block _ (Array.getElem?_eq_some_iff.1 hp).1).trans hp⟩
        clear hb1 hp c0 c1 c2 c3 c4 c5 c6 z6
        cases B
        · go_wp2
          go_ret
          exact ⟨false,rfl,HB1.out.1⟩
        · go_wp2
          go_roundw
          case rel =>
           rw [hw]
           refine ⟨_,_,_,_,_,_,_,_,_,_,_,_,_,_,_,_, ?_,rfl⟩
           exact ⟨j + 1,hlt,by go_num,HB1⟩
          case measure => simp [intOf]; omega
      · have hjs: j = l.length := by omega
        subst hjs
        go_wp2
        go_ret
        exact ⟨true,rfl,HR.out.1⟩
end Go.Proofs.Ytdaikppppkbfoaa
