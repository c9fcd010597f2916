import Derived.Test.YteibhbnlcpejpaaGreatMBW
set_option maxRecDepth 100000
set_option maxHeartbeats 4000000
namespace Go.Proofs.YteibhbnlcpejpaaGreat
open Go.RowKit
structure KeepQ (w: World) (p: Nat) (W4 W: World): Prop where
 bel: Below w.heap.size w W
 size: W4.heap.size <= W.heap.size
 old: w.heap.size <= p
 blk: ∀ q,q < W4.heap.size -> q ≠ p -> W.heap[q]? = W4.heap[q]?
namespace KeepQ
variable {w W4 W W': World} {r: Nat}
theorem refl (h: Below w.heap.size w W4): KeepQ w (w.heap.size + 1) W4 W4 := ⟨h,Nat.le_refl _,Nat.le_succ _,fun _ _ _ => rfl⟩
theorem drew (h: KeepQ w r W4 W): KeepQ w r W4 W.drew := ⟨h.bel.drew,h.size,h.old,h.blk⟩
theorem set (h: KeepQ w r W4 W) {p: Addr} (hp: p.block = r) (v: Value): KeepQ w r W4 (W.setCell p v) :=
 ⟨Below.setCell h.bel (by have := h.old; omega) v,by simpa using h.size,h.old,fun q h1 h2 => by
  obtain ⟨b,o,f⟩ := p
  simp only at hp
  subst hp
  rw [Below.heap_setCell _ _ _ _ h2]
  exact h.blk q h1 h2⟩
theorem on (h: KeepQ w r W4 W) (hb: Below W.heap.size W W'): KeepQ w r W4 W' := ⟨h.bel.trans (hb.mono h.bel.size),Nat.le_trans h.size hb.size,h.old,fun q h1 h2 => (hb.block q (Nat.lt_of_lt_of_le h1 h.size)).trans (h.blk q h1 h2)⟩
end KeepQ
set_option linter.unusedSimpArgs false in
theorem testOf_walk (x: NL) (w: World) (hi: InN 1 w x): Calls Tryz.prog 94 #[nV x] w fun e w' => e = .returned (.tuple #[tlV (testN x).1, .bool (testN x).2]) /\ Below w.heap.size w w' := by
 obtain ⟨xo,xk,xn,xs,xv,xc,xa,xp,l⟩ := x
 have HS: Hid (Rw.SlG nC 7 w xa l) := hi.2.1
 have HL: l.length <= 1599289640401 := hi.1.kids
 clear hi
 show Calls Tryz.prog 94 #[.agg #[.string xo, .int .i64 xk, .int .i64 xn, .string xs, .int .i64 xv, .int .i64 xc, .slice xa l.length xp]] w _
 match l,HL,HS with
 | [],_,_ =>
  go_enter Tryz.func94,Tryz.ntmps94
  go_wp2_with fail
  refine bodyPost_ret (v := .tuple #[tlV tlz, .bool false]) (by simp [results,Tryz.results94,go_sem,tlV,tlz,bdz,vz]) rfl ⟨rfl,below_two w _ _⟩
 | [k],_,HS =>
  obtain ⟨b,o,k',rfl,hb,hx,hc⟩ := HS.out.at (j := 0) (by simp)
  obtain rfl: k = k' := by simpa using hx
  have c0: w.cell? ⟨b,o,none⟩ = some (.string k.op) := hc 0 _ rfl
  have c1: w.cell? ⟨b,o + 1,none⟩ = some (.int .i64 k.vk) := hc 1 _ rfl
  have c2: w.cell? ⟨b,o + 2,none⟩ = some (.int .i64 k.vn) := hc 2 _ rfl
  have c3: w.cell? ⟨b,o + 3,none⟩ = some (.string k.vs) := hc 3 _ rfl
  have c4: w.cell? ⟨b,o + 4,none⟩ = some (.int .i64 k.var) := hc 4 _ rfl
  have c5: w.cell? ⟨b,o + 5,none⟩ = some (.int .i64 k.col) := hc 5 _ rfl
  have c6: w.cell? ⟨b,o + 6,none⟩ = some (.slice k.a k.kids.length k.c) := hc 6 _ rfl
  clear hc hx
  simp only [List.length_cons,List.length_nil]
  go_enter Tryz.func94,Tryz.ntmps94
  go_wp2_with fail
  refine Rw.to_letter (F := fun W => Below w.heap.size w W /\ W.heap[w.heap.size]? = some (.cells #[.string xo, .int .i64 xk, .int .i64 xn, .string xs, .int .i64 xv, .int .i64 xc, .slice (some ⟨b,o,none⟩) 1 xp] 44 (0,0)) /\ W.heap[w.heap.size + 1]? = some (.cells (tlC tlz).toArray 175 (0,0)) /\ W.heap[w.heap.size + 2]? = some (.cells #[.bool true, .bool true, .int .i64 0, .int .i64 0, .string ⟨#[]⟩] 173 (0,0))) ⟨below_three w _ _ _,(Below.heap_alloc _ _ _ (by simp; omega)).trans ((Below.heap_alloc _ _ _ (by simp)).trans (Rw.heap_new w _)),(Below.heap_alloc _ _ _ (by simp)).trans (heap_two w _ _),heap_three w _ _ _⟩ ?_
  rintro W4 ⟨hB4,hn4,hr0,hz4⟩
  have KS: Hid (∀ W',KeepQ w (w.heap.size + 1) W4 W' -> (fun W => W.cell? ⟨w.heap.size,0,none⟩ = some (.string xo) /\ W.cell? ⟨w.heap.size,6,none⟩ = some (.slice (some ⟨b,o,none⟩) 1 xp) /\ W.cell? ⟨b,o,none⟩ = some (.string k.op) /\ W.cell? ⟨b,o + 1,none⟩ = some (.int .i64 k.vk) /\ W.cell? ⟨b,o + 2,none⟩ = some (.int .i64 k.vn) /\ W.cell? ⟨b,o + 3,none⟩ = some (.string k.vs) /\ W.cell? ⟨b,o + 4,none⟩ = some (.int .i64 k.var) /\ W.cell? ⟨b,o + 5,none⟩ = some (.int .i64 k.col) /\ W.cell? ⟨b,o + 6,none⟩ = some (.slice k.a k.kids.length k.c) /\ W.cell? ⟨w.heap.size + 2,0,none⟩ = some (.bool true) /\ W.cell? ⟨w.heap.size + 2,1,none⟩ = some (.bool true) /\ W.cell? ⟨w.heap.size + 2,2,none⟩ = some (.int .i64 0) /\ W.cell? ⟨w.heap.size + 2,3,none⟩ = some (.int .i64 0) /\ W.cell? ⟨w.heap.size + 2,4,none⟩ = some (.string ⟨#[]⟩)) W') := fun W' hk => by
   have hs := hB4.size
   have hzl := (Array.getElem?_eq_some_iff.1 hz4).1
   have g1 := (hk.blk _ (by omega) (by omega)).trans hn4
   have g2 := bd_cells (b := nullBd) ((hk.blk _ (by omega) (by omega)).trans hz4)
   have gb: ∀ i,W'.cell? ⟨b,i,none⟩ = w.cell? ⟨b,i,none⟩ := fun i => hk.bel.cell (p := ⟨b,i,none⟩) hb
   exact ⟨by rw [cell_of_row _ _ _ _ _ _ g1]; rfl,by rw [cell_of_row _ _ _ _ _ _ g1]; rfl,by rw [gb]; exact c0,by rw [gb]; exact c1,by rw [gb]; exact c2,by rw [gb]; exact c3,by rw [gb]; exact c4,by rw [gb]; exact c5,by rw [gb]; exact c6,g2⟩
  have KR: Hid (KeepQ w (w.heap.size + 1) W4 W4) := KeepQ.refl hB4
  have hrz := (Array.getElem?_eq_some_iff.1 hr0).1
  have hrf := fun o => frozen_of_row _ _ o _ _ hr0
  obtain ⟨q0,q1,q2,q3,q4,q5,q6,q7,q8,q9,q10⟩ := tl_cells (t := tlz) hr0
  have HIa := Rw.dh (fun W => isCol_walk k W)
  have HQ: Hid (∀ T B,T = tlV ⟨k.col,⟨true,true,⟨0,0,⟨#[]⟩⟩⟩,⟨true,true,⟨0,0,⟨#[]⟩⟩⟩⟩ -> B = ((xo.toList == [110,117,108,108]) && isColN k) -> Ending.returned (.tuple #[T, .bool B]) = .returned (.tuple #[tlV (testN (.mk xo xk xn xs xv xc (some ⟨b,o,none⟩) xp [k])).1, .bool (testN (.mk xo xk xn xs xv xc (some ⟨b,o,none⟩) xp [k])).2])) := by
   rintro T B rfl rfl
   rfl
  unfold nV at HIa
  clear hB4 hn4 hz4 c0 c1 c2 c3 c4 c5 c6
  cases h0: (xo.toList == [110,117,108,108])
  · clear HIa
    refine wp_region_held_drew (S := fun W => W.cell? ⟨w.heap.size,0,none⟩ = some (.string xo) /\ W.cell? ⟨w.heap.size,6,none⟩ = some (.slice (some ⟨b,o,none⟩) 1 xp) /\ W.cell? ⟨b,o,none⟩ = some (.string k.op) /\ W.cell? ⟨b,o + 1,none⟩ = some (.int .i64 k.vk) /\ W.cell? ⟨b,o + 2,none⟩ = some (.int .i64 k.vn) /\ W.cell? ⟨b,o + 3,none⟩ = some (.string k.vs) /\ W.cell? ⟨b,o + 4,none⟩ = some (.int .i64 k.var) /\ W.cell? ⟨b,o + 5,none⟩ = some (.int .i64 k.col) /\ W.cell? ⟨b,o + 6,none⟩ = some (.slice k.a k.kids.length k.c) /\ W.cell? ⟨w.heap.size + 2,0,none⟩ = some (.bool true) /\ W.cell? ⟨w.heap.size + 2,1,none⟩ = some (.bool true) /\ W.cell? ⟨w.heap.size + 2,2,none⟩ = some (.int .i64 0) /\ W.cell? ⟨w.heap.size + 2,3,none⟩ = some (.int .i64 0) /\ W.cell? ⟨w.heap.size + 2,4,none⟩ = some (.string ⟨#[]⟩)) (by kernel_rfl) (KS.out _ (KeepQ.drew KR.out)) (fun hS => ?_)
    refine wpAnyH_take (i := 0) (v := ?_) rfl (by kernel_rfl) (by kernel_rfl) (by kernel_rfl) (fun _ _ _ h => h) (Or.inl ⟨by rfl, ?_⟩) (by assumption) ?_
    rotate_left
    · intro w' hSw
      (try dsimp only at hSw)
      go_simp
      (try with_reducible rfl)
    (try simp only [Act.put,List.getElem_toArray,List.getElem_cons_succ,List.getElem_cons_zero,HeT.pT])
    refine wpAnyH_take (i := 1) (v := ?_) rfl (by kernel_rfl) (by kernel_rfl) (by kernel_rfl) (fun _ _ _ h => h) (Or.inl ⟨by rfl, ?_⟩) (by assumption) ?_
    rotate_left
    · intro w' hSw
      (try dsimp only at hSw)
      go_simp
      (try with_reducible rfl)
    (try simp only [Act.put,List.getElem_toArray,List.getElem_cons_succ,List.getElem_cons_zero,HeT.pT])
    refine wpAnyH_take (i := 2) (v := ?_) rfl (by kernel_rfl) (by kernel_rfl) (by kernel_rfl) (fun _ _ _ h => h) (Or.inl ⟨by rfl, ?_⟩) (by assumption) ?_
    rotate_left
    · intro w' hSw
      (try dsimp only at hSw)
      go_simp
      (try with_reducible rfl)
    (try simp only [Act.put,List.getElem_toArray,List.getElem_cons_succ,List.getElem_cons_zero,HeT.pT])
    refine wpAnyH_take (i := 3) (v := ?_) rfl (by kernel_rfl) (by kernel_rfl) (by kernel_rfl) (fun _ _ _ h => h) (Or.inl ⟨by rfl, ?_⟩) (by assumption) ?_
    rotate_left
    · intro w' hSw
      (try dsimp only at hSw)
      go_simp
      (try with_reducible rfl)
    (try simp only [Act.put,List.getElem_toArray,List.getElem_cons_succ,List.getElem_cons_zero,HeT.pT])
    refine wpAnyH_take (i := 4) (v := ?_) rfl (by kernel_rfl) (by kernel_rfl) (by kernel_rfl) (fun _ _ _ h => h) (Or.inl ⟨by rfl, ?_⟩) (by assumption) ?_
    rotate_left
    · intro w' hSw
      (try dsimp only at hSw)
      go_simp
      (try with_reducible rfl)
    (try simp only [Act.put,List.getElem_toArray,List.getElem_cons_succ,List.getElem_cons_zero,HeT.pT])
    refine wpAnyH_take (i := 5) (v := ?_) rfl (by kernel_rfl) (by kernel_rfl) (by kernel_rfl) (fun _ _ _ h => h) (Or.inl ⟨by rfl, ?_⟩) (by assumption) ?_
    rotate_left
    · intro w' hSw
      (try dsimp only at hSw)
      go_simp
      (try with_reducible rfl)
    (try simp only [Act.put,List.getElem_toArray,List.getElem_cons_succ,List.getElem_cons_zero,HeT.pT])
    refine wpAnyH_take (i := 6) (v := ?_) rfl (by kernel_rfl) (by kernel_rfl) (by kernel_rfl) (fun _ _ _ h => h) (Or.inl ⟨by rfl, ?_⟩) (by assumption) ?_
    rotate_left
    · intro w' hSw
      (try dsimp only at hSw)
      go_simp
      (try with_reducible rfl)
    (try simp only [Act.put,List.getElem_toArray,List.getElem_cons_succ,List.getElem_cons_zero,HeT.pT])
    refine wpAnyH_take (i := 7) (v := ?_) rfl (by kernel_rfl) (by kernel_rfl) (by kernel_rfl) (fun _ _ _ h => h) (Or.inl ⟨by rfl, ?_⟩) (by assumption) ?_
    rotate_left
    · intro w' hSw
      (try dsimp only at hSw)
      go_simp
      (try with_reducible rfl)
    (try simp only [Act.put,List.getElem_toArray,List.getElem_cons_succ,List.getElem_cons_zero,HeT.pT])
    refine wpAnyH_take (i := 8) (v := ?_) rfl (by kernel_rfl) (by kernel_rfl) (by kernel_rfl) (fun _ _ _ h => h) (Or.inl ⟨by rfl, ?_⟩) (by assumption) ?_
    rotate_left
    · intro w' hSw
      (try dsimp only at hSw)
      go_simp
      (try with_reducible rfl)
    (try simp only [Act.put,List.getElem_toArray,List.getElem_cons_succ,List.getElem_cons_zero,HeT.pT])
    refine wpAnyH_take (i := 9) (v := ?_) rfl (by kernel_rfl) (by kernel_rfl) (by kernel_rfl) (fun _ _ _ h => h) (Or.inl ⟨by rfl, ?_⟩) (by assumption) ?_
    rotate_left
    · intro w' hSw
      (try dsimp only at hSw)
      go_simp
      (try with_reducible rfl)
    (try simp only [Act.put,List.getElem_toArray,List.getElem_cons_succ,List.getElem_cons_zero,HeT.pT])
    refine wpAnyH_take (i := 10) (v := ?_) rfl (by kernel_rfl) (by kernel_rfl) (by kernel_rfl) (fun _ _ _ h => h) (Or.inl ⟨by rfl, ?_⟩) (by assumption) ?_
    rotate_left
    · intro w' hSw
      (try dsimp only at hSw)
      go_simp
      (try with_reducible rfl)
    (try simp only [Act.put,List.getElem_toArray,List.getElem_cons_succ,List.getElem_cons_zero,HeT.pT])
    refine wpAnyH_take (i := 11) (v := ?_) rfl (by kernel_rfl) (by kernel_rfl) (by kernel_rfl) (fun _ _ _ h => h) (Or.inl ⟨by rfl, ?_⟩) (by assumption) ?_
    rotate_left
    · intro w' hSw
      (try dsimp only at hSw)
      go_simp
      (try with_reducible rfl)
    (try simp only [Act.put,List.getElem_toArray,List.getElem_cons_succ,List.getElem_cons_zero,HeT.pT])
    refine wpAnyH_take (i := 12) (v := undef) rfl (by kernel_rfl) (by kernel_rfl) (by kernel_rfl) (fun _ _ _ h => h) (Or.inr ⟨by rfl,rfl⟩) (by assumption) ?_
    (try simp only [Act.put,List.getElem_toArray,List.getElem_cons_succ,List.getElem_cons_zero,HeT.pT])
    refine wpAnyH_take (i := 13) (v := undef) rfl (by kernel_rfl) (by kernel_rfl) (by kernel_rfl) (fun _ _ _ h => h) (Or.inr ⟨by rfl,rfl⟩) (by assumption) ?_
    (try simp only [Act.put,List.getElem_toArray,List.getElem_cons_succ,List.getElem_cons_zero,HeT.pT])
    refine wpAnyH_take (i := 14) (v := undef) rfl (by kernel_rfl) (by kernel_rfl) (by kernel_rfl) (fun _ _ _ h => h) (Or.inr ⟨by rfl,rfl⟩) (by assumption) ?_
    (try simp only [Act.put,List.getElem_toArray,List.getElem_cons_succ,List.getElem_cons_zero,HeT.pT])
    refine wpAnyH_take (i := 15) (v := undef) rfl (by kernel_rfl) (by kernel_rfl) (by kernel_rfl) (fun _ _ _ h => h) (Or.inr ⟨by rfl,rfl⟩) (by assumption) ?_
    (try simp only [Act.put,List.getElem_toArray,List.getElem_cons_succ,List.getElem_cons_zero,HeT.pT])
    refine wpAnyH_ready (rs := [16]) (by kernel_rfl) (by simp) ?_
    refine AllReadyH.cons rfl (fun K hK => ?_) AllReadyH.nil
    go_simp
    refine hK.out _ _ (by assumption) (fun hS => ?_)
    clear hK K
    (try simp only [Act.put,List.getElem_toArray,List.getElem_cons_succ,List.getElem_cons_zero,HeT.pT])
    refine wpAnyH_take (i := 17) (v := ?_) rfl (by kernel_rfl) (by kernel_rfl) (by kernel_rfl) (fun _ _ _ h => h) (Or.inl ⟨by rfl, ?_⟩) (by assumption) ?_
    rotate_left
    · intro w' hSw
      (try dsimp only at hSw)
      go_simp
      (try with_reducible rfl)
    (try simp only [Act.put,List.getElem_toArray,List.getElem_cons_succ,List.getElem_cons_zero,HeT.pT])
    refine wpAnyH_ready (rs := [18]) (by kernel_rfl) (by simp) ?_
    refine AllReadyH.cons rfl (fun K hK => ?_) AllReadyH.nil
    go_simp
    refine hK.out _ _ (by exact KS.out _ (by repeat (first | with_reducible exact KR.out | with_reducible refine KeepQ.set ?_ (by first | (with_reducible rfl) | (simp; done) | omega) _ | with_reducible refine KeepQ.drew ?_ | with_reducible refine KeepQ.on ?_ (by with_reducible assumption)))) (fun hS => ?_)
    clear hK K
    (try simp only [Act.put,List.getElem_toArray,List.getElem_cons_succ,List.getElem_cons_zero,HeT.pT])
    refine wpAnyH_take (i := 19) (v := ?_) rfl (by kernel_rfl) (by kernel_rfl) (by kernel_rfl) (fun _ _ _ h => h) (Or.inl ⟨by rfl, ?_⟩) (by assumption) ?_
    rotate_left
    · intro w' hSw
      (try dsimp only at hSw)
      go_simp
      (try with_reducible rfl)
    (try simp only [Act.put,List.getElem_toArray,List.getElem_cons_succ,List.getElem_cons_zero,HeT.pT])
    refine wpAnyH_done (by kernel_rfl) ?_ _
    go_wp2_with fail
    refine bodyPost_ret (v := .tuple #[tlV ⟨k.col,⟨true,true,⟨0,0,⟨#[]⟩⟩⟩,⟨true,true,⟨0,0,⟨#[]⟩⟩⟩⟩, .bool false]) (by simp [results,Tryz.results94,go_sem,tlV,q0,q1,q2,q3,q4,q5,q6,q7,q8,q9,q10]) rfl ⟨HQ.out _ _ rfl (by rw [h0]; rfl),(show KeepQ w (w.heap.size + 1) W4 _ by repeat (first | with_reducible exact KR.out | with_reducible refine KeepQ.set ?_ (by first | (with_reducible rfl) | (simp; done) | omega) _ | with_reducible refine KeepQ.drew ?_ | with_reducible refine KeepQ.on ?_ (by with_reducible assumption))).bel⟩
  · skip
    refine wp_region_held_drew (S := fun W => W.cell? ⟨w.heap.size,0,none⟩ = some (.string xo) /\ W.cell? ⟨w.heap.size,6,none⟩ = some (.slice (some ⟨b,o,none⟩) 1 xp) /\ W.cell? ⟨b,o,none⟩ = some (.string k.op) /\ W.cell? ⟨b,o + 1,none⟩ = some (.int .i64 k.vk) /\ W.cell? ⟨b,o + 2,none⟩ = some (.int .i64 k.vn) /\ W.cell? ⟨b,o + 3,none⟩ = some (.string k.vs) /\ W.cell? ⟨b,o + 4,none⟩ = some (.int .i64 k.var) /\ W.cell? ⟨b,o + 5,none⟩ = some (.int .i64 k.col) /\ W.cell? ⟨b,o + 6,none⟩ = some (.slice k.a k.kids.length k.c) /\ W.cell? ⟨w.heap.size + 2,0,none⟩ = some (.bool true) /\ W.cell? ⟨w.heap.size + 2,1,none⟩ = some (.bool true) /\ W.cell? ⟨w.heap.size + 2,2,none⟩ = some (.int .i64 0) /\ W.cell? ⟨w.heap.size + 2,3,none⟩ = some (.int .i64 0) /\ W.cell? ⟨w.heap.size + 2,4,none⟩ = some (.string ⟨#[]⟩)) (by kernel_rfl) (KS.out _ (KeepQ.drew KR.out)) (fun hS => ?_)
    refine wpAnyH_take (i := 0) (v := ?_) rfl (by kernel_rfl) (by kernel_rfl) (by kernel_rfl) (fun _ _ _ h => h) (Or.inl ⟨by rfl, ?_⟩) (by assumption) ?_
    rotate_left
    · intro w' hSw
      (try dsimp only at hSw)
      go_simp
      (try with_reducible rfl)
    (try simp only [Act.put,List.getElem_toArray,List.getElem_cons_succ,List.getElem_cons_zero,HeT.pT])
    refine wpAnyH_take (i := 1) (v := ?_) rfl (by kernel_rfl) (by kernel_rfl) (by kernel_rfl) (fun _ _ _ h => h) (Or.inl ⟨by rfl, ?_⟩) (by assumption) ?_
    rotate_left
    · intro w' hSw
      (try dsimp only at hSw)
      go_simp
      (try with_reducible rfl)
    (try simp only [Act.put,List.getElem_toArray,List.getElem_cons_succ,List.getElem_cons_zero,HeT.pT])
    refine wpAnyH_take (i := 2) (v := ?_) rfl (by kernel_rfl) (by kernel_rfl) (by kernel_rfl) (fun _ _ _ h => h) (Or.inl ⟨by rfl, ?_⟩) (by assumption) ?_
    rotate_left
    · intro w' hSw
      (try dsimp only at hSw)
      go_simp
      (try with_reducible rfl)
    (try simp only [Act.put,List.getElem_toArray,List.getElem_cons_succ,List.getElem_cons_zero,HeT.pT])
    refine wpAnyH_take (i := 3) (v := ?_) rfl (by kernel_rfl) (by kernel_rfl) (by kernel_rfl) (fun _ _ _ h => h) (Or.inl ⟨by rfl, ?_⟩) (by assumption) ?_
    rotate_left
    · intro w' hSw
      (try dsimp only at hSw)
      go_simp
      (try with_reducible rfl)
    (try simp only [Act.put,List.getElem_toArray,List.getElem_cons_succ,List.getElem_cons_zero,HeT.pT])
    refine wpAnyH_take (i := 4) (v := ?_) rfl (by kernel_rfl) (by kernel_rfl) (by kernel_rfl) (fun _ _ _ h => h) (Or.inl ⟨by rfl, ?_⟩) (by assumption) ?_
    rotate_left
    · intro w' hSw
      (try dsimp only at hSw)
      go_simp
      (try with_reducible rfl)
    (try simp only [Act.put,List.getElem_toArray,List.getElem_cons_succ,List.getElem_cons_zero,HeT.pT])
    refine wpAnyH_take (i := 5) (v := ?_) rfl (by kernel_rfl) (by kernel_rfl) (by kernel_rfl) (fun _ _ _ h => h) (Or.inl ⟨by rfl, ?_⟩) (by assumption) ?_
    rotate_left
    · intro w' hSw
      (try dsimp only at hSw)
      go_simp
      (try with_reducible rfl)
    (try simp only [Act.put,List.getElem_toArray,List.getElem_cons_succ,List.getElem_cons_zero,HeT.pT])
    refine wpAnyH_take (i := 6) (v := ?_) rfl (by kernel_rfl) (by kernel_rfl) (by kernel_rfl) (fun _ _ _ h => h) (Or.inl ⟨by rfl, ?_⟩) (by assumption) ?_
    rotate_left
    · intro w' hSw
      (try dsimp only at hSw)
      go_simp
      (try with_reducible rfl)
    (try simp only [Act.put,List.getElem_toArray,List.getElem_cons_succ,List.getElem_cons_zero,HeT.pT])
    refine wpAnyH_take (i := 7) (v := ?_) rfl (by kernel_rfl) (by kernel_rfl) (by kernel_rfl) (fun _ _ _ h => h) (Or.inl ⟨by rfl, ?_⟩) (by assumption) ?_
    rotate_left
    · intro w' hSw
      (try dsimp only at hSw)
      go_simp
      (try with_reducible rfl)
    (try simp only [Act.put,List.getElem_toArray,List.getElem_cons_succ,List.getElem_cons_zero,HeT.pT])
    refine wpAnyH_take (i := 8) (v := ?_) rfl (by kernel_rfl) (by kernel_rfl) (by kernel_rfl) (fun _ _ _ h => h) (Or.inl ⟨by rfl, ?_⟩) (by assumption) ?_
    rotate_left
    · intro w' hSw
      (try dsimp only at hSw)
      go_simp
      (try with_reducible rfl)
    (try simp only [Act.put,List.getElem_toArray,List.getElem_cons_succ,List.getElem_cons_zero,HeT.pT])
    refine wpAnyH_take (i := 9) (v := ?_) rfl (by kernel_rfl) (by kernel_rfl) (by kernel_rfl) (fun _ _ _ h => h) (Or.inl ⟨by rfl, ?_⟩) (by assumption) ?_
    rotate_left
    · intro w' hSw
      (try dsimp only at hSw)
      go_simp
      (try with_reducible rfl)
    (try simp only [Act.put,List.getElem_toArray,List.getElem_cons_succ,List.getElem_cons_zero,HeT.pT])
    refine wpAnyH_take (i := 10) (v := ?_) rfl (by kernel_rfl) (by kernel_rfl) (by kernel_rfl) (fun _ _ _ h => h) (Or.inl ⟨by rfl, ?_⟩) (by assumption) ?_
    rotate_left
    · intro w' hSw
      (try dsimp only at hSw)
      go_simp
      (try with_reducible rfl)
    (try simp only [Act.put,List.getElem_toArray,List.getElem_cons_succ,List.getElem_cons_zero,HeT.pT])
    refine wpAnyH_take (i := 11) (v := ?_) rfl (by kernel_rfl) (by kernel_rfl) (by kernel_rfl) (fun _ _ _ h => h) (Or.inl ⟨by rfl, ?_⟩) (by assumption) ?_
    rotate_left
    · intro w' hSw
      (try dsimp only at hSw)
      go_simp
      (try with_reducible rfl)
    (try simp only [Act.put,List.getElem_toArray,List.getElem_cons_succ,List.getElem_cons_zero,HeT.pT])
    refine wpAnyH_take (i := 12) (v := ?_) rfl (by kernel_rfl) (by kernel_rfl) (by kernel_rfl) (fun _ _ _ h => h) (Or.inl ⟨by rfl, ?_⟩) (by assumption) ?_
    rotate_left
    · intro w' hSw
      (try dsimp only at hSw)
      go_simp
      (try with_reducible rfl)
    (try simp only [Act.put,List.getElem_toArray,List.getElem_cons_succ,List.getElem_cons_zero,HeT.pT])
    refine wpAnyH_take (i := 13) (v := ?_) rfl (by kernel_rfl) (by kernel_rfl) (by kernel_rfl) (fun _ _ _ h => h) (Or.inl ⟨by rfl, ?_⟩) (by assumption) ?_
    rotate_left
    · intro w' hSw
      (try dsimp only at hSw)
      go_simp
      (try with_reducible rfl)
    (try simp only [Act.put,List.getElem_toArray,List.getElem_cons_succ,List.getElem_cons_zero,HeT.pT])
    refine wpAnyH_take (i := 14) (v := ?_) rfl (by kernel_rfl) (by kernel_rfl) (by kernel_rfl) (fun _ _ _ h => h) (Or.inl ⟨by rfl, ?_⟩) (by assumption) ?_
    rotate_left
    · intro w' hSw
      (try dsimp only at hSw)
      go_simp
      (try with_reducible rfl)
    (try simp only [Act.put,List.getElem_toArray,List.getElem_cons_succ,List.getElem_cons_zero,HeT.pT])
    refine wpAnyH_take (i := 15) (v := ?_) rfl (by kernel_rfl) (by kernel_rfl) (by kernel_rfl) (fun _ _ _ h => h) (Or.inl ⟨by rfl, ?_⟩) (by assumption) ?_
    rotate_left
    · intro w' hSw
      (try dsimp only at hSw)
      go_simp
      (try with_reducible rfl)
    (try simp only [Act.put,List.getElem_toArray,List.getElem_cons_succ,List.getElem_cons_zero,HeT.pT])
    refine wpAnyH_ready (rs := [16]) (by kernel_rfl) (by simp) ?_
    refine AllReadyH.cons rfl (fun K hK => ?_) AllReadyH.nil
    go_simp
    refine (HIa.out _).mono ?_
    rintro e w5 ⟨rfl,hb5⟩
    have hr_w5 := (hb5.block (w.heap.size + 1) hrz).trans hr0
    have hl_w5 := (Array.getElem?_eq_some_iff.1 hr_w5).1
    have hf_w5 := fun o => frozen_of_row _ _ o _ _ hr_w5
    obtain ⟨q0,q1,q2,q3,q4,q5,q6,q7,q8,q9,q10⟩ := tl_cells (t := tlz) hr_w5
    refine hK.out _ _ (by exact KS.out _ (by repeat (first | with_reducible exact KR.out | with_reducible refine KeepQ.set ?_ (by first | (with_reducible rfl) | (simp; done) | omega) _ | with_reducible refine KeepQ.drew ?_ | with_reducible refine KeepQ.on ?_ (by with_reducible assumption)))) (fun hS => ?_)
    clear hK K
    (try simp only [Act.put,List.getElem_toArray,List.getElem_cons_succ,List.getElem_cons_zero,HeT.pT])
    refine wpAnyH_take (i := 17) (v := ?_) rfl (by kernel_rfl) (by kernel_rfl) (by kernel_rfl) (fun _ _ _ h => h) (Or.inl ⟨by rfl, ?_⟩) (by assumption) ?_
    rotate_left
    · intro w' hSw
      (try dsimp only at hSw)
      go_simp
      (try with_reducible rfl)
    (try simp only [Act.put,List.getElem_toArray,List.getElem_cons_succ,List.getElem_cons_zero,HeT.pT])
    refine wpAnyH_ready (rs := [18]) (by kernel_rfl) (by simp) ?_
    refine AllReadyH.cons rfl (fun K hK => ?_) AllReadyH.nil
    go_simp
    refine hK.out _ _ (by exact KS.out _ (by repeat (first | with_reducible exact KR.out | with_reducible refine KeepQ.set ?_ (by first | (with_reducible rfl) | (simp; done) | omega) _ | with_reducible refine KeepQ.drew ?_ | with_reducible refine KeepQ.on ?_ (by with_reducible assumption)))) (fun hS => ?_)
    clear hK K
    (try simp only [Act.put,List.getElem_toArray,List.getElem_cons_succ,List.getElem_cons_zero,HeT.pT])
    refine wpAnyH_take (i := 19) (v := ?_) rfl (by kernel_rfl) (by kernel_rfl) (by kernel_rfl) (fun _ _ _ h => h) (Or.inl ⟨by rfl, ?_⟩) (by assumption) ?_
    rotate_left
    · intro w' hSw
      (try dsimp only at hSw)
      go_simp
      (try with_reducible rfl)
    (try simp only [Act.put,List.getElem_toArray,List.getElem_cons_succ,List.getElem_cons_zero,HeT.pT])
    refine wpAnyH_done (by kernel_rfl) ?_ _
    go_wp2_with fail
    refine bodyPost_ret (v := .tuple #[tlV ⟨k.col,⟨true,true,⟨0,0,⟨#[]⟩⟩⟩,⟨true,true,⟨0,0,⟨#[]⟩⟩⟩⟩, .bool (isColN k)]) (by simp [results,Tryz.results94,go_sem,tlV,q0,q1,q2,q3,q4,q5,q6,q7,q8,q9,q10]) rfl ⟨HQ.out _ _ rfl (by rw [h0]; rfl),(show KeepQ w (w.heap.size + 1) W4 _ by repeat (first | with_reducible exact KR.out | with_reducible refine KeepQ.set ?_ (by first | (with_reducible rfl) | (simp; done) | omega) _ | with_reducible refine KeepQ.drew ?_ | with_reducible refine KeepQ.on ?_ (by with_reducible assumption))).bel⟩
 | [y,z],_,HS =>
  obtain ⟨b,o,y',rfl,hb,hx,hc⟩ := HS.out.at (j := 0) (by simp)
  obtain ⟨b',o',z',e,hb',hx',hc'⟩ := HS.out.at (j := 1) (by simp)
  injection e with e
  injection e with e1 e2 _
  subst e1 e2
  obtain rfl: y = y' := by simpa using hx
  obtain rfl: z = z' := by simpa using hx'
  have c0: w.cell? ⟨b,o,none⟩ = some (.string y.op) := hc 0 _ rfl
  have c1: w.cell? ⟨b,o + 1,none⟩ = some (.int .i64 y.vk) := hc 1 _ rfl
  have c2: w.cell? ⟨b,o + 2,none⟩ = some (.int .i64 y.vn) := hc 2 _ rfl
  have c3: w.cell? ⟨b,o + 3,none⟩ = some (.string y.vs) := hc 3 _ rfl
  have c4: w.cell? ⟨b,o + 4,none⟩ = some (.int .i64 y.var) := hc 4 _ rfl
  have c5: w.cell? ⟨b,o + 5,none⟩ = some (.int .i64 y.col) := hc 5 _ rfl
  have c6: w.cell? ⟨b,o + 6,none⟩ = some (.slice y.a y.kids.length y.c) := hc 6 _ rfl
  have d0: w.cell? ⟨b,o + 7,none⟩ = some (.string z.op) := hc' 0 _ rfl
  have d1: w.cell? ⟨b,o + 7 + 1,none⟩ = some (.int .i64 z.vk) := hc' 1 _ rfl
  have d2: w.cell? ⟨b,o + 7 + 2,none⟩ = some (.int .i64 z.vn) := hc' 2 _ rfl
  have d3: w.cell? ⟨b,o + 7 + 3,none⟩ = some (.string z.vs) := hc' 3 _ rfl
  have d4: w.cell? ⟨b,o + 7 + 4,none⟩ = some (.int .i64 z.var) := hc' 4 _ rfl
  have d5: w.cell? ⟨b,o + 7 + 5,none⟩ = some (.int .i64 z.col) := hc' 5 _ rfl
  have d6: w.cell? ⟨b,o + 7 + 6,none⟩ = some (.slice z.a z.kids.length z.c) := hc' 6 _ rfl
  have HC := Rw.dh (fun W => compared_walk xo y z W)
  unfold nV at HC
  clear hc hx hc' hx'
  simp only [List.length_cons,List.length_nil]
  go_enter Tryz.func94,Tryz.ntmps94
  go_wp2_with fail
  refine Rw.to_letter (F := fun W => Below w.heap.size w W /\ W.heap[w.heap.size]? = some (.cells #[.string xo, .int .i64 xk, .int .i64 xn, .string xs, .int .i64 xv, .int .i64 xc, .slice (some ⟨b,o,none⟩) 2 xp] 44 (0,0)) /\ W.heap[w.heap.size + 1]? = some (.cells (tlC tlz).toArray 175 (0,0))) ⟨below_two w _ _,(Below.heap_alloc _ _ _ (by simp)).trans (Rw.heap_new w _),heap_two w _ _⟩ ?_
  rintro W4 ⟨hB4,hn4,hr0⟩
  have KS: Hid (∀ W',KeepQ w (w.heap.size + 1) W4 W' -> (fun W => W.cell? ⟨w.heap.size,0,none⟩ = some (.string xo) /\ W.cell? ⟨w.heap.size,6,none⟩ = some (.slice (some ⟨b,o,none⟩) 2 xp) /\ W.cell? ⟨b,o,none⟩ = some (.string y.op) /\ W.cell? ⟨b,o + 1,none⟩ = some (.int .i64 y.vk) /\ W.cell? ⟨b,o + 2,none⟩ = some (.int .i64 y.vn) /\ W.cell? ⟨b,o + 3,none⟩ = some (.string y.vs) /\ W.cell? ⟨b,o + 4,none⟩ = some (.int .i64 y.var) /\ W.cell? ⟨b,o + 5,none⟩ = some (.int .i64 y.col) /\ W.cell? ⟨b,o + 6,none⟩ = some (.slice y.a y.kids.length y.c) /\ W.cell? ⟨b,o + 7,none⟩ = some (.string z.op) /\ W.cell? ⟨b,o + 7 + 1,none⟩ = some (.int .i64 z.vk) /\ W.cell? ⟨b,o + 7 + 2,none⟩ = some (.int .i64 z.vn) /\ W.cell? ⟨b,o + 7 + 3,none⟩ = some (.string z.vs) /\ W.cell? ⟨b,o + 7 + 4,none⟩ = some (.int .i64 z.var) /\ W.cell? ⟨b,o + 7 + 5,none⟩ = some (.int .i64 z.col) /\ W.cell? ⟨b,o + 7 + 6,none⟩ = some (.slice z.a z.kids.length z.c)) W') := fun W' hk => by
   have hs := hB4.size
   have hzl := (Array.getElem?_eq_some_iff.1 hr0).1
   have g1 := (hk.blk _ (by omega) (by omega)).trans hn4
   have gb: ∀ i,W'.cell? ⟨b,i,none⟩ = w.cell? ⟨b,i,none⟩ := fun i => hk.bel.cell (p := ⟨b,i,none⟩) hb
   exact ⟨by rw [cell_of_row _ _ _ _ _ _ g1]; rfl,by rw [cell_of_row _ _ _ _ _ _ g1]; rfl,by rw [gb]; exact c0,by rw [gb]; exact c1,by rw [gb]; exact c2,by rw [gb]; exact c3,by rw [gb]; exact c4,by rw [gb]; exact c5,by rw [gb]; exact c6,by rw [gb]; exact d0,by rw [gb]; exact d1,by rw [gb]; exact d2,by rw [gb]; exact d3,by rw [gb]; exact d4,by rw [gb]; exact d5,by rw [gb]; exact d6⟩
  have KR: Hid (KeepQ w (w.heap.size + 1) W4 W4) := KeepQ.refl hB4
  have hrz := (Array.getElem?_eq_some_iff.1 hr0).1
  have hrf := fun o => frozen_of_row _ _ o _ _ hr0
  obtain ⟨q0,q1,q2,q3,q4,q5,q6,q7,q8,q9,q10⟩ := tl_cells (t := tlz) hr0
  obtain ⟨⟨⟨t0,⟨t1,t2,⟨t3,t4,t5⟩⟩,⟨t6,t7,⟨t8,t9,t10⟩⟩⟩,ok⟩,hr⟩: ∃ r,r = comparedN xo y z := ⟨_,rfl⟩
  have HQ: Hid (∀ T B,T = tlV ⟨t0,⟨t1,t2,⟨t3,t4,t5⟩⟩,⟨t6,t7,⟨t8,t9,t10⟩⟩⟩ -> B = ok -> Ending.returned (.tuple #[T, .bool B]) = .returned (.tuple #[tlV (testN (.mk xo xk xn xs xv xc (some ⟨b,o,none⟩) xp [y,z])).1, .bool (testN (.mk xo xk xn xs xv xc (some ⟨b,o,none⟩) xp [y,z])).2])) := by
   rintro T B rfl rfl
   show _ = Ending.returned (.tuple #[tlV (comparedN xo y z).1, .bool (comparedN xo y z).2])
   rw [<- hr]
  rw [<- hr] at HC
  unfold tlV at HC
  clear hB4 hn4 c0 c1 c2 c3 c4 c5 c6 d0 d1 d2 d3 d4 d5 d6 hr
  · skip
    refine wp_region_held_drew (S := fun W => W.cell? ⟨w.heap.size,0,none⟩ = some (.string xo) /\ W.cell? ⟨w.heap.size,6,none⟩ = some (.slice (some ⟨b,o,none⟩) 2 xp) /\ W.cell? ⟨b,o,none⟩ = some (.string y.op) /\ W.cell? ⟨b,o + 1,none⟩ = some (.int .i64 y.vk) /\ W.cell? ⟨b,o + 2,none⟩ = some (.int .i64 y.vn) /\ W.cell? ⟨b,o + 3,none⟩ = some (.string y.vs) /\ W.cell? ⟨b,o + 4,none⟩ = some (.int .i64 y.var) /\ W.cell? ⟨b,o + 5,none⟩ = some (.int .i64 y.col) /\ W.cell? ⟨b,o + 6,none⟩ = some (.slice y.a y.kids.length y.c) /\ W.cell? ⟨b,o + 7,none⟩ = some (.string z.op) /\ W.cell? ⟨b,o + 7 + 1,none⟩ = some (.int .i64 z.vk) /\ W.cell? ⟨b,o + 7 + 2,none⟩ = some (.int .i64 z.vn) /\ W.cell? ⟨b,o + 7 + 3,none⟩ = some (.string z.vs) /\ W.cell? ⟨b,o + 7 + 4,none⟩ = some (.int .i64 z.var) /\ W.cell? ⟨b,o + 7 + 5,none⟩ = some (.int .i64 z.col) /\ W.cell? ⟨b,o + 7 + 6,none⟩ = some (.slice z.a z.kids.length z.c)) (by kernel_rfl) (KS.out _ (KeepQ.drew KR.out)) (fun hS => ?_)
    refine wpAnyH_take (i := 0) (v := ?_) rfl (by kernel_rfl) (by kernel_rfl) (by kernel_rfl) (fun _ _ _ h => h) (Or.inl ⟨by rfl, ?_⟩) (by assumption) ?_
    rotate_left
    · intro w' hSw
      (try dsimp only at hSw)
      go_simp
      (try with_reducible rfl)
    (try simp only [Act.put,List.getElem_toArray,List.getElem_cons_succ,List.getElem_cons_zero,HeT.pT])
    refine wpAnyH_take (i := 1) (v := ?_) rfl (by kernel_rfl) (by kernel_rfl) (by kernel_rfl) (fun _ _ _ h => h) (Or.inl ⟨by rfl, ?_⟩) (by assumption) ?_
    rotate_left
    · intro w' hSw
      (try dsimp only at hSw)
      go_simp
      (try with_reducible rfl)
    (try simp only [Act.put,List.getElem_toArray,List.getElem_cons_succ,List.getElem_cons_zero,HeT.pT])
    refine wpAnyH_take (i := 2) (v := ?_) rfl (by kernel_rfl) (by kernel_rfl) (by kernel_rfl) (fun _ _ _ h => h) (Or.inl ⟨by rfl, ?_⟩) (by assumption) ?_
    rotate_left
    · intro w' hSw
      (try dsimp only at hSw)
      go_simp
      (try with_reducible rfl)
    (try simp only [Act.put,List.getElem_toArray,List.getElem_cons_succ,List.getElem_cons_zero,HeT.pT])
    refine wpAnyH_take (i := 3) (v := ?_) rfl (by kernel_rfl) (by kernel_rfl) (by kernel_rfl) (fun _ _ _ h => h) (Or.inl ⟨by rfl, ?_⟩) (by assumption) ?_
    rotate_left
    · intro w' hSw
      (try dsimp only at hSw)
      go_simp
      (try with_reducible rfl)
    (try simp only [Act.put,List.getElem_toArray,List.getElem_cons_succ,List.getElem_cons_zero,HeT.pT])
    refine wpAnyH_take (i := 4) (v := ?_) rfl (by kernel_rfl) (by kernel_rfl) (by kernel_rfl) (fun _ _ _ h => h) (Or.inl ⟨by rfl, ?_⟩) (by assumption) ?_
    rotate_left
    · intro w' hSw
      (try dsimp only at hSw)
      go_simp
      (try with_reducible rfl)
    (try simp only [Act.put,List.getElem_toArray,List.getElem_cons_succ,List.getElem_cons_zero,HeT.pT])
    refine wpAnyH_take (i := 5) (v := ?_) rfl (by kernel_rfl) (by kernel_rfl) (by kernel_rfl) (fun _ _ _ h => h) (Or.inl ⟨by rfl, ?_⟩) (by assumption) ?_
    rotate_left
    · intro w' hSw
      (try dsimp only at hSw)
      go_simp
      (try with_reducible rfl)
    (try simp only [Act.put,List.getElem_toArray,List.getElem_cons_succ,List.getElem_cons_zero,HeT.pT])
    refine wpAnyH_take (i := 6) (v := ?_) rfl (by kernel_rfl) (by kernel_rfl) (by kernel_rfl) (fun _ _ _ h => h) (Or.inl ⟨by rfl, ?_⟩) (by assumption) ?_
    rotate_left
    · intro w' hSw
      (try dsimp only at hSw)
      go_simp
      (try with_reducible rfl)
    (try simp only [Act.put,List.getElem_toArray,List.getElem_cons_succ,List.getElem_cons_zero,HeT.pT])
    refine wpAnyH_take (i := 7) (v := ?_) rfl (by kernel_rfl) (by kernel_rfl) (by kernel_rfl) (fun _ _ _ h => h) (Or.inl ⟨by rfl, ?_⟩) (by assumption) ?_
    rotate_left
    · intro w' hSw
      (try dsimp only at hSw)
      go_simp
      (try with_reducible rfl)
    (try simp only [Act.put,List.getElem_toArray,List.getElem_cons_succ,List.getElem_cons_zero,HeT.pT])
    refine wpAnyH_take (i := 8) (v := ?_) rfl (by kernel_rfl) (by kernel_rfl) (by kernel_rfl) (fun _ _ _ h => h) (Or.inl ⟨by rfl, ?_⟩) (by assumption) ?_
    rotate_left
    · intro w' hSw
      (try dsimp only at hSw)
      go_simp
      (try with_reducible rfl)
    (try simp only [Act.put,List.getElem_toArray,List.getElem_cons_succ,List.getElem_cons_zero,HeT.pT])
    refine wpAnyH_take (i := 9) (v := ?_) rfl (by kernel_rfl) (by kernel_rfl) (by kernel_rfl) (fun _ _ _ h => h) (Or.inl ⟨by rfl, ?_⟩) (by assumption) ?_
    rotate_left
    · intro w' hSw
      (try dsimp only at hSw)
      go_simp
      (try with_reducible rfl)
    (try simp only [Act.put,List.getElem_toArray,List.getElem_cons_succ,List.getElem_cons_zero,HeT.pT])
    refine wpAnyH_ready (rs := [10]) (by kernel_rfl) (by simp) ?_
    refine AllReadyH.cons rfl (fun K hK => ?_) AllReadyH.nil
    go_simp
    refine (HC.out _).mono ?_
    rintro e w5 ⟨rfl,hb5⟩
    have hr_w5 := (hb5.block (w.heap.size + 1) hrz).trans hr0
    have hl_w5 := (Array.getElem?_eq_some_iff.1 hr_w5).1
    have hf_w5 := fun o => frozen_of_row _ _ o _ _ hr_w5
    obtain ⟨q0,q1,q2,q3,q4,q5,q6,q7,q8,q9,q10⟩ := tl_cells (t := tlz) hr_w5
    refine hK.out _ _ (by exact KS.out _ (by repeat (first | with_reducible exact KR.out | with_reducible refine KeepQ.set ?_ (by first | (with_reducible rfl) | (simp; done) | omega) _ | with_reducible refine KeepQ.drew ?_ | with_reducible refine KeepQ.on ?_ (by with_reducible assumption)))) (fun hS => ?_)
    clear hK K
    (try simp only [Act.put,List.getElem_toArray,List.getElem_cons_succ,List.getElem_cons_zero,HeT.pT])
    refine wpAnyH_take (i := 11) (v := ?_) rfl (by kernel_rfl) (by kernel_rfl) (by kernel_rfl) (fun _ _ _ h => h) (Or.inl ⟨by rfl, ?_⟩) (by assumption) ?_
    rotate_left
    · intro w' hSw
      (try dsimp only at hSw)
      go_simp
      (try with_reducible rfl)
    (try simp only [Act.put,List.getElem_toArray,List.getElem_cons_succ,List.getElem_cons_zero,HeT.pT])
    refine wpAnyH_take (i := 12) (v := ?_) rfl (by kernel_rfl) (by kernel_rfl) (by kernel_rfl) (fun _ _ _ h => h) (Or.inl ⟨by rfl, ?_⟩) (by assumption) ?_
    rotate_left
    · intro w' hSw
      (try dsimp only at hSw)
      go_simp
      (try with_reducible rfl)
    (try simp only [Act.put,List.getElem_toArray,List.getElem_cons_succ,List.getElem_cons_zero,HeT.pT])
    refine wpAnyH_ready (rs := [13]) (by kernel_rfl) (by simp) ?_
    refine AllReadyH.cons rfl (fun K hK => ?_) AllReadyH.nil
    go_simp
    refine hK.out _ _ (by exact KS.out _ (by repeat (first | with_reducible exact KR.out | with_reducible refine KeepQ.set ?_ (by first | (with_reducible rfl) | (simp; done) | omega) _ | with_reducible refine KeepQ.drew ?_ | with_reducible refine KeepQ.on ?_ (by with_reducible assumption)))) (fun hS => ?_)
    clear hK K
    (try simp only [Act.put,List.getElem_toArray,List.getElem_cons_succ,List.getElem_cons_zero,HeT.pT])
    refine wpAnyH_take (i := 14) (v := ?_) rfl (by kernel_rfl) (by kernel_rfl) (by kernel_rfl) (fun _ _ _ h => h) (Or.inl ⟨by rfl, ?_⟩) (by assumption) ?_
    rotate_left
    · intro w' hSw
      (try dsimp only at hSw)
      go_simp
      (try with_reducible rfl)
    (try simp only [Act.put,List.getElem_toArray,List.getElem_cons_succ,List.getElem_cons_zero,HeT.pT])
    refine wpAnyH_done (by kernel_rfl) ?_ _
    go_wp2_with fail
    refine bodyPost_ret (v := .tuple #[tlV ⟨t0,⟨t1,t2,⟨t3,t4,t5⟩⟩,⟨t6,t7,⟨t8,t9,t10⟩⟩⟩, .bool ok]) (by simp [results,Tryz.results94,go_sem,tlV,q0,q1,q2,q3,q4,q5,q6,q7,q8,q9,q10]) rfl ⟨HQ.out _ _ rfl (by rfl),(show KeepQ w (w.heap.size + 1) W4 _ by repeat (first | with_reducible exact KR.out | with_reducible refine KeepQ.set ?_ (by first | (with_reducible rfl) | (simp; done) | omega) _ | with_reducible refine KeepQ.drew ?_ | with_reducible refine KeepQ.on ?_ (by with_reducible assumption))).bel⟩
 | y :: z :: u :: m,HL,_ =>
  have h1: (((y :: z :: u :: m).length: Int) == 1) = false := beq_eq_false_iff_ne.2 (by simp; omega)
  have h2: (((y :: z :: u :: m).length: Int) == 2) = false := beq_eq_false_iff_ne.2 (by simp; omega)
  generalize (y :: z :: u :: m).length = N at *
  go_enter Tryz.func94,Tryz.ntmps94
  go_wp2_with fail
  refine bodyPost_ret (v := .tuple #[tlV tlz, .bool false]) (by simp [results,Tryz.results94,go_sem,tlV,tlz,bdz,vz]) rfl ⟨rfl,below_two w _ _⟩
end Go.Proofs.YteibhbnlcpejpaaGreat
