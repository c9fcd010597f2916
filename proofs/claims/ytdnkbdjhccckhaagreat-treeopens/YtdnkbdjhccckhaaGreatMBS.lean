import Derived.Test.YtdnkbdjhccckhaaGreatMBN
set_option maxRecDepth 100000
set_option maxHeartbeats 4000000
namespace Go.Proofs.YtdnkbdjhccckhaaGreat
open Go.RowKit
open L5 (ltP ltB leB)
set_option linter.unusedSimpArgs false in
theorem sdel_there {B p: Nat} {l: List ByteArray} {x: ByteArray} {w: World} (k: SetP B p l w) (hB: B <= w.heap.size) (hl: l.length <= 1000) (hno: L5.isAt l x (L5.firstN l x) = true) (hil: L5.firstN l x < l.length) :
 Calls Tryz.prog 28 #[.pointer (some ⟨p,0,none⟩), .string x] w fun e W => e = .returned (.int .i64 0) /\ SetP B p (l.take (L5.firstN l x) ++ l.drop (L5.firstN l x + 1)) W /\ Only (fun q => q = p) w W := by
 have HAT := thid (sat_walk (x := x) k hl)
 rw [hno] at HAT
 have HK := thid k
 obtain ⟨i,hi⟩: ∃ i,Hid (L5.firstN l x = i) := ⟨_,rfl⟩
 rw [hi.out] at HAT hil ⊢
 clear k hno
 go_enter Tryz.func28,Tryz.ntmps28
 go_wp2_with fail
 refine HAT.out.mono ?_
 rintro e w1 ⟨rfl,hb⟩
 have HB := thid hb
 have HK1 := thid (HK.out.on hb)
 obtain ⟨a,c,q1,q2⟩ := HK1.out.row
 have c0: w1.cell? ⟨p,0,none⟩ = some (.slice a l.length c) := by rw [cell_of_row _ _ _ _ _ _ q1]; rfl
 have pl := (Array.getElem?_eq_some_iff.1 q1).1
 have pf: ∀ i,w1.frozen? ⟨p,i,none⟩ = false := fun i => frozen_of_row _ _ _ _ _ q1
 clear hb HAT
 have hrd := L5.owns_rd_slice q2
 have hlc: l.length <= c := by have := hrd.1; simpa [L5.svs] using this
 have HRD := thid hrd
 have HQ1 := thid q1
 have HQ2 := thid q2
 clear q1 q2 hrd
 have hHeld: w1.drew.cell? ⟨p,0,none⟩ = some (.slice a l.length c) := c0
 have hwi: IntKind.i64.wrap ((i: Int) + 1) = (i: Int) + 1 := by rw [IntKind.wrap_i64]; omega
 go_wp2_with fail
 rcases a with _ | ⟨b,o,sp⟩
 · exfalso
   rcases HQ2.out.2 with ⟨e,hn⟩ | ⟨g,cap,cur,e,_⟩
   · injection e with _ e1 e2
     omega
   · cases e
 · have hsp: sp = none := by
    rcases HQ2.out.2 with ⟨e,hn⟩ | ⟨g,cap,cur,e,_⟩
    · cases e
    · injection e with e1 _ _
      injection e1 with e1
      injection e1
   subst hsp
   have i1: (i: Int) <= (c: Int) := by omega
   have i2: (i: Int) <= (l.length: Int) := by omega
   have i3: (l.length: Int) <= (c: Int) := by omega
   have i4: (i: Int) + 1 <= (l.length: Int) := by omega
   have i5: (i: Int) + 1 <= (c: Int) := by omega
   have i6: ((i: Int) + 1).toNat = i + 1 := by omega
   have i7: (i: Int) <= (i: Int) + 1 := by omega
   have i8: (0: Int) <= (i: Int) + 1 := by omega
   have T1 := thid (fun (W: World) (hbW: Below w1.heap.size w1 W) => (take_cells HRD.out i hbW))
   by_cases hcA: c = i + 1
   · have T2: Hid (∀ (W: World),Below w1.heap.size w1 W -> ∀ j u,(L5.svs (l.drop (i + 1)))[j]? = some u -> W.cell? ((⟨b,o,none⟩: Addr).add j) = some u) := fun W _ j u hj => by
      rw [List.drop_of_length_le (by omega)] at hj
      simp [L5.svs] at hj
     subst hcA
     refine HeT.begin_ (fun w' => w'.cell? ⟨p,0,none⟩ = some (.slice (some ⟨b,o,none⟩) l.length (i + 1))) 17 (by kernel_rfl) ?_
     refine HeT.take (i := 0) (v := ?_) rfl (by kernel_rfl) (by kernel_rfl) (by kernel_rfl) (by kernel_rfl) (by decide) (fun _ _ _ h => h) (Or.inl ⟨by rfl, ?_⟩) hHeld ?_
     rotate_left
     · intro w' hSw
       (try dsimp only at hSw)
       go_simp
       (try with_reducible rfl)
     (try simp only [Act.put,HeT.pT])
     refine HeT.take (i := 2) (v := ?_) rfl (by kernel_rfl) (by kernel_rfl) (by kernel_rfl) (by kernel_rfl) (by decide) (fun _ _ _ h => h) (Or.inl ⟨by rfl, ?_⟩) hHeld ?_
     rotate_left
     · intro w' hSw
       (try dsimp only at hSw)
       go_simp
       (try with_reducible rfl)
     (try simp only [Act.put,HeT.pT])
     refine HeT.take (i := 3) (v := ?_) rfl (by kernel_rfl) (by kernel_rfl) (by kernel_rfl) (by kernel_rfl) (by decide) (fun _ _ _ h => h) (Or.inl ⟨by rfl, ?_⟩) hHeld ?_
     rotate_left
     · intro w' hSw
       (try dsimp only at hSw)
       go_simp
       (try with_reducible rfl)
     (try simp only [Act.put,HeT.pT])
     refine HeT.take (i := 4) (v := ?_) rfl (by kernel_rfl) (by kernel_rfl) (by kernel_rfl) (by kernel_rfl) (by decide) (fun _ _ _ h => h) (Or.inl ⟨by rfl, ?_⟩) hHeld ?_
     rotate_left
     · intro w' hSw
       (try dsimp only at hSw)
       go_simp
       (try with_reducible rfl)
     (try simp only [Act.put,HeT.pT])
     refine HeT.take (i := 5) (v := ?_) rfl (by kernel_rfl) (by kernel_rfl) (by kernel_rfl) (by kernel_rfl) (by decide) (fun _ _ _ h => h) (Or.inl ⟨by rfl, ?_⟩) hHeld ?_
     rotate_left
     · intro w' hSw
       (try dsimp only at hSw)
       go_simp
       (try with_reducible rfl)
     (try simp only [Act.put,HeT.pT])
     refine HeT.take (i := 6) (v := ?_) rfl (by kernel_rfl) (by kernel_rfl) (by kernel_rfl) (by kernel_rfl) (by decide) (fun _ _ _ h => h) (Or.inl ⟨by rfl, ?_⟩) hHeld ?_
     rotate_left
     · intro w' hSw
       (try dsimp only at hSw)
       go_simp
       (try with_reducible rfl)
     (try simp only [Act.put,HeT.pT])
     refine HeT.take (i := 7) (v := ?_) rfl (by kernel_rfl) (by kernel_rfl) (by kernel_rfl) (by kernel_rfl) (by decide) (fun _ _ _ h => h) (Or.inl ⟨by rfl, ?_⟩) hHeld ?_
     rotate_left
     · intro w' hSw
       (try dsimp only at hSw)
       go_simp
       (try with_reducible rfl)
     (try simp only [Act.put,HeT.pT])
     refine HeT.take (i := 9) (v := ?_) rfl (by kernel_rfl) (by kernel_rfl) (by kernel_rfl) (by kernel_rfl) (by decide) (fun _ _ _ h => h) (Or.inl ⟨by rfl, ?_⟩) hHeld ?_
     rotate_left
     · intro w' hSw
       (try dsimp only at hSw)
       go_simp
       (try with_reducible rfl)
     (try simp only [Act.put,HeT.pT])
     refine HeT.take (i := 10) (v := ?_) rfl (by kernel_rfl) (by kernel_rfl) (by kernel_rfl) (by kernel_rfl) (by decide) (fun _ _ _ h => h) (Or.inl ⟨by rfl, ?_⟩) hHeld ?_
     rotate_left
     · intro w' hSw
       (try dsimp only at hSw)
       go_simp
       (try with_reducible rfl)
     (try simp only [Act.put,HeT.pT])
     refine HeT.take (i := 11) (v := ?_) rfl (by kernel_rfl) (by kernel_rfl) (by kernel_rfl) (by kernel_rfl) (by decide) (fun _ _ _ h => h) (Or.inl ⟨by rfl, ?_⟩) hHeld ?_
     rotate_left
     · intro w' hSw
       (try dsimp only at hSw)
       go_simp
       (try with_reducible rfl)
     (try simp only [Act.put,HeT.pT])
     refine HeT.take (i := 12) (v := ?_) rfl (by kernel_rfl) (by kernel_rfl) (by kernel_rfl) (by kernel_rfl) (by decide) (fun _ _ _ h => h) (Or.inl ⟨by rfl, ?_⟩) hHeld ?_
     rotate_left
     · intro w' hSw
       (try dsimp only at hSw)
       go_simp
       (try with_reducible rfl)
     (try simp only [Act.put,HeT.pT])
     refine HeT.take (i := 13) (v := ?_) rfl (by kernel_rfl) (by kernel_rfl) (by kernel_rfl) (by kernel_rfl) (by decide) (fun _ _ _ h => h) (Or.inl ⟨by rfl, ?_⟩) hHeld ?_
     rotate_left
     · intro w' hSw
       (try dsimp only at hSw)
       go_simp
       (try with_reducible rfl)
     (try simp only [Act.put,HeT.pT])
     refine HeT.take (i := 14) (v := ?_) rfl (by kernel_rfl) (by kernel_rfl) (by kernel_rfl) (by kernel_rfl) (by decide) (fun _ _ _ h => h) (Or.inl ⟨by rfl, ?_⟩) hHeld ?_
     rotate_left
     · intro w' hSw
       (try dsimp only at hSw)
       go_simp
       (try with_reducible rfl)
     (try simp only [Act.put,HeT.pT])
     refine HeT.take (i := 15) (v := ?_) rfl (by kernel_rfl) (by kernel_rfl) (by kernel_rfl) (by kernel_rfl) (by decide) (fun _ _ _ h => h) (Or.inl ⟨by rfl, ?_⟩) hHeld ?_
     rotate_left
     · intro w' hSw
       (try dsimp only at hSw)
       go_simp
       (try with_reducible rfl)
     (try simp only [Act.put,HeT.pT])
     refine HeT.one (i := 1) (by kernel_rfl) rfl ?_
     intro K hK
     go_simp
     have R1 := thid (RWs.new (U := w1) (Below.refl _ _)).drew
     refine hK _ _ (R1.out.bel.cell (p := ⟨p,0,none⟩) pl |>.trans c0) ?_
     clear hK K
     (try simp only [Act.put,HeT.pT])
     generalize (w1.alloc (.cells #[] 9)).drew = W1 at *
     refine HeT.one (i := 8) (by kernel_rfl) rfl ?_
     intro K hK
     refine step_strs w1.heap.size R1.out.bel.size rfl (.tmp 16) (.tmp 22) rfl (.slice (some ⟨w1.heap.size,0,none⟩) 0 0) [] 0 (by simp [Act.eval]) R1.out.own (by simp; try omega) ⟨b,o,none⟩ (l.take i) i (i + 1) (by simp [Act.eval]) (by simp; try omega) (by omega) (T1.out _ R1.out.bel) ?_
     intro v5 w5 hown hgr
     have hown2: w5.ownsRow w1.heap.size 9 1 v5 (l.take i).length (L5.svs (l.take i)) := by rw [<- (show 0 + i = (l.take i).length by simp; try omega)]; exact hown
     have R5 := thid ((R1.out).grow hgr rfl hown2)
     clear hown hown2 hgr
     refine hK _ _ (R5.out.bel.cell (p := ⟨p,0,none⟩) pl |>.trans c0) ?_
     clear hK K
     (try simp only [Act.put,HeT.pT])
     refine HeT.one (i := 16) (by kernel_rfl) rfl ?_
     intro K hK
     refine step_strs w1.heap.size R5.out.bel.size rfl (.tmp 23) (.tmp 30) rfl v5 (l.take i) (l.take i).length (by simp [Act.eval]) R5.out.own (by simp; try omega) ⟨b,o,none⟩ (l.drop (i + 1)) 0 0 (by simp [Act.eval]) (by simp; try omega) (by omega) (T2.out _ R5.out.bel) ?_
     intro v7 w7 hown hgr
     have hown2: w7.ownsRow w1.heap.size 9 1 v7 (l.take i ++ l.drop (i + 1)).length (L5.svs (l.take i ++ l.drop (i + 1))) := by rw [<- (show (l.take i).length + 0 = (l.take i ++ l.drop (i + 1)).length by simp; try omega)]; exact hown
     have R7 := thid ((R5.out).grow hgr rfl hown2)
     clear hown hown2 hgr
     refine hK _ _ (R7.out.bel.cell (p := ⟨p,0,none⟩) pl |>.trans c0) ?_
     clear hK K
     (try simp only [Act.put,HeT.pT])
     obtain ⟨a7,c7,rfl⟩ := own_slice R7.out.own
     have k7: w7.cell? ⟨p,0,none⟩ = some (.slice (some ⟨b,o,none⟩) l.length (i + 1)) := R7.out.bel.cell (p := ⟨p,0,none⟩) pl |>.trans c0
     have kl7: p < w7.heap.size := Nat.lt_of_lt_of_le pl R7.out.bel.size
     have kf7: ∀ i,w7.frozen? ⟨p,i,none⟩ = false := fun i => frozen_of_row _ _ _ _ _ ((R7.out.bel.block _ pl).trans HQ1.out)
     have HF := thid (R7.out.stored HB.out (Nat.le_trans hB HB.out.size) HK1.out)
     refine HeT.rest2 (k := 17) rfl (by decide) (by kernel_rfl) ?_
     simp only [List.drop_succ_cons,List.drop_zero]
     clear R7 HQ1 HQ2 HRD HK HK1
     generalize (l.take i ++ l.drop (i + 1)).length = L7 at *
     go_wp2_with fail
     refine NoPanic.normal ?_
     go_wp2
     go_ret
     exact ⟨rfl,HF.out⟩
   · have T2 := thid (fun (W: World) (hbW: Below w1.heap.size w1 W) => (drop_cells HRD.out (i + 1) hbW))
     refine HeT.begin_ (fun w' => w'.cell? ⟨p,0,none⟩ = some (.slice (some ⟨b,o,none⟩) l.length c)) 17 (by kernel_rfl) ?_
     refine HeT.take (i := 0) (v := ?_) rfl (by kernel_rfl) (by kernel_rfl) (by kernel_rfl) (by kernel_rfl) (by decide) (fun _ _ _ h => h) (Or.inl ⟨by rfl, ?_⟩) hHeld ?_
     rotate_left
     · intro w' hSw
       (try dsimp only at hSw)
       go_simp
       (try with_reducible rfl)
     (try simp only [Act.put,HeT.pT])
     refine HeT.take (i := 2) (v := ?_) rfl (by kernel_rfl) (by kernel_rfl) (by kernel_rfl) (by kernel_rfl) (by decide) (fun _ _ _ h => h) (Or.inl ⟨by rfl, ?_⟩) hHeld ?_
     rotate_left
     · intro w' hSw
       (try dsimp only at hSw)
       go_simp
       (try with_reducible rfl)
     (try simp only [Act.put,HeT.pT])
     refine HeT.take (i := 3) (v := ?_) rfl (by kernel_rfl) (by kernel_rfl) (by kernel_rfl) (by kernel_rfl) (by decide) (fun _ _ _ h => h) (Or.inl ⟨by rfl, ?_⟩) hHeld ?_
     rotate_left
     · intro w' hSw
       (try dsimp only at hSw)
       go_simp
       (try with_reducible rfl)
     (try simp only [Act.put,HeT.pT])
     refine HeT.take (i := 4) (v := ?_) rfl (by kernel_rfl) (by kernel_rfl) (by kernel_rfl) (by kernel_rfl) (by decide) (fun _ _ _ h => h) (Or.inl ⟨by rfl, ?_⟩) hHeld ?_
     rotate_left
     · intro w' hSw
       (try dsimp only at hSw)
       go_simp
       (try with_reducible rfl)
     (try simp only [Act.put,HeT.pT])
     refine HeT.take (i := 5) (v := ?_) rfl (by kernel_rfl) (by kernel_rfl) (by kernel_rfl) (by kernel_rfl) (by decide) (fun _ _ _ h => h) (Or.inl ⟨by rfl, ?_⟩) hHeld ?_
     rotate_left
     · intro w' hSw
       (try dsimp only at hSw)
       go_simp
       (try with_reducible rfl)
     (try simp only [Act.put,HeT.pT])
     refine HeT.take (i := 6) (v := ?_) rfl (by kernel_rfl) (by kernel_rfl) (by kernel_rfl) (by kernel_rfl) (by decide) (fun _ _ _ h => h) (Or.inl ⟨by rfl, ?_⟩) hHeld ?_
     rotate_left
     · intro w' hSw
       (try dsimp only at hSw)
       go_simp
       (try with_reducible rfl)
     (try simp only [Act.put,HeT.pT])
     refine HeT.take (i := 7) (v := ?_) rfl (by kernel_rfl) (by kernel_rfl) (by kernel_rfl) (by kernel_rfl) (by decide) (fun _ _ _ h => h) (Or.inl ⟨by rfl, ?_⟩) hHeld ?_
     rotate_left
     · intro w' hSw
       (try dsimp only at hSw)
       go_simp
       (try with_reducible rfl)
     (try simp only [Act.put,HeT.pT])
     refine HeT.take (i := 9) (v := ?_) rfl (by kernel_rfl) (by kernel_rfl) (by kernel_rfl) (by kernel_rfl) (by decide) (fun _ _ _ h => h) (Or.inl ⟨by rfl, ?_⟩) hHeld ?_
     rotate_left
     · intro w' hSw
       (try dsimp only at hSw)
       go_simp
       (try with_reducible rfl)
     (try simp only [Act.put,HeT.pT])
     refine HeT.take (i := 10) (v := ?_) rfl (by kernel_rfl) (by kernel_rfl) (by kernel_rfl) (by kernel_rfl) (by decide) (fun _ _ _ h => h) (Or.inl ⟨by rfl, ?_⟩) hHeld ?_
     rotate_left
     · intro w' hSw
       (try dsimp only at hSw)
       go_simp
       (try with_reducible rfl)
     (try simp only [Act.put,HeT.pT])
     refine HeT.take (i := 11) (v := ?_) rfl (by kernel_rfl) (by kernel_rfl) (by kernel_rfl) (by kernel_rfl) (by decide) (fun _ _ _ h => h) (Or.inl ⟨by rfl, ?_⟩) hHeld ?_
     rotate_left
     · intro w' hSw
       (try dsimp only at hSw)
       go_simp
       (try with_reducible rfl)
     (try simp only [Act.put,HeT.pT])
     refine HeT.take (i := 12) (v := ?_) rfl (by kernel_rfl) (by kernel_rfl) (by kernel_rfl) (by kernel_rfl) (by decide) (fun _ _ _ h => h) (Or.inl ⟨by rfl, ?_⟩) hHeld ?_
     rotate_left
     · intro w' hSw
       (try dsimp only at hSw)
       go_simp
       (try with_reducible rfl)
     (try simp only [Act.put,HeT.pT])
     refine HeT.take (i := 13) (v := ?_) rfl (by kernel_rfl) (by kernel_rfl) (by kernel_rfl) (by kernel_rfl) (by decide) (fun _ _ _ h => h) (Or.inl ⟨by rfl, ?_⟩) hHeld ?_
     rotate_left
     · intro w' hSw
       (try dsimp only at hSw)
       go_simp
       (try with_reducible rfl)
     (try simp only [Act.put,HeT.pT])
     refine HeT.take (i := 14) (v := ?_) rfl (by kernel_rfl) (by kernel_rfl) (by kernel_rfl) (by kernel_rfl) (by decide) (fun _ _ _ h => h) (Or.inl ⟨by rfl, ?_⟩) hHeld ?_
     rotate_left
     · intro w' hSw
       (try dsimp only at hSw)
       go_simp
       (try with_reducible rfl)
     (try simp only [Act.put,HeT.pT])
     refine HeT.take (i := 15) (v := ?_) rfl (by kernel_rfl) (by kernel_rfl) (by kernel_rfl) (by kernel_rfl) (by decide) (fun _ _ _ h => h) (Or.inl ⟨by rfl, ?_⟩) hHeld ?_
     rotate_left
     · intro w' hSw
       (try dsimp only at hSw)
       go_simp
       (try with_reducible rfl)
     (try simp only [Act.put,HeT.pT])
     refine HeT.one (i := 1) (by kernel_rfl) rfl ?_
     intro K hK
     go_simp
     have R1 := thid (RWs.new (U := w1) (Below.refl _ _)).drew
     refine hK _ _ (R1.out.bel.cell (p := ⟨p,0,none⟩) pl |>.trans c0) ?_
     clear hK K
     (try simp only [Act.put,HeT.pT])
     generalize (w1.alloc (.cells #[] 9)).drew = W1 at *
     refine HeT.one (i := 8) (by kernel_rfl) rfl ?_
     intro K hK
     refine step_strs w1.heap.size R1.out.bel.size rfl (.tmp 16) (.tmp 22) rfl (.slice (some ⟨w1.heap.size,0,none⟩) 0 0) [] 0 (by simp [Act.eval]) R1.out.own (by simp; try omega) ⟨b,o,none⟩ (l.take i) i c (by simp [Act.eval]) (by simp; try omega) (by omega) (T1.out _ R1.out.bel) ?_
     intro v5 w5 hown hgr
     have hown2: w5.ownsRow w1.heap.size 9 1 v5 (l.take i).length (L5.svs (l.take i)) := by rw [<- (show 0 + i = (l.take i).length by simp; try omega)]; exact hown
     have R5 := thid ((R1.out).grow hgr rfl hown2)
     clear hown hown2 hgr
     refine hK _ _ (R5.out.bel.cell (p := ⟨p,0,none⟩) pl |>.trans c0) ?_
     clear hK K
     (try simp only [Act.put,HeT.pT])
     refine HeT.one (i := 16) (by kernel_rfl) rfl ?_
     intro K hK
     refine step_strs w1.heap.size R5.out.bel.size rfl (.tmp 23) (.tmp 30) rfl v5 (l.take i) (l.take i).length (by simp [Act.eval]) R5.out.own (by simp; try omega) ⟨b,o + (i + 1),none⟩ (l.drop (i + 1)) (l.length - (i + 1)) (c - (i + 1)) (by simp [Act.eval]) (by simp; try omega) (by omega) (T2.out _ R5.out.bel) ?_
     intro v7 w7 hown hgr
     have hown2: w7.ownsRow w1.heap.size 9 1 v7 (l.take i ++ l.drop (i + 1)).length (L5.svs (l.take i ++ l.drop (i + 1))) := by rw [<- (show (l.take i).length + (l.length - (i + 1)) = (l.take i ++ l.drop (i + 1)).length by simp; try omega)]; exact hown
     have R7 := thid ((R5.out).grow hgr rfl hown2)
     clear hown hown2 hgr
     refine hK _ _ (R7.out.bel.cell (p := ⟨p,0,none⟩) pl |>.trans c0) ?_
     clear hK K
     (try simp only [Act.put,HeT.pT])
     obtain ⟨a7,c7,rfl⟩ := own_slice R7.out.own
     have k7: w7.cell? ⟨p,0,none⟩ = some (.slice (some ⟨b,o,none⟩) l.length c) := R7.out.bel.cell (p := ⟨p,0,none⟩) pl |>.trans c0
     have kl7: p < w7.heap.size := Nat.lt_of_lt_of_le pl R7.out.bel.size
     have kf7: ∀ i,w7.frozen? ⟨p,i,none⟩ = false := fun i => frozen_of_row _ _ _ _ _ ((R7.out.bel.block _ pl).trans HQ1.out)
     have HF := thid (R7.out.stored HB.out (Nat.le_trans hB HB.out.size) HK1.out)
     refine HeT.rest2 (k := 17) rfl (by decide) (by kernel_rfl) ?_
     simp only [List.drop_succ_cons,List.drop_zero]
     clear R7 HQ1 HQ2 HRD HK HK1
     generalize (l.take i ++ l.drop (i + 1)).length = L7 at *
     go_wp2_with fail
     refine NoPanic.normal ?_
     go_wp2
     go_ret
     exact ⟨rfl,HF.out⟩
end Go.Proofs.YtdnkbdjhccckhaaGreat
namespace Go.Proofs.YtdnkbdjhccckhaaGreat
open Go.RowKit
open L4 (Ar ArP Abs arV nv)
open L5 (ltP ltB leB)
theorem first_count {l: List ByteArray} (h: l.Pairwise ltP) (x: ByteArray): L5.firstN l x = l.countP (ltB x) := by
 unfold L5.firstN
 induction l with
 | nil => rfl
 | cons e l ih =>
  rw [List.pairwise_cons] at h
  cases hx: ltB x e with
  | true => simp [hx,ih h.2]
  | false =>
   have hle := ltB_no.1 hx
   have h0: l.countP (ltB x) = 0 := by
    rw [List.countP_eq_zero]
    intro e' he'
    have: ltP x e' := le_lt hle (h.1 e' he')
    rw [show ltB x e' = false from ltB_no.2 (le_of this)]
    decide
   simp [hx,h0]
def insD (l: List ByteArray) (x: ByteArray): Int × List ByteArray := if x.size < 1 \/ 400 < x.size then (15,l) else if L5.isAt l x (l.countP (ltB x)) then (3,l) else (0,insK x l)
def delD (l: List ByteArray) (x: ByteArray): Int × List ByteArray := if L5.isAt l x (l.countP (ltB x)) then (0,delK x l) else (2,l)
theorem SetP.only {B p: Nat} {l: List ByteArray} {w W: World} (k: SetP B p l w) (hb: Below w.heap.size w W): SetP B p l W /\ Only (fun q => q = p) w W := ⟨k.on hb,Only.of_below hb⟩
theorem sins_walk {B p: Nat} {l: List ByteArray} {x: ByteArray} {w: World} (k: SetP B p l w) (hB: B <= w.heap.size) (hl: l.length <= 1000) (hr: l.Pairwise ltP) :
 Calls Tryz.prog 27 #[.pointer (some ⟨p,0,none⟩), .string x] w fun e W => e = .returned (.int .i64 (insD l x).1) /\ SetP B p (insD l x).2 W /\ Only (fun q => q = p) w W := by
 have hf := first_count hr x
 by_cases h1: x.size < 1
 · have e: insD l x = (15,l) := by simp [insD,h1]
   rw [e]
   have h1': (x.size: Int) < 1 := by omega
   have HK := thid k
   clear e k hf
   go_enter Tryz.func27,Tryz.ntmps27
   go_wp2
   go_ret
   exact ⟨rfl,HK.out.only (Below.refl _ _)⟩
 · have h1': ¬ (x.size: Int) < 1 := by omega
   by_cases h2: 400 < x.size
   · have e: insD l x = (15,l) := by simp [insD,h2]
     rw [e]
     have h2': (400: Int) < (x.size: Int) := by omega
     have HK := thid k
     clear e k hf
     go_enter Tryz.func27,Tryz.ntmps27
     go_wp2
     go_ret
     exact ⟨rfl,HK.out.only (Below.refl _ _)⟩
   · have h2': ¬ (400: Int) < (x.size: Int) := by omega
     cases hi: L5.isAt l x (l.countP (ltB x)) with
     | true =>
      have e: insD l x = (3,l) := by simp [insD,h1,h2,hi]
      rw [e]
      have HAT := thid (sat_walk (x := x) k hl)
      rw [hf,hi] at HAT
      have HK := thid k
      clear e k hf hi
      go_enter Tryz.func27,Tryz.ntmps27
      go_wp2_with fail
      refine HAT.out.mono ?_
      rintro e w1 ⟨rfl,hb⟩
      have HB := thid hb
      clear hb HAT
      go_wp2
      go_ret
      exact ⟨rfl,HK.out.only HB.out⟩
     | false =>
      have e: insD l x = (0,insK x l) := by simp [insD,h1,h2,hi]
      rw [e]
      have := sins_new (x := x) k hB hl (by omega) (by omega) (by rw [hf]; exact hi)
      rw [hf] at this
      exact this
theorem sdel_walk {B p: Nat} {l: List ByteArray} {x: ByteArray} {w: World} (k: SetP B p l w) (hB: B <= w.heap.size) (hl: l.length <= 1000) (hr: l.Pairwise ltP) :
 Calls Tryz.prog 28 #[.pointer (some ⟨p,0,none⟩), .string x] w fun e W => e = .returned (.int .i64 (delD l x).1) /\ SetP B p (delD l x).2 W /\ Only (fun q => q = p) w W := by
 have hf := first_count hr x
 cases hi: L5.isAt l x (l.countP (ltB x)) with
 | true =>
  have e: delD l x = (0,delK x l) := by simp [delD,hi]
  rw [e]
  have hcl: l.countP (ltB x) < l.length := by
   have hx := hi
   unfold L5.isAt at hx
   cases hz: l[l.countP (ltB x)]? with
   | none => rw [hz] at hx; cases hx
   | some z => exact (List.getElem?_eq_some_iff.1 hz).1
  have := sdel_there (x := x) k hB hl (by rw [hf]; exact hi) (by rw [hf]; exact hcl)
  rw [hf] at this
  exact this
 | false =>
  have e: delD l x = (2,l) := by simp [delD,hi]
  rw [e]
  have HAT := thid (sat_walk (x := x) k hl)
  rw [hf,hi] at HAT
  have HK := thid k
  clear e k hf hi
  go_enter Tryz.func28,Tryz.ntmps28
  go_wp2_with fail
  refine HAT.out.mono ?_
  rintro e w1 ⟨rfl,hb⟩
  have HB := thid hb
  clear hb HAT
  go_wp2
  go_ret
  exact ⟨rfl,HK.out.only HB.out⟩
structure Both (w0: World) (s: Ar) (t p r h: Nat) (es: List ByteArray) (ps: List Nat) (fs: List ByteArray) (w: World): Prop where
 tw: TW s t r h es ps w
 ru: Ruly s.abs r ps
 st: SetP w0.heap.size p fs w
 bel: Below w0.heap.size w0 w
 own: ∀ k,s.own k -> w0.heap.size <= k
 tl: w0.heap.size <= t
section
variable {w0: World} {s: Ar} {t p r h: Nat} {es: List ByteArray} {ps: List Nat} {fs: List ByteArray} {w w': World}
theorem Both.on (k: Both w0 s t p r h es ps fs w) (hb: Below w.heap.size w w'): Both w0 s t p r h es ps fs w' := ⟨k.tw.on hb,k.ru,k.st.on hb,tbelow_on k.bel hb,k.own,k.tl⟩
theorem SetP.keep {B: Nat} (k: SetP B p fs w) {Z: Nat -> Prop} (ho: Only Z w w') (h1: ∀ q cs,w.heap[q]? = some (.cells cs 35 (0,0)) -> ¬ Z q) (h2: ∀ q cs,w.heap[q]? = some (.cells cs 9 (0,0)) -> ¬ Z q): SetP B p fs w' := by
 obtain ⟨a,c,q1,q2⟩ := k.row
 refine ⟨k.low,a,c,(ho.block _ (Array.getElem?_eq_some_iff.1 q1).1 (h1 _ _ q1)).trans q1,L5.owns_of_block q2 fun q hq => ho.block q (q2.lt q hq).2 ?_⟩
 obtain ⟨cs,hcs⟩ := L4.owns_tag q2 hq
 exact h2 q cs hcs
theorem Both.tree {s': Ar} {r' h': Nat} {es': List ByteArray} {ps': List Nat} (k: Both w0 s t p r h es ps fs w) {ins: Prop} (g: TTo ins s t h es ps w s' r' h' es' ps' w'): Both w0 s' t p r' h' es' ps' fs w' := by
 obtain ⟨g1,g2,g3,g4,g5,g6,_⟩ := g
 refine ⟨g1,g2,k.st.keep g5 (fun q cs hq e => ?_) (fun q cs hq e => ?_),k.bel.trans (g5.below k.bel.size fun q hq e => ?_),fun q hq => ?_,k.tl⟩
 · rcases e with e | e
   · exact not_own k.tw.ar hq (by decide) (by decide) (by decide) e
   · exact tag_ne hq k.tw.tr.blk (by decide) e
 · rcases e with e | e
   · exact not_own k.tw.ar hq (by decide) (by decide) (by decide) e
   · exact tag_ne hq k.tw.tr.blk (by decide) e
 · rcases e with e | e
   · have := k.own q e; omega
   · have := k.tl; omega
 · rcases g6 q hq with e | e
   · exact k.own q e
   · exact Nat.le_trans k.bel.size e
theorem Both.set {fs': List ByteArray} (k: Both w0 s t p r h es ps fs w) (h1: SetP w0.heap.size p fs' w') (h2: Only (fun q => q = p) w w'): Both w0 s t p r h es ps fs' w' := by
 obtain ⟨a,c,q1,q2⟩ := k.st.row
 have oth: ∀ q,q < w.heap.size -> q ≠ p -> w'.heap[q]? = w.heap[q]? := fun q h0 h1 => h2.block q h0 h1
 have ha: ArP s w' := L4.arSt.keep s w w' k.tw.ar (fun q hq => oth q (L4.arSt.lt s w q k.tw.ar hq) fun e => not_own k.tw.ar q1 (by decide) (by decide) (by decide) (e ▸ hq)) (fun q cs hq => oth q (Array.getElem?_eq_some_iff.1 hq).1 (tag_ne hq q1 (by decide)))
 have ht: TrC w' t s.p r h es.length := ⟨(oth t (Array.getElem?_eq_some_iff.1 k.tw.tr.blk).1 (tag_ne k.tw.tr.blk q1 (by decide))).trans k.tw.tr.blk⟩
 exact ⟨⟨ha,k.tw.ok,ht,k.tw.tp⟩,k.ru,h1,k.bel.trans (h2.below k.bel.size fun q hq e => by have := k.st.low; omega),k.own,k.tl⟩
theorem Both.rise (k: Both w0 s t p r h es ps fs w): es.Pairwise ltP := k.tw.tp.sub.rising.2
theorem Both.limit {m: Nat} {s': Ar} (k: Both w0 s t p r h es ps fs w) (hA: ArP s' w') (hp: s'.p = s.p) (hab: s'.abs = { s.abs with q := m }) (hm: m <= 4096) (hM: L4.Moves L4.arSt s s' w w'): Both w0 s' t p r h es ps fs w' := by
 have hat: ∀ q,s'.abs.at q = s.abs.at q := fun q => by rw [hab]; rfl
 have hok: s'.abs.Ok := by rw [hab]; exact ⟨k.tw.ok.low,k.tw.ok.nodup,k.tw.ok.count,k.tw.ok.len,k.tw.ok.small,hm⟩
 have hx: ∀ {q: Nat} {cs: Array Value} {e: TypeId},w.heap[q]? = some (.cells cs e (0,0)) -> ¬ s.own q -> w'.heap[q]? = some (.cells cs e (0,0)) := fun hq hn => (hM.only.block _ (Array.getElem?_eq_some_iff.1 hq).1 hn).trans hq
 refine ⟨⟨hA,hok,⟨by rw [hp]; exact hx k.tw.tr.blk (not_own k.tw.ar k.tw.tr.blk (by decide) (by decide) (by decide))⟩,⟨k.tw.tp.sub.frame fun q _ => hat _,k.tw.tp.len,k.tw.tp.nodup⟩⟩,⟨k.ru.lush.imp id fun hl q hq => (hl q hq).same (hat _),fun n hn => k.ru.root n ⟨(hat _).symm.trans hn.page,hn.shaped,hn.size,hn.small⟩⟩,k.st.keep hM.only (fun q cs hq e => not_own k.tw.ar hq (by decide) (by decide) (by decide) e) (fun q cs hq e => not_own k.tw.ar hq (by decide) (by decide) (by decide) e),k.bel.trans (hM.only.below k.bel.size fun q hq e => by have := k.own q e; omega),fun q hq => ?_,k.tl⟩
 rcases hM.own q hq with e | e
 · exact k.own q e
 · exact Nat.le_trans k.bel.size e
end
end Go.Proofs.YtdnkbdjhccckhaaGreat
