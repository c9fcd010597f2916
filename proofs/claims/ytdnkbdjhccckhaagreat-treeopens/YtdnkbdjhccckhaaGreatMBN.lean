import Derived.Test.YtdnkbdjhccckhaaGreatMBL
import Derived.Test.YtdnkbdjhccckhaaGreatMBM
set_option maxRecDepth 100000
set_option maxHeartbeats 4000000
namespace Go.Proofs.YtdnkbdjhccckhaaGreat
open Go.RowKit
open L5 (ltP ltB leB)
structure SetP (B p: Nat) (l: List ByteArray) (w: World): Prop where
 low: B <= p
 row: ∃ a c,w.heap[p]? = some (.cells #[.slice a l.length c] 35 (0,0)) /\ w.ownsRow B 9 1 (.slice a l.length c) l.length (L5.svs l)
theorem SetP.on {B p: Nat} {l: List ByteArray} {w W: World} (k: SetP B p l w) (hb: Below w.heap.size w W): SetP B p l W := by
 obtain ⟨a,c,h1,h2⟩ := k.row
 exact ⟨k.low,a,c,(hb.block _ (Array.getElem?_eq_some_iff.1 h1).1).trans h1,L5.owns_below h2 hb⟩
theorem sat_walk {B p: Nat} {l: List ByteArray} {x: ByteArray} {w: World} (k: SetP B p l w) (hl: l.length <= 1000) :
 Calls Tryz.prog 26 #[.pointer (some ⟨p,0,none⟩), .string x] w fun e W => e = .returned (.tuple #[.int .i64 (L5.firstN l x: Int), .bool (L5.isAt l x (L5.firstN l x))]) /\ Below w.heap.size w W := by
 obtain ⟨a,c,h1,h2⟩ := k.row
 have HBW := thid (L5.below_walk (n := ⟨false,l,[]⟩) (w := w) (L5.NR.mk (L5.owns_rd_slice h2) (a' := none) (c' := 0) ⟨by simp [L5.ivs],by unfold maxLen; omega,fun j v hj => by cases hj⟩) hl x)
 have c0: w.cell? ⟨p,0,none⟩ = some (.slice a l.length c) := by rw [cell_of_row _ _ _ _ _ _ h1]; rfl
 have pl := (Array.getElem?_eq_some_iff.1 h1).1
 clear h1 h2 k
 unfold L5.nodeV at HBW
 go_enter Tryz.func26,Tryz.ntmps26
 go_wp2_with fail
 refine HBW.out.mono ?_
 rintro e w1 ⟨rfl,hb⟩
 have HB := thid hb
 clear hb HBW
 go_wp2
 go_ret2
 exact ⟨rfl,HB.out⟩
theorem step_strs {ops: Array Oper} {o: Oper} {a: Act} {K: Act -> World -> Prop} {Q: Exit -> Act -> World -> Prop} {E: Prop} {W1: World} (base: Nat) (hbase: base <= W1.heap.size) (hgd: o.guard = none) (s x: Operand) (ho: o.op = .call { callee := .builtin .append,args := #[s,x],argTypes := #[33,33] })
 (v: Value) (l: List ByteArray) (n: Nat) (hs: a.eval s = v) (h: W1.ownsRow base 9 1 v n (L5.svs l)) (hl: n <= 100000) (ad: Addr) (news: List ByteArray) (m cap: Nat) (hx: a.eval x = .slice (some ad) m cap) (hm: news.length = m) (hml: m <= 100000) (hc: ∀ j u,(L5.svs news)[j]? = some u -> W1.cell? (ad.add j) = some u)
 (hK: ∀ v' W',W'.ownsRow base 9 1 v' (n + m) (L5.svs (l ++ news)) -> W1.grownBy W' v.ownBlock -> K (a.put o.dst v') W') :
 if Region.wanted o (yielded ops a.tmps) = true then Oper.wp Tryz.prog o a W1 K Q else E := by
 have hw: Region.wanted o (yielded ops a.tmps) = true := by simp [Region.wanted,hgd]
 rw [if_pos hw]
 obtain ⟨i,hi,hz⟩: ∃ i,Tryz.prog.info? 9 = some i /\ (i.zero,i.size,i.bytes) = (some (.string ⟨#[]⟩),1,16) :=
  Option.map_eq_some_iff.1 (show (Tryz.prog.info? 9).map (fun i => (i.zero,i.size,i.bytes)) = some (some (.string ⟨#[]⟩),1,16) by kernel_rfl)
 simp only [Prod.mk.injEq] at hz
 obtain ⟨h1,h2,h3⟩ := hz
 refine wp_append_own (P := Tryz.prog) W1 s x 33 ho base 9 i _ 1 16 Tryz.underlying33 hi h1 h2 h3 rfl (by decide) v n (L5.svs l) hs h ad m cap (L5.svs news) hx (by rw [L5.svs_length,hm,Nat.mul_one]) hc (L5.one_svs news) (by unfold maxLen; omega) (by omega) hbase ?_
 intro v' W' hown hg _
 refine hK v' W' ?_ hg
 unfold L5.svs at hown ⊢
 rw [List.map_append]
 exact hown
theorem step_none {ops: Array Oper} {o: Oper} {a: Act} {K: Act -> World -> Prop} {Q: Exit -> Act -> World -> Prop} {E: Prop} {W1: World} (base: Nat) (_hbase: base <= W1.heap.size) (hgd: o.guard = none) (s x: Operand) (ho: o.op = .call { callee := .builtin .append,args := #[s,x],argTypes := #[33,33] })
 (v: Value) (l: List ByteArray) (n: Nat) (hs: a.eval s = v) (h: W1.ownsRow base 9 1 v n (L5.svs l)) (_hl: n <= 100000) (hx: a.eval x = .slice none 0 0)
 (hK: ∀ v' W',W'.ownsRow base 9 1 v' n (L5.svs l) -> W1.grownBy W' v.ownBlock -> K (a.put o.dst v') W') :
 if Region.wanted o (yielded ops a.tmps) = true then Oper.wp Tryz.prog o a W1 K Q else E := by
 have hw: Region.wanted o (yielded ops a.tmps) = true := by simp [Region.wanted,hgd]
 rw [if_pos hw]
 obtain ⟨i,hi⟩: ∃ i,Tryz.prog.info? 9 = some i := Option.isSome_iff_exists.1 (by kernel_rfl)
 have hrun := run_append_owned_none (P := Tryz.prog) (w := W1) base 33 o.type 9 i 1 Tryz.underlying33 hi v n (L5.svs l) h
 unfold Oper.wp
 simp [execOp,ho,resolve,invoke,builtin,hs,hx,hrun,Result.andThen]
 exact hK v W1 h ⟨rfl,rfl,rfl,Nat.le_refl _,fun _ _ _ => rfl⟩
structure RWs (U: World) (v: Value) (l: List ByteArray) (wr: World): Prop where
 own: wr.ownsRow U.heap.size 9 1 v l.length (L5.svs l)
 bel: Below U.heap.size U wr
theorem RWs.grow {U: World} {v v': Value} {l l': List ByteArray} {wr w': World} (h: RWs U v l wr) (hg: wr.grownBy w' v.ownBlock) {m: Nat} (hm: l'.length = m) (ho: w'.ownsRow U.heap.size 9 1 v' m (L5.svs l')): RWs U v' l' w' := by
 subst hm
 refine ⟨ho,⟨hg.os.trans h.bel.os,hg.tape.trans h.bel.tape,hg.output.trans h.bel.output,Nat.le_trans h.bel.size hg.size,fun q hq => ?_⟩⟩
 rw [hg.block q (Nat.lt_of_lt_of_le hq h.bel.size) (fun e => by have := (h.own.lt q e.symm).1; omega),h.bel.block q hq]
theorem RWs.alloc {U: World} {v: Value} {l: List ByteArray} {wr: World} (h: RWs U v l wr) (o: Obj): RWs U v l (wr.alloc o) := ⟨L5.owns_below h.own (tbelow _ _),tbelow_on h.bel (tbelow _ _)⟩
theorem RWs.new {U wr: World} (hb: Below U.heap.size U wr): RWs U (.slice (some ⟨wr.heap.size,0,none⟩) 0 0) [] (wr.alloc (.cells #[] 9)) := ⟨owns_low (L5.owns_nil_lit wr 9) hb.size,tbelow_on hb (tbelow _ _)⟩
theorem RWs.drew {U: World} {v: Value} {l: List ByteArray} {wr: World} (h: RWs U v l wr): RWs U v l wr.drew := ⟨L5.owns_of_block h.own fun _ _ => rfl,h.bel.drew⟩
theorem RWs.stored {U w: World} {B p: Nat} {l l0: List ByteArray} {a: Option Addr} {c: Nat} {wr: World} (h: RWs U (.slice a l.length c) l wr) (hb: Below w.heap.size w U) (hB: B <= U.heap.size) (k: SetP B p l0 U): SetP B p l (wr.setCell ⟨p,0,none⟩ (.slice a l.length c)) /\ Only (fun q => q = p) w (wr.setCell ⟨p,0,none⟩ (.slice a l.length c)) := by
 obtain ⟨a0,c0,q1,q2⟩ := k.row
 have pl := (Array.getElem?_eq_some_iff.1 q1).1
 have q3 := (h.bel.block _ pl).trans q1
 refine ⟨⟨k.low,a,c,heap_setCell_same wr p 0 _ _ _ q3, ?_⟩, ?_⟩
 · exact owns_low (ownsRow_setCell_other h.own (a := ⟨p,0,none⟩) (row_ne q3 h.own (by decide)) _) hB
 · exact Only.setCell (S := fun q => q = p) (p := ⟨p,0,none⟩) (Only.of_below (tbelow_on hb h.bel)) (Or.inr rfl) _
theorem one_cells {W: World} {p: Nat} {x: ByteArray} (h: W.heap[p]? = some (.cells #[.string x] 9 (0,0))): ∀ j u,(L5.svs [x])[j]? = some u -> W.cell? ((⟨p,0,none⟩: Addr).add j) = some u := by
 intro j u hj
 match j with
 | 0 =>
  simp [L5.svs] at hj
  subst hj
  rw [Rw.add_none,cell_of_row _ _ _ _ _ _ h]
  rfl
 | j + 1 => simp [L5.svs] at hj
theorem take_cells {U W: World} {b o c: Nat} {l: List ByteArray} (h: L5.Rd U (some ⟨b,o,none⟩) c (L5.svs l)) (i: Nat) (hb: Below U.heap.size U W): ∀ j u,(L5.svs (l.take i))[j]? = some u -> W.cell? ((⟨b,o,none⟩: Addr).add j) = some u := by
 intro j u hj
 have hj': (L5.svs l)[j]? = some u := by
  unfold L5.svs at hj ⊢
  rw [List.getElem?_map,List.getElem?_take] at hj
  split at hj
  · rw [List.getElem?_map]; exact hj
  · cases hj
 obtain ⟨b',o',e,hl,hc⟩ := (h.below hb).2.2 j u hj'
 cases e
 rw [Rw.add_none]
 exact hc
theorem drop_cells {U W: World} {b o c: Nat} {l: List ByteArray} (h: L5.Rd U (some ⟨b,o,none⟩) c (L5.svs l)) (i: Nat) (hb: Below U.heap.size U W): ∀ j u,(L5.svs (l.drop i))[j]? = some u -> W.cell? ((⟨b,o + i,none⟩: Addr).add j) = some u := by
 intro j u hj
 have hj': (L5.svs l)[i + j]? = some u := by
  unfold L5.svs at hj ⊢
  rw [List.getElem?_map,List.getElem?_drop] at hj
  rw [List.getElem?_map]; exact hj
 obtain ⟨b',o',e,hl,hc⟩ := (h.below hb).2.2 _ u hj'
 cases e
 rw [Rw.add_none,Nat.add_assoc]
 exact hc
set_option linter.unusedSimpArgs false in
theorem sins_new {B p: Nat} {l: List ByteArray} {x: ByteArray} {w: World} (k: SetP B p l w) (hB: B <= w.heap.size) (hl: l.length <= 1000) (h1: 1 <= x.size) (h2: x.size <= 400) (hno: L5.isAt l x (L5.firstN l x) = false) :
 Calls Tryz.prog 27 #[.pointer (some ⟨p,0,none⟩), .string x] w fun e W => e = .returned (.int .i64 0) /\ SetP B p (l.take (L5.firstN l x) ++ [x] ++ l.drop (L5.firstN l x)) W /\ Only (fun q => q = p) w W := by
 have HAT := thid (sat_walk (x := x) k hl)
 rw [hno] at HAT
 have HK := thid k
 have h1': ¬ (x.size: Int) < 1 := by omega
 have h2': ¬ (400: Int) < (x.size: Int) := by omega
 obtain ⟨i,hi⟩: ∃ i,Hid (L5.firstN l x = i) := ⟨_,rfl⟩
 rw [hi.out] at HAT ⊢
 clear k hno
 go_enter Tryz.func27,Tryz.ntmps27
 go_wp2_with fail
 refine HAT.out.mono ?_
 rintro e w1 ⟨rfl,hb⟩
 have HB := thid hb
 have HK1 := thid (HK.out.on hb)
 obtain ⟨a,c,q1,q2⟩ := HK1.out.row
 have c0: w1.cell? ⟨p,0,none⟩ = some (.slice a l.length c) := by rw [cell_of_row _ _ _ _ _ _ q1]; rfl
 have pl := (Array.getElem?_eq_some_iff.1 q1).1
 have pf: ∀ i,w1.frozen? ⟨p,i,none⟩ = false := fun i => frozen_of_row _ _ _ _ _ q1
 clear hb HAT
 have il: i <= l.length := by rw [<- hi.out]; exact L5.firstN_le _ _
 have hrd := L5.owns_rd_slice q2
 have hlc: l.length <= c := by have := hrd.1; simpa [L5.svs] using this
 have HRD := thid hrd
 have HQ1 := thid q1
 have HQ2 := thid q2
 clear q1 q2 hrd
 have hHeld: w1.drew.cell? ⟨p,0,none⟩ = some (.slice a l.length c) := c0
 go_wp2_with fail
 rcases a with _ | ⟨b,o,sp⟩
 · have hz: l = [] /\ c = 0 := by
    rcases HQ2.out.2 with ⟨e,hn⟩ | ⟨g,cap,cur,e,_⟩
    · injection e with _ e1 e2
      exact ⟨List.length_eq_zero_iff.1 e1,e2⟩
    · cases e
   obtain ⟨rfl,rfl⟩ := hz
   have hi0: i = 0 := by simpa using il
   subst hi0
   refine HeT.begin_ (fun w' => w'.cell? ⟨p,0,none⟩ = some (.slice none 0 0)) 19 (by kernel_rfl) ?_
   refine HeT.take (i := 0) (v := ?_) rfl (by kernel_rfl) (by kernel_rfl) (by kernel_rfl) (by kernel_rfl) (by decide) (fun _ _ _ h => h) (Or.inl ⟨by rfl, ?_⟩) hHeld ?_
   rotate_left
   · intro w' hSw
     (try dsimp only at hSw)
     go_simp
     (try with_reducible rfl)
   (try simp only [Act.put,HeT.pT])
   refine HeT.take (i := 2) (v := ?_) rfl (by kernel_rfl) (by kernel_rfl) (by kernel_rfl) (by kernel_rfl) (by decide) (fun _ _ _ h => h) (Or.inl ⟨by rfl, ?_⟩) hHeld ?_
   rotate_left
   · intro w' hSw
     (try dsimp only at hSw)
     go_simp
     (try with_reducible rfl)
   (try simp only [Act.put,HeT.pT])
   refine HeT.take (i := 3) (v := ?_) rfl (by kernel_rfl) (by kernel_rfl) (by kernel_rfl) (by kernel_rfl) (by decide) (fun _ _ _ h => h) (Or.inl ⟨by rfl, ?_⟩) hHeld ?_
   rotate_left
   · intro w' hSw
     (try dsimp only at hSw)
     go_simp
     (try with_reducible rfl)
   (try simp only [Act.put,HeT.pT])
   refine HeT.take (i := 4) (v := ?_) rfl (by kernel_rfl) (by kernel_rfl) (by kernel_rfl) (by kernel_rfl) (by decide) (fun _ _ _ h => h) (Or.inl ⟨by rfl, ?_⟩) hHeld ?_
   rotate_left
   · intro w' hSw
     (try dsimp only at hSw)
     go_simp
     (try with_reducible rfl)
   (try simp only [Act.put,HeT.pT])
   refine HeT.take (i := 5) (v := ?_) rfl (by kernel_rfl) (by kernel_rfl) (by kernel_rfl) (by kernel_rfl) (by decide) (fun _ _ _ h => h) (Or.inl ⟨by rfl, ?_⟩) hHeld ?_
   rotate_left
   · intro w' hSw
     (try dsimp only at hSw)
     go_simp
     (try with_reducible rfl)
   (try simp only [Act.put,HeT.pT])
   refine HeT.take (i := 6) (v := ?_) rfl (by kernel_rfl) (by kernel_rfl) (by kernel_rfl) (by kernel_rfl) (by decide) (fun _ _ _ h => h) (Or.inl ⟨by rfl, ?_⟩) hHeld ?_
   rotate_left
   · intro w' hSw
     (try dsimp only at hSw)
     go_simp
     (try with_reducible rfl)
   (try simp only [Act.put,HeT.pT])
   refine HeT.take (i := 7) (v := ?_) rfl (by kernel_rfl) (by kernel_rfl) (by kernel_rfl) (by kernel_rfl) (by decide) (fun _ _ _ h => h) (Or.inl ⟨by rfl, ?_⟩) hHeld ?_
   rotate_left
   · intro w' hSw
     (try dsimp only at hSw)
     go_simp
     (try with_reducible rfl)
   (try simp only [Act.put,HeT.pT])
   refine HeT.take (i := 9) (v := ?_) rfl (by kernel_rfl) (by kernel_rfl) (by kernel_rfl) (by kernel_rfl) (by decide) (fun _ _ _ h => h) (Or.inl ⟨by rfl, ?_⟩) hHeld ?_
   rotate_left
   · intro w' hSw
     (try dsimp only at hSw)
     go_simp
     (try with_reducible rfl)
   (try simp only [Act.put,HeT.pT])
   refine HeT.take (i := 12) (v := ?_) rfl (by kernel_rfl) (by kernel_rfl) (by kernel_rfl) (by kernel_rfl) (by decide) (fun _ _ _ h => h) (Or.inl ⟨by rfl, ?_⟩) hHeld ?_
   rotate_left
   · intro w' hSw
     (try dsimp only at hSw)
     go_simp
     (try with_reducible rfl)
   (try simp only [Act.put,HeT.pT])
   refine HeT.take (i := 13) (v := ?_) rfl (by kernel_rfl) (by kernel_rfl) (by kernel_rfl) (by kernel_rfl) (by decide) (fun _ _ _ h => h) (Or.inl ⟨by rfl, ?_⟩) hHeld ?_
   rotate_left
   · intro w' hSw
     (try dsimp only at hSw)
     go_simp
     (try with_reducible rfl)
   (try simp only [Act.put,HeT.pT])
   refine HeT.take (i := 14) (v := ?_) rfl (by kernel_rfl) (by kernel_rfl) (by kernel_rfl) (by kernel_rfl) (by decide) (fun _ _ _ h => h) (Or.inl ⟨by rfl, ?_⟩) hHeld ?_
   rotate_left
   · intro w' hSw
     (try dsimp only at hSw)
     go_simp
     (try with_reducible rfl)
   (try simp only [Act.put,HeT.pT])
   refine HeT.take (i := 15) (v := ?_) rfl (by kernel_rfl) (by kernel_rfl) (by kernel_rfl) (by kernel_rfl) (by decide) (fun _ _ _ h => h) (Or.inl ⟨by rfl, ?_⟩) hHeld ?_
   rotate_left
   · intro w' hSw
     (try dsimp only at hSw)
     go_simp
     (try with_reducible rfl)
   (try simp only [Act.put,HeT.pT])
   refine HeT.take (i := 16) (v := ?_) rfl (by kernel_rfl) (by kernel_rfl) (by kernel_rfl) (by kernel_rfl) (by decide) (fun _ _ _ h => h) (Or.inl ⟨by rfl, ?_⟩) hHeld ?_
   rotate_left
   · intro w' hSw
     (try dsimp only at hSw)
     go_simp
     (try with_reducible rfl)
   (try simp only [Act.put,HeT.pT])
   refine HeT.take (i := 17) (v := ?_) rfl (by kernel_rfl) (by kernel_rfl) (by kernel_rfl) (by kernel_rfl) (by decide) (fun _ _ _ h => h) (Or.inl ⟨by rfl, ?_⟩) hHeld ?_
   rotate_left
   · intro w' hSw
     (try dsimp only at hSw)
     go_simp
     (try with_reducible rfl)
   (try simp only [Act.put,HeT.pT])
   refine HeT.two (i := 1) (j := 10) (by kernel_rfl) rfl rfl ?_ ?_
   · skip
     intro K hK
     go_simp
     have R1 := thid (RWs.new (U := w1) (Below.refl _ _)).drew
     refine hK _ _ (R1.out.bel.cell (p := ⟨p,0,none⟩) pl |>.trans c0) ?_
     clear hK K
     (try simp only [Act.put,HeT.pT])
     generalize (w1.alloc (.cells #[] 9)).drew = W1 at *
     refine HeT.two (i := 8) (j := 10) (by kernel_rfl) rfl rfl ?_ ?_
     · skip
       intro K hK
       refine step_none w1.heap.size R1.out.bel.size rfl (.tmp 23) (.tmp 29) rfl (.slice (some ⟨w1.heap.size,0,none⟩) 0 0) [] 0 (by simp [Act.eval]) R1.out.own (by simp; try omega) (by simp [Act.eval]) ?_
       intro v5 w5 hown hgr
       have hown2: w5.ownsRow w1.heap.size 9 1 v5 (([]: List ByteArray)).length (L5.svs (([]: List ByteArray))) := by rw [<- (show 0 = (([]: List ByteArray)).length by simp; try omega)]; exact hown
       have R5 := thid ((R1.out).grow hgr rfl hown2)
       clear hown hown2 hgr
       refine hK _ _ (R5.out.bel.cell (p := ⟨p,0,none⟩) pl |>.trans c0) ?_
       clear hK K
       (try simp only [Act.put,HeT.pT])
       refine HeT.one (i := 10) (by kernel_rfl) rfl ?_
       intro K hK
       go_simp
       have R5a := thid (R5.out.alloc (.cells #[.string x] 9))
       have X5 := thid (one_cells (W := w5.alloc (.cells #[.string x] 9)) (x := x) (heap_alloc_new w5 _))
       refine hK _ _ (R5a.out.bel.cell (p := ⟨p,0,none⟩) pl |>.trans c0) ?_
       clear hK K
       (try simp only [Act.put,HeT.pT])
       generalize hw5: w5.alloc (.cells #[.string x] 9) = W5 at *
       clear hw5
       refine HeT.one (i := 11) (by kernel_rfl) rfl ?_
       intro K hK
       refine step_strs w1.heap.size R5a.out.bel.size rfl (.tmp 30) (.tmp 32) rfl v5 (([]: List ByteArray)) (([]: List ByteArray)).length (by simp [Act.eval]) R5a.out.own (by simp; try omega) ⟨w5.heap.size,0,none⟩ [x] 1 1 (by simp [Act.eval]) (by simp; try omega) (by omega) X5.out ?_
       intro v6 w6 hown hgr
       have hown2: w6.ownsRow w1.heap.size 9 1 v6 (([]: List ByteArray) ++ [x]).length (L5.svs (([]: List ByteArray) ++ [x])) := by rw [<- (show (([]: List ByteArray)).length + 1 = (([]: List ByteArray) ++ [x]).length by simp; try omega)]; exact hown
       have R6 := thid ((R5a.out).grow hgr rfl hown2)
       clear hown hown2 hgr
       refine hK _ _ (R6.out.bel.cell (p := ⟨p,0,none⟩) pl |>.trans c0) ?_
       clear hK K
       (try simp only [Act.put,HeT.pT])
       refine HeT.one (i := 18) (by kernel_rfl) rfl ?_
       intro K hK
       refine step_none w1.heap.size R6.out.bel.size rfl (.tmp 33) (.tmp 39) rfl v6 (([]: List ByteArray) ++ [x]) (([]: List ByteArray) ++ [x]).length (by simp [Act.eval]) R6.out.own (by simp; try omega) (by simp [Act.eval]) ?_
       intro v7 w7 hown hgr
       have hown2: w7.ownsRow w1.heap.size 9 1 v7 (([]: List ByteArray) ++ [x]).length (L5.svs (([]: List ByteArray) ++ [x])) := by rw [<- (show (([]: List ByteArray) ++ [x]).length = (([]: List ByteArray) ++ [x]).length by simp; try omega)]; exact hown
       have R7 := thid ((R6.out).grow hgr rfl hown2)
       clear hown hown2 hgr
       refine hK _ _ (R7.out.bel.cell (p := ⟨p,0,none⟩) pl |>.trans c0) ?_
       clear hK K
       (try simp only [Act.put,HeT.pT])
       obtain ⟨a7,c7,rfl⟩ := own_slice R7.out.own
       have k7: w7.cell? ⟨p,0,none⟩ = some (.slice none 0 0) := R7.out.bel.cell (p := ⟨p,0,none⟩) pl |>.trans c0
       have kl7: p < w7.heap.size := Nat.lt_of_lt_of_le pl R7.out.bel.size
       have kf7: ∀ i,w7.frozen? ⟨p,i,none⟩ = false := fun i => frozen_of_row _ _ _ _ _ ((R7.out.bel.block _ pl).trans HQ1.out)
       have HF := thid (R7.out.stored HB.out (Nat.le_trans hB HB.out.size) HK1.out)
       refine HeT.rest2 (k := 19) rfl (by decide) (by kernel_rfl) ?_
       simp only [List.drop_succ_cons,List.drop_zero]
       clear R7 HQ1 HQ2 HRD HK HK1
       generalize (([]: List ByteArray) ++ [x]).length = L7 at *
       go_wp2_with fail
       refine NoPanic.normal ?_
       go_wp2
       go_ret
       exact ⟨rfl,HF.out⟩
     · skip
       intro K hK
       go_simp
       have R1a := thid (R1.out.alloc (.cells #[.string x] 9))
       have X1 := thid (heap_alloc_new W1 (.cells #[.string x] 9))
       refine hK _ _ (R1a.out.bel.cell (p := ⟨p,0,none⟩) pl |>.trans c0) ?_
       clear hK K
       (try simp only [Act.put,HeT.pT])
       have hx1: w1.heap.size ≠ W1.heap.size := fun e => by have := R1.out.own.lt w1.heap.size rfl; omega
       generalize hxw: W1.alloc (.cells #[.string x] 9) = W2 at *
       clear hxw
       refine HeT.one (i := 8) (by kernel_rfl) rfl ?_
       intro K hK
       refine step_none w1.heap.size R1a.out.bel.size rfl (.tmp 23) (.tmp 29) rfl (.slice (some ⟨w1.heap.size,0,none⟩) 0 0) [] 0 (by simp [Act.eval]) R1a.out.own (by simp; try omega) (by simp [Act.eval]) ?_
       intro v5 w5 hown hgr
       have hown2: w5.ownsRow w1.heap.size 9 1 v5 (([]: List ByteArray)).length (L5.svs (([]: List ByteArray))) := by rw [<- (show 0 = (([]: List ByteArray)).length by simp; try omega)]; exact hown
       have R5 := thid ((R1a.out).grow hgr rfl hown2)
       have X5 := thid (one_cells (W := w5) (x := x) ((hgr.block _ (Array.getElem?_eq_some_iff.1 X1.out).1 (fun e => hx1 (by simpa [Value.ownBlock] using e.symm))).trans X1.out))
       clear hown hown2 hgr
       refine hK _ _ (R5.out.bel.cell (p := ⟨p,0,none⟩) pl |>.trans c0) ?_
       clear hK K
       (try simp only [Act.put,HeT.pT])
       refine HeT.one (i := 11) (by kernel_rfl) rfl ?_
       intro K hK
       refine step_strs w1.heap.size R5.out.bel.size rfl (.tmp 30) (.tmp 32) rfl v5 (([]: List ByteArray)) (([]: List ByteArray)).length (by simp [Act.eval]) R5.out.own (by simp; try omega) ⟨W1.heap.size,0,none⟩ [x] 1 1 (by simp [Act.eval]) (by simp; try omega) (by omega) X5.out ?_
       intro v6 w6 hown hgr
       have hown2: w6.ownsRow w1.heap.size 9 1 v6 (([]: List ByteArray) ++ [x]).length (L5.svs (([]: List ByteArray) ++ [x])) := by rw [<- (show (([]: List ByteArray)).length + 1 = (([]: List ByteArray) ++ [x]).length by simp; try omega)]; exact hown
       have R6 := thid ((R5.out).grow hgr rfl hown2)
       clear hown hown2 hgr
       refine hK _ _ (R6.out.bel.cell (p := ⟨p,0,none⟩) pl |>.trans c0) ?_
       clear hK K
       (try simp only [Act.put,HeT.pT])
       refine HeT.one (i := 18) (by kernel_rfl) rfl ?_
       intro K hK
       refine step_none w1.heap.size R6.out.bel.size rfl (.tmp 33) (.tmp 39) rfl v6 (([]: List ByteArray) ++ [x]) (([]: List ByteArray) ++ [x]).length (by simp [Act.eval]) R6.out.own (by simp; try omega) (by simp [Act.eval]) ?_
       intro v7 w7 hown hgr
       have hown2: w7.ownsRow w1.heap.size 9 1 v7 (([]: List ByteArray) ++ [x]).length (L5.svs (([]: List ByteArray) ++ [x])) := by rw [<- (show (([]: List ByteArray) ++ [x]).length = (([]: List ByteArray) ++ [x]).length by simp; try omega)]; exact hown
       have R7 := thid ((R6.out).grow hgr rfl hown2)
       clear hown hown2 hgr
       refine hK _ _ (R7.out.bel.cell (p := ⟨p,0,none⟩) pl |>.trans c0) ?_
       clear hK K
       (try simp only [Act.put,HeT.pT])
       obtain ⟨a7,c7,rfl⟩ := own_slice R7.out.own
       have k7: w7.cell? ⟨p,0,none⟩ = some (.slice none 0 0) := R7.out.bel.cell (p := ⟨p,0,none⟩) pl |>.trans c0
       have kl7: p < w7.heap.size := Nat.lt_of_lt_of_le pl R7.out.bel.size
       have kf7: ∀ i,w7.frozen? ⟨p,i,none⟩ = false := fun i => frozen_of_row _ _ _ _ _ ((R7.out.bel.block _ pl).trans HQ1.out)
       have HF := thid (R7.out.stored HB.out (Nat.le_trans hB HB.out.size) HK1.out)
       refine HeT.rest2 (k := 19) rfl (by decide) (by kernel_rfl) ?_
       simp only [List.drop_succ_cons,List.drop_zero]
       clear R7 HQ1 HQ2 HRD HK HK1
       generalize (([]: List ByteArray) ++ [x]).length = L7 at *
       go_wp2_with fail
       refine NoPanic.normal ?_
       go_wp2
       go_ret
       exact ⟨rfl,HF.out⟩
   · skip
     intro K hK
     go_simp
     have B1 := thid ((tbelow w1 (.cells #[.string x] 9)).drew)
     have X1: Hid ((w1.alloc (.cells #[.string x] 9)).drew.heap[w1.heap.size]? = some (.cells #[.string x] 9 (0,0))) := heap_alloc_new w1 (.cells #[.string x] 9)
     refine hK _ _ (B1.out.cell (p := ⟨p,0,none⟩) pl |>.trans c0) ?_
     clear hK K
     (try simp only [Act.put,HeT.pT])
     generalize (w1.alloc (.cells #[.string x] 9)).drew = W1 at *
     refine HeT.one (i := 1) (by kernel_rfl) rfl ?_
     intro K hK
     go_simp
     have R1a := thid (RWs.new (U := w1) B1.out)
     have X2: Hid ((W1.alloc (.cells #[] 9)).heap[w1.heap.size]? = some (.cells #[.string x] 9 (0,0))) := ((tbelow W1 _).block _ (Array.getElem?_eq_some_iff.1 X1.out).1).trans X1.out
     refine hK _ _ (R1a.out.bel.cell (p := ⟨p,0,none⟩) pl |>.trans c0) ?_
     clear hK K
     (try simp only [Act.put,HeT.pT])
     have hx1: W1.heap.size ≠ w1.heap.size := fun e => by have := (Array.getElem?_eq_some_iff.1 X1.out).1; omega
     generalize hxw: W1.alloc (.cells #[] 9) = W2 at *
     clear hxw
     refine HeT.one (i := 8) (by kernel_rfl) rfl ?_
     intro K hK
     refine step_none w1.heap.size R1a.out.bel.size rfl (.tmp 23) (.tmp 29) rfl (.slice (some ⟨W1.heap.size,0,none⟩) 0 0) [] 0 (by simp [Act.eval]) R1a.out.own (by simp; try omega) (by simp [Act.eval]) ?_
     intro v5 w5 hown hgr
     have hown2: w5.ownsRow w1.heap.size 9 1 v5 (([]: List ByteArray)).length (L5.svs (([]: List ByteArray))) := by rw [<- (show 0 = (([]: List ByteArray)).length by simp; try omega)]; exact hown
     have R5 := thid ((R1a.out).grow hgr rfl hown2)
     have X5 := thid (one_cells (W := w5) (x := x) ((hgr.block _ (Array.getElem?_eq_some_iff.1 X2.out).1 (fun e => hx1 (by simpa [Value.ownBlock] using e.symm))).trans X2.out))
     clear hown hown2 hgr
     refine hK _ _ (R5.out.bel.cell (p := ⟨p,0,none⟩) pl |>.trans c0) ?_
     clear hK K
     (try simp only [Act.put,HeT.pT])
     refine HeT.one (i := 11) (by kernel_rfl) rfl ?_
     intro K hK
     refine step_strs w1.heap.size R5.out.bel.size rfl (.tmp 30) (.tmp 32) rfl v5 (([]: List ByteArray)) (([]: List ByteArray)).length (by simp [Act.eval]) R5.out.own (by simp; try omega) ⟨w1.heap.size,0,none⟩ [x] 1 1 (by simp [Act.eval]) (by simp; try omega) (by omega) X5.out ?_
     intro v6 w6 hown hgr
     have hown2: w6.ownsRow w1.heap.size 9 1 v6 (([]: List ByteArray) ++ [x]).length (L5.svs (([]: List ByteArray) ++ [x])) := by rw [<- (show (([]: List ByteArray)).length + 1 = (([]: List ByteArray) ++ [x]).length by simp; try omega)]; exact hown
     have R6 := thid ((R5.out).grow hgr rfl hown2)
     clear hown hown2 hgr
     refine hK _ _ (R6.out.bel.cell (p := ⟨p,0,none⟩) pl |>.trans c0) ?_
     clear hK K
     (try simp only [Act.put,HeT.pT])
     refine HeT.one (i := 18) (by kernel_rfl) rfl ?_
     intro K hK
     refine step_none w1.heap.size R6.out.bel.size rfl (.tmp 33) (.tmp 39) rfl v6 (([]: List ByteArray) ++ [x]) (([]: List ByteArray) ++ [x]).length (by simp [Act.eval]) R6.out.own (by simp; try omega) (by simp [Act.eval]) ?_
     intro v7 w7 hown hgr
     have hown2: w7.ownsRow w1.heap.size 9 1 v7 (([]: List ByteArray) ++ [x]).length (L5.svs (([]: List ByteArray) ++ [x])) := by rw [<- (show (([]: List ByteArray) ++ [x]).length = (([]: List ByteArray) ++ [x]).length by simp; try omega)]; exact hown
     have R7 := thid ((R6.out).grow hgr rfl hown2)
     clear hown hown2 hgr
     refine hK _ _ (R7.out.bel.cell (p := ⟨p,0,none⟩) pl |>.trans c0) ?_
     clear hK K
     (try simp only [Act.put,HeT.pT])
     obtain ⟨a7,c7,rfl⟩ := own_slice R7.out.own
     have k7: w7.cell? ⟨p,0,none⟩ = some (.slice none 0 0) := R7.out.bel.cell (p := ⟨p,0,none⟩) pl |>.trans c0
     have kl7: p < w7.heap.size := Nat.lt_of_lt_of_le pl R7.out.bel.size
     have kf7: ∀ i,w7.frozen? ⟨p,i,none⟩ = false := fun i => frozen_of_row _ _ _ _ _ ((R7.out.bel.block _ pl).trans HQ1.out)
     have HF := thid (R7.out.stored HB.out (Nat.le_trans hB HB.out.size) HK1.out)
     refine HeT.rest2 (k := 19) rfl (by decide) (by kernel_rfl) ?_
     simp only [List.drop_succ_cons,List.drop_zero]
     clear R7 HQ1 HQ2 HRD HK HK1
     generalize (([]: List ByteArray) ++ [x]).length = L7 at *
     go_wp2_with fail
     refine NoPanic.normal ?_
     go_wp2
     go_ret
     exact ⟨rfl,HF.out⟩
 · have hsp: sp = none := by
    rcases HQ2.out.2 with ⟨e,hn⟩ | ⟨g,cap,cur,e,_⟩
    · cases e
    · injection e with e1 _ _
      injection e1 with e1
      injection e1
   subst hsp
   have i1: (i: Int) <= (c: Int) := by omega
   have i2: (i: Int) <= (l.length: Int) := by omega
   have i3: (l.length: Int) <= (c: Int) := by omega
   have T1 := thid (fun (W: World) (hbW: Below w1.heap.size w1 W) => (take_cells HRD.out i hbW))
   by_cases hcA: c = i
   · have T2: Hid (∀ (W: World),Below w1.heap.size w1 W -> ∀ j u,(L5.svs (l.drop i))[j]? = some u -> W.cell? ((⟨b,o,none⟩: Addr).add j) = some u) := fun W _ j u hj => by
      rw [List.drop_of_length_le (by omega)] at hj
      simp [L5.svs] at hj
     have hc2 := hcA.symm
     subst hc2
     clear hcA
     refine HeT.begin_ (fun w' => w'.cell? ⟨p,0,none⟩ = some (.slice (some ⟨b,o,none⟩) l.length i)) 19 (by kernel_rfl) ?_
     refine HeT.take (i := 0) (v := ?_) rfl (by kernel_rfl) (by kernel_rfl) (by kernel_rfl) (by kernel_rfl) (by decide) (fun _ _ _ h => h) (Or.inl ⟨by rfl, ?_⟩) hHeld ?_
     rotate_left
     · intro w' hSw
       (try dsimp only at hSw)
       go_simp
       (try with_reducible rfl)
     (try simp only [Act.put,HeT.pT])
     refine HeT.take (i := 2) (v := ?_) rfl (by kernel_rfl) (by kernel_rfl) (by kernel_rfl) (by kernel_rfl) (by decide) (fun _ _ _ h => h) (Or.inl ⟨by rfl, ?_⟩) hHeld ?_
     rotate_left
     · intro w' hSw
       (try dsimp only at hSw)
       go_simp
       (try with_reducible rfl)
     (try simp only [Act.put,HeT.pT])
     refine HeT.take (i := 3) (v := ?_) rfl (by kernel_rfl) (by kernel_rfl) (by kernel_rfl) (by kernel_rfl) (by decide) (fun _ _ _ h => h) (Or.inl ⟨by rfl, ?_⟩) hHeld ?_
     rotate_left
     · intro w' hSw
       (try dsimp only at hSw)
       go_simp
       (try with_reducible rfl)
     (try simp only [Act.put,HeT.pT])
     refine HeT.take (i := 4) (v := ?_) rfl (by kernel_rfl) (by kernel_rfl) (by kernel_rfl) (by kernel_rfl) (by decide) (fun _ _ _ h => h) (Or.inl ⟨by rfl, ?_⟩) hHeld ?_
     rotate_left
     · intro w' hSw
       (try dsimp only at hSw)
       go_simp
       (try with_reducible rfl)
     (try simp only [Act.put,HeT.pT])
     refine HeT.take (i := 5) (v := ?_) rfl (by kernel_rfl) (by kernel_rfl) (by kernel_rfl) (by kernel_rfl) (by decide) (fun _ _ _ h => h) (Or.inl ⟨by rfl, ?_⟩) hHeld ?_
     rotate_left
     · intro w' hSw
       (try dsimp only at hSw)
       go_simp
       (try with_reducible rfl)
     (try simp only [Act.put,HeT.pT])
     refine HeT.take (i := 6) (v := ?_) rfl (by kernel_rfl) (by kernel_rfl) (by kernel_rfl) (by kernel_rfl) (by decide) (fun _ _ _ h => h) (Or.inl ⟨by rfl, ?_⟩) hHeld ?_
     rotate_left
     · intro w' hSw
       (try dsimp only at hSw)
       go_simp
       (try with_reducible rfl)
     (try simp only [Act.put,HeT.pT])
     refine HeT.take (i := 7) (v := ?_) rfl (by kernel_rfl) (by kernel_rfl) (by kernel_rfl) (by kernel_rfl) (by decide) (fun _ _ _ h => h) (Or.inl ⟨by rfl, ?_⟩) hHeld ?_
     rotate_left
     · intro w' hSw
       (try dsimp only at hSw)
       go_simp
       (try with_reducible rfl)
     (try simp only [Act.put,HeT.pT])
     refine HeT.take (i := 9) (v := ?_) rfl (by kernel_rfl) (by kernel_rfl) (by kernel_rfl) (by kernel_rfl) (by decide) (fun _ _ _ h => h) (Or.inl ⟨by rfl, ?_⟩) hHeld ?_
     rotate_left
     · intro w' hSw
       (try dsimp only at hSw)
       go_simp
       (try with_reducible rfl)
     (try simp only [Act.put,HeT.pT])
     refine HeT.take (i := 12) (v := ?_) rfl (by kernel_rfl) (by kernel_rfl) (by kernel_rfl) (by kernel_rfl) (by decide) (fun _ _ _ h => h) (Or.inl ⟨by rfl, ?_⟩) hHeld ?_
     rotate_left
     · intro w' hSw
       (try dsimp only at hSw)
       go_simp
       (try with_reducible rfl)
     (try simp only [Act.put,HeT.pT])
     refine HeT.take (i := 13) (v := ?_) rfl (by kernel_rfl) (by kernel_rfl) (by kernel_rfl) (by kernel_rfl) (by decide) (fun _ _ _ h => h) (Or.inl ⟨by rfl, ?_⟩) hHeld ?_
     rotate_left
     · intro w' hSw
       (try dsimp only at hSw)
       go_simp
       (try with_reducible rfl)
     (try simp only [Act.put,HeT.pT])
     refine HeT.take (i := 14) (v := ?_) rfl (by kernel_rfl) (by kernel_rfl) (by kernel_rfl) (by kernel_rfl) (by decide) (fun _ _ _ h => h) (Or.inl ⟨by rfl, ?_⟩) hHeld ?_
     rotate_left
     · intro w' hSw
       (try dsimp only at hSw)
       go_simp
       (try with_reducible rfl)
     (try simp only [Act.put,HeT.pT])
     refine HeT.take (i := 15) (v := ?_) rfl (by kernel_rfl) (by kernel_rfl) (by kernel_rfl) (by kernel_rfl) (by decide) (fun _ _ _ h => h) (Or.inl ⟨by rfl, ?_⟩) hHeld ?_
     rotate_left
     · intro w' hSw
       (try dsimp only at hSw)
       go_simp
       (try with_reducible rfl)
     (try simp only [Act.put,HeT.pT])
     refine HeT.take (i := 16) (v := ?_) rfl (by kernel_rfl) (by kernel_rfl) (by kernel_rfl) (by kernel_rfl) (by decide) (fun _ _ _ h => h) (Or.inl ⟨by rfl, ?_⟩) hHeld ?_
     rotate_left
     · intro w' hSw
       (try dsimp only at hSw)
       go_simp
       (try with_reducible rfl)
     (try simp only [Act.put,HeT.pT])
     refine HeT.take (i := 17) (v := ?_) rfl (by kernel_rfl) (by kernel_rfl) (by kernel_rfl) (by kernel_rfl) (by decide) (fun _ _ _ h => h) (Or.inl ⟨by rfl, ?_⟩) hHeld ?_
     rotate_left
     · intro w' hSw
       (try dsimp only at hSw)
       go_simp
       (try with_reducible rfl)
     (try simp only [Act.put,HeT.pT])
     refine HeT.two (i := 1) (j := 10) (by kernel_rfl) rfl rfl ?_ ?_
     · skip
       intro K hK
       go_simp
       have R1 := thid (RWs.new (U := w1) (Below.refl _ _)).drew
       refine hK _ _ (R1.out.bel.cell (p := ⟨p,0,none⟩) pl |>.trans c0) ?_
       clear hK K
       (try simp only [Act.put,HeT.pT])
       generalize (w1.alloc (.cells #[] 9)).drew = W1 at *
       refine HeT.two (i := 8) (j := 10) (by kernel_rfl) rfl rfl ?_ ?_
       · skip
         intro K hK
         refine step_strs w1.heap.size R1.out.bel.size rfl (.tmp 23) (.tmp 29) rfl (.slice (some ⟨w1.heap.size,0,none⟩) 0 0) [] 0 (by simp [Act.eval]) R1.out.own (by simp; try omega) ⟨b,o,none⟩ (l.take i) i i (by simp [Act.eval]) (by simp; try omega) (by omega) (T1.out _ R1.out.bel) ?_
         intro v5 w5 hown hgr
         have hown2: w5.ownsRow w1.heap.size 9 1 v5 (l.take i).length (L5.svs (l.take i)) := by rw [<- (show 0 + i = (l.take i).length by simp; try omega)]; exact hown
         have R5 := thid ((R1.out).grow hgr rfl hown2)
         clear hown hown2 hgr
         refine hK _ _ (R5.out.bel.cell (p := ⟨p,0,none⟩) pl |>.trans c0) ?_
         clear hK K
         (try simp only [Act.put,HeT.pT])
         refine HeT.one (i := 10) (by kernel_rfl) rfl ?_
         intro K hK
         go_simp
         have R5a := thid (R5.out.alloc (.cells #[.string x] 9))
         have X5 := thid (one_cells (W := w5.alloc (.cells #[.string x] 9)) (x := x) (heap_alloc_new w5 _))
         refine hK _ _ (R5a.out.bel.cell (p := ⟨p,0,none⟩) pl |>.trans c0) ?_
         clear hK K
         (try simp only [Act.put,HeT.pT])
         generalize hw5: w5.alloc (.cells #[.string x] 9) = W5 at *
         clear hw5
         refine HeT.one (i := 11) (by kernel_rfl) rfl ?_
         intro K hK
         refine step_strs w1.heap.size R5a.out.bel.size rfl (.tmp 30) (.tmp 32) rfl v5 (l.take i) (l.take i).length (by simp [Act.eval]) R5a.out.own (by simp; try omega) ⟨w5.heap.size,0,none⟩ [x] 1 1 (by simp [Act.eval]) (by simp; try omega) (by omega) X5.out ?_
         intro v6 w6 hown hgr
         have hown2: w6.ownsRow w1.heap.size 9 1 v6 (l.take i ++ [x]).length (L5.svs (l.take i ++ [x])) := by rw [<- (show (l.take i).length + 1 = (l.take i ++ [x]).length by simp; try omega)]; exact hown
         have R6 := thid ((R5a.out).grow hgr rfl hown2)
         clear hown hown2 hgr
         refine hK _ _ (R6.out.bel.cell (p := ⟨p,0,none⟩) pl |>.trans c0) ?_
         clear hK K
         (try simp only [Act.put,HeT.pT])
         refine HeT.one (i := 18) (by kernel_rfl) rfl ?_
         intro K hK
         refine step_strs w1.heap.size R6.out.bel.size rfl (.tmp 33) (.tmp 39) rfl v6 (l.take i ++ [x]) (l.take i ++ [x]).length (by simp [Act.eval]) R6.out.own (by simp; try omega) ⟨b,o,none⟩ (l.drop i) 0 0 (by simp [Act.eval]) (by simp; try omega) (by omega) (T2.out _ R6.out.bel) ?_
         intro v7 w7 hown hgr
         have hown2: w7.ownsRow w1.heap.size 9 1 v7 (l.take i ++ [x] ++ l.drop i).length (L5.svs (l.take i ++ [x] ++ l.drop i)) := by rw [<- (show (l.take i ++ [x]).length + 0 = (l.take i ++ [x] ++ l.drop i).length by simp; try omega)]; exact hown
         have R7 := thid ((R6.out).grow hgr rfl hown2)
         clear hown hown2 hgr
         refine hK _ _ (R7.out.bel.cell (p := ⟨p,0,none⟩) pl |>.trans c0) ?_
         clear hK K
         (try simp only [Act.put,HeT.pT])
         obtain ⟨a7,c7,rfl⟩ := own_slice R7.out.own
         have k7: w7.cell? ⟨p,0,none⟩ = some (.slice (some ⟨b,o,none⟩) l.length i) := R7.out.bel.cell (p := ⟨p,0,none⟩) pl |>.trans c0
         have kl7: p < w7.heap.size := Nat.lt_of_lt_of_le pl R7.out.bel.size
         have kf7: ∀ i,w7.frozen? ⟨p,i,none⟩ = false := fun i => frozen_of_row _ _ _ _ _ ((R7.out.bel.block _ pl).trans HQ1.out)
         have HF := thid (R7.out.stored HB.out (Nat.le_trans hB HB.out.size) HK1.out)
         refine HeT.rest2 (k := 19) rfl (by decide) (by kernel_rfl) ?_
         simp only [List.drop_succ_cons,List.drop_zero]
         clear R7 HQ1 HQ2 HRD HK HK1
         generalize (l.take i ++ [x] ++ l.drop i).length = L7 at *
         go_wp2_with fail
         refine NoPanic.normal ?_
         go_wp2
         go_ret
         exact ⟨rfl,HF.out⟩
       · skip
         intro K hK
         go_simp
         have R1a := thid (R1.out.alloc (.cells #[.string x] 9))
         have X1 := thid (heap_alloc_new W1 (.cells #[.string x] 9))
         refine hK _ _ (R1a.out.bel.cell (p := ⟨p,0,none⟩) pl |>.trans c0) ?_
         clear hK K
         (try simp only [Act.put,HeT.pT])
         have hx1: w1.heap.size ≠ W1.heap.size := fun e => by have := R1.out.own.lt w1.heap.size rfl; omega
         generalize hxw: W1.alloc (.cells #[.string x] 9) = W2 at *
         clear hxw
         refine HeT.one (i := 8) (by kernel_rfl) rfl ?_
         intro K hK
         refine step_strs w1.heap.size R1a.out.bel.size rfl (.tmp 23) (.tmp 29) rfl (.slice (some ⟨w1.heap.size,0,none⟩) 0 0) [] 0 (by simp [Act.eval]) R1a.out.own (by simp; try omega) ⟨b,o,none⟩ (l.take i) i i (by simp [Act.eval]) (by simp; try omega) (by omega) (T1.out _ R1a.out.bel) ?_
         intro v5 w5 hown hgr
         have hown2: w5.ownsRow w1.heap.size 9 1 v5 (l.take i).length (L5.svs (l.take i)) := by rw [<- (show 0 + i = (l.take i).length by simp; try omega)]; exact hown
         have R5 := thid ((R1a.out).grow hgr rfl hown2)
         have X5 := thid (one_cells (W := w5) (x := x) ((hgr.block _ (Array.getElem?_eq_some_iff.1 X1.out).1 (fun e => hx1 (by simpa [Value.ownBlock] using e.symm))).trans X1.out))
         clear hown hown2 hgr
         refine hK _ _ (R5.out.bel.cell (p := ⟨p,0,none⟩) pl |>.trans c0) ?_
         clear hK K
         (try simp only [Act.put,HeT.pT])
         refine HeT.one (i := 11) (by kernel_rfl) rfl ?_
         intro K hK
         refine step_strs w1.heap.size R5.out.bel.size rfl (.tmp 30) (.tmp 32) rfl v5 (l.take i) (l.take i).length (by simp [Act.eval]) R5.out.own (by simp; try omega) ⟨W1.heap.size,0,none⟩ [x] 1 1 (by simp [Act.eval]) (by simp; try omega) (by omega) X5.out ?_
         intro v6 w6 hown hgr
         have hown2: w6.ownsRow w1.heap.size 9 1 v6 (l.take i ++ [x]).length (L5.svs (l.take i ++ [x])) := by rw [<- (show (l.take i).length + 1 = (l.take i ++ [x]).length by simp; try omega)]; exact hown
         have R6 := thid ((R5.out).grow hgr rfl hown2)
         clear hown hown2 hgr
         refine hK _ _ (R6.out.bel.cell (p := ⟨p,0,none⟩) pl |>.trans c0) ?_
         clear hK K
         (try simp only [Act.put,HeT.pT])
         refine HeT.one (i := 18) (by kernel_rfl) rfl ?_
         intro K hK
         refine step_strs w1.heap.size R6.out.bel.size rfl (.tmp 33) (.tmp 39) rfl v6 (l.take i ++ [x]) (l.take i ++ [x]).length (by simp [Act.eval]) R6.out.own (by simp; try omega) ⟨b,o,none⟩ (l.drop i) 0 0 (by simp [Act.eval]) (by simp; try omega) (by omega) (T2.out _ R6.out.bel) ?_
         intro v7 w7 hown hgr
         have hown2: w7.ownsRow w1.heap.size 9 1 v7 (l.take i ++ [x] ++ l.drop i).length (L5.svs (l.take i ++ [x] ++ l.drop i)) := by rw [<- (show (l.take i ++ [x]).length + 0 = (l.take i ++ [x] ++ l.drop i).length by simp; try omega)]; exact hown
         have R7 := thid ((R6.out).grow hgr rfl hown2)
         clear hown hown2 hgr
         refine hK _ _ (R7.out.bel.cell (p := ⟨p,0,none⟩) pl |>.trans c0) ?_
         clear hK K
         (try simp only [Act.put,HeT.pT])
         obtain ⟨a7,c7,rfl⟩ := own_slice R7.out.own
         have k7: w7.cell? ⟨p,0,none⟩ = some (.slice (some ⟨b,o,none⟩) l.length i) := R7.out.bel.cell (p := ⟨p,0,none⟩) pl |>.trans c0
         have kl7: p < w7.heap.size := Nat.lt_of_lt_of_le pl R7.out.bel.size
         have kf7: ∀ i,w7.frozen? ⟨p,i,none⟩ = false := fun i => frozen_of_row _ _ _ _ _ ((R7.out.bel.block _ pl).trans HQ1.out)
         have HF := thid (R7.out.stored HB.out (Nat.le_trans hB HB.out.size) HK1.out)
         refine HeT.rest2 (k := 19) rfl (by decide) (by kernel_rfl) ?_
         simp only [List.drop_succ_cons,List.drop_zero]
         clear R7 HQ1 HQ2 HRD HK HK1
         generalize (l.take i ++ [x] ++ l.drop i).length = L7 at *
         go_wp2_with fail
         refine NoPanic.normal ?_
         go_wp2
         go_ret
         exact ⟨rfl,HF.out⟩
     · skip
       intro K hK
       go_simp
       have B1 := thid ((tbelow w1 (.cells #[.string x] 9)).drew)
       have X1: Hid ((w1.alloc (.cells #[.string x] 9)).drew.heap[w1.heap.size]? = some (.cells #[.string x] 9 (0,0))) := heap_alloc_new w1 (.cells #[.string x] 9)
       refine hK _ _ (B1.out.cell (p := ⟨p,0,none⟩) pl |>.trans c0) ?_
       clear hK K
       (try simp only [Act.put,HeT.pT])
       generalize (w1.alloc (.cells #[.string x] 9)).drew = W1 at *
       refine HeT.one (i := 1) (by kernel_rfl) rfl ?_
       intro K hK
       go_simp
       have R1a := thid (RWs.new (U := w1) B1.out)
       have X2: Hid ((W1.alloc (.cells #[] 9)).heap[w1.heap.size]? = some (.cells #[.string x] 9 (0,0))) := ((tbelow W1 _).block _ (Array.getElem?_eq_some_iff.1 X1.out).1).trans X1.out
       refine hK _ _ (R1a.out.bel.cell (p := ⟨p,0,none⟩) pl |>.trans c0) ?_
       clear hK K
       (try simp only [Act.put,HeT.pT])
       have hx1: W1.heap.size ≠ w1.heap.size := fun e => by have := (Array.getElem?_eq_some_iff.1 X1.out).1; omega
       generalize hxw: W1.alloc (.cells #[] 9) = W2 at *
       clear hxw
       refine HeT.one (i := 8) (by kernel_rfl) rfl ?_
       intro K hK
       refine step_strs w1.heap.size R1a.out.bel.size rfl (.tmp 23) (.tmp 29) rfl (.slice (some ⟨W1.heap.size,0,none⟩) 0 0) [] 0 (by simp [Act.eval]) R1a.out.own (by simp; try omega) ⟨b,o,none⟩ (l.take i) i i (by simp [Act.eval]) (by simp; try omega) (by omega) (T1.out _ R1a.out.bel) ?_
       intro v5 w5 hown hgr
       have hown2: w5.ownsRow w1.heap.size 9 1 v5 (l.take i).length (L5.svs (l.take i)) := by rw [<- (show 0 + i = (l.take i).length by simp; try omega)]; exact hown
       have R5 := thid ((R1a.out).grow hgr rfl hown2)
       have X5 := thid (one_cells (W := w5) (x := x) ((hgr.block _ (Array.getElem?_eq_some_iff.1 X2.out).1 (fun e => hx1 (by simpa [Value.ownBlock] using e.symm))).trans X2.out))
       clear hown hown2 hgr
       refine hK _ _ (R5.out.bel.cell (p := ⟨p,0,none⟩) pl |>.trans c0) ?_
       clear hK K
       (try simp only [Act.put,HeT.pT])
       refine HeT.one (i := 11) (by kernel_rfl) rfl ?_
       intro K hK
       refine step_strs w1.heap.size R5.out.bel.size rfl (.tmp 30) (.tmp 32) rfl v5 (l.take i) (l.take i).length (by simp [Act.eval]) R5.out.own (by simp; try omega) ⟨w1.heap.size,0,none⟩ [x] 1 1 (by simp [Act.eval]) (by simp; try omega) (by omega) X5.out ?_
       intro v6 w6 hown hgr
       have hown2: w6.ownsRow w1.heap.size 9 1 v6 (l.take i ++ [x]).length (L5.svs (l.take i ++ [x])) := by rw [<- (show (l.take i).length + 1 = (l.take i ++ [x]).length by simp; try omega)]; exact hown
       have R6 := thid ((R5.out).grow hgr rfl hown2)
       clear hown hown2 hgr
       refine hK _ _ (R6.out.bel.cell (p := ⟨p,0,none⟩) pl |>.trans c0) ?_
       clear hK K
       (try simp only [Act.put,HeT.pT])
       refine HeT.one (i := 18) (by kernel_rfl) rfl ?_
       intro K hK
       refine step_strs w1.heap.size R6.out.bel.size rfl (.tmp 33) (.tmp 39) rfl v6 (l.take i ++ [x]) (l.take i ++ [x]).length (by simp [Act.eval]) R6.out.own (by simp; try omega) ⟨b,o,none⟩ (l.drop i) 0 0 (by simp [Act.eval]) (by simp; try omega) (by omega) (T2.out _ R6.out.bel) ?_
       intro v7 w7 hown hgr
       have hown2: w7.ownsRow w1.heap.size 9 1 v7 (l.take i ++ [x] ++ l.drop i).length (L5.svs (l.take i ++ [x] ++ l.drop i)) := by rw [<- (show (l.take i ++ [x]).length + 0 = (l.take i ++ [x] ++ l.drop i).length by simp; try omega)]; exact hown
       have R7 := thid ((R6.out).grow hgr rfl hown2)
       clear hown hown2 hgr
       refine hK _ _ (R7.out.bel.cell (p := ⟨p,0,none⟩) pl |>.trans c0) ?_
       clear hK K
       (try simp only [Act.put,HeT.pT])
       obtain ⟨a7,c7,rfl⟩ := own_slice R7.out.own
       have k7: w7.cell? ⟨p,0,none⟩ = some (.slice (some ⟨b,o,none⟩) l.length i) := R7.out.bel.cell (p := ⟨p,0,none⟩) pl |>.trans c0
       have kl7: p < w7.heap.size := Nat.lt_of_lt_of_le pl R7.out.bel.size
       have kf7: ∀ i,w7.frozen? ⟨p,i,none⟩ = false := fun i => frozen_of_row _ _ _ _ _ ((R7.out.bel.block _ pl).trans HQ1.out)
       have HF := thid (R7.out.stored HB.out (Nat.le_trans hB HB.out.size) HK1.out)
       refine HeT.rest2 (k := 19) rfl (by decide) (by kernel_rfl) ?_
       simp only [List.drop_succ_cons,List.drop_zero]
       clear R7 HQ1 HQ2 HRD HK HK1
       generalize (l.take i ++ [x] ++ l.drop i).length = L7 at *
       go_wp2_with fail
       refine NoPanic.normal ?_
       go_wp2
       go_ret
       exact ⟨rfl,HF.out⟩
   · have T2 := thid (fun (W: World) (hbW: Below w1.heap.size w1 W) => (drop_cells HRD.out i hbW))
     refine HeT.begin_ (fun w' => w'.cell? ⟨p,0,none⟩ = some (.slice (some ⟨b,o,none⟩) l.length c)) 19 (by kernel_rfl) ?_
     refine HeT.take (i := 0) (v := ?_) rfl (by kernel_rfl) (by kernel_rfl) (by kernel_rfl) (by kernel_rfl) (by decide) (fun _ _ _ h => h) (Or.inl ⟨by rfl, ?_⟩) hHeld ?_
     rotate_left
     · intro w' hSw
       (try dsimp only at hSw)
       go_simp
       (try with_reducible rfl)
     (try simp only [Act.put,HeT.pT])
     refine HeT.take (i := 2) (v := ?_) rfl (by kernel_rfl) (by kernel_rfl) (by kernel_rfl) (by kernel_rfl) (by decide) (fun _ _ _ h => h) (Or.inl ⟨by rfl, ?_⟩) hHeld ?_
     rotate_left
     · intro w' hSw
       (try dsimp only at hSw)
       go_simp
       (try with_reducible rfl)
     (try simp only [Act.put,HeT.pT])
     refine HeT.take (i := 3) (v := ?_) rfl (by kernel_rfl) (by kernel_rfl) (by kernel_rfl) (by kernel_rfl) (by decide) (fun _ _ _ h => h) (Or.inl ⟨by rfl, ?_⟩) hHeld ?_
     rotate_left
     · intro w' hSw
       (try dsimp only at hSw)
       go_simp
       (try with_reducible rfl)
     (try simp only [Act.put,HeT.pT])
     refine HeT.take (i := 4) (v := ?_) rfl (by kernel_rfl) (by kernel_rfl) (by kernel_rfl) (by kernel_rfl) (by decide) (fun _ _ _ h => h) (Or.inl ⟨by rfl, ?_⟩) hHeld ?_
     rotate_left
     · intro w' hSw
       (try dsimp only at hSw)
       go_simp
       (try with_reducible rfl)
     (try simp only [Act.put,HeT.pT])
     refine HeT.take (i := 5) (v := ?_) rfl (by kernel_rfl) (by kernel_rfl) (by kernel_rfl) (by kernel_rfl) (by decide) (fun _ _ _ h => h) (Or.inl ⟨by rfl, ?_⟩) hHeld ?_
     rotate_left
     · intro w' hSw
       (try dsimp only at hSw)
       go_simp
       (try with_reducible rfl)
     (try simp only [Act.put,HeT.pT])
     refine HeT.take (i := 6) (v := ?_) rfl (by kernel_rfl) (by kernel_rfl) (by kernel_rfl) (by kernel_rfl) (by decide) (fun _ _ _ h => h) (Or.inl ⟨by rfl, ?_⟩) hHeld ?_
     rotate_left
     · intro w' hSw
       (try dsimp only at hSw)
       go_simp
       (try with_reducible rfl)
     (try simp only [Act.put,HeT.pT])
     refine HeT.take (i := 7) (v := ?_) rfl (by kernel_rfl) (by kernel_rfl) (by kernel_rfl) (by kernel_rfl) (by decide) (fun _ _ _ h => h) (Or.inl ⟨by rfl, ?_⟩) hHeld ?_
     rotate_left
     · intro w' hSw
       (try dsimp only at hSw)
       go_simp
       (try with_reducible rfl)
     (try simp only [Act.put,HeT.pT])
     refine HeT.take (i := 9) (v := ?_) rfl (by kernel_rfl) (by kernel_rfl) (by kernel_rfl) (by kernel_rfl) (by decide) (fun _ _ _ h => h) (Or.inl ⟨by rfl, ?_⟩) hHeld ?_
     rotate_left
     · intro w' hSw
       (try dsimp only at hSw)
       go_simp
       (try with_reducible rfl)
     (try simp only [Act.put,HeT.pT])
     refine HeT.take (i := 12) (v := ?_) rfl (by kernel_rfl) (by kernel_rfl) (by kernel_rfl) (by kernel_rfl) (by decide) (fun _ _ _ h => h) (Or.inl ⟨by rfl, ?_⟩) hHeld ?_
     rotate_left
     · intro w' hSw
       (try dsimp only at hSw)
       go_simp
       (try with_reducible rfl)
     (try simp only [Act.put,HeT.pT])
     refine HeT.take (i := 13) (v := ?_) rfl (by kernel_rfl) (by kernel_rfl) (by kernel_rfl) (by kernel_rfl) (by decide) (fun _ _ _ h => h) (Or.inl ⟨by rfl, ?_⟩) hHeld ?_
     rotate_left
     · intro w' hSw
       (try dsimp only at hSw)
       go_simp
       (try with_reducible rfl)
     (try simp only [Act.put,HeT.pT])
     refine HeT.take (i := 14) (v := ?_) rfl (by kernel_rfl) (by kernel_rfl) (by kernel_rfl) (by kernel_rfl) (by decide) (fun _ _ _ h => h) (Or.inl ⟨by rfl, ?_⟩) hHeld ?_
     rotate_left
     · intro w' hSw
       (try dsimp only at hSw)
       go_simp
       (try with_reducible rfl)
     (try simp only [Act.put,HeT.pT])
     refine HeT.take (i := 15) (v := ?_) rfl (by kernel_rfl) (by kernel_rfl) (by kernel_rfl) (by kernel_rfl) (by decide) (fun _ _ _ h => h) (Or.inl ⟨by rfl, ?_⟩) hHeld ?_
     rotate_left
     · intro w' hSw
       (try dsimp only at hSw)
       go_simp
       (try with_reducible rfl)
     (try simp only [Act.put,HeT.pT])
     refine HeT.take (i := 16) (v := ?_) rfl (by kernel_rfl) (by kernel_rfl) (by kernel_rfl) (by kernel_rfl) (by decide) (fun _ _ _ h => h) (Or.inl ⟨by rfl, ?_⟩) hHeld ?_
     rotate_left
     · intro w' hSw
       (try dsimp only at hSw)
       go_simp
       (try with_reducible rfl)
     (try simp only [Act.put,HeT.pT])
     refine HeT.take (i := 17) (v := ?_) rfl (by kernel_rfl) (by kernel_rfl) (by kernel_rfl) (by kernel_rfl) (by decide) (fun _ _ _ h => h) (Or.inl ⟨by rfl, ?_⟩) hHeld ?_
     rotate_left
     · intro w' hSw
       (try dsimp only at hSw)
       go_simp
       (try with_reducible rfl)
     (try simp only [Act.put,HeT.pT])
     refine HeT.two (i := 1) (j := 10) (by kernel_rfl) rfl rfl ?_ ?_
     · skip
       intro K hK
       go_simp
       have R1 := thid (RWs.new (U := w1) (Below.refl _ _)).drew
       refine hK _ _ (R1.out.bel.cell (p := ⟨p,0,none⟩) pl |>.trans c0) ?_
       clear hK K
       (try simp only [Act.put,HeT.pT])
       generalize (w1.alloc (.cells #[] 9)).drew = W1 at *
       refine HeT.two (i := 8) (j := 10) (by kernel_rfl) rfl rfl ?_ ?_
       · skip
         intro K hK
         refine step_strs w1.heap.size R1.out.bel.size rfl (.tmp 23) (.tmp 29) rfl (.slice (some ⟨w1.heap.size,0,none⟩) 0 0) [] 0 (by simp [Act.eval]) R1.out.own (by simp; try omega) ⟨b,o,none⟩ (l.take i) i c (by simp [Act.eval]) (by simp; try omega) (by omega) (T1.out _ R1.out.bel) ?_
         intro v5 w5 hown hgr
         have hown2: w5.ownsRow w1.heap.size 9 1 v5 (l.take i).length (L5.svs (l.take i)) := by rw [<- (show 0 + i = (l.take i).length by simp; try omega)]; exact hown
         have R5 := thid ((R1.out).grow hgr rfl hown2)
         clear hown hown2 hgr
         refine hK _ _ (R5.out.bel.cell (p := ⟨p,0,none⟩) pl |>.trans c0) ?_
         clear hK K
         (try simp only [Act.put,HeT.pT])
         refine HeT.one (i := 10) (by kernel_rfl) rfl ?_
         intro K hK
         go_simp
         have R5a := thid (R5.out.alloc (.cells #[.string x] 9))
         have X5 := thid (one_cells (W := w5.alloc (.cells #[.string x] 9)) (x := x) (heap_alloc_new w5 _))
         refine hK _ _ (R5a.out.bel.cell (p := ⟨p,0,none⟩) pl |>.trans c0) ?_
         clear hK K
         (try simp only [Act.put,HeT.pT])
         generalize hw5: w5.alloc (.cells #[.string x] 9) = W5 at *
         clear hw5
         refine HeT.one (i := 11) (by kernel_rfl) rfl ?_
         intro K hK
         refine step_strs w1.heap.size R5a.out.bel.size rfl (.tmp 30) (.tmp 32) rfl v5 (l.take i) (l.take i).length (by simp [Act.eval]) R5a.out.own (by simp; try omega) ⟨w5.heap.size,0,none⟩ [x] 1 1 (by simp [Act.eval]) (by simp; try omega) (by omega) X5.out ?_
         intro v6 w6 hown hgr
         have hown2: w6.ownsRow w1.heap.size 9 1 v6 (l.take i ++ [x]).length (L5.svs (l.take i ++ [x])) := by rw [<- (show (l.take i).length + 1 = (l.take i ++ [x]).length by simp; try omega)]; exact hown
         have R6 := thid ((R5a.out).grow hgr rfl hown2)
         clear hown hown2 hgr
         refine hK _ _ (R6.out.bel.cell (p := ⟨p,0,none⟩) pl |>.trans c0) ?_
         clear hK K
         (try simp only [Act.put,HeT.pT])
         refine HeT.one (i := 18) (by kernel_rfl) rfl ?_
         intro K hK
         refine step_strs w1.heap.size R6.out.bel.size rfl (.tmp 33) (.tmp 39) rfl v6 (l.take i ++ [x]) (l.take i ++ [x]).length (by simp [Act.eval]) R6.out.own (by simp; try omega) ⟨b,o + i,none⟩ (l.drop i) (l.length - i) (c - i) (by simp [Act.eval]) (by simp; try omega) (by omega) (T2.out _ R6.out.bel) ?_
         intro v7 w7 hown hgr
         have hown2: w7.ownsRow w1.heap.size 9 1 v7 (l.take i ++ [x] ++ l.drop i).length (L5.svs (l.take i ++ [x] ++ l.drop i)) := by rw [<- (show (l.take i ++ [x]).length + (l.length - i) = (l.take i ++ [x] ++ l.drop i).length by simp; try omega)]; exact hown
         have R7 := thid ((R6.out).grow hgr rfl hown2)
         clear hown hown2 hgr
         refine hK _ _ (R7.out.bel.cell (p := ⟨p,0,none⟩) pl |>.trans c0) ?_
         clear hK K
         (try simp only [Act.put,HeT.pT])
         obtain ⟨a7,c7,rfl⟩ := own_slice R7.out.own
         have k7: w7.cell? ⟨p,0,none⟩ = some (.slice (some ⟨b,o,none⟩) l.length c) := R7.out.bel.cell (p := ⟨p,0,none⟩) pl |>.trans c0
         have kl7: p < w7.heap.size := Nat.lt_of_lt_of_le pl R7.out.bel.size
         have kf7: ∀ i,w7.frozen? ⟨p,i,none⟩ = false := fun i => frozen_of_row _ _ _ _ _ ((R7.out.bel.block _ pl).trans HQ1.out)
         have HF := thid (R7.out.stored HB.out (Nat.le_trans hB HB.out.size) HK1.out)
         refine HeT.rest2 (k := 19) rfl (by decide) (by kernel_rfl) ?_
         simp only [List.drop_succ_cons,List.drop_zero]
         clear R7 HQ1 HQ2 HRD HK HK1
         generalize (l.take i ++ [x] ++ l.drop i).length = L7 at *
         go_wp2_with fail
         refine NoPanic.normal ?_
         go_wp2
         go_ret
         exact ⟨rfl,HF.out⟩
       · skip
         intro K hK
         go_simp
         have R1a := thid (R1.out.alloc (.cells #[.string x] 9))
         have X1 := thid (heap_alloc_new W1 (.cells #[.string x] 9))
         refine hK _ _ (R1a.out.bel.cell (p := ⟨p,0,none⟩) pl |>.trans c0) ?_
         clear hK K
         (try simp only [Act.put,HeT.pT])
         have hx1: w1.heap.size ≠ W1.heap.size := fun e => by have := R1.out.own.lt w1.heap.size rfl; omega
         generalize hxw: W1.alloc (.cells #[.string x] 9) = W2 at *
         clear hxw
         refine HeT.one (i := 8) (by kernel_rfl) rfl ?_
         intro K hK
         refine step_strs w1.heap.size R1a.out.bel.size rfl (.tmp 23) (.tmp 29) rfl (.slice (some ⟨w1.heap.size,0,none⟩) 0 0) [] 0 (by simp [Act.eval]) R1a.out.own (by simp; try omega) ⟨b,o,none⟩ (l.take i) i c (by simp [Act.eval]) (by simp; try omega) (by omega) (T1.out _ R1a.out.bel) ?_
         intro v5 w5 hown hgr
         have hown2: w5.ownsRow w1.heap.size 9 1 v5 (l.take i).length (L5.svs (l.take i)) := by rw [<- (show 0 + i = (l.take i).length by simp; try omega)]; exact hown
         have R5 := thid ((R1a.out).grow hgr rfl hown2)
         have X5 := thid (one_cells (W := w5) (x := x) ((hgr.block _ (Array.getElem?_eq_some_iff.1 X1.out).1 (fun e => hx1 (by simpa [Value.ownBlock] using e.symm))).trans X1.out))
         clear hown hown2 hgr
         refine hK _ _ (R5.out.bel.cell (p := ⟨p,0,none⟩) pl |>.trans c0) ?_
         clear hK K
         (try simp only [Act.put,HeT.pT])
         refine HeT.one (i := 11) (by kernel_rfl) rfl ?_
         intro K hK
         refine step_strs w1.heap.size R5.out.bel.size rfl (.tmp 30) (.tmp 32) rfl v5 (l.take i) (l.take i).length (by simp [Act.eval]) R5.out.own (by simp; try omega) ⟨W1.heap.size,0,none⟩ [x] 1 1 (by simp [Act.eval]) (by simp; try omega) (by omega) X5.out ?_
         intro v6 w6 hown hgr
         have hown2: w6.ownsRow w1.heap.size 9 1 v6 (l.take i ++ [x]).length (L5.svs (l.take i ++ [x])) := by rw [<- (show (l.take i).length + 1 = (l.take i ++ [x]).length by simp; try omega)]; exact hown
         have R6 := thid ((R5.out).grow hgr rfl hown2)
         clear hown hown2 hgr
         refine hK _ _ (R6.out.bel.cell (p := ⟨p,0,none⟩) pl |>.trans c0) ?_
         clear hK K
         (try simp only [Act.put,HeT.pT])
         refine HeT.one (i := 18) (by kernel_rfl) rfl ?_
         intro K hK
         refine step_strs w1.heap.size R6.out.bel.size rfl (.tmp 33) (.tmp 39) rfl v6 (l.take i ++ [x]) (l.take i ++ [x]).length (by simp [Act.eval]) R6.out.own (by simp; try omega) ⟨b,o + i,none⟩ (l.drop i) (l.length - i) (c - i) (by simp [Act.eval]) (by simp; try omega) (by omega) (T2.out _ R6.out.bel) ?_
         intro v7 w7 hown hgr
         have hown2: w7.ownsRow w1.heap.size 9 1 v7 (l.take i ++ [x] ++ l.drop i).length (L5.svs (l.take i ++ [x] ++ l.drop i)) := by rw [<- (show (l.take i ++ [x]).length + (l.length - i) = (l.take i ++ [x] ++ l.drop i).length by simp; try omega)]; exact hown
         have R7 := thid ((R6.out).grow hgr rfl hown2)
         clear hown hown2 hgr
         refine hK _ _ (R7.out.bel.cell (p := ⟨p,0,none⟩) pl |>.trans c0) ?_
         clear hK K
         (try simp only [Act.put,HeT.pT])
         obtain ⟨a7,c7,rfl⟩ := own_slice R7.out.own
         have k7: w7.cell? ⟨p,0,none⟩ = some (.slice (some ⟨b,o,none⟩) l.length c) := R7.out.bel.cell (p := ⟨p,0,none⟩) pl |>.trans c0
         have kl7: p < w7.heap.size := Nat.lt_of_lt_of_le pl R7.out.bel.size
         have kf7: ∀ i,w7.frozen? ⟨p,i,none⟩ = false := fun i => frozen_of_row _ _ _ _ _ ((R7.out.bel.block _ pl).trans HQ1.out)
         have HF := thid (R7.out.stored HB.out (Nat.le_trans hB HB.out.size) HK1.out)
         refine HeT.rest2 (k := 19) rfl (by decide) (by kernel_rfl) ?_
         simp only [List.drop_succ_cons,List.drop_zero]
         clear R7 HQ1 HQ2 HRD HK HK1
         generalize (l.take i ++ [x] ++ l.drop i).length = L7 at *
         go_wp2_with fail
         refine NoPanic.normal ?_
         go_wp2
         go_ret
         exact ⟨rfl,HF.out⟩
     · skip
       intro K hK
       go_simp
       have B1 := thid ((tbelow w1 (.cells #[.string x] 9)).drew)
       have X1: Hid ((w1.alloc (.cells #[.string x] 9)).drew.heap[w1.heap.size]? = some (.cells #[.string x] 9 (0,0))) := heap_alloc_new w1 (.cells #[.string x] 9)
       refine hK _ _ (B1.out.cell (p := ⟨p,0,none⟩) pl |>.trans c0) ?_
       clear hK K
       (try simp only [Act.put,HeT.pT])
       generalize (w1.alloc (.cells #[.string x] 9)).drew = W1 at *
       refine HeT.one (i := 1) (by kernel_rfl) rfl ?_
       intro K hK
       go_simp
       have R1a := thid (RWs.new (U := w1) B1.out)
       have X2: Hid ((W1.alloc (.cells #[] 9)).heap[w1.heap.size]? = some (.cells #[.string x] 9 (0,0))) := ((tbelow W1 _).block _ (Array.getElem?_eq_some_iff.1 X1.out).1).trans X1.out
       refine hK _ _ (R1a.out.bel.cell (p := ⟨p,0,none⟩) pl |>.trans c0) ?_
       clear hK K
       (try simp only [Act.put,HeT.pT])
       have hx1: W1.heap.size ≠ w1.heap.size := fun e => by have := (Array.getElem?_eq_some_iff.1 X1.out).1; omega
       generalize hxw: W1.alloc (.cells #[] 9) = W2 at *
       clear hxw
       refine HeT.one (i := 8) (by kernel_rfl) rfl ?_
       intro K hK
       refine step_strs w1.heap.size R1a.out.bel.size rfl (.tmp 23) (.tmp 29) rfl (.slice (some ⟨W1.heap.size,0,none⟩) 0 0) [] 0 (by simp [Act.eval]) R1a.out.own (by simp; try omega) ⟨b,o,none⟩ (l.take i) i c (by simp [Act.eval]) (by simp; try omega) (by omega) (T1.out _ R1a.out.bel) ?_
       intro v5 w5 hown hgr
       have hown2: w5.ownsRow w1.heap.size 9 1 v5 (l.take i).length (L5.svs (l.take i)) := by rw [<- (show 0 + i = (l.take i).length by simp; try omega)]; exact hown
       have R5 := thid ((R1a.out).grow hgr rfl hown2)
       have X5 := thid (one_cells (W := w5) (x := x) ((hgr.block _ (Array.getElem?_eq_some_iff.1 X2.out).1 (fun e => hx1 (by simpa [Value.ownBlock] using e.symm))).trans X2.out))
       clear hown hown2 hgr
       refine hK _ _ (R5.out.bel.cell (p := ⟨p,0,none⟩) pl |>.trans c0) ?_
       clear hK K
       (try simp only [Act.put,HeT.pT])
       refine HeT.one (i := 11) (by kernel_rfl) rfl ?_
       intro K hK
       refine step_strs w1.heap.size R5.out.bel.size rfl (.tmp 30) (.tmp 32) rfl v5 (l.take i) (l.take i).length (by simp [Act.eval]) R5.out.own (by simp; try omega) ⟨w1.heap.size,0,none⟩ [x] 1 1 (by simp [Act.eval]) (by simp; try omega) (by omega) X5.out ?_
       intro v6 w6 hown hgr
       have hown2: w6.ownsRow w1.heap.size 9 1 v6 (l.take i ++ [x]).length (L5.svs (l.take i ++ [x])) := by rw [<- (show (l.take i).length + 1 = (l.take i ++ [x]).length by simp; try omega)]; exact hown
       have R6 := thid ((R5.out).grow hgr rfl hown2)
       clear hown hown2 hgr
       refine hK _ _ (R6.out.bel.cell (p := ⟨p,0,none⟩) pl |>.trans c0) ?_
       clear hK K
       (try simp only [Act.put,HeT.pT])
       refine HeT.one (i := 18) (by kernel_rfl) rfl ?_
       intro K hK
       refine step_strs w1.heap.size R6.out.bel.size rfl (.tmp 33) (.tmp 39) rfl v6 (l.take i ++ [x]) (l.take i ++ [x]).length (by simp [Act.eval]) R6.out.own (by simp; try omega) ⟨b,o + i,none⟩ (l.drop i) (l.length - i) (c - i) (by simp [Act.eval]) (by simp; try omega) (by omega) (T2.out _ R6.out.bel) ?_
       intro v7 w7 hown hgr
       have hown2: w7.ownsRow w1.heap.size 9 1 v7 (l.take i ++ [x] ++ l.drop i).length (L5.svs (l.take i ++ [x] ++ l.drop i)) := by rw [<- (show (l.take i ++ [x]).length + (l.length - i) = (l.take i ++ [x] ++ l.drop i).length by simp; try omega)]; exact hown
       have R7 := thid ((R6.out).grow hgr rfl hown2)
       clear hown hown2 hgr
       refine hK _ _ (R7.out.bel.cell (p := ⟨p,0,none⟩) pl |>.trans c0) ?_
       clear hK K
       (try simp only [Act.put,HeT.pT])
       obtain ⟨a7,c7,rfl⟩ := own_slice R7.out.own
       have k7: w7.cell? ⟨p,0,none⟩ = some (.slice (some ⟨b,o,none⟩) l.length c) := R7.out.bel.cell (p := ⟨p,0,none⟩) pl |>.trans c0
       have kl7: p < w7.heap.size := Nat.lt_of_lt_of_le pl R7.out.bel.size
       have kf7: ∀ i,w7.frozen? ⟨p,i,none⟩ = false := fun i => frozen_of_row _ _ _ _ _ ((R7.out.bel.block _ pl).trans HQ1.out)
       have HF := thid (R7.out.stored HB.out (Nat.le_trans hB HB.out.size) HK1.out)
       refine HeT.rest2 (k := 19) rfl (by decide) (by kernel_rfl) ?_
       simp only [List.drop_succ_cons,List.drop_zero]
       clear R7 HQ1 HQ2 HRD HK HK1
       generalize (l.take i ++ [x] ++ l.drop i).length = L7 at *
       go_wp2_with fail
       refine NoPanic.normal ?_
       go_wp2
       go_ret
       exact ⟨rfl,HF.out⟩
end Go.Proofs.YtdnkbdjhccckhaaGreat
