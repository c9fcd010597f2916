import Derived.Deep.CutBlock
import Derived.Test.YtdnkbdjhccckhaaGreatMBN
set_option maxRecDepth 100000
set_option maxHeartbeats 4000000
namespace Go.Proofs.YtdnkbdjhccckhaaGreat
open Go.RowKit
open L4 (nv)
def cutS (l: List Nat) (x: Nat): Nat := (l.takeWhile fun y => decide (y < x)).length
def insS (l: List Nat) (x: Nat): List Nat := l.take (cutS l x) ++ [x] ++ l.drop (cutS l x)
def insAll (l: List Nat): List Nat := l.foldl insS []
theorem insS_len (l: List Nat) (x: Nat): (insS l x).length = l.length + 1 := by
 unfold insS
 simp
 have: cutS l x <= l.length := (List.takeWhile_sublist _).length_le
 omega
theorem fold_len (l: List Nat): ∀ acc: List Nat,(l.foldl insS acc).length = acc.length + l.length := by
 induction l with
 | nil => intro acc; rfl
 | cons x l ih => intro acc; rw [List.foldl_cons,ih,insS_len,List.length_cons]; omega
theorem insAll_len (l: List Nat): (insAll l).length = l.length := by unfold insAll; rw [fold_len]; simp
theorem insAll_snoc {l: List Nat} {i x: Nat} (h: l[i]? = some x): insAll (l.take (i + 1)) = insS (insAll (l.take i)) x := by
 unfold insAll
 rw [List.take_add_one,h]
 simp
theorem cut_eq {l: List Nat} {x k: Nat} (hk: k <= l.length) (h1: ∀ j y,j < k -> l[j]? = some y -> y < x) (h2: ∀ y,l[k]? = some y -> ¬ y < x): cutS l x = k := by
 unfold cutS
 induction l generalizing k with
 | nil => simp at hk; subst hk; rfl
 | cons a l ih =>
  cases k with
  | zero =>
   have := h2 a rfl
   simp [this]
  | succ k =>
   have := h1 0 a (by omega) rfl
   rw [List.takeWhile_cons_of_pos (by simpa using this),List.length_cons]
   rw [ih (by simpa using hk) (fun j y hj hy => h1 (j + 1) y (by omega) (by simpa using hy)) (fun y hy => h2 y (by simpa using hy))]
structure RWi (U: World) (v: Value) (l: List Nat) (wr: World): Prop where
 own: wr.ownsRow U.heap.size 3 1 v l.length (l.map nv)
 bel: Below U.heap.size U wr
theorem RWi.grow {U: World} {v v': Value} {l l': List Nat} {wr w': World} (h: RWi U v l wr) (hg: wr.grownBy w' v.ownBlock) {m: Nat} (hm: l'.length = m) (ho: w'.ownsRow U.heap.size 3 1 v' m (l'.map nv)): RWi U v' l' w' := by
 subst hm
 refine ⟨ho,⟨hg.os.trans h.bel.os,hg.tape.trans h.bel.tape,hg.output.trans h.bel.output,Nat.le_trans h.bel.size hg.size,fun q hq => ?_⟩⟩
 rw [hg.block q (Nat.lt_of_lt_of_le hq h.bel.size) (fun e => by have := (h.own.lt q e.symm).1; omega),h.bel.block q hq]
theorem RWi.alloc {U: World} {v: Value} {l: List Nat} {wr: World} (h: RWi U v l wr) (o: Obj): RWi U v l (wr.alloc o) := ⟨L5.owns_below h.own (tbelow _ _),tbelow_on h.bel (tbelow _ _)⟩
theorem RWi.new {U wr: World} (hb: Below U.heap.size U wr): RWi U (.slice (some ⟨wr.heap.size,0,none⟩) 0 0) [] (wr.alloc (.cells #[] 3)) := ⟨owns_low (L5.owns_nil_lit wr 3) hb.size,tbelow_on hb (tbelow _ _)⟩
theorem RWi.drew {U: World} {v: Value} {l: List Nat} {wr: World} (h: RWi U v l wr): RWi U v l wr.drew := ⟨L5.owns_of_block h.own fun _ _ => rfl,h.bel.drew⟩
theorem src_oneI {W: World} {p x: Nat} (h: W.heap[p]? = some (.cells #[.int .i64 (x: Int)] 3 (0,0))): Rw.Src W (some ⟨p,0,none⟩) 1 1 ([x].map nv) := Or.inr ⟨_,rfl,fun j u hj => by
 match j with
 | 0 =>
  simp [nv] at hj
  subst hj
  rw [Rw.add_none,cell_of_row _ _ _ _ _ _ h]
  rfl
 | j + 1 => simp at hj⟩
structure SoR (w: World) (v: Value) (l: List Nat) (wr: World): Prop where
 own: wr.ownsRow w.heap.size 3 1 v l.length (l.map nv)
 bel: Below w.heap.size w wr
theorem SoR.on {w: World} {v: Value} {l: List Nat} {wr wr': World} (h: SoR w v l wr) (hb: Below wr.heap.size wr wr'): SoR w v l wr' := ⟨L5.owns_below h.own hb,tbelow_on h.bel hb⟩
theorem SoR.cells {w: World} {b c: Nat} {l: List Nat} {wr W: World} (h: SoR w (.slice (some ⟨b,0,none⟩) l.length c) l wr) (hb: Below wr.heap.size wr W): ∀ j u,(l.map nv)[j]? = some u -> W.cell? ⟨b,j,none⟩ = some u := fun j u hj => by
 rcases Rw.owns_src (h.on hb).own with ⟨e,_⟩ | ⟨ad,e,hc⟩
 · cases e
 · injection e with e
   subst e
   have := hc j u hj
   rwa [Rw.add_none,Nat.zero_add] at this
theorem SoR.src1 {w: World} {b c k: Nat} {l: List Nat} {wr: World} (h: SoR w (.slice (some ⟨b,0,none⟩) l.length c) l wr) {m c': Nat}: ∀ W,Below wr.heap.size wr W -> Rw.Src W (some ⟨b,0,none⟩) m c' ((l.take k).map nv) := fun W hb => Or.inr ⟨_,rfl,fun j u hj => by
 rw [Rw.add_none,Nat.zero_add]
 refine h.cells hb j u ?_
 rw [List.getElem?_map] at hj ⊢
 rw [List.getElem?_take] at hj
 split at hj
 · exact hj
 · simp at hj⟩
theorem SoR.src2 {w: World} {b c k: Nat} {l: List Nat} {wr: World} (h: SoR w (.slice (some ⟨b,0,none⟩) l.length c) l wr) {m c': Nat}: ∀ W,Below wr.heap.size wr W -> Rw.Src W (some ⟨b,k,none⟩) m c' ((l.drop k).map nv) := fun W hb => Or.inr ⟨_,rfl,fun j u hj => by
 rw [Rw.add_none]
 refine h.cells hb (k + j) u ?_
 rw [List.getElem?_map] at hj ⊢
 rw [List.getElem?_drop] at hj
 exact hj⟩
theorem SoR.next {w wr W: World} {v v': Value} {l out: List Nat} {i x k: Nat} (ho: insAll (l.take i) = out) (h: SoR w v out wr) (r: RWi wr v' (([]: List Nat) ++ out.take k ++ [x] ++ out.drop k) W) (hk: cutS out x = k) (hx: l[i]? = some x): SoR w v' (insAll (l.take (i + 1))) W /\ (([]: List Nat) ++ out.take k ++ [x] ++ out.drop k).length = (insAll (l.take (i + 1))).length := by
 have e: ([]: List Nat) ++ out.take k ++ [x] ++ out.drop k = insAll (l.take (i + 1)) := by
  rw [insAll_snoc hx,ho]
  unfold insS
  rw [hk]
  rfl
 rw [e] at r ⊢
 exact ⟨⟨L5.owns_base r.own h.bel.size,tbelow_on h.bel r.bel⟩,rfl⟩
set_option linter.unusedSimpArgs false in
theorem sorted_walk {B: Nat} {a0: Option Addr} {c0': Nat} {l: List Nat} {w: World} (hI: L4.IS B w (.slice a0 l.length c0') l) (hl: l.length <= 6000) :
 Calls Tryz.prog 38 #[.slice a0 l.length c0'] w fun e W => ∃ a c,e = .returned (.slice a l.length c) /\ L4.IS w.heap.size W (.slice a l.length c) (insAll l) /\ Below w.heap.size w W := by
 have HRD := thid (L5.owns_rd_slice hI)
 have HS0: Hid (SoR w (.slice (some ⟨w.heap.size,0,none⟩) 0 0) [] (w.alloc (.cells #[] 3))) := ⟨owns_low (L5.owns_nil_lit w 3) (Nat.le_refl _),tbelow _ _⟩
 clear hI
 go_enter Tryz.func38,Tryz.ntmps38
 go_wp2_with fail
 go_loopw [3,4] (fun ov iv wx => ∃ (i ob oc: Nat),i <= l.length /\ iv = .int .i64 (i: Int) /\ ov = .slice (some ⟨ob,0,none⟩) (insAll (l.take i)).length oc /\ Hid (SoR w (.slice (some ⟨ob,0,none⟩) (insAll (l.take i)).length oc) (insAll (l.take i)) wx)) (fun _ i _ => l.length - (intOf i).toNat)
 case atStart => exact ⟨0,_,_,Nat.zero_le _,rfl,rfl,HS0.out⟩
 case round =>
  clear HS0
  obtain ⟨i,b,c,hi,rfl,rfl,HR⟩ := hrel
  by_cases hlt: i < l.length
  · have hlt': (i: Int) < (l.length: Int) := by omega
    obtain ⟨x,hx0⟩: ∃ x,l[i]? = some x := ⟨l[i],List.getElem?_eq_getElem hlt⟩
    have hx := thid hx0
    clear hx0
    have hol: (insAll (l.take i)).length <= 6000 := by rw [insAll_len,List.length_take]; omega
    obtain ⟨out,hout⟩: ∃ o,Hid (insAll (l.take i) = o) := ⟨_,rfl⟩
    rw [hout.out] at HR hol ⊢
    generalize wr = W0 at *
    go_upto_block 2 with fail
    go_cut [5] from 7 to 44 (fun av wx => ∃ k: Nat,k <= out.length /\ av = .int .i64 (k: Int) /\ Hid (cutS out x = k) /\ Hid (Below W0.heap.size W0 wx))
    case first =>
     go_wp2_with fail
     go_loopw [5] (fun av wx => ∃ k: Nat,k <= out.length /\ av = .int .i64 (k: Int) /\ Hid ((∀ j y,j < k -> out[j]? = some y -> y < x) /\ Below W0.heap.size W0 wx)) (fun k _ => out.length - (intOf k).toNat)
     case atStart => exact ⟨0,Nat.zero_le _,rfl,fun j y hj => by omega,Below.refl _ _⟩
     case round =>
      obtain ⟨k,hk,rfl,HK⟩ := hrel
      have HR1 := thid (HR.out.on HK.out.2)
      obtain ⟨lb,lo,rfl,pl,c0⟩ := (HRD.out.below HR1.out.bel).2.2 i (.int .i64 (x: Int)) (by simp [nv,hx.out])
      by_cases hkl: k < out.length
      · have hkl': (k: Int) < (out.length: Int) := by omega
        obtain ⟨y,hy⟩: ∃ y,out[k]? = some y := ⟨out[k],List.getElem?_eq_getElem hkl⟩
        have cy: wr.cell? ⟨b,k,none⟩ = some (.int .i64 (y: Int)) := HR1.out.cells (Below.refl _ _) k _ (by simp [nv,hy])
        have bl: b < wr.heap.size := (HR1.out.own.lt b rfl).2
        by_cases hyx: y < x
        · have hyx': (y: Int) < (x: Int) := by omega
          have HK2: Hid ((∀ j y,j < k + 1 -> out[j]? = some y -> y < x) /\ Below W0.heap.size W0 wr) := ⟨fun j z hj hz => by
           by_cases e: j = k
           · subst e; rw [hy] at hz; rw [<- Option.some.inj hz]; exact hyx
           · exact HK.out.1 j z (by omega) hz,HK.out.2⟩
          clear HK HR HR1 HRD hout hy
          go_wp2_with fail
          go_quiet (fail)
          go_wp2
          go_roundw
          case rel => exact ⟨k + 1,hkl,by go_num,HK2.out.1,below_drewN HK2.out.2 _⟩
          case measure => simp [intOf]; omega
        · have hyx': ¬ (y: Int) < (x: Int) := by omega
          have hks: Hid (cutS out x = k) := cut_eq hk HK.out.1 (fun z hz => by rw [hy] at hz; rw [<- Option.some.inj hz]; exact hyx)
          have HKB := thid HK.out.2
          clear HK hy HR HR1 HRD hout
          go_wp2_with fail
          go_quiet (fail)
          go_wp2
          go_meet
          case rel => exact ⟨k,hk,rfl,hks,below_drewN HKB.out _⟩
      · have hkl': decide (k < out.length) = false := decide_eq_false hkl
        have hks: Hid (cutS out x = k) := cut_eq hk HK.out.1 (fun z hz => by rw [List.getElem?_eq_none (by omega)] at hz; cases hz)
        have HKB := thid HK.out.2
        clear HK HR HR1 HRD hout
        go_wp2_with fail
        go_quiet (fail)
        go_wp2
        go_meet
        case rel => exact ⟨k,hk,rfl,hks,below_drewN HKB.out _⟩
    case rest =>
     obtain ⟨k,hk,rfl,hks,HKB⟩ := hcut
     generalize wc = wr at *
     have HR2 := thid (HR.out.on HKB.out)
     clear HR
     have HR := HR2
     clear HR2
     obtain ⟨lb,lo,rfl,pl,c0⟩ := (HRD.out.below HR.out.bel).2.2 i (.int .i64 (x: Int)) (by simp [nv,hx.out])
     have hHeld: wr.drew.cell? ⟨lb,lo + i,none⟩ = some (.int .i64 (x: Int)) := c0
     have hcap := (Rw.owns_cap HR.out.own).1
     have i1: (k: Int) <= (c: Int) := by omega
     have i2: (k: Int) <= (out.length: Int) := by omega
     have i3: (out.length: Int) <= (c: Int) := by omega
     have T1 := thid (fun (W: World) (hb: Below wr.heap.size wr W) => HR.out.src1 (k := k) (m := k) (c' := c) W hb)
     clear HKB HRD
     go_wp2_with fail
     by_cases hcA: c = k
     · have T2: Hid (∀ (W: World),Below wr.heap.size wr W -> Rw.Src W (some ⟨b,0,none⟩) 0 0 ((out.drop k).map nv)) := fun W _ => Or.inr ⟨_,rfl,fun j u hj => by
        rw [List.drop_of_length_le (by omega)] at hj
        simp at hj⟩
       have hcB: k = c := hcA.symm
       subst hcB
       clear hcA
       refine HeT.begin_ (fun w' => w'.cell? ⟨lb,lo + i,none⟩ = some (.int .i64 (x: Int))) 15 (by kernel_rfl) ?_
       refine HeT.take (i := 1) (v := ?_) rfl (by kernel_rfl) (by kernel_rfl) (by kernel_rfl) (by kernel_rfl) (by decide) (fun _ _ _ h => h) (Or.inl ⟨by rfl, ?_⟩) hHeld ?_
       rotate_left
       · intro w' hSw
         (try dsimp only at hSw)
         go_simp
         (try with_reducible rfl)
       (try simp only [Act.put,HeT.pT])
       refine HeT.take (i := 2) (v := ?_) rfl (by kernel_rfl) (by kernel_rfl) (by kernel_rfl) (by kernel_rfl) (by decide) (fun _ _ _ h => h) (Or.inl ⟨by rfl, ?_⟩) hHeld ?_
       rotate_left
       · intro w' hSw
         (try dsimp only at hSw)
         go_simp
         (try with_reducible rfl)
       (try simp only [Act.put,HeT.pT])
       refine HeT.take (i := 3) (v := ?_) rfl (by kernel_rfl) (by kernel_rfl) (by kernel_rfl) (by kernel_rfl) (by decide) (fun _ _ _ h => h) (Or.inl ⟨by rfl, ?_⟩) hHeld ?_
       rotate_left
       · intro w' hSw
         (try dsimp only at hSw)
         go_simp
         (try with_reducible rfl)
       (try simp only [Act.put,HeT.pT])
       refine HeT.take (i := 5) (v := ?_) rfl (by kernel_rfl) (by kernel_rfl) (by kernel_rfl) (by kernel_rfl) (by decide) (fun _ _ _ h => h) (Or.inl ⟨by rfl, ?_⟩) hHeld ?_
       rotate_left
       · intro w' hSw
         (try dsimp only at hSw)
         go_simp
         (try with_reducible rfl)
       (try simp only [Act.put,HeT.pT])
       refine HeT.take (i := 6) (v := ?_) rfl (by kernel_rfl) (by kernel_rfl) (by kernel_rfl) (by kernel_rfl) (by decide) (fun _ _ _ h => h) (Or.inl ⟨by rfl, ?_⟩) hHeld ?_
       rotate_left
       · intro w' hSw
         (try dsimp only at hSw)
         go_simp
         (try with_reducible rfl)
       (try simp only [Act.put,HeT.pT])
       refine HeT.take (i := 7) (v := ?_) rfl (by kernel_rfl) (by kernel_rfl) (by kernel_rfl) (by kernel_rfl) (by decide) (fun _ _ _ h => h) (Or.inl ⟨by rfl, ?_⟩) hHeld ?_
       rotate_left
       · intro w' hSw
         (try dsimp only at hSw)
         go_simp
         (try with_reducible rfl)
       (try simp only [Act.put,HeT.pT])
       refine HeT.take (i := 8) (v := ?_) rfl (by kernel_rfl) (by kernel_rfl) (by kernel_rfl) (by kernel_rfl) (by decide) (fun _ _ _ h => h) (Or.inl ⟨by rfl, ?_⟩) hHeld ?_
       rotate_left
       · intro w' hSw
         (try dsimp only at hSw)
         go_simp
         (try with_reducible rfl)
       (try simp only [Act.put,HeT.pT])
       refine HeT.take (i := 11) (v := ?_) rfl (by kernel_rfl) (by kernel_rfl) (by kernel_rfl) (by kernel_rfl) (by decide) (fun _ _ _ h => h) (Or.inl ⟨by rfl, ?_⟩) hHeld ?_
       rotate_left
       · intro w' hSw
         (try dsimp only at hSw)
         go_simp
         (try with_reducible rfl)
       (try simp only [Act.put,HeT.pT])
       refine HeT.take (i := 12) (v := ?_) rfl (by kernel_rfl) (by kernel_rfl) (by kernel_rfl) (by kernel_rfl) (by decide) (fun _ _ _ h => h) (Or.inl ⟨by rfl, ?_⟩) hHeld ?_
       rotate_left
       · intro w' hSw
         (try dsimp only at hSw)
         go_simp
         (try with_reducible rfl)
       (try simp only [Act.put,HeT.pT])
       refine HeT.take (i := 13) (v := ?_) rfl (by kernel_rfl) (by kernel_rfl) (by kernel_rfl) (by kernel_rfl) (by decide) (fun _ _ _ h => h) (Or.inl ⟨by rfl, ?_⟩) hHeld ?_
       rotate_left
       · intro w' hSw
         (try dsimp only at hSw)
         go_simp
         (try with_reducible rfl)
       (try simp only [Act.put,HeT.pT])
       refine HeT.two (i := 0) (j := 9) (by kernel_rfl) rfl rfl ?_ ?_
       · skip
         intro K hK
         go_simp
         have R1 := thid (RWi.new (U := wr) (Below.refl _ _)).drew
         refine hK _ _ (R1.out.bel.cell (p := ⟨lb,lo + i,none⟩) pl |>.trans c0) ?_
         clear hK K
         (try simp only [Act.put,HeT.pT])
         generalize (wr.alloc (.cells #[] 3)).drew = W1 at *
         refine HeT.two (i := 4) (j := 9) (by kernel_rfl) rfl rfl ?_ ?_
         · skip
           intro K hK
           refine Rw.step_appS (size := 1) (bytes := 8) (z := .int .i64 0) Tryz.underlying55 (by kernel_rfl) rfl (by decide) (by decide) rfl (.tmp 30) (.tmp 33) rfl wr.heap.size R1.out.bel.size (.slice (some ⟨wr.heap.size,0,none⟩) 0 0) 0 (([]: List Nat).map nv) (by simp [Act.eval]) R1.out.own (some ⟨b,0,none⟩) k k ((out.take k).map nv) (by simp [Act.eval]) (T1.out _ R1.out.bel) (by simp; try omega) (nv_oneC _) (by simp; try omega) ?_
           intro v5 w5 hown hgr
           have hown2: w5.ownsRow wr.heap.size 3 1 v5 (([]: List Nat) ++ out.take k).length ((([]: List Nat) ++ out.take k).map nv) := by rw [<- (show 0 + k = (([]: List Nat) ++ out.take k).length by simp; try omega),List.map_append]; exact hown
           have R5 := thid ((R1.out).grow hgr rfl hown2)
           clear hown hown2 hgr
           refine hK _ _ (R5.out.bel.cell (p := ⟨lb,lo + i,none⟩) pl |>.trans c0) ?_
           clear hK K
           (try simp only [Act.put,HeT.pT])
           refine HeT.one (i := 9) (by kernel_rfl) rfl ?_
           intro K hK
           go_simp
           have R5a := thid (R5.out.alloc (.cells #[.int .i64 (x: Int)] 3))
           have X5 := thid (src_oneI (W := w5.alloc (.cells #[.int .i64 (x: Int)] 3)) (x := x) (heap_alloc_new w5 _))
           refine hK _ _ (R5a.out.bel.cell (p := ⟨lb,lo + i,none⟩) pl |>.trans c0) ?_
           clear hK K
           (try simp only [Act.put,HeT.pT])
           generalize hw5: w5.alloc (.cells #[.int .i64 (x: Int)] 3) = W5 at *
           clear hw5
           refine HeT.one (i := 10) (by kernel_rfl) rfl ?_
           intro K hK
           refine Rw.step_appS (size := 1) (bytes := 8) (z := .int .i64 0) Tryz.underlying55 (by kernel_rfl) rfl (by decide) (by decide) rfl (.tmp 34) (.tmp 39) rfl wr.heap.size R5a.out.bel.size v5 (([]: List Nat) ++ out.take k).length ((([]: List Nat) ++ out.take k).map nv) (by simp [Act.eval]) R5a.out.own (some ⟨w5.heap.size,0,none⟩) 1 1 ([x].map nv) (by simp [Act.eval]) X5.out (by simp; try omega) (nv_oneC _) (by simp; try omega) ?_
           intro v6 w6 hown hgr
           have hown2: w6.ownsRow wr.heap.size 3 1 v6 (([]: List Nat) ++ out.take k ++ [x]).length ((([]: List Nat) ++ out.take k ++ [x]).map nv) := by rw [<- (show (([]: List Nat) ++ out.take k).length + 1 = (([]: List Nat) ++ out.take k ++ [x]).length by simp; try omega),List.map_append]; exact hown
           have R6 := thid ((R5a.out).grow hgr rfl hown2)
           clear hown hown2 hgr
           refine hK _ _ (R6.out.bel.cell (p := ⟨lb,lo + i,none⟩) pl |>.trans c0) ?_
           clear hK K
           (try simp only [Act.put,HeT.pT])
           refine HeT.one (i := 14) (by kernel_rfl) rfl ?_
           intro K hK
           refine Rw.step_appS (size := 1) (bytes := 8) (z := .int .i64 0) Tryz.underlying55 (by kernel_rfl) rfl (by decide) (by decide) rfl (.tmp 40) (.tmp 43) rfl wr.heap.size R6.out.bel.size v6 (([]: List Nat) ++ out.take k ++ [x]).length ((([]: List Nat) ++ out.take k ++ [x]).map nv) (by simp [Act.eval]) R6.out.own (some ⟨b,0,none⟩) 0 0 ((out.drop k).map nv) (by simp [Act.eval]) (T2.out _ R6.out.bel) (by simp; try omega) (nv_oneC _) (by simp; try omega) ?_
           intro v7 w7 hown hgr
           have hown2: w7.ownsRow wr.heap.size 3 1 v7 (([]: List Nat) ++ out.take k ++ [x] ++ out.drop k).length ((([]: List Nat) ++ out.take k ++ [x] ++ out.drop k).map nv) := by rw [<- (show (([]: List Nat) ++ out.take k ++ [x]).length + 0 = (([]: List Nat) ++ out.take k ++ [x] ++ out.drop k).length by simp; try omega),List.map_append]; exact hown
           have R7 := thid ((R6.out).grow hgr rfl hown2)
           clear hown hown2 hgr
           refine hK _ _ (R7.out.bel.cell (p := ⟨lb,lo + i,none⟩) pl |>.trans c0) ?_
           clear hK K
           (try simp only [Act.put,HeT.pT])
           obtain ⟨a7,c7,rfl⟩ := Rw.owns_slice R7.out.own
           obtain ⟨g7,rfl⟩ := (Rw.owns_addr R7.out.own).resolve_left (fun h => absurd h.2.1 (by simp))
           have HF := thid (SoR.next hout.out HR.out R7.out hks.out hx.out)
           have hn7: (([]: List Nat) ++ out.take k ++ [x] ++ out.drop k).length = (insAll (l.take (i + 1))).length := HF.out.2
           have HF1 := thid HF.out.1
           rw [hn7] at HF1 ⊢
           generalize hL7: (insAll (l.take (i + 1))).length = L7 at HF1 ⊢
           refine HeT.rest2 (k := 15) rfl (by decide) (by kernel_rfl) ?_
           simp only [List.drop_succ_cons,List.drop_zero]
           clear R7 HF HR hks hx T1 T2 hn7 hout
           go_wp2_with fail
           refine NoPanic.normal ?_
           go_wp2
           go_roundw
           case rel => exact ⟨i + 1,g7,c7,by omega,by go_num,by rw [hL7],by rw [hL7]; exact HF1⟩
           case measure => simp [intOf]; omega
         · skip
           intro K hK
           go_simp
           have R1a := thid (R1.out.alloc (.cells #[.int .i64 (x: Int)] 3))
           have X1 := thid (heap_alloc_new W1 (.cells #[.int .i64 (x: Int)] 3))
           refine hK _ _ (R1a.out.bel.cell (p := ⟨lb,lo + i,none⟩) pl |>.trans c0) ?_
           clear hK K
           (try simp only [Act.put,HeT.pT])
           have hx1: wr.heap.size ≠ W1.heap.size := fun e => by have := R1.out.own.lt wr.heap.size rfl; omega
           generalize hxw: W1.alloc (.cells #[.int .i64 (x: Int)] 3) = W2 at *
           clear hxw
           refine HeT.one (i := 4) (by kernel_rfl) rfl ?_
           intro K hK
           refine Rw.step_appS (size := 1) (bytes := 8) (z := .int .i64 0) Tryz.underlying55 (by kernel_rfl) rfl (by decide) (by decide) rfl (.tmp 30) (.tmp 33) rfl wr.heap.size R1a.out.bel.size (.slice (some ⟨wr.heap.size,0,none⟩) 0 0) 0 (([]: List Nat).map nv) (by simp [Act.eval]) R1a.out.own (some ⟨b,0,none⟩) k k ((out.take k).map nv) (by simp [Act.eval]) (T1.out _ R1a.out.bel) (by simp; try omega) (nv_oneC _) (by simp; try omega) ?_
           intro v5 w5 hown hgr
           have hown2: w5.ownsRow wr.heap.size 3 1 v5 (([]: List Nat) ++ out.take k).length ((([]: List Nat) ++ out.take k).map nv) := by rw [<- (show 0 + k = (([]: List Nat) ++ out.take k).length by simp; try omega),List.map_append]; exact hown
           have R5 := thid ((R1a.out).grow hgr rfl hown2)
           have X5 := thid (src_oneI (W := w5) (x := x) ((hgr.block _ (Array.getElem?_eq_some_iff.1 X1.out).1 (fun e => hx1 (by simpa [Value.ownBlock] using e.symm))).trans X1.out))
           clear hown hown2 hgr
           refine hK _ _ (R5.out.bel.cell (p := ⟨lb,lo + i,none⟩) pl |>.trans c0) ?_
           clear hK K
           (try simp only [Act.put,HeT.pT])
           refine HeT.one (i := 10) (by kernel_rfl) rfl ?_
           intro K hK
           refine Rw.step_appS (size := 1) (bytes := 8) (z := .int .i64 0) Tryz.underlying55 (by kernel_rfl) rfl (by decide) (by decide) rfl (.tmp 34) (.tmp 39) rfl wr.heap.size R5.out.bel.size v5 (([]: List Nat) ++ out.take k).length ((([]: List Nat) ++ out.take k).map nv) (by simp [Act.eval]) R5.out.own (some ⟨W1.heap.size,0,none⟩) 1 1 ([x].map nv) (by simp [Act.eval]) X5.out (by simp; try omega) (nv_oneC _) (by simp; try omega) ?_
           intro v6 w6 hown hgr
           have hown2: w6.ownsRow wr.heap.size 3 1 v6 (([]: List Nat) ++ out.take k ++ [x]).length ((([]: List Nat) ++ out.take k ++ [x]).map nv) := by rw [<- (show (([]: List Nat) ++ out.take k).length + 1 = (([]: List Nat) ++ out.take k ++ [x]).length by simp; try omega),List.map_append]; exact hown
           have R6 := thid ((R5.out).grow hgr rfl hown2)
           clear hown hown2 hgr
           refine hK _ _ (R6.out.bel.cell (p := ⟨lb,lo + i,none⟩) pl |>.trans c0) ?_
           clear hK K
           (try simp only [Act.put,HeT.pT])
           refine HeT.one (i := 14) (by kernel_rfl) rfl ?_
           intro K hK
           refine Rw.step_appS (size := 1) (bytes := 8) (z := .int .i64 0) Tryz.underlying55 (by kernel_rfl) rfl (by decide) (by decide) rfl (.tmp 40) (.tmp 43) rfl wr.heap.size R6.out.bel.size v6 (([]: List Nat) ++ out.take k ++ [x]).length ((([]: List Nat) ++ out.take k ++ [x]).map nv) (by simp [Act.eval]) R6.out.own (some ⟨b,0,none⟩) 0 0 ((out.drop k).map nv) (by simp [Act.eval]) (T2.out _ R6.out.bel) (by simp; try omega) (nv_oneC _) (by simp; try omega) ?_
           intro v7 w7 hown hgr
           have hown2: w7.ownsRow wr.heap.size 3 1 v7 (([]: List Nat) ++ out.take k ++ [x] ++ out.drop k).length ((([]: List Nat) ++ out.take k ++ [x] ++ out.drop k).map nv) := by rw [<- (show (([]: List Nat) ++ out.take k ++ [x]).length + 0 = (([]: List Nat) ++ out.take k ++ [x] ++ out.drop k).length by simp; try omega),List.map_append]; exact hown
           have R7 := thid ((R6.out).grow hgr rfl hown2)
           clear hown hown2 hgr
           refine hK _ _ (R7.out.bel.cell (p := ⟨lb,lo + i,none⟩) pl |>.trans c0) ?_
           clear hK K
           (try simp only [Act.put,HeT.pT])
           obtain ⟨a7,c7,rfl⟩ := Rw.owns_slice R7.out.own
           obtain ⟨g7,rfl⟩ := (Rw.owns_addr R7.out.own).resolve_left (fun h => absurd h.2.1 (by simp))
           have HF := thid (SoR.next hout.out HR.out R7.out hks.out hx.out)
           have hn7: (([]: List Nat) ++ out.take k ++ [x] ++ out.drop k).length = (insAll (l.take (i + 1))).length := HF.out.2
           have HF1 := thid HF.out.1
           rw [hn7] at HF1 ⊢
           generalize hL7: (insAll (l.take (i + 1))).length = L7 at HF1 ⊢
           refine HeT.rest2 (k := 15) rfl (by decide) (by kernel_rfl) ?_
           simp only [List.drop_succ_cons,List.drop_zero]
           clear R7 HF HR hks hx T1 T2 hn7 hout
           go_wp2_with fail
           refine NoPanic.normal ?_
           go_wp2
           go_roundw
           case rel => exact ⟨i + 1,g7,c7,by omega,by go_num,by rw [hL7],by rw [hL7]; exact HF1⟩
           case measure => simp [intOf]; omega
       · skip
         intro K hK
         go_simp
         have B1 := thid ((tbelow wr (.cells #[.int .i64 (x: Int)] 3)).drew)
         have X1: Hid ((wr.alloc (.cells #[.int .i64 (x: Int)] 3)).drew.heap[wr.heap.size]? = some (.cells #[.int .i64 (x: Int)] 3 (0,0))) := heap_alloc_new wr (.cells #[.int .i64 (x: Int)] 3)
         refine hK _ _ (B1.out.cell (p := ⟨lb,lo + i,none⟩) pl |>.trans c0) ?_
         clear hK K
         (try simp only [Act.put,HeT.pT])
         generalize (wr.alloc (.cells #[.int .i64 (x: Int)] 3)).drew = W1 at *
         refine HeT.one (i := 0) (by kernel_rfl) rfl ?_
         intro K hK
         go_simp
         have R1a := thid (RWi.new (U := wr) B1.out)
         have X2: Hid ((W1.alloc (.cells #[] 3)).heap[wr.heap.size]? = some (.cells #[.int .i64 (x: Int)] 3 (0,0))) := ((tbelow W1 _).block _ (Array.getElem?_eq_some_iff.1 X1.out).1).trans X1.out
         refine hK _ _ (R1a.out.bel.cell (p := ⟨lb,lo + i,none⟩) pl |>.trans c0) ?_
         clear hK K
         (try simp only [Act.put,HeT.pT])
         have hx1: W1.heap.size ≠ wr.heap.size := fun e => by have := (Array.getElem?_eq_some_iff.1 X1.out).1; omega
         generalize hxw: W1.alloc (.cells #[] 3) = W2 at *
         clear hxw
         refine HeT.one (i := 4) (by kernel_rfl) rfl ?_
         intro K hK
         refine Rw.step_appS (size := 1) (bytes := 8) (z := .int .i64 0) Tryz.underlying55 (by kernel_rfl) rfl (by decide) (by decide) rfl (.tmp 30) (.tmp 33) rfl wr.heap.size R1a.out.bel.size (.slice (some ⟨W1.heap.size,0,none⟩) 0 0) 0 (([]: List Nat).map nv) (by simp [Act.eval]) R1a.out.own (some ⟨b,0,none⟩) k k ((out.take k).map nv) (by simp [Act.eval]) (T1.out _ R1a.out.bel) (by simp; try omega) (nv_oneC _) (by simp; try omega) ?_
         intro v5 w5 hown hgr
         have hown2: w5.ownsRow wr.heap.size 3 1 v5 (([]: List Nat) ++ out.take k).length ((([]: List Nat) ++ out.take k).map nv) := by rw [<- (show 0 + k = (([]: List Nat) ++ out.take k).length by simp; try omega),List.map_append]; exact hown
         have R5 := thid ((R1a.out).grow hgr rfl hown2)
         have X5 := thid (src_oneI (W := w5) (x := x) ((hgr.block _ (Array.getElem?_eq_some_iff.1 X2.out).1 (fun e => hx1 (by simpa [Value.ownBlock] using e.symm))).trans X2.out))
         clear hown hown2 hgr
         refine hK _ _ (R5.out.bel.cell (p := ⟨lb,lo + i,none⟩) pl |>.trans c0) ?_
         clear hK K
         (try simp only [Act.put,HeT.pT])
         refine HeT.one (i := 10) (by kernel_rfl) rfl ?_
         intro K hK
         refine Rw.step_appS (size := 1) (bytes := 8) (z := .int .i64 0) Tryz.underlying55 (by kernel_rfl) rfl (by decide) (by decide) rfl (.tmp 34) (.tmp 39) rfl wr.heap.size R5.out.bel.size v5 (([]: List Nat) ++ out.take k).length ((([]: List Nat) ++ out.take k).map nv) (by simp [Act.eval]) R5.out.own (some ⟨wr.heap.size,0,none⟩) 1 1 ([x].map nv) (by simp [Act.eval]) X5.out (by simp; try omega) (nv_oneC _) (by simp; try omega) ?_
         intro v6 w6 hown hgr
         have hown2: w6.ownsRow wr.heap.size 3 1 v6 (([]: List Nat) ++ out.take k ++ [x]).length ((([]: List Nat) ++ out.take k ++ [x]).map nv) := by rw [<- (show (([]: List Nat) ++ out.take k).length + 1 = (([]: List Nat) ++ out.take k ++ [x]).length by simp; try omega),List.map_append]; exact hown
         have R6 := thid ((R5.out).grow hgr rfl hown2)
         clear hown hown2 hgr
         refine hK _ _ (R6.out.bel.cell (p := ⟨lb,lo + i,none⟩) pl |>.trans c0) ?_
         clear hK K
         (try simp only [Act.put,HeT.pT])
         refine HeT.one (i := 14) (by kernel_rfl) rfl ?_
         intro K hK
         refine Rw.step_appS (size := 1) (bytes := 8) (z := .int .i64 0) Tryz.underlying55 (by kernel_rfl) rfl (by decide) (by decide) rfl (.tmp 40) (.tmp 43) rfl wr.heap.size R6.out.bel.size v6 (([]: List Nat) ++ out.take k ++ [x]).length ((([]: List Nat) ++ out.take k ++ [x]).map nv) (by simp [Act.eval]) R6.out.own (some ⟨b,0,none⟩) 0 0 ((out.drop k).map nv) (by simp [Act.eval]) (T2.out _ R6.out.bel) (by simp; try omega) (nv_oneC _) (by simp; try omega) ?_
         intro v7 w7 hown hgr
         have hown2: w7.ownsRow wr.heap.size 3 1 v7 (([]: List Nat) ++ out.take k ++ [x] ++ out.drop k).length ((([]: List Nat) ++ out.take k ++ [x] ++ out.drop k).map nv) := by rw [<- (show (([]: List Nat) ++ out.take k ++ [x]).length + 0 = (([]: List Nat) ++ out.take k ++ [x] ++ out.drop k).length by simp; try omega),List.map_append]; exact hown
         have R7 := thid ((R6.out).grow hgr rfl hown2)
         clear hown hown2 hgr
         refine hK _ _ (R7.out.bel.cell (p := ⟨lb,lo + i,none⟩) pl |>.trans c0) ?_
         clear hK K
         (try simp only [Act.put,HeT.pT])
         obtain ⟨a7,c7,rfl⟩ := Rw.owns_slice R7.out.own
         obtain ⟨g7,rfl⟩ := (Rw.owns_addr R7.out.own).resolve_left (fun h => absurd h.2.1 (by simp))
         have HF := thid (SoR.next hout.out HR.out R7.out hks.out hx.out)
         have hn7: (([]: List Nat) ++ out.take k ++ [x] ++ out.drop k).length = (insAll (l.take (i + 1))).length := HF.out.2
         have HF1 := thid HF.out.1
         rw [hn7] at HF1 ⊢
         generalize hL7: (insAll (l.take (i + 1))).length = L7 at HF1 ⊢
         refine HeT.rest2 (k := 15) rfl (by decide) (by kernel_rfl) ?_
         simp only [List.drop_succ_cons,List.drop_zero]
         clear R7 HF HR hks hx T1 T2 hn7 hout
         go_wp2_with fail
         refine NoPanic.normal ?_
         go_wp2
         go_roundw
         case rel => exact ⟨i + 1,g7,c7,by omega,by go_num,by rw [hL7],by rw [hL7]; exact HF1⟩
         case measure => simp [intOf]; omega
     · have T2 := thid (fun (W: World) (hb: Below wr.heap.size wr W) => HR.out.src2 (k := k) (m := out.length - k) (c' := c - k) W hb)
       refine HeT.begin_ (fun w' => w'.cell? ⟨lb,lo + i,none⟩ = some (.int .i64 (x: Int))) 15 (by kernel_rfl) ?_
       refine HeT.take (i := 1) (v := ?_) rfl (by kernel_rfl) (by kernel_rfl) (by kernel_rfl) (by kernel_rfl) (by decide) (fun _ _ _ h => h) (Or.inl ⟨by rfl, ?_⟩) hHeld ?_
       rotate_left
       · intro w' hSw
         (try dsimp only at hSw)
         go_simp
         (try with_reducible rfl)
       (try simp only [Act.put,HeT.pT])
       refine HeT.take (i := 2) (v := ?_) rfl (by kernel_rfl) (by kernel_rfl) (by kernel_rfl) (by kernel_rfl) (by decide) (fun _ _ _ h => h) (Or.inl ⟨by rfl, ?_⟩) hHeld ?_
       rotate_left
       · intro w' hSw
         (try dsimp only at hSw)
         go_simp
         (try with_reducible rfl)
       (try simp only [Act.put,HeT.pT])
       refine HeT.take (i := 3) (v := ?_) rfl (by kernel_rfl) (by kernel_rfl) (by kernel_rfl) (by kernel_rfl) (by decide) (fun _ _ _ h => h) (Or.inl ⟨by rfl, ?_⟩) hHeld ?_
       rotate_left
       · intro w' hSw
         (try dsimp only at hSw)
         go_simp
         (try with_reducible rfl)
       (try simp only [Act.put,HeT.pT])
       refine HeT.take (i := 5) (v := ?_) rfl (by kernel_rfl) (by kernel_rfl) (by kernel_rfl) (by kernel_rfl) (by decide) (fun _ _ _ h => h) (Or.inl ⟨by rfl, ?_⟩) hHeld ?_
       rotate_left
       · intro w' hSw
         (try dsimp only at hSw)
         go_simp
         (try with_reducible rfl)
       (try simp only [Act.put,HeT.pT])
       refine HeT.take (i := 6) (v := ?_) rfl (by kernel_rfl) (by kernel_rfl) (by kernel_rfl) (by kernel_rfl) (by decide) (fun _ _ _ h => h) (Or.inl ⟨by rfl, ?_⟩) hHeld ?_
       rotate_left
       · intro w' hSw
         (try dsimp only at hSw)
         go_simp
         (try with_reducible rfl)
       (try simp only [Act.put,HeT.pT])
       refine HeT.take (i := 7) (v := ?_) rfl (by kernel_rfl) (by kernel_rfl) (by kernel_rfl) (by kernel_rfl) (by decide) (fun _ _ _ h => h) (Or.inl ⟨by rfl, ?_⟩) hHeld ?_
       rotate_left
       · intro w' hSw
         (try dsimp only at hSw)
         go_simp
         (try with_reducible rfl)
       (try simp only [Act.put,HeT.pT])
       refine HeT.take (i := 8) (v := ?_) rfl (by kernel_rfl) (by kernel_rfl) (by kernel_rfl) (by kernel_rfl) (by decide) (fun _ _ _ h => h) (Or.inl ⟨by rfl, ?_⟩) hHeld ?_
       rotate_left
       · intro w' hSw
         (try dsimp only at hSw)
         go_simp
         (try with_reducible rfl)
       (try simp only [Act.put,HeT.pT])
       refine HeT.take (i := 11) (v := ?_) rfl (by kernel_rfl) (by kernel_rfl) (by kernel_rfl) (by kernel_rfl) (by decide) (fun _ _ _ h => h) (Or.inl ⟨by rfl, ?_⟩) hHeld ?_
       rotate_left
       · intro w' hSw
         (try dsimp only at hSw)
         go_simp
         (try with_reducible rfl)
       (try simp only [Act.put,HeT.pT])
       refine HeT.take (i := 12) (v := ?_) rfl (by kernel_rfl) (by kernel_rfl) (by kernel_rfl) (by kernel_rfl) (by decide) (fun _ _ _ h => h) (Or.inl ⟨by rfl, ?_⟩) hHeld ?_
       rotate_left
       · intro w' hSw
         (try dsimp only at hSw)
         go_simp
         (try with_reducible rfl)
       (try simp only [Act.put,HeT.pT])
       refine HeT.take (i := 13) (v := ?_) rfl (by kernel_rfl) (by kernel_rfl) (by kernel_rfl) (by kernel_rfl) (by decide) (fun _ _ _ h => h) (Or.inl ⟨by rfl, ?_⟩) hHeld ?_
       rotate_left
       · intro w' hSw
         (try dsimp only at hSw)
         go_simp
         (try with_reducible rfl)
       (try simp only [Act.put,HeT.pT])
       refine HeT.two (i := 0) (j := 9) (by kernel_rfl) rfl rfl ?_ ?_
       · skip
         intro K hK
         go_simp
         have R1 := thid (RWi.new (U := wr) (Below.refl _ _)).drew
         refine hK _ _ (R1.out.bel.cell (p := ⟨lb,lo + i,none⟩) pl |>.trans c0) ?_
         clear hK K
         (try simp only [Act.put,HeT.pT])
         generalize (wr.alloc (.cells #[] 3)).drew = W1 at *
         refine HeT.two (i := 4) (j := 9) (by kernel_rfl) rfl rfl ?_ ?_
         · skip
           intro K hK
           refine Rw.step_appS (size := 1) (bytes := 8) (z := .int .i64 0) Tryz.underlying55 (by kernel_rfl) rfl (by decide) (by decide) rfl (.tmp 30) (.tmp 33) rfl wr.heap.size R1.out.bel.size (.slice (some ⟨wr.heap.size,0,none⟩) 0 0) 0 (([]: List Nat).map nv) (by simp [Act.eval]) R1.out.own (some ⟨b,0,none⟩) k c ((out.take k).map nv) (by simp [Act.eval]) (T1.out _ R1.out.bel) (by simp; try omega) (nv_oneC _) (by simp; try omega) ?_
           intro v5 w5 hown hgr
           have hown2: w5.ownsRow wr.heap.size 3 1 v5 (([]: List Nat) ++ out.take k).length ((([]: List Nat) ++ out.take k).map nv) := by rw [<- (show 0 + k = (([]: List Nat) ++ out.take k).length by simp; try omega),List.map_append]; exact hown
           have R5 := thid ((R1.out).grow hgr rfl hown2)
           clear hown hown2 hgr
           refine hK _ _ (R5.out.bel.cell (p := ⟨lb,lo + i,none⟩) pl |>.trans c0) ?_
           clear hK K
           (try simp only [Act.put,HeT.pT])
           refine HeT.one (i := 9) (by kernel_rfl) rfl ?_
           intro K hK
           go_simp
           have R5a := thid (R5.out.alloc (.cells #[.int .i64 (x: Int)] 3))
           have X5 := thid (src_oneI (W := w5.alloc (.cells #[.int .i64 (x: Int)] 3)) (x := x) (heap_alloc_new w5 _))
           refine hK _ _ (R5a.out.bel.cell (p := ⟨lb,lo + i,none⟩) pl |>.trans c0) ?_
           clear hK K
           (try simp only [Act.put,HeT.pT])
           generalize hw5: w5.alloc (.cells #[.int .i64 (x: Int)] 3) = W5 at *
           clear hw5
           refine HeT.one (i := 10) (by kernel_rfl) rfl ?_
           intro K hK
           refine Rw.step_appS (size := 1) (bytes := 8) (z := .int .i64 0) Tryz.underlying55 (by kernel_rfl) rfl (by decide) (by decide) rfl (.tmp 34) (.tmp 39) rfl wr.heap.size R5a.out.bel.size v5 (([]: List Nat) ++ out.take k).length ((([]: List Nat) ++ out.take k).map nv) (by simp [Act.eval]) R5a.out.own (some ⟨w5.heap.size,0,none⟩) 1 1 ([x].map nv) (by simp [Act.eval]) X5.out (by simp; try omega) (nv_oneC _) (by simp; try omega) ?_
           intro v6 w6 hown hgr
           have hown2: w6.ownsRow wr.heap.size 3 1 v6 (([]: List Nat) ++ out.take k ++ [x]).length ((([]: List Nat) ++ out.take k ++ [x]).map nv) := by rw [<- (show (([]: List Nat) ++ out.take k).length + 1 = (([]: List Nat) ++ out.take k ++ [x]).length by simp; try omega),List.map_append]; exact hown
           have R6 := thid ((R5a.out).grow hgr rfl hown2)
           clear hown hown2 hgr
           refine hK _ _ (R6.out.bel.cell (p := ⟨lb,lo + i,none⟩) pl |>.trans c0) ?_
           clear hK K
           (try simp only [Act.put,HeT.pT])
           refine HeT.one (i := 14) (by kernel_rfl) rfl ?_
           intro K hK
           refine Rw.step_appS (size := 1) (bytes := 8) (z := .int .i64 0) Tryz.underlying55 (by kernel_rfl) rfl (by decide) (by decide) rfl (.tmp 40) (.tmp 43) rfl wr.heap.size R6.out.bel.size v6 (([]: List Nat) ++ out.take k ++ [x]).length ((([]: List Nat) ++ out.take k ++ [x]).map nv) (by simp [Act.eval]) R6.out.own (some ⟨b,k,none⟩) (out.length - k) (c - k) ((out.drop k).map nv) (by simp [Act.eval]) (T2.out _ R6.out.bel) (by simp; try omega) (nv_oneC _) (by simp; try omega) ?_
           intro v7 w7 hown hgr
           have hown2: w7.ownsRow wr.heap.size 3 1 v7 (([]: List Nat) ++ out.take k ++ [x] ++ out.drop k).length ((([]: List Nat) ++ out.take k ++ [x] ++ out.drop k).map nv) := by rw [<- (show (([]: List Nat) ++ out.take k ++ [x]).length + (out.length - k) = (([]: List Nat) ++ out.take k ++ [x] ++ out.drop k).length by simp; try omega),List.map_append]; exact hown
           have R7 := thid ((R6.out).grow hgr rfl hown2)
           clear hown hown2 hgr
           refine hK _ _ (R7.out.bel.cell (p := ⟨lb,lo + i,none⟩) pl |>.trans c0) ?_
           clear hK K
           (try simp only [Act.put,HeT.pT])
           obtain ⟨a7,c7,rfl⟩ := Rw.owns_slice R7.out.own
           obtain ⟨g7,rfl⟩ := (Rw.owns_addr R7.out.own).resolve_left (fun h => absurd h.2.1 (by simp))
           have HF := thid (SoR.next hout.out HR.out R7.out hks.out hx.out)
           have hn7: (([]: List Nat) ++ out.take k ++ [x] ++ out.drop k).length = (insAll (l.take (i + 1))).length := HF.out.2
           have HF1 := thid HF.out.1
           rw [hn7] at HF1 ⊢
           generalize hL7: (insAll (l.take (i + 1))).length = L7 at HF1 ⊢
           refine HeT.rest2 (k := 15) rfl (by decide) (by kernel_rfl) ?_
           simp only [List.drop_succ_cons,List.drop_zero]
           clear R7 HF HR hks hx T1 T2 hn7 hout
           go_wp2_with fail
           refine NoPanic.normal ?_
           go_wp2
           go_roundw
           case rel => exact ⟨i + 1,g7,c7,by omega,by go_num,by rw [hL7],by rw [hL7]; exact HF1⟩
           case measure => simp [intOf]; omega
         · skip
           intro K hK
           go_simp
           have R1a := thid (R1.out.alloc (.cells #[.int .i64 (x: Int)] 3))
           have X1 := thid (heap_alloc_new W1 (.cells #[.int .i64 (x: Int)] 3))
           refine hK _ _ (R1a.out.bel.cell (p := ⟨lb,lo + i,none⟩) pl |>.trans c0) ?_
           clear hK K
           (try simp only [Act.put,HeT.pT])
           have hx1: wr.heap.size ≠ W1.heap.size := fun e => by have := R1.out.own.lt wr.heap.size rfl; omega
           generalize hxw: W1.alloc (.cells #[.int .i64 (x: Int)] 3) = W2 at *
           clear hxw
           refine HeT.one (i := 4) (by kernel_rfl) rfl ?_
           intro K hK
           refine Rw.step_appS (size := 1) (bytes := 8) (z := .int .i64 0) Tryz.underlying55 (by kernel_rfl) rfl (by decide) (by decide) rfl (.tmp 30) (.tmp 33) rfl wr.heap.size R1a.out.bel.size (.slice (some ⟨wr.heap.size,0,none⟩) 0 0) 0 (([]: List Nat).map nv) (by simp [Act.eval]) R1a.out.own (some ⟨b,0,none⟩) k c ((out.take k).map nv) (by simp [Act.eval]) (T1.out _ R1a.out.bel) (by simp; try omega) (nv_oneC _) (by simp; try omega) ?_
           intro v5 w5 hown hgr
           have hown2: w5.ownsRow wr.heap.size 3 1 v5 (([]: List Nat) ++ out.take k).length ((([]: List Nat) ++ out.take k).map nv) := by rw [<- (show 0 + k = (([]: List Nat) ++ out.take k).length by simp; try omega),List.map_append]; exact hown
           have R5 := thid ((R1a.out).grow hgr rfl hown2)
           have X5 := thid (src_oneI (W := w5) (x := x) ((hgr.block _ (Array.getElem?_eq_some_iff.1 X1.out).1 (fun e => hx1 (by simpa [Value.ownBlock] using e.symm))).trans X1.out))
           clear hown hown2 hgr
           refine hK _ _ (R5.out.bel.cell (p := ⟨lb,lo + i,none⟩) pl |>.trans c0) ?_
           clear hK K
           (try simp only [Act.put,HeT.pT])
           refine HeT.one (i := 10) (by kernel_rfl) rfl ?_
           intro K hK
           refine Rw.step_appS (size := 1) (bytes := 8) (z := .int .i64 0) Tryz.underlying55 (by kernel_rfl) rfl (by decide) (by decide) rfl (.tmp 34) (.tmp 39) rfl wr.heap.size R5.out.bel.size v5 (([]: List Nat) ++ out.take k).length ((([]: List Nat) ++ out.take k).map nv) (by simp [Act.eval]) R5.out.own (some ⟨W1.heap.size,0,none⟩) 1 1 ([x].map nv) (by simp [Act.eval]) X5.out (by simp; try omega) (nv_oneC _) (by simp; try omega) ?_
           intro v6 w6 hown hgr
           have hown2: w6.ownsRow wr.heap.size 3 1 v6 (([]: List Nat) ++ out.take k ++ [x]).length ((([]: List Nat) ++ out.take k ++ [x]).map nv) := by rw [<- (show (([]: List Nat) ++ out.take k).length + 1 = (([]: List Nat) ++ out.take k ++ [x]).length by simp; try omega),List.map_append]; exact hown
           have R6 := thid ((R5.out).grow hgr rfl hown2)
           clear hown hown2 hgr
           refine hK _ _ (R6.out.bel.cell (p := ⟨lb,lo + i,none⟩) pl |>.trans c0) ?_
           clear hK K
           (try simp only [Act.put,HeT.pT])
           refine HeT.one (i := 14) (by kernel_rfl) rfl ?_
           intro K hK
           refine Rw.step_appS (size := 1) (bytes := 8) (z := .int .i64 0) Tryz.underlying55 (by kernel_rfl) rfl (by decide) (by decide) rfl (.tmp 40) (.tmp 43) rfl wr.heap.size R6.out.bel.size v6 (([]: List Nat) ++ out.take k ++ [x]).length ((([]: List Nat) ++ out.take k ++ [x]).map nv) (by simp [Act.eval]) R6.out.own (some ⟨b,k,none⟩) (out.length - k) (c - k) ((out.drop k).map nv) (by simp [Act.eval]) (T2.out _ R6.out.bel) (by simp; try omega) (nv_oneC _) (by simp; try omega) ?_
           intro v7 w7 hown hgr
           have hown2: w7.ownsRow wr.heap.size 3 1 v7 (([]: List Nat) ++ out.take k ++ [x] ++ out.drop k).length ((([]: List Nat) ++ out.take k ++ [x] ++ out.drop k).map nv) := by rw [<- (show (([]: List Nat) ++ out.take k ++ [x]).length + (out.length - k) = (([]: List Nat) ++ out.take k ++ [x] ++ out.drop k).length by simp; try omega),List.map_append]; exact hown
           have R7 := thid ((R6.out).grow hgr rfl hown2)
           clear hown hown2 hgr
           refine hK _ _ (R7.out.bel.cell (p := ⟨lb,lo + i,none⟩) pl |>.trans c0) ?_
           clear hK K
           (try simp only [Act.put,HeT.pT])
           obtain ⟨a7,c7,rfl⟩ := Rw.owns_slice R7.out.own
           obtain ⟨g7,rfl⟩ := (Rw.owns_addr R7.out.own).resolve_left (fun h => absurd h.2.1 (by simp))
           have HF := thid (SoR.next hout.out HR.out R7.out hks.out hx.out)
           have hn7: (([]: List Nat) ++ out.take k ++ [x] ++ out.drop k).length = (insAll (l.take (i + 1))).length := HF.out.2
           have HF1 := thid HF.out.1
           rw [hn7] at HF1 ⊢
           generalize hL7: (insAll (l.take (i + 1))).length = L7 at HF1 ⊢
           refine HeT.rest2 (k := 15) rfl (by decide) (by kernel_rfl) ?_
           simp only [List.drop_succ_cons,List.drop_zero]
           clear R7 HF HR hks hx T1 T2 hn7 hout
           go_wp2_with fail
           refine NoPanic.normal ?_
           go_wp2
           go_roundw
           case rel => exact ⟨i + 1,g7,c7,by omega,by go_num,by rw [hL7],by rw [hL7]; exact HF1⟩
           case measure => simp [intOf]; omega
       · skip
         intro K hK
         go_simp
         have B1 := thid ((tbelow wr (.cells #[.int .i64 (x: Int)] 3)).drew)
         have X1: Hid ((wr.alloc (.cells #[.int .i64 (x: Int)] 3)).drew.heap[wr.heap.size]? = some (.cells #[.int .i64 (x: Int)] 3 (0,0))) := heap_alloc_new wr (.cells #[.int .i64 (x: Int)] 3)
         refine hK _ _ (B1.out.cell (p := ⟨lb,lo + i,none⟩) pl |>.trans c0) ?_
         clear hK K
         (try simp only [Act.put,HeT.pT])
         generalize (wr.alloc (.cells #[.int .i64 (x: Int)] 3)).drew = W1 at *
         refine HeT.one (i := 0) (by kernel_rfl) rfl ?_
         intro K hK
         go_simp
         have R1a := thid (RWi.new (U := wr) B1.out)
         have X2: Hid ((W1.alloc (.cells #[] 3)).heap[wr.heap.size]? = some (.cells #[.int .i64 (x: Int)] 3 (0,0))) := ((tbelow W1 _).block _ (Array.getElem?_eq_some_iff.1 X1.out).1).trans X1.out
         refine hK _ _ (R1a.out.bel.cell (p := ⟨lb,lo + i,none⟩) pl |>.trans c0) ?_
         clear hK K
         (try simp only [Act.put,HeT.pT])
         have hx1: W1.heap.size ≠ wr.heap.size := fun e => by have := (Array.getElem?_eq_some_iff.1 X1.out).1; omega
         generalize hxw: W1.alloc (.cells #[] 3) = W2 at *
         clear hxw
         refine HeT.one (i := 4) (by kernel_rfl) rfl ?_
         intro K hK
         refine Rw.step_appS (size := 1) (bytes := 8) (z := .int .i64 0) Tryz.underlying55 (by kernel_rfl) rfl (by decide) (by decide) rfl (.tmp 30) (.tmp 33) rfl wr.heap.size R1a.out.bel.size (.slice (some ⟨W1.heap.size,0,none⟩) 0 0) 0 (([]: List Nat).map nv) (by simp [Act.eval]) R1a.out.own (some ⟨b,0,none⟩) k c ((out.take k).map nv) (by simp [Act.eval]) (T1.out _ R1a.out.bel) (by simp; try omega) (nv_oneC _) (by simp; try omega) ?_
         intro v5 w5 hown hgr
         have hown2: w5.ownsRow wr.heap.size 3 1 v5 (([]: List Nat) ++ out.take k).length ((([]: List Nat) ++ out.take k).map nv) := by rw [<- (show 0 + k = (([]: List Nat) ++ out.take k).length by simp; try omega),List.map_append]; exact hown
         have R5 := thid ((R1a.out).grow hgr rfl hown2)
         have X5 := thid (src_oneI (W := w5) (x := x) ((hgr.block _ (Array.getElem?_eq_some_iff.1 X2.out).1 (fun e => hx1 (by simpa [Value.ownBlock] using e.symm))).trans X2.out))
         clear hown hown2 hgr
         refine hK _ _ (R5.out.bel.cell (p := ⟨lb,lo + i,none⟩) pl |>.trans c0) ?_
         clear hK K
         (try simp only [Act.put,HeT.pT])
         refine HeT.one (i := 10) (by kernel_rfl) rfl ?_
         intro K hK
         refine Rw.step_appS (size := 1) (bytes := 8) (z := .int .i64 0) Tryz.underlying55 (by kernel_rfl) rfl (by decide) (by decide) rfl (.tmp 34) (.tmp 39) rfl wr.heap.size R5.out.bel.size v5 (([]: List Nat) ++ out.take k).length ((([]: List Nat) ++ out.take k).map nv) (by simp [Act.eval]) R5.out.own (some ⟨wr.heap.size,0,none⟩) 1 1 ([x].map nv) (by simp [Act.eval]) X5.out (by simp; try omega) (nv_oneC _) (by simp; try omega) ?_
         intro v6 w6 hown hgr
         have hown2: w6.ownsRow wr.heap.size 3 1 v6 (([]: List Nat) ++ out.take k ++ [x]).length ((([]: List Nat) ++ out.take k ++ [x]).map nv) := by rw [<- (show (([]: List Nat) ++ out.take k).length + 1 = (([]: List Nat) ++ out.take k ++ [x]).length by simp; try omega),List.map_append]; exact hown
         have R6 := thid ((R5.out).grow hgr rfl hown2)
         clear hown hown2 hgr
         refine hK _ _ (R6.out.bel.cell (p := ⟨lb,lo + i,none⟩) pl |>.trans c0) ?_
         clear hK K
         (try simp only [Act.put,HeT.pT])
         refine HeT.one (i := 14) (by kernel_rfl) rfl ?_
         intro K hK
         refine Rw.step_appS (size := 1) (bytes := 8) (z := .int .i64 0) Tryz.underlying55 (by kernel_rfl) rfl (by decide) (by decide) rfl (.tmp 40) (.tmp 43) rfl wr.heap.size R6.out.bel.size v6 (([]: List Nat) ++ out.take k ++ [x]).length ((([]: List Nat) ++ out.take k ++ [x]).map nv) (by simp [Act.eval]) R6.out.own (some ⟨b,k,none⟩) (out.length - k) (c - k) ((out.drop k).map nv) (by simp [Act.eval]) (T2.out _ R6.out.bel) (by simp; try omega) (nv_oneC _) (by simp; try omega) ?_
         intro v7 w7 hown hgr
         have hown2: w7.ownsRow wr.heap.size 3 1 v7 (([]: List Nat) ++ out.take k ++ [x] ++ out.drop k).length ((([]: List Nat) ++ out.take k ++ [x] ++ out.drop k).map nv) := by rw [<- (show (([]: List Nat) ++ out.take k ++ [x]).length + (out.length - k) = (([]: List Nat) ++ out.take k ++ [x] ++ out.drop k).length by simp; try omega),List.map_append]; exact hown
         have R7 := thid ((R6.out).grow hgr rfl hown2)
         clear hown hown2 hgr
         refine hK _ _ (R7.out.bel.cell (p := ⟨lb,lo + i,none⟩) pl |>.trans c0) ?_
         clear hK K
         (try simp only [Act.put,HeT.pT])
         obtain ⟨a7,c7,rfl⟩ := Rw.owns_slice R7.out.own
         obtain ⟨g7,rfl⟩ := (Rw.owns_addr R7.out.own).resolve_left (fun h => absurd h.2.1 (by simp))
         have HF := thid (SoR.next hout.out HR.out R7.out hks.out hx.out)
         have hn7: (([]: List Nat) ++ out.take k ++ [x] ++ out.drop k).length = (insAll (l.take (i + 1))).length := HF.out.2
         have HF1 := thid HF.out.1
         rw [hn7] at HF1 ⊢
         generalize hL7: (insAll (l.take (i + 1))).length = L7 at HF1 ⊢
         refine HeT.rest2 (k := 15) rfl (by decide) (by kernel_rfl) ?_
         simp only [List.drop_succ_cons,List.drop_zero]
         clear R7 HF HR hks hx T1 T2 hn7 hout
         go_wp2_with fail
         refine NoPanic.normal ?_
         go_wp2
         go_roundw
         case rel => exact ⟨i + 1,g7,c7,by omega,by go_num,by rw [hL7],by rw [hL7]; exact HF1⟩
         case measure => simp [intOf]; omega
  · have hlt': ¬ (i: Int) < (l.length: Int) := by omega
    have hil: i = l.length := by omega
    subst hil
    rw [List.take_length] at HR ⊢
    have hn := insAll_len l
    rw [hn] at HR ⊢
    have HE: Hid (L4.IS w.heap.size wr (.slice (some ⟨b,0,none⟩) l.length c) (insAll l) /\ Below w.heap.size w wr) := ⟨by have := HR.out.own; rw [hn] at this; unfold L4.IS; rw [hn]; exact this,HR.out.bel⟩
    clear HR
    go_wp2
    go_ret
    exact ⟨_,c,rfl,HE.out⟩
end Go.Proofs.YtdnkbdjhccckhaaGreat
