import Derived.Test.YtdnkbdjhccckhaaGreatMBQ
set_option maxRecDepth 100000
set_option maxHeartbeats 4000000
namespace Go.Proofs.YtdnkbdjhccckhaaGreat
open Go.RowKit
open L4 (Ar ArP Abs arV nv)
def feed {γ: Type} (tt: ByteArray) (ph: γ -> ByteArray -> γ × Bool): List ByteArray -> γ -> γ × Bool
 | [],c => (c,false)
 | x :: l,c => if tt.size ≠ 0 /\ ¬ L5.ltB tt x = true then (c,true) else if (ph c x).2 then feed tt ph l (ph c x).1 else ((ph c x).1,true)
structure Fed {σ γ: Type} (C: L4.St σ) (ct: σ -> γ) (ph: γ -> ByteArray -> γ × Bool) (wg: γ -> Nat) (M: Nat) (gf: FuncId) (ff cf: Array Value): Prop where
 gt: ∀ args w,(callFunc gf args).run Tryz.prog w = .ok (.enter gf args) w
 call: ∀ (c: σ) (W: World) (x: ByteArray),C.P c W -> wg (ct c) + 1 <= M -> x.size <= 5000 -> Calls Tryz.prog gf (ff.push (.string x) ++ cf) W fun e W' => e = .returned (.bool (ph (ct c) x).2) /\ ∃ c',C.P c' W' /\ ct c' = (ph (ct c) x).1 /\ L4.Moves C c c' W W'
 wgs: ∀ (c: γ) (x: ByteArray),wg (ph c x).1 <= wg c + 1
def walkSt {σ: Type} (C: L4.St σ) (k: Nat) (fr tt: ByteArray) (fv: Value): L4.St (σ × Bool) where
 own b q := C.own b.1 q \/ q = k
 P b W := C.P b.1 W /\ W.heap[k]? = some (.cells #[.string fr, .string tt,fv, .bool b.2] 121 (0,0)) /\ ¬ C.own b.1 k
 keep b w w' h hk hp := ⟨C.keep b.1 w w' h.1 (fun q hq => hk q (Or.inl hq)) hp,(hk k (Or.inr rfl)).trans h.2.1,h.2.2⟩
 lt b w q h hq := by
  rcases hq with hq | rfl
  · exact C.lt b.1 w q h.1 hq
  · exact (Array.getElem?_eq_some_iff.1 h.2.1).1
 tag b w q cs h hq := by
  rcases hq with hq | rfl
  · exact C.tag b.1 w q cs h.1 hq
  · intro e
    rw [h.2.1] at e
    simp at e
section
variable {σ γ: Type} {C: L4.St σ} {ct: σ -> γ} {ph: γ -> ByteArray -> γ × Bool} {wg: γ -> Nat} {M: Nat} {gf: FuncId} {ff cf: Array Value} {fr tt: ByteArray} {k: Nat}
def tellE (fr tt: ByteArray) (ph: γ -> ByteArray -> γ × Bool) (b: γ × Bool) (_: Nat) (n: L5.No): γ × Bool := if n.leaf then ((feed tt ph (n.recs.drop (n.recs.countP (L5.ltB fr))) b.1).1,b.2 || (feed tt ph (n.recs.drop (n.recs.countP (L5.ltB fr))) b.1).2) else b
theorem feed_wg (hw: ∀ (c: γ) (x: ByteArray),wg (ph c x).1 <= wg c + 1): ∀ (l: List ByteArray) (c: γ),wg (feed tt ph l c).1 <= wg c + l.length := by
 intro l
 induction l with
 | nil => intro c; exact Nat.le_refl _
 | cons x l ih =>
  intro c
  unfold feed
  have h1 := hw c x
  have h2 := ih (ph c x).1
  split
  · simp
  · split
    · simp; omega
    · simp; omega
def Told (C: L4.St σ) (k: Nat) (fr tt: ByteArray) (fv: Value) (ct: σ -> γ) (ph: γ -> ByteArray -> γ × Bool) (c: σ) (o: Bool) (n: L5.No) (W W': World): Prop := ∃ b': σ × Bool,(walkSt C k fr tt fv).P b' W' /\ (ct b'.1,b'.2) = tellE fr tt ph (ct c,o) 0 n /\ L4.Moves (walkSt C k fr tt fv) (c,o) b' W W'
theorem feed_stop {y: ByteArray} {l: List ByteArray} {g: γ} (h1: tt.toList.isEmpty = false) (h2: Op.bytesLess y.toList tt.toList = false): feed tt ph (y :: l) g = (g,true) := by
 rw [L5.isEmpty_size] at h1
 unfold feed
 rw [if_pos ⟨by simpa using h1,by unfold L5.ltB; rw [h2]; decide⟩]
theorem feed_go {y: ByteArray} {l: List ByteArray} {g: γ} (h: tt.toList.isEmpty = true \/ Op.bytesLess y.toList tt.toList = true): feed tt ph (y :: l) g = if (ph g y).2 then feed tt ph l (ph g y).1 else ((ph g y).1,true) := by
 rw [feed,if_neg]
 rintro ⟨h1,h2⟩
 rcases h with h | h
 · rw [L5.isEmpty_size] at h
   exact h1 (by simpa using h)
 · exact h2 h
theorem walk_moves {c c': σ} {o: Bool} {fv: Value} {W W': World} (h: (walkSt C k fr tt fv).P (c,o) W) (hp: C.P c' W') (hm: L4.Moves C c c' W W'): (walkSt C k fr tt fv).P (c',o) W' /\ L4.Moves (walkSt C k fr tt fv) (c,o) (c',o) W W' := by
 obtain ⟨h1,h2,h3⟩ := h
 have kl := (Array.getElem?_eq_some_iff.1 h2).1
 refine ⟨⟨hp,(hm.only.block k kl h3).trans h2,fun x => ?_⟩,hm.only.weaken fun _ _ y => Or.inl y,fun q hq => ?_⟩
 · rcases hm.own k x with x | x
   · exact h3 x
   · omega
 · rcases hq with hq | hq
   · exact (hm.own q hq).imp Or.inl id
   · exact Or.inl (Or.inr hq)
theorem walk_over {c: σ} {o: Bool} {fv: Value} {W: World} (h: (walkSt C k fr tt fv).P (c,o) W): (walkSt C k fr tt fv).P (c,true) (W.setCell ⟨k,3,none⟩ (.bool true)) /\ L4.Moves (walkSt C k fr tt fv) (c,o) (c,true) W (W.setCell ⟨k,3,none⟩ (.bool true)) := by
 obtain ⟨h1,h2,h3⟩ := h
 have oth: ∀ q,q ≠ k -> (W.setCell ⟨k,3,none⟩ (.bool true)).heap[q]? = W.heap[q]? := fun q hq => heap_setCell_other _ _ _ _ hq
 refine ⟨⟨C.keep c W _ h1 (fun q hq => oth q fun e => h3 (e ▸ hq)) (fun q cs hq => oth q (tag_ne hq h2 (by decide))),heap_setCell_same W k 3 _ _ _ h2,h3⟩,(Only.refl _ W).setCell (p := ⟨k,3,none⟩) (Or.inr (Or.inr rfl)) _,fun q hq => Or.inl hq⟩
theorem enough_any {c: σ} {o: Bool} {fv: Value} {W: World} (h: (walkSt C k fr tt fv).P (c,o) W): Calls Tryz.prog 69 #[.pointer (some ⟨k,0,none⟩)] W fun e W' => e = .returned (.bool o) /\ Below W.heap.size W W' := by
 have c3: W.cell? ⟨k,3,none⟩ = some (.bool o) := by rw [cell_of_row _ _ _ _ _ _ h.2.1]; rfl
 have kl := (Array.getElem?_eq_some_iff.1 h.2.1).1
 clear h
 go_enter Tryz.func69,Tryz.ntmps69
 go_wp2
 go_ret
 exact ⟨rfl,by first | exact Below.refl _ _ | exact (Below.refl _ _).drew⟩
theorem tell_any (F: Fed C ct ph wg M gf ff cf) {c: σ} {o: Bool} {W: World} {at_: Int} {n: L5.No} {a: Option Addr} {cc: Nat} {a': Option Addr} {c': Nat} (hP: (walkSt C k fr tt (.func (.func gf) ff cf)).P (c,o) W) (hr: L5.NR W n a cc a' c') (ha: ∀ q o',a = some ⟨q,o',none⟩ -> ¬ (walkSt C k fr tt (.func (.func gf) ff cf)).own (c,o) q) (hs: n.small) (hw: wg (ct c) + leafN n + 1 <= M) :
 Calls Tryz.prog 68 #[.pointer (some ⟨k,0,none⟩), .int .i64 at_,L5.nodeV n a cc a' c'] W fun e W' => e = .returned (.tuple #[]) /\ Told C k fr tt (.func (.func gf) ff cf) ct ph c o n W W' := by
 have HP := thid hP
 have HR := thid hr
 have HA := thid ha
 have HF := thid F
 have HS := thid hs
 have kl := (Array.getElem?_eq_some_iff.1 hP.2.1).1
 clear hP hr ha F
 have HB1 := thid (tbelow W (.cells #[.bool n.leaf, .slice a n.recs.length cc, .slice a' n.kids.length c'] 69))
 have a1 := heap_alloc_new W (.cells #[.bool n.leaf, .slice a n.recs.length cc, .slice a' n.kids.length c'] 69)
 unfold L5.nodeV
 go_enter Tryz.func68,Tryz.ntmps68
 cases hlf: n.leaf with
 | false =>
  rw [hlf] at a1 HB1
  have HD: Hid (Told C k fr tt (.func (.func gf) ff cf) ct ph c o n W (W.alloc (.cells #[.bool false, .slice a n.recs.length cc, .slice a' n.kids.length c'] 69))) := ⟨(c,o),(walkSt C k fr tt (.func (.func gf) ff cf)).below HP.out HB1.out,by unfold tellE; rw [hlf]; rfl,L4.Moves.below HB1.out⟩
  go_wp2
  refine bodyPost_ret (v := .tuple #[]) (by simp [results,Tryz.results68,go_sem]) rfl ⟨rfl,HD.out⟩
 | true =>
  rw [hlf] at a1 HB1
  have hk0 := List.countP_le_length (p := L5.ltB fr) (l := n.recs)
  obtain ⟨k0,hk0e⟩: ∃ k0,Hid (n.recs.countP (L5.ltB fr) = k0) := ⟨_,rfl⟩
  rw [hk0e.out] at hk0
  go_wp2_with fail
  have hkW: k < (W.alloc (.cells #[.bool true, .slice a n.recs.length cc, .slice a' n.kids.length c'] 69)).heap.size := Nat.lt_of_lt_of_le kl HB1.out.size
  have HR1 := thid (HR.out.below HB1.out)
  have HP1 := thid ((walkSt C k fr tt (.func (.func gf) ff cf)).below HP.out HB1.out)
  generalize W.alloc (.cells #[.bool true, .slice a n.recs.length cc, .slice a' n.kids.length c'] 69) = W1 at *
  have nl := (Array.getElem?_eq_some_iff.1 a1).1
  have HM := thid (fun q: L4.BelowW W1 => (q.below.block W.heap.size nl).trans a1)
  have HMW := thid (fun q: L4.BelowW W1 => ((walkSt C k fr tt (.func (.func gf) ff cf)).below HP1.out q.below))
  have y0: ∀ q: L4.BelowW W1,q.w.cell? ⟨W.heap.size,0,none⟩ = some (.bool true) := fun q => by rw [cell_of_row _ _ _ _ _ _ (HM.out q)]; rfl
  have y1: ∀ q: L4.BelowW W1,q.w.cell? ⟨W.heap.size,1,none⟩ = some (.slice a n.recs.length cc) := fun q => by rw [cell_of_row _ _ _ _ _ _ (HM.out q)]; rfl
  have y2: ∀ q: L4.BelowW W1,q.w.cell? ⟨W.heap.size,2,none⟩ = some (.slice a' n.kids.length c') := fun q => by rw [cell_of_row _ _ _ _ _ _ (HM.out q)]; rfl
  have x0: ∀ q: L4.BelowW W1,q.w.cell? ⟨k,0,none⟩ = some (.string fr) := fun q => by rw [cell_of_row _ _ _ _ _ _ (HMW.out q).2.1]; rfl
  have HFN: ∀ q: L4.BelowW W1,Calls Tryz.prog 64 #[.agg #[.bool true, .slice a n.recs.length cc, .slice a' n.kids.length c'], .string fr] q.w fun e w' => e = .returned (.tuple #[.int .i64 (k0: Int), .bool (L5.isAt n.recs fr k0)]) /\ Below q.w.heap.size q.w w' := fun q => by
   have := L5.find_walk (n := n) (HR1.out.below q.below) HS.out.recs fr
   unfold L5.nodeV at this
   rw [hlf,hk0e.out] at this
   exact this
  refine L4.wp_region_below (by kernel_rfl) (by kernel_rfl) (fun _ => ?_)
  repeat (go_big_quiet_step (first | (go_at_call 64; exact L4.quiet_of_below (HFN _))))
  refine wpQuiet_nil ?_
  rintro _ ⟨q,rfl⟩
  have HP2 := thid (HMW.out q)
  have HB2 := thid (tbelow_on HB1.out q.below)
  have a2 := HM.out q
  have HR2 := thid (HR1.out.below q.below)
  generalize q.w = w2 at *
  clear HM HMW y0 y1 y2 x0 HFN q a1 HR1 HP1 hkW nl HB1
  have n1: w2.cell? ⟨W.heap.size,1,none⟩ = some (.slice a n.recs.length cc) := by rw [cell_of_row _ _ _ _ _ _ a2]; rfl
  have nl := (Array.getElem?_eq_some_iff.1 a2).1
  have hcp: n.recs.length <= cc := by have := HR2.out.recs.1; simpa [L5.svs] using this
  have hkp: (k0: Int) <= (n.recs.length: Int) := by omega
  have HN: Hid (k0 = n.recs.length -> Told C k fr tt (.func (.func gf) ff cf) ct ph c o n W w2) := fun e => ⟨(c,o),HP2.out,by unfold tellE; rw [hlf,hk0e.out,e,List.drop_of_length_le (Nat.le_refl _)]; simp [feed],L4.Moves.below HB2.out⟩
  rcases Nat.eq_zero_or_pos n.recs.length with hz | hz
  · have hk00: k0 = 0 := by omega
    subst hk00
    have HD := thid (HN.out hz.symm)
    rw [hz] at n1
    clear HN
    go_wp2_with fail
    go_loopw [27] (fun i wr => i = .int .i64 0 /\ wr = w2) (fun _ _ => 0)
    case atStart => exact ⟨rfl,rfl⟩
    case round =>
     obtain ⟨rfl,rfl⟩ := hrel
     go_wp2
     go_end0
     exact ⟨rfl,HD.out⟩
  obtain ⟨qb,qo,rfl,hqb,hqc⟩: ∃ qb qo,a = some ⟨qb,qo,none⟩ /\ qb < W.heap.size /\ ∀ j (hj: j < n.recs.length),W.cell? ⟨qb,qo + j,none⟩ = some (.string n.recs[j]) := by
   obtain ⟨q1,o1,e1,l1,_⟩ := HR.out.recs.str 0 hz
   refine ⟨q1,o1,e1,l1,fun j hj => ?_⟩
   obtain ⟨q2,o2,e2,_,c2⟩ := HR.out.recs.str j hj
   rw [e1] at e2
   cases e2
   exact c2
  by_cases hck: cc = k0
  · have hkl: k0 = n.recs.length := by omega
    have HD := thid (HN.out hkl)
    have hz2: n.recs.length - k0 = 0 := by omega
    clear HN
    go_wp2_with fail
    go_loopw [27] (fun i wr => i = .int .i64 0 /\ wr = w2) (fun _ _ => 0)
    case atStart => exact ⟨rfl,rfl⟩
    case round =>
     obtain ⟨rfl,rfl⟩ := hrel
     have hz3: ¬ ((0: Int) < ((n.recs.length - k0: Nat): Int)) := by omega
     go_wp2
     go_end0
     exact ⟨rfl,HD.out⟩
  go_wp2_with fail
  obtain ⟨rl,hrl⟩: ∃ rl,Hid (n.recs.length - k0 = rl) := ⟨_,rfl⟩
  rw [hrl.out]
  have hrl1: k0 + rl = n.recs.length := by have := hrl.out; omega
  have hqn := HA.out qb qo rfl
  have hrl9: rl <= 1000 := by have := HS.out.recs; omega
  have hlm: wg (ct c) + n.recs.length + 1 <= M := by unfold leafN at hw; rw [hlf] at hw; simpa using hw
  go_loopw [27] (fun i wr => ∃ j: Nat,j <= rl /\ i = .int .i64 (j: Int) /\ ∃ c5: σ,Hid ((walkSt C k fr tt (.func (.func gf) ff cf)).P (c5,o) wr /\ L4.Moves (walkSt C k fr tt (.func (.func gf) ff cf)) (c,o) (c5,o) W wr /\ feed tt ph (n.recs.drop k0) (ct c) = feed tt ph (n.recs.drop (k0 + j)) (ct c5) /\ wg (ct c5) <= wg (ct c) + j)) (fun i _ => rl - (intOf i).toNat)
  case atStart => exact ⟨0,Nat.zero_le _,rfl,c,HP2.out,L4.Moves.below HB2.out,rfl,by omega⟩
  case round =>
   clear n1 nl a2 HP2 HB2 HN
   obtain ⟨j,hj,rfl,c5,HI⟩ := hrel
   by_cases hlt: j < rl
   · have hlt': (j: Int) < (rl: Int) := by omega
     obtain ⟨i1,i2,i3,i4⟩ := HI.out
     have hidx: k0 + j < n.recs.length := by omega
     have hcell: wr.cell? ⟨qb,qo + k0 + j,none⟩ = some (.string n.recs[k0 + j]) := by
      rw [<- hqc (k0 + j) hidx,Nat.add_assoc]
      exact i2.only.cell (p := ⟨qb,qo + (k0 + j),none⟩) hqb hqn
     have lqb: qb < wr.heap.size := Nat.lt_of_lt_of_le hqb i2.only.size
     have hdr: n.recs.drop (k0 + j) = n.recs[k0 + j] :: n.recs.drop (k0 + j + 1) := List.drop_eq_getElem_cons hidx
     rw [hdr] at i3
     have hysz: n.recs[k0 + j].size <= 5000 := HS.out.each _ (List.getElem_mem hidx)
     generalize n.recs[k0 + j] = y at *
     have d1: wr.cell? ⟨k,1,none⟩ = some (.string tt) := by rw [cell_of_row _ _ _ _ _ _ i1.2.1]; rfl
     have d2: wr.cell? ⟨k,2,none⟩ = some (.func (.func gf) ff cf) := by rw [cell_of_row _ _ _ _ _ _ i1.2.1]; rfl
     have d3: wr.cell? ⟨k,3,none⟩ = some (.bool o) := by rw [cell_of_row _ _ _ _ _ _ i1.2.1]; rfl
     have df: ∀ i,wr.frozen? ⟨k,i,none⟩ = false := fun i => frozen_of_row _ _ _ _ _ i1.2.1
     have dl := (Array.getElem?_eq_some_iff.1 i1.2.1).1
     have hgt := HF.out.gt
     have hwk: wg (ct c5) + 1 <= M := by omega
     have HOV: Hid (∀ (c6: σ) (w6: World),(walkSt C k fr tt (.func (.func gf) ff cf)).P (c6,o) w6 -> L4.Moves (walkSt C k fr tt (.func (.func gf) ff cf)) (c5,o) (c6,o) wr w6 -> feed tt ph (n.recs.drop k0) (ct c) = (ct c6,true) -> Told C k fr tt (.func (.func gf) ff cf) ct ph c o n W (w6.setCell ⟨k,3,none⟩ (.bool true))) := fun c6 w6 h1 h2 h3 => by
      obtain ⟨g1,g2⟩ := walk_over h1
      refine ⟨(c6,true),g1, ?_,(i2.trans h2).trans g2⟩
      unfold tellE
      rw [hlf,hk0e.out,h3]
      simp
     by_cases hst: tt.toList.isEmpty = false /\ Op.bytesLess y.toList tt.toList = false
     · obtain ⟨hs1,hs2⟩ := hst
       have HD := thid (HOV.out c5 wr i1 (L4.Moves.refl _ _ _) (i3.trans (feed_stop hs1 hs2)))
       clear i1 i2 i3 HI HOV
       go_wp2_with fail
       refine bodyPost_ret (v := .tuple #[]) (by simp [results,Tryz.results68,go_sem]) rfl ⟨rfl,HD.out⟩
     · have hgo: tt.toList.isEmpty = true \/ (tt.toList.isEmpty = false /\ Op.bytesLess y.toList tt.toList = true) := by
        cases h1: tt.toList.isEmpty
        · cases h2: Op.bytesLess y.toList tt.toList
          · exact absurd ⟨h1,h2⟩ hst
          · exact Or.inr ⟨rfl,rfl⟩
        · exact Or.inl rfl
       have HFE := thid (i3.trans (feed_go (hgo.imp id fun h => h.2)))
       have HC := thid (HF.out.call c5 wr y i1.1 hwk hysz)
       clear hysz
       have HI1 := thid i1
       have HI2 := thid i2
       have HWG := thid (HF.out.wgs (ct c5) y)
       clear i1 i2 i3 HI hst
       rcases hgo with hg1 | ⟨hg1,hg2⟩
       all_goals
        go_wp2_with fail
        refine HC.out.mono ?_
        rintro e w6 ⟨rfl,c6,hp6,hct6,hm6⟩
        obtain ⟨hP6,hM6⟩ := walk_moves HI1.out hp6 hm6
        have f3: w6.cell? ⟨k,3,none⟩ = some (.bool o) := by rw [cell_of_row _ _ _ _ _ _ hP6.2.1]; rfl
        have ff6: ∀ i,w6.frozen? ⟨k,i,none⟩ = false := fun i => frozen_of_row _ _ _ _ _ hP6.2.1
        have fl := (Array.getElem?_eq_some_iff.1 hP6.2.1).1
        have HP6 := thid hP6
        have HM6 := thid hM6
        clear HC hp6 hm6 hP6 hM6 d1 d2 d3 df dl hcell lqb
        cases hph: (ph (ct c5) y).2 with
        | true =>
         have HD: Hid ((walkSt C k fr tt (.func (.func gf) ff cf)).P (c6,o) w6 /\ L4.Moves (walkSt C k fr tt (.func (.func gf) ff cf)) (c,o) (c6,o) W w6 /\ feed tt ph (n.recs.drop k0) (ct c) = feed tt ph (n.recs.drop (k0 + (j + 1))) (ct c6) /\ wg (ct c6) <= wg (ct c) + (j + 1)) := by
          refine ⟨HP6.out,HI2.out.trans HM6.out, ?_, ?_⟩
          · rw [HFE.out,hph,hct6]; rfl
          · rw [hct6]; have := HWG.out; omega
         clear HP6 HM6 HI1 HI2 HFE HOV f3 ff6 fl
         go_wp2
         exact ⟨⟨j + 1,by omega,by go_num,c6,HD⟩,by simp [intOf]; omega⟩
        | false =>
         have HD := thid (HOV.out c6 w6 HP6.out HM6.out (by rw [HFE.out,hph,hct6]; rfl))
         clear HP6 HM6 HI1 HI2 HFE HOV
         go_wp2_with fail
         refine bodyPost_ret (v := .tuple #[]) (by simp [results,Tryz.results68,go_sem]) rfl ⟨rfl,HD.out⟩
   · have hlt': (rl: Int) <= (j: Int) := by omega
     obtain ⟨i1,i2,i3,i4⟩ := HI.out
     have HD: Hid (Told C k fr tt (.func (.func gf) ff cf) ct ph c o n W wr) := by
      refine ⟨(c5,o),i1, ?_,i2⟩
      rw [show k0 + j = n.recs.length by omega,List.drop_of_length_le (Nat.le_refl _)] at i3
      unfold tellE
      rw [hlf,hk0e.out,i3]
      simp [feed]
     clear i1 i2 i3 HI
     go_wp2
     go_end0
     exact ⟨rfl,HD.out⟩
end
end Go.Proofs.YtdnkbdjhccckhaaGreat
