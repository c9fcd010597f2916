import Derived.Deep.OwnRows
import Derived.Deep.RegionHeld
import Derived.Test.YtdnkbdjhccckhaaGreatMAC
set_option maxRecDepth 100000
set_option maxHeartbeats 4000000
namespace Go.Proofs.YtdnkbdjhccckhaaGreat.L5
open Go.RowKit
theorem make_page (w: World): (Instr.makeSlice 81 (.int .i64 1024) (.int .i64 1024)).run Tryz.prog w = .ok (.slice (some ⟨w.heap.size,0,none⟩) 1024 1024) (w.alloc (.cells (madeCells #[.int .u8 0] 1024) 5)) :=
 run_make_row' 81 5 (.int .u8 0) 1 Tryz.underlying81 (by kernel_rfl) rfl .i64 .i64 1024 (by decide) (by decide) w
theorem made_blk (W: World): Blk (W.alloc (.cells (madeCells #[.int .u8 0] 1024) 5)) W.heap.size (pageK [] []) := by
 have e: (madeCells #[.int .u8 0] 1024: Array Value) = (bcs (pageK [] [])).toArray := by
  apply Array.ext'
  rw [toList_madeCells_one,List.toList_toArray,pageK_nil]
  unfold bcs
  rw [List.map_replicate]
  rfl
 unfold Blk
 rw [<- e]
 exact heap_alloc_last _ _
structure PW (W1: World) (p: Nat) (L: List UInt8) (wr: World): Prop where
 blk: Blk wr p L
 only: Only (fun k => k = p) W1 wr
theorem PW.cell {W1 wr: World} {p: Nat} {L: List UInt8} (h: PW W1 p L wr) (hp: p < W1.heap.size): ∀ k o,k < p -> wr.cell? ⟨k,o,none⟩ = W1.cell? ⟨k,o,none⟩ := fun k o hk => h.only.cell (p := ⟨k,o,none⟩) (show k < _ by omega) (show ¬ k = p by omega)
theorem PW.drew {W1 wr: World} {p: Nat} {L: List UInt8} (h: PW W1 p L wr): PW W1 p L wr.drew := ⟨h.blk,h.only.drew⟩
theorem put_pw {W1 wr: World} {p: Nat} {L: List UInt8} (h: PW W1 p L wr) {o m cap n: Nat} (hm: m <= 4) (hl: o + m <= L.length): Calls Tryz.prog 112 #[.slice (some ⟨p,o,none⟩) m cap, .int .i64 (n: Int)] wr fun e w' => e = .returned (.tuple #[]) /\ PW W1 p (over L o (be n m)) w' :=
 (put_walk h.blk hm hl).mono fun _ _ ⟨he,hb,ho⟩ => ⟨he,hb,h.only.trans ho⟩
theorem made_first: (madeCells #[.int .u8 0] 1024: Array Value).setIfInBounds 0 (.int .u8 2) = (bcs (pageK [2] [])).toArray := by
 have e: (madeCells #[.int .u8 0] 1024: Array Value) = (bcs (pageK [] [])).toArray := by
  apply Array.ext'
  rw [toList_madeCells_one,List.toList_toArray,pageK_nil]
  unfold bcs
  rw [List.map_replicate]
  rfl
 rw [e,List.setIfInBounds_toArray, <- over_first 2, <- bcs_set]
 rfl
theorem made_second: (bcs (pageK [2] [])).toArray.setIfInBounds 0 (.int .u8 1) = (bcs (pageK [1] [])).toArray := by
 rw [List.setIfInBounds_toArray, <- over_one [] [] 2 1, <- bcs_set]
 rfl
theorem first_cell: (bcs (pageK [2] [])).toArray[0]? = some (.int .u8 2) := by
 rw [List.getElem?_toArray]
 rfl
structure Begun (w: World) (n: No) (a: Option Addr) (c: Nat) (a': Option Addr) (c': Nat) (W: World): Prop where
 below: Below w.heap.size w W
 c1: W.cell? ⟨w.heap.size,1,none⟩ = some (.slice a n.recs.length c)
 c2: W.cell? ⟨w.heap.size,2,none⟩ = some (.slice a' n.kids.length c')
 pw: PW W (w.heap.size + 1) (pageK [if n.leaf then 1 else 2] []) W
theorem begun (w: World) (n: No) (a: Option Addr) (c: Nat) (a': Option Addr) (c': Nat) (lf: Value): Begun w n a c a' c' ((w.alloc (.cells #[lf, .slice a n.recs.length c, .slice a' n.kids.length c'] 69)).alloc (.cells (bcs (pageK [if n.leaf then 1 else 2] [])).toArray 5)) := by
 obtain ⟨_,b1,b2⟩ := box_cells w lf (.slice a n.recs.length c) (.slice a' n.kids.length c') 69
 have hz: (w.alloc (.cells #[lf, .slice a n.recs.length c, .slice a' n.kids.length c'] 69)).heap.size = w.heap.size + 1 := by simp
 have B := below_alloc (w.alloc (.cells #[lf, .slice a n.recs.length c, .slice a' n.kids.length c'] 69)) (.cells (bcs (pageK [if n.leaf then 1 else 2] [])).toArray 5)
 refine ⟨below_on (below_alloc _ _) B, ?_, ?_, ?_,Only.refl _ _⟩
 · rw [B.cell (by simp)]; exact b1
 · rw [B.cell (by simp)]; exact b2
 · rw [<- hz]; exact heap_alloc_last _ _
theorem front_zero (n: No): [if n.leaf then (1: UInt8) else 2] ++ n2 n.recs.length = front n 0 0 := by simp [front,slots]
theorem letter {w: World} {n: No} {a: Option Addr} {c: Nat} {a': Option Addr} {c': Nat} {W0: World} {p: World -> Prop} (h: Begun w n a c a' c' W0) (k: ∀ W,Begun w n a c a' c' W -> p W): p W0 := k W0 h
structure PG (w W: World) (n: No) (H T: List UInt8) (wr: World): Prop where
 pw: PW W (w.heap.size + 1) (pageK H T) wr
 fit: H.length + T.length <= 1024
theorem PG.put {w W: World} {n: No} {H T: List UInt8} {wr: World} (h: PG w W n H T wr) {o m cap v: Nat} (x: List UInt8) (ho: o = H.length) (hm: m <= 4) (hx: be v m = x) (hl: H.length + m + T.length <= 1024) :
 Calls Tryz.prog 112 #[.slice (some ⟨w.heap.size + 1,o,none⟩) m cap, .int .i64 (v: Int)] wr fun e w' => e = .returned (.tuple #[]) /\ PG w W n (H ++ x) T w' := by
 subst ho
 have hxl: x.length = m := by rw [<- hx,be_length]
 refine (put_pw h.pw (o := H.length) (m := m) (cap := cap) (n := v) hm (by rw [pageK_length _ _ h.fit]; omega)).mono ?_
 rintro e w' ⟨he,hp⟩
 rw [hx,over_head H T x (by omega)] at hp
 exact ⟨he,hp,by simp; omega⟩
theorem PG.copy {w W: World} {n: No} {H T: List UInt8} {wr: World} (h: PG w W n H T wr) (s: List UInt8) (B: Nat) (hB: B = 1024 - T.length - s.length) (hl: H.length + s.length + T.length <= 1024) :
 PG w W n H (s ++ T) (wr.setCells (w.heap.size + 1) B (bcs s)) := by
 subst hB
 refine ⟨⟨?_,only_setCells (S := fun k => k = w.heap.size + 1) (Or.inr rfl) _ _ _ h.pw.only⟩,by simp; omega⟩
 rw [<- over_tail H T s hl]
 exact h.pw.blk.setCells s _ (by rw [pageK_length _ _ h.fit]; omega)
theorem PG.there {w W: World} {n: No} {H T: List UInt8} {wr: World} (h: PG w W n H T wr) (i: Nat) (hi: i < 1024): (wr.cell? ⟨w.heap.size + 1,i,none⟩).isSome = true /\ wr.frozen? ⟨w.heap.size + 1,i,none⟩ = false :=
 ⟨by rw [h.pw.blk.cell i (by rw [pageK_length _ _ h.fit]; exact hi)]; rfl,h.pw.blk.frozen i⟩
theorem rec_size {n: No} (hs: n.shaped = true) (i: Nat) (h: i < n.recs.length): 1 <= n.recs[i].size /\ n.recs[i].size <= 400 := by
 unfold No.shaped at hs
 simp only [Bool.and_eq_true] at hs
 have := List.all_eq_true.1 hs.1.1 i (by simpa using h)
 rcases rec_cases n.recs i h with ⟨_,no⟩ | ⟨_,no⟩ | ⟨_,h1,h2,_⟩ | ⟨_,_,_,h1,h2,_,_⟩ | ⟨_,_,_,h1,h2,_,_⟩
 · rw [no] at this; cases this
 · rw [no] at this; cases this
 · exact ⟨h1,h2⟩
 · exact ⟨h1,h2⟩
 · exact ⟨h1,h2⟩
theorem written_walk {n: No} {a: Option Addr} {c: Nat} {a': Option Addr} {c': Nat} {w: World} (hr: NR w n a c a' c') (hs: n.shaped = true) (hsz: n.size <= 1024) :
 Calls Tryz.prog 98 #[nodeV n a c a' c'] w fun e w' => ∃ b,e = .returned (.slice (some ⟨b,0,none⟩) 1024 1024) /\ w.heap.size <= b /\ Blk w' b (pageL n.toNd) /\ Below w.heap.size w w' := by
 have hl0 := lens_le n 0
 have hk0: ∀ k ∈ n.kids,1 <= k /\ k <= 4096 := fun k hk => by
  have := hs
  unfold No.shaped at this
  simp only [Bool.and_eq_true] at this
  have := List.all_eq_true.1 this.1.2 k hk
  simpa [kidOk] using this
 have h1: n.recs.length <= 1024 := by omega
 have h2: n.kids.length <= 1024 := by omega
 obtain ⟨b0,b1,b2⟩ := box_cells w (.bool n.leaf) (.slice a n.recs.length c) (.slice a' n.kids.length c') 69
 have HB := below_alloc w (.cells #[.bool n.leaf, .slice a n.recs.length c, .slice a' n.kids.length c'] 69)
 have hz: (w.alloc (.cells #[.bool n.leaf, .slice a n.recs.length c, .slice a' n.kids.length c'] 69)).heap.size = w.heap.size + 1 := by simp
 have hmk := make_page
 have HG: Hid _ := begun w n a c a' c' (.bool n.leaf)
 have hz1 := made_first
 have hz2 := made_second
 have hc0 := first_cell
 have HE: Hid ((bcs (pageK [if n.leaf then 1 else 2] [])).toArray = if n.leaf then (bcs (pageK [1] [])).toArray else (bcs (pageK [2] [])).toArray) := by
  show _ = _
  cases n.leaf <;> rfl
 have hmb := made_blk (w.alloc (.cells #[.bool n.leaf, .slice a n.recs.length c, .slice a' n.kids.length c'] 69))
 rw [HE.out] at HG
 generalize (bcs (pageK [1] [])).toArray = Z2 at *
 generalize (bcs (pageK [2] [])).toArray = Z1 at *
 rw [hz] at hmb
 have hm0 := hmb.cell 0 (by rw [pageK_nil,List.length_replicate]; decide)
 have hf0 := hmb.frozen 0
 clear hmb HE
 generalize madeCells #[.int .u8 0] 1024 = Z at *
 cases hlf: n.leaf
 all_goals
  go_enter Tryz.func98,Tryz.ntmps98
  unfold nodeV
  rw [hlf] at b0 b1 b2 HB hz hm0 hf0 HG ⊢
  clear hlf
  go_wp2
  first | rw [if_pos trivial] at HG | rw [if_neg (by decide)] at HG
  clear b0 b1 b2 HB hz hm0 hf0
  refine letter (p := Code.wp Tryz.prog _ _ _) HG.out ?_
  clear HG hz1 hz2 hc0 hmk
  intro W hg
  have hp: w.heap.size + 1 < W.heap.size := hg.pw.blk.lt
  have hn2: be n.recs.length 2 = n2 n.recs.length := be_two _
  have P0: Hid (PG w W n [if n.leaf then 1 else 2] [] W) := ⟨hg.pw,by simp⟩
  have d1 := hg.c1
  have d2 := hg.c2
  go_region_held (fun w' => w'.cell? ⟨w.heap.size,1,none⟩ = some (.slice a n.recs.length c)) (simp [*]) (first
   | (go_at_call 112; refine (PG.put (w := w) (W := W) (n := n) ⟨P0.out.pw.drew,P0.out.fit⟩ (n2 n.recs.length) (by simp) (by decide) (be_two _) (by simp)).mono ?_; rintro e w1 ⟨rfl,P1⟩; have e1: w1.cell? ⟨w.heap.size,1,none⟩ = some (.slice a n.recs.length c) := (by rw [P1.pw.cell hp _ _ (by omega)]; exact d1)))
  rw [front_zero] at P1
  have HP: Hid (PG w W n (front n 0 0) [] w1) := P1
  have f1: w1.cell? ⟨w.heap.size,1,none⟩ = some (.slice a n.recs.length c) := by rw [P1.pw.cell hp _ _ (by omega)]; exact d1
  have f2: w1.cell? ⟨w.heap.size,2,none⟩ = some (.slice a' n.kids.length c') := by rw [P1.pw.cell hp _ _ (by omega)]; exact d2
  have hlw: w.heap.size < w1.heap.size := by have := P1.pw.only.size; omega
  have HR: Hid (NR w n a c a' c') := hr
  have HGB: Hid (Below w.heap.size w W) := hg.below
  clear P1 P0 hg hr hn2
  go_wp2
  go_loopw [4,26] (fun x i wr => ∃ j: Nat,j <= n.kids.length /\ i = .int .i64 (j: Int) /\ x = .int .i64 ((3 + 4 * j: Nat): Int) /\ Hid (PG w W n (front n j 0) [] wr)) (fun _ i _ => n.kids.length - (intOf i).toNat)
  case atStart => exact ⟨0,Nat.zero_le _,rfl,rfl,HP⟩
  case round =>
   obtain ⟨j,hj,rfl,rfl,HP⟩ := hrel
   clear f1 f2 hlw
   by_cases hlt: j < n.kids.length
   · obtain ⟨b,o,rfl,hb,hc⟩ := HR.out.kids.int j hlt
     have hlt': (j: Int) < (n.kids.length: Int) := by omega
     have hk := hk0 _ (List.getElem_mem hlt)
     have HF: Hid _ := front_kid n j hlt
     have hc': wr.cell? ⟨b,o + j,none⟩ = some (.int .i64 n.kids[j]) := by
      rw [HP.out.pw.cell hp _ _ (by omega),HGB.out.cell hb]; exact hc
     clear hc
     generalize n.kids[j] = k at *
     obtain ⟨k',rfl⟩: ∃ k': Nat,k = (k': Int) := ⟨k.toNat,by omega⟩
     rw [Int.toNat_natCast] at HF
     have hfl := front_length n j 0 hj (Nat.zero_le _)
     go_wp2_with (first
      | (go_at_call 112; refine (PG.put (w := w) (W := W) (n := n) HP.out (n4 k') (by rw [hfl]; omega) (by decide) (be_four _) (by rw [hfl]; simp; omega)).mono ?_; rintro e w2 ⟨rfl,P2⟩))
     refine ⟨⟨j + 1,hlt,by go_num,by go_num, ?_⟩,by simp [intOf]; omega⟩
     rw [HF.out]
     exact P2
   · have hjk: j = n.kids.length := by omega
     subst hjk
     have hlt': (n.kids.length: Int) <= (n.kids.length: Int) := by omega
     have g1: wr.cell? ⟨w.heap.size,1,none⟩ = some (.slice a n.recs.length c) := by rw [HP.out.pw.cell hp _ _ (by omega)]; exact d1
     have hlw: w.heap.size < wr.heap.size := by have := HP.out.pw.only.size; omega
     go_wp2
     clear g1 hlw
     go_loopw [4,7,45] (fun x y i wr => ∃ (j B: Nat),j <= n.recs.length /\ i = .int .i64 (j: Int) /\ x = .int .i64 ((3 + 4 * n.kids.length + 4 * j: Nat): Int) /\ y = .int .i64 (B: Int) /\ B = 1024 - lens (n.toNd.recs.take j) /\ Hid (PG w W n (front n n.kids.length j) (tailL (n.toNd.recs.take j)) wr)) (fun _ _ i _ => n.recs.length - (intOf i).toNat)
     case atStart => exact ⟨0,1024,Nat.zero_le _,rfl,rfl,rfl,rfl,HP⟩
     case round =>
      obtain ⟨j,B,hj,rfl,rfl,rfl,hB,HP⟩ := hrel
      by_cases hlt: j < n.recs.length
      · obtain ⟨b,o,rfl,hb,hc⟩ := HR.out.recs.str j hlt
        have hlt': (j: Int) < (n.recs.length: Int) := by omega
        have HF: Hid _ := front_rec n j hlt
        have HT: Hid _ := recs_take n j hlt
        have hsl := rec_size hs j hlt
        have hll := lens_le n (j + 1)
        have hfl := front_length n n.kids.length j (Nat.le_refl _) hj
        have htl := tailL_length (n.toNd.recs.take j)
        have hls: lens (n.toNd.recs.take (j + 1)) = lens (n.toNd.recs.take j) + n.recs[j].size := by
         rw [HT.out,lens_append]; simp [lens]
        have hc': wr.cell? ⟨b,o + j,none⟩ = some (.string n.recs[j]) := by
         rw [HP.out.pw.cell hp _ _ (by omega),HGB.out.cell hb]; exact hc
        clear hc
        have HTT: Hid (tailL (n.toNd.recs.take (j + 1)) = n.recs[j].data.toList ++ tailL (n.toNd.recs.take j)) := by show _ = _; rw [HT.out,tailL_snoc]
        clear HT
        generalize n.recs[j] = s at *
        obtain ⟨B',hB'⟩: ∃ B': Nat,B' + s.size = B := ⟨B - s.size,by omega⟩
        have hBi: (B: Int) - (s.size: Int) = (B': Int) := by omega
        have hsd: s.data.toList.length = s.size := rfl
        have P2: Hid _ := HP.out.copy s.data.toList B' (by rw [htl,hsd]; omega) (by rw [htl,hfl,hsd]; omega)
        have HH: Hid (∀ i,i < 1024 -> _) := fun i hi => HP.out.there i hi
        have hb1: B <= 1024 := by omega
        have hb2: B' < 1024 := by omega
        have hb3: s.size <= 1024 - B' := by omega
        have HQ: Hid (B' = 1024 - lens (n.toNd.recs.take (j + 1))) := by show B' = _; omega
        have hat: 3 + 4 * n.kids.length + 4 * j + 4 <= 1024 := by omega
        have HL: Hid ((front n n.kids.length j).length + 4 + (s.data.toList ++ tailL (n.toNd.recs.take j)).length <= 1024) := by
         show _ <= _
         rw [hfl,List.length_append,htl,hsd]; omega
        have HFL: Hid _ := hfl
        clear hB hB' hll hls htl hsd hfl HP hl0
        go_wp2
        rw [run_copy_string _ 81 9 3 5 (w.heap.size + 1) B' (1024 - B') (1024 - B') s Tryz.underlying81 (fun w => by simp [go_sem]) hb3 (fun j hj => (HH.out (B' + j) (by omega)).1) (fun j hj => (HH.out (B' + j) (by omega)).2),show (s.data.toList.map fun x => Value.int .u8 (x.toNat: Int)) = bcs s.data.toList from rfl]
        generalize wr.setCells (w.heap.size + 1) B' (bcs s.data.toList) = wc at P2 ⊢
        go_wp2_with fail
        refine (PG.put (w := w) (W := W) (n := n) P2.out (n2 B') (by rw [HFL.out]) (by decide) (be_two _) (by have := HL.out; omega)).mono ?_
        rintro e w2 ⟨rfl,P3⟩
        have HP3: Hid _ := P3
        clear P3
        go_wp2_with fail
        refine (PG.put (w := w) (W := W) (n := n) HP3.out (n2 s.size) (by rw [List.length_append,HFL.out]; simp [n2]) (by decide) (be_two _) (by have := HL.out; simp [n2] at this ⊢; omega)).mono ?_
        rintro e w3 ⟨rfl,P4⟩
        have HP4: Hid _ := P4
        clear P4
        go_wp2_with fail
        refine ⟨⟨j + 1,B',hlt,by go_num,by go_num,by go_num,HQ.out, ?_⟩,by simp [intOf]; omega⟩
        rw [HF.out,HTT.out, <- HQ.out]
        exact HP4.out
      · have hjr: j = n.recs.length := by omega
        have hlt': (n.recs.length: Int) <= (j: Int) := by omega
        have HP5: Hid (PG w W n (headL n.toNd) (tailL n.toNd.recs) wr) := by
         have := HP.out
         rw [hjr,front_all,List.take_of_length_le (by simp [No.toNd])] at this
         exact this
        clear HP hB hl0
        go_wp2
        go_ret
        refine ⟨_,rfl,by omega,HP5.out.pw.blk,HGB.out.trans (HP5.out.pw.only.below (by omega) fun k hk e => by omega)⟩
end Go.Proofs.YtdnkbdjhccckhaaGreat.L5
