import Derived.Test.YtdnkbdjhccckhaaGreatMAB
set_option maxRecDepth 100000
set_option maxHeartbeats 4000000
namespace Go.Proofs.YtdnkbdjhccckhaaGreat.L5
open Go.RowKit
structure Bx (w: World) (n: No) (a: Option Addr) (c: Nat) (a': Option Addr) (c': Nat) (wr: World): Prop where
 below: Below w.heap.size w wr
 c0: wr.cell? ⟨w.heap.size,0,none⟩ = some (.bool n.leaf)
 c1: wr.cell? ⟨w.heap.size,1,none⟩ = some (.slice a n.recs.length c)
 c2: wr.cell? ⟨w.heap.size,2,none⟩ = some (.slice a' n.kids.length c')
 lt: w.heap.size < wr.heap.size
theorem Bx.new (w: World) (n: No) (a: Option Addr) (c: Nat) (a': Option Addr) (c': Nat) (t: TypeId): Bx w n a c a' c' (w.alloc (.cells #[.bool n.leaf, .slice a n.recs.length c, .slice a' n.kids.length c'] t)) := by
 obtain ⟨b0,b1,b2⟩ := box_cells w (.bool n.leaf) (.slice a n.recs.length c) (.slice a' n.kids.length c') t
 exact ⟨below_alloc _ _,b0,b1,b2,by simp⟩
theorem Bx.on {w: World} {n: No} {a: Option Addr} {c: Nat} {a': Option Addr} {c': Nat} {wr wr': World} (h: Bx w n a c a' c' wr) (hb: Below wr.heap.size wr wr'): Bx w n a c a' c' wr' :=
 ⟨below_on h.below hb,(hb.cell h.lt).trans h.c0,(hb.cell h.lt).trans h.c1,(hb.cell h.lt).trans h.c2,Nat.lt_of_lt_of_le h.lt hb.size⟩
theorem Bx.drewN {w: World} {n: No} {a: Option Addr} {c: Nat} {a': Option Addr} {c': Nat} {wr: World} (h: Bx w n a c a' c' wr) (k: Nat): Bx w n a c a' c' (wr.drewN k) := h.on (below_drewN (Below.refl _ _) k)
theorem shaped_walk {n: No} {a: Option Addr} {c: Nat} {a': Option Addr} {c': Nat} {w: World} (hr: NR w n a c a' c') (hs: n.small) :
 Calls Tryz.prog 60 #[nodeV n a c a' c'] w fun e w' => e = .returned (.bool n.shaped) /\ Below w.heap.size w w' := by
 have h1 := hs.recs
 have h2 := hs.kids
 have HX: Hid _ := Bx.new w n a c a' c' 91
 have HR: Hid (NR w n a c a' c') := hr
 clear hr hs
 go_enter Tryz.func60,Tryz.ntmps60
 unfold nodeV
 by_cases hcnt: n.kids.length = if n.leaf then 0 else n.recs.length + 1
 · have HS: Hid (n.shaped = (risesB n.recs && n.kids.all kidOk)) := by
    show n.shaped = _
    unfold No.shaped risesB
    have: (n.kids.length == if n.leaf = true then 0 else n.recs.length + 1) = true := by simpa using hcnt
    rw [this,Bool.and_true]
   cases hlf: n.leaf
   all_goals
    rw [hlf] at hcnt HX
    first
     | (have hk': ((n.kids.length: Int) - (n.recs.length: Int) != 1) = false := (by simp at hcnt; simp; omega))
     | (have hk': ((n.kids.length: Int) != 0) = false := (by simp at hcnt; simp; omega))
    clear hcnt
    go_wp2
    clear hk'
    go_loopw [3] (fun i wr => ∃ j: Nat,j <= n.recs.length /\ i = .int .i64 (j: Int) /\ Hid (Bx w n a c a' c' wr) /\ Hid (∀ i,i < j -> recOk n.recs i = true)) (fun i _ => n.recs.length - (intOf i).toNat)
    case atStart => exact ⟨0,Nat.zero_le _,rfl,HX,fun i h => by omega⟩
    case round =>
     obtain ⟨j,hj,rfl,HX,HI⟩ := hrel
     have x1 := HX.out.c1
     have xl := HX.out.lt
     by_cases hlt: j < n.recs.length
     · obtain ⟨b,o,rfl,hb,hc⟩ := (HR.out.recs.below HX.out.below).str j hlt
       have hlt': (j: Int) < (n.recs.length: Int) := by omega
       have HC := rec_cases n.recs j hlt
       have HN: Hid (recOk n.recs j = false -> n.shaped = false) := fun h => by rw [HS.out,rises_not n.recs j hlt h]; rfl
       have HT: Hid (recOk n.recs j = true -> ∀ i,i < j + 1 -> recOk n.recs i = true) := fun h i hi => by
        by_cases e: i = j
        · rw [e]; exact h
        · exact HI.out i (by omega)
       generalize n.recs[j] = s at *
       have hem := isEmpty_size s
       rcases HC with ⟨h,no⟩ | ⟨h,no⟩ | ⟨h0,h,h',ok⟩ | ⟨p,h0,hp,h,h',hl,ok⟩ | ⟨p,h0,hp,h,h',hl,no⟩
       · have hn: Hid _ := HN.out no
         clear HN HT HI no
         have hem': s.toList.isEmpty = true := by rw [hem,h]; rfl
         clear hem h
         go_wp2
         go_quiet (fail)
         go_wp2
         go_ret
         exact ⟨ret_bool hn.out.symm,(HX.out.drewN _).below⟩
       · have hn: Hid _ := HN.out no
         clear HN HT HI no
         have hem': s.toList.isEmpty = false := by rw [hem]; exact decide_eq_false (by omega)
         have h'': (400: Int) < (s.size: Int) := by omega
         clear hem
         go_wp2
         go_quiet (fail)
         go_wp2
         go_ret
         exact ⟨ret_bool hn.out.symm,(HX.out.drewN _).below⟩
       · have HT': Hid _ := HT.out ok
         clear HN HT HI ok
         subst h0
         have hem': s.toList.isEmpty = false := by rw [hem]; exact decide_eq_false (by omega)
         have h'': (s.size: Int) <= 400 := by omega
         have hd4: decide (400 < (s.size: Int)) = false := by simp; omega
         have hc0: wr.cell? ⟨b,o,none⟩ = some (.string s) := hc
         clear hem hc
         go_wp2
         go_quiet (fail)
         go_wp2
         exact ⟨⟨1,hlt,by go_num,HX.out.drewN _,HT'⟩,by simp [intOf]; omega⟩
       · have HT': Hid _ := HT.out ok
         clear HN HT HI ok
         have hem': s.toList.isEmpty = false := by rw [hem]; exact decide_eq_false (by omega)
         have h'': (s.size: Int) <= 400 := by omega
         have hd4: decide (400 < (s.size: Int)) = false := by simp; omega
         have h0': (0: Int) < (j: Int) := by omega
         have hd0: decide (0 < (j: Int)) = true := by simp; omega
         obtain ⟨b',o',e',_,hc'⟩ := (HR.out.recs.below HX.out.below).2.2 (j - 1) (.string p) (by simp [svs,hp])
         cases e'
         have hj1: ((j: Int) - 1).toNat = j - 1 := by omega
         have hj2: (0: Int) <= (j: Int) - 1 := by omega
         have hj3: (j: Int) - 1 < (n.recs.length: Int) := by omega
         clear hem hp
         go_wp2
         go_quiet (fail)
         go_wp2
         exact ⟨⟨j + 1,hlt,by go_num,HX.out.drewN _,HT'⟩,by simp [intOf]; omega⟩
       · have hn: Hid _ := HN.out no
         clear HN HT HI no
         have hem': s.toList.isEmpty = false := by rw [hem]; exact decide_eq_false (by omega)
         have h'': (s.size: Int) <= 400 := by omega
         have hd4: decide (400 < (s.size: Int)) = false := by simp; omega
         have h0': (0: Int) < (j: Int) := by omega
         have hd0: decide (0 < (j: Int)) = true := by simp; omega
         obtain ⟨b',o',e',_,hc'⟩ := (HR.out.recs.below HX.out.below).2.2 (j - 1) (.string p) (by simp [svs,hp])
         cases e'
         have hj1: ((j: Int) - 1).toNat = j - 1 := by omega
         have hj2: (0: Int) <= (j: Int) - 1 := by omega
         have hj3: (j: Int) - 1 < (n.recs.length: Int) := by omega
         clear hem hp
         go_wp2
         go_quiet (fail)
         go_wp2
         go_ret
         exact ⟨ret_bool hn.out.symm,(HX.out.drewN _).below⟩
     · have hjr: j = n.recs.length := by omega
       subst hjr
       have HS2: Hid (n.shaped = n.kids.all kidOk) := by
        show n.shaped = _
        rw [HS.out,rises_of n.recs fun i hi => HI.out i (by omega)]
        rfl
       clear HI HS hlt
       go_wp2
       clear x1 xl
       go_loopw [4] (fun i wr => ∃ j: Nat,j <= n.kids.length /\ i = .int .i64 (j: Int) /\ Hid (Bx w n a c a' c' wr) /\ Hid (∀ i (h: i < n.kids.length),i < j -> kidOk n.kids[i] = true)) (fun i _ => n.kids.length - (intOf i).toNat)
       case atStart => exact ⟨0,Nat.zero_le _,rfl,HX,fun i _ h => by omega⟩
       case round =>
        obtain ⟨j,hj,rfl,HX,HI⟩ := hrel
        have x2 := HX.out.c2
        have xl := HX.out.lt
        by_cases hlt: j < n.kids.length
        · obtain ⟨b,o,rfl,hb,hc⟩ := (HR.out.kids.below HX.out.below).int j hlt
          have hlt': (j: Int) < (n.kids.length: Int) := by omega
          have HK: Hid (kidOk n.kids[j] = false -> n.shaped = false) := fun h => by rw [HS2.out,kids_not n.kids j hlt h]
          have HT: Hid (kidOk n.kids[j] = true -> ∀ i (h: i < n.kids.length),i < j + 1 -> kidOk n.kids[i] = true) := fun h i hi hij => by
           by_cases e: i = j
           · subst e; exact h
           · exact HI.out i hi (by omega)
          generalize n.kids[j] = k at *
          rcases kid_cases k with ⟨k1,k2⟩ | ⟨k1,k2,k3⟩ | ⟨k1,k2,k3⟩
          · have hn: Hid _ := HK.out k2
            clear HK HT HI k2
            go_wp2
            go_ret
            exact ⟨ret_bool hn.out.symm,HX.out.below⟩
          · have hn: Hid _ := HK.out k3
            clear HK HT HI k3
            go_wp2
            go_ret
            exact ⟨ret_bool hn.out.symm,HX.out.below⟩
          · have HT': Hid _ := HT.out k3
            clear HK HT HI k3
            go_wp2
            go_roundw
            case rel => exact ⟨j + 1,hlt,by go_num,HX,HT'⟩
            case measure => simp [intOf]; omega
        · have hlt': (n.kids.length: Int) <= (j: Int) := by omega
          have hn: Hid (n.shaped = true) := by
           show n.shaped = true
           rw [HS2.out,kids_of n.kids fun i hi => HI.out i hi (by omega)]
          clear HI
          go_wp2
          go_ret
          exact ⟨ret_bool hn.out.symm,HX.out.below⟩
 · have hn: Hid (n.shaped = false) := by
    show n.shaped = false
    unfold No.shaped
    have: (n.kids.length == if n.leaf = true then 0 else n.recs.length + 1) = false := by rw [beq_eq_false_iff_ne]; exact hcnt
    rw [this,Bool.and_false]
   cases hlf: n.leaf
   all_goals
    rw [hlf] at hcnt HX
    first
     | (have hk': ((n.kids.length: Int) - (n.recs.length: Int) != 1) = true := (by simp at hcnt; simp; omega))
     | (have hk': ((n.kids.length: Int) != 0) = true := (by simp at hcnt; simp; omega))
    clear hcnt
    go_wp2
    go_ret
    exact ⟨ret_bool hn.out.symm,HX.out.below⟩
end Go.Proofs.YtdnkbdjhccckhaaGreat.L5
