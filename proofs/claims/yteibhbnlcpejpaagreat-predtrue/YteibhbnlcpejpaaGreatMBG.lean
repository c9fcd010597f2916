import Derived.Lib.MinMax
import Derived.Test.YteibhbnlcpejpaaGreatMBA
import Derived.Test.YteibhbnlcpejpaaGreatMAP
set_option maxRecDepth 100000
set_option maxHeartbeats 4000000
namespace Go.Proofs.YteibhbnlcpejpaaGreat
open Go.RowKit
def reckB (s: ByteArray): Bool := s.toList == [43] || s.toList == [45] || s.toList == [42] || s.toList == nNEG
theorem reckons_walk (s: ByteArray) (w: World): Calls Tryz.prog 74 #[.string s] w fun e w' => e = .returned (.bool (reckB s)) /\ w' = w := by
 unfold reckB nNEG
 cases h1: (s.toList == [43])
 · cases h2: (s.toList == [45])
   · cases h3: (s.toList == [42])
     · cases h4: (s.toList == [110,101,103])
       · go_enter Tryz.func74,Tryz.ntmps74
         go_wp2
         go_ret
         exact ⟨rfl,rfl⟩
       · go_enter Tryz.func74,Tryz.ntmps74
         go_wp2
         go_ret
         exact ⟨rfl,rfl⟩
     · go_enter Tryz.func74,Tryz.ntmps74
       go_wp2
       go_ret
       exact ⟨rfl,rfl⟩
   · go_enter Tryz.func74,Tryz.ntmps74
     go_wp2
     go_ret
     exact ⟨rfl,rfl⟩
 · go_enter Tryz.func74,Tryz.ntmps74
   go_wp2
   go_ret
   exact ⟨rfl,rfl⟩
theorem safe1_walk (x: NL) (w: World): Calls Tryz.prog 73 #[nV x] w fun e w' => e = .returned (.bool (!reckB x.op)) /\ Below w.heap.size w w' := by
 have HR := Rw.dh (fun W => reckons_walk x.op W)
 unfold nV
 go_enter Tryz.func73,Tryz.ntmps73
 go_wp2_with fail
 refine (HR.out _).mono ?_
 rintro e w1 ⟨rfl,hw⟩
 have HB: Hid (Below w.heap.size w w1) := by rw [Hid,hw]; exact Rw.below_alloc _ _
 clear hw
 go_wp2
 go_ret
 exact ⟨rfl,HB.out⟩
theorem kall_take {α: Type} {l: List α} {f: α -> Bool} {j: Nat} {x: α} (hx: l[j]? = some x) (h: (l.take j).all f = true) (hf: f x = true): (l.take (j + 1)).all f = true := by
 rw [List.take_add_one,hx,List.all_append,h]; simp [hf]
theorem through_walk: ∀ (n: Nat) (x: NL) (w: World) (d: Int),InN n w x -> deepN n x = false -> (n: Int) <= d -> d <= 65536 ->
 Calls Tryz.prog 72 #[nV x, .int .i64 d, .func (.func 73) #[] #[]] w fun e w' => e = .returned (.bool (safeN n x)) /\ Below w.heap.size w w'
 | 0,_,_,_,_,h,_,_ => by cases h
 | n + 1, .mk xo xk xn xs xv xc xa xp l,w,d,hi,hd,h1,h2 => by
  have IH := Rw.dh (fun k W hI hD => through_walk n k W (d - 1) hI hD (by omega) (by omega))
  have hd': ∀ k ∈ l,deepN n k = false := fun k hk => by
   have: l.any (deepN n) = false := hd
   exact Bool.eq_false_iff.2 (List.any_eq_false.1 this k hk)
  have HS: Hid (Rw.SlG nC 7 w xa l) := hi.2.1
  have HK: Hid (∀ k ∈ l,InN n w k) := hi.2.2
  have HD := Rw.dh hd'
  have hkl: l.length <= 1599289640401 := hi.1.kids
  have H1 := Rw.dh (fun W => safe1_walk (.mk xo xk xn xs xv xc xa xp l) W)
  have HE: Hid (safeN (n + 1) (.mk xo xk xn xs xv xc xa xp l) = (!reckB xo && l.all (safeN n))) := rfl
  have hd0: (d == 0) = false := beq_eq_false_iff_ne.2 (by omega)
  have hd1: 1 <= d := by omega
  clear hi hd hd' h1
  unfold nV at H1 ⊢
  dsimp only [NL.op,NL.vk,NL.vn,NL.vs,NL.var,NL.col,NL.a,NL.c,NL.kids] at H1 ⊢
  generalize safeN (n + 1) (.mk xo xk xn xs xv xc xa xp l) = R at *
  go_enter Tryz.func72,Tryz.ntmps72
  go_wp2_with fail
  refine (H1.out _).mono ?_
  rintro e w1 ⟨rfl,hb⟩
  have HB := Rw.dh (below_on (Rw.below_alloc w _) hb)
  have hp := (hb.block w.heap.size (by simp)).trans (Rw.heap_new w (.cells #[.string xo, .int .i64 xk, .int .i64 xn, .string xs, .int .i64 xv, .int .i64 xc, .slice xa l.length xp] 44))
  have p6: w1.cell? ⟨w.heap.size,6,none⟩ = some (.slice xa l.length xp) := by rw [cell_of_row _ _ _ _ _ _ hp]; rfl
  have pl := (Array.getElem?_eq_some_iff.1 hp).1
  clear hb hp H1
  cases hr: reckB xo
  · have HE2: Hid (R = l.all (safeN n)) := by rw [Hid,HE.out,hr]; rfl
    clear HE hr
    go_wp2_with fail
    go_loopw [20] (fun i wr => ∃ j: Nat,j <= l.length /\ i = .int .i64 (j: Int) /\ Hid (Below w.heap.size w wr /\ (l.take j).all (safeN n) = true)) (fun i _ => l.length - (intOf i).toNat)
    case atStart => exact ⟨0,Nat.zero_le _,rfl,HB.out,rfl⟩
    case round =>
     obtain ⟨j,hj,rfl,HW⟩ := hrel
     clear p6 pl HB
     by_cases hlt: j < l.length
     · obtain ⟨b,o,k,rfl,hb,hx,hc⟩ := (HS.out.below HW.out.1).at hlt
       have hkm := List.mem_of_getElem? hx
       have hC := IH.out k (wr.alloc (.cells #[.string k.op, .int .i64 k.vk, .int .i64 k.vn, .string k.vs, .int .i64 k.var, .int .i64 k.col, .slice k.a k.kids.length k.c] 44)) ((HK.out k hkm).on (below_on HW.out.1 (Rw.below_alloc wr _))) (HD.out k hkm)
       have HY: Hid (safeN n k = true -> (l.take (j + 1)).all (safeN n) = true) := fun h => kall_take hx HW.out.2 h
       have HN: Hid (safeN n k = false -> l.all (safeN n) = false) := fun h => by
        rw [Bool.eq_false_iff]; intro h'
        rw [List.all_eq_true.1 h' k hkm] at h; cases h
       have c0: wr.cell? ⟨b,o + j * 7,none⟩ = some (.string k.op) := hc 0 _ rfl
       have c1: wr.cell? ⟨b,o + j * 7 + 1,none⟩ = some (.int .i64 k.vk) := hc 1 _ rfl
       have c2: wr.cell? ⟨b,o + j * 7 + 2,none⟩ = some (.int .i64 k.vn) := hc 2 _ rfl
       have c3: wr.cell? ⟨b,o + j * 7 + 3,none⟩ = some (.string k.vs) := hc 3 _ rfl
       have c4: wr.cell? ⟨b,o + j * 7 + 4,none⟩ = some (.int .i64 k.var) := hc 4 _ rfl
       have c5: wr.cell? ⟨b,o + j * 7 + 5,none⟩ = some (.int .i64 k.col) := hc 5 _ rfl
       have c6: wr.cell? ⟨b,o + j * 7 + 6,none⟩ = some (.slice k.a k.kids.length k.c) := hc 6 _ rfl
       clear hc hx hkm
       unfold nV at hC
       generalize safeN n k = S at *
       go_wp2_with fail
       refine hC.mono ?_
       clear hC
       rintro e w3 ⟨rfl,hb3⟩
       have HB3 := Rw.dh (below_on (below_on HW.out.1 (Rw.below_alloc wr _)) hb3)
       clear hb3 c0 c1 c2 c3 c4 c5 c6 hb HW
       cases S with
       | true =>
        have HW2: Hid (Below w.heap.size w w3 /\ (l.take (j + 1)).all (safeN n) = true) := ⟨HB3.out,HY.out rfl⟩
        clear HY HN HB3
        go_wp2
        go_roundw
        case rel => exact ⟨j + 1,hlt,by go_num,HW2⟩
        case measure => simp [intOf]; omega
       | false =>
        have HE3: Hid (R = false) := by rw [Hid,HE2.out]; exact HN.out rfl
        clear HY HN
        go_wp2
        go_ret
        exact ⟨(by rw [HE3.out]; rfl),HB3.out⟩
     · have hjs: j = l.length := by omega
       subst hjs
       have hA := HW.out.2
       rw [List.take_length] at hA
       have HE3: Hid (R = true) := by rw [Hid,HE2.out]; exact hA
       clear hA
       go_wp2
       go_ret
       exact ⟨(by rw [HE3.out]; rfl),HW.out.1⟩
  · have HE2: Hid (R = false) := by rw [Hid,HE.out,hr]; rfl
    clear HE hr
    go_wp2
    go_ret
    exact ⟨(by rw [HE2.out]; rfl),HB.out⟩
theorem safe_walk {n: Nat} (hn: n <= 65536) (x: NL) {w: World} (hi: InN n w x) (hd: deepN n x = false) :
 Calls Tryz.prog 19 #[nV x] w fun e w' => e = .returned (.bool (safeN n x)) /\ Below w.heap.size w w' := by
 have HT := Rw.dh (fun W (hb: Below w.heap.size w W) => through_walk n x W 65536 (hi.on hb) hd (by omega) (by omega))
 clear hi hd
 generalize safeN n x = R at *
 unfold nV at HT ⊢
 go_enter Tryz.func19,Tryz.ntmps19
 go_wp2_with fail
 refine (HT.out _ (Rw.below_alloc _ _)).mono ?_
 rintro e w1 ⟨rfl,hb⟩
 have HB := Rw.dh (below_on (Rw.below_alloc w _) hb)
 clear hb HT
 go_wp2
 go_ret
 exact ⟨rfl,HB.out⟩
theorem agree_walk (a b: Int) (w: World): Calls Tryz.prog 86 #[.int .i64 a, .int .i64 b] w fun e w' => e = .returned (.bool (agreeB a b)) /\ w' = w := by
 unfold agreeB
 cases h1: (a == b) <;> cases h2: (a == 0) <;> cases h3: (b == 0)
 all_goals
  go_enter Tryz.func86,Tryz.ntmps86
  go_wp2
  go_ret
  exact ⟨rfl,rfl⟩
theorem bothT_walk (a b k: Int) (w: World): Calls Tryz.prog 154 #[.int .i64 a, .int .i64 b, .int .i64 k] w fun e w' => e = .returned (.bool (bothB a b k)) /\ w' = w := by
 have H := Rw.dh agree_walk
 unfold bothB
 cases h1: agreeB a k
 · go_enter Tryz.func154,Tryz.ntmps154
   go_wp2_with (go_at_call 86; refine (H.out _ _ _).mono ?_; rintro e w' ⟨rfl,rfl⟩; try rw [h1])
   go_ret
   exact ⟨rfl,rfl⟩
 · go_enter Tryz.func154,Tryz.ntmps154
   go_wp2_with (go_at_call 86; refine (H.out _ _ _).mono ?_; rintro e w' ⟨rfl,rfl⟩; try rw [h1])
   go_ret
   exact ⟨rfl,rfl⟩
theorem typed_ok (k: Int) (w: World): Calls Tryz.prog 153 #[.bool true, .int .i64 k] w fun e w' => e = .returned (.int .i64 k) /\ w' = w := by
 go_enter Tryz.func153,Tryz.ntmps153
 go_wp2
 go_ret
 exact ⟨rfl,rfl⟩
theorem typed_no (k: Int) (w: World): Calls Tryz.prog 153 #[.bool false, .int .i64 k] w fun e w' => e = .panicked (stopped 4 0) /\ w' = w := by
 go_enter Tryz.func153,Tryz.ntmps153
 go_wp2_with (go_at_call 151; refine (check_no 4 rfl _).mono ?_; rintro e w' ⟨rfl,rfl⟩)
 exact ⟨rfl,rfl,rfl⟩
def tyE: Option Int -> Ending
 | some t => .returned (.int .i64 t)
 | none => .panicked (stopped 4 0)
theorem typeOf_1 (s: ByteArray) (a b: Int) (w: World) (R: Ending) (q0: (s.toList == [110,117,108,108]) = false) (q1: (s.toList == [110,111,116]) = true) (hR: R = tyE (if bothB a b 1 then some 1 else none)): Calls Tryz.prog 110 #[.string s, .int .i64 a, .int .i64 b] w fun e w' => e = R /\ w' = w := by
 have HB := Rw.dh bothT_walk
 cases hb: bothB a b 1 <;> rw [hb] at hR <;> subst hR
 · go_enter Tryz.func110,Tryz.ntmps110
   go_wp2_with (first
    | (go_at_call 154; refine (HB.out _ _ _ _).mono ?_; rintro e w' ⟨rfl,rfl⟩; rw [hb])
    | (go_at_call 153; refine (typed_no _ _).mono ?_; rintro e w' ⟨rfl,rfl⟩))
   exact ⟨rfl,rfl,rfl⟩
 · go_enter Tryz.func110,Tryz.ntmps110
   go_wp2_with (first
    | (go_at_call 154; refine (HB.out _ _ _ _).mono ?_; rintro e w' ⟨rfl,rfl⟩; rw [hb])
    | (go_at_call 153; refine (typed_ok _ _).mono ?_; rintro e w' ⟨rfl,rfl⟩))
   go_ret
   exact ⟨rfl,rfl⟩
theorem typeOf_2 (s: ByteArray) (a b: Int) (w: World) (R: Ending) (q0: (s.toList == [110,117,108,108]) = false) (q1: (s.toList == [110,111,116]) = false) (q2: (s.toList == [97,110,100]) = true) (hR: R = tyE (if bothB a b 1 then some 1 else none)): Calls Tryz.prog 110 #[.string s, .int .i64 a, .int .i64 b] w fun e w' => e = R /\ w' = w := by
 have HB := Rw.dh bothT_walk
 cases hb: bothB a b 1 <;> rw [hb] at hR <;> subst hR
 · go_enter Tryz.func110,Tryz.ntmps110
   go_wp2_with (first
    | (go_at_call 154; refine (HB.out _ _ _ _).mono ?_; rintro e w' ⟨rfl,rfl⟩; rw [hb])
    | (go_at_call 153; refine (typed_no _ _).mono ?_; rintro e w' ⟨rfl,rfl⟩))
   exact ⟨rfl,rfl,rfl⟩
 · go_enter Tryz.func110,Tryz.ntmps110
   go_wp2_with (first
    | (go_at_call 154; refine (HB.out _ _ _ _).mono ?_; rintro e w' ⟨rfl,rfl⟩; rw [hb])
    | (go_at_call 153; refine (typed_ok _ _).mono ?_; rintro e w' ⟨rfl,rfl⟩))
   go_ret
   exact ⟨rfl,rfl⟩
theorem typeOf_3 (s: ByteArray) (a b: Int) (w: World) (R: Ending) (q0: (s.toList == [110,117,108,108]) = false) (q1: (s.toList == [110,111,116]) = false) (q2: (s.toList == [97,110,100]) = false) (q3: (s.toList == [111,114]) = true) (hR: R = tyE (if bothB a b 1 then some 1 else none)): Calls Tryz.prog 110 #[.string s, .int .i64 a, .int .i64 b] w fun e w' => e = R /\ w' = w := by
 have HB := Rw.dh bothT_walk
 cases hb: bothB a b 1 <;> rw [hb] at hR <;> subst hR
 · go_enter Tryz.func110,Tryz.ntmps110
   go_wp2_with (first
    | (go_at_call 154; refine (HB.out _ _ _ _).mono ?_; rintro e w' ⟨rfl,rfl⟩; rw [hb])
    | (go_at_call 153; refine (typed_no _ _).mono ?_; rintro e w' ⟨rfl,rfl⟩))
   exact ⟨rfl,rfl,rfl⟩
 · go_enter Tryz.func110,Tryz.ntmps110
   go_wp2_with (first
    | (go_at_call 154; refine (HB.out _ _ _ _).mono ?_; rintro e w' ⟨rfl,rfl⟩; rw [hb])
    | (go_at_call 153; refine (typed_ok _ _).mono ?_; rintro e w' ⟨rfl,rfl⟩))
   go_ret
   exact ⟨rfl,rfl⟩
theorem typeOf_4 (s: ByteArray) (a b: Int) (w: World) (R: Ending) (q0: (s.toList == [110,117,108,108]) = false) (q1: (s.toList == [110,111,116]) = false) (q2: (s.toList == [97,110,100]) = false) (q3: (s.toList == [111,114]) = false) (q4: (s.toList == [110,101,103]) = true) (hR: R = tyE (if bothB a b 2 then some 2 else none)): Calls Tryz.prog 110 #[.string s, .int .i64 a, .int .i64 b] w fun e w' => e = R /\ w' = w := by
 have HB := Rw.dh bothT_walk
 cases hb: bothB a b 2 <;> rw [hb] at hR <;> subst hR
 · go_enter Tryz.func110,Tryz.ntmps110
   go_wp2_with (first
    | (go_at_call 154; refine (HB.out _ _ _ _).mono ?_; rintro e w' ⟨rfl,rfl⟩; rw [hb])
    | (go_at_call 153; refine (typed_no _ _).mono ?_; rintro e w' ⟨rfl,rfl⟩))
   exact ⟨rfl,rfl,rfl⟩
 · go_enter Tryz.func110,Tryz.ntmps110
   go_wp2_with (first
    | (go_at_call 154; refine (HB.out _ _ _ _).mono ?_; rintro e w' ⟨rfl,rfl⟩; rw [hb])
    | (go_at_call 153; refine (typed_ok _ _).mono ?_; rintro e w' ⟨rfl,rfl⟩))
   go_ret
   exact ⟨rfl,rfl⟩
theorem typeOf_5 (s: ByteArray) (a b: Int) (w: World) (R: Ending) (q0: (s.toList == [110,117,108,108]) = false) (q1: (s.toList == [110,111,116]) = false) (q2: (s.toList == [97,110,100]) = false) (q3: (s.toList == [111,114]) = false) (q4: (s.toList == [110,101,103]) = false) (q5: (s.toList == [45]) = true) (hR: R = tyE (if bothB a b 2 then some 2 else none)): Calls Tryz.prog 110 #[.string s, .int .i64 a, .int .i64 b] w fun e w' => e = R /\ w' = w := by
 have HB := Rw.dh bothT_walk
 cases hb: bothB a b 2 <;> rw [hb] at hR <;> subst hR
 · go_enter Tryz.func110,Tryz.ntmps110
   go_wp2_with (first
    | (go_at_call 154; refine (HB.out _ _ _ _).mono ?_; rintro e w' ⟨rfl,rfl⟩; rw [hb])
    | (go_at_call 153; refine (typed_no _ _).mono ?_; rintro e w' ⟨rfl,rfl⟩))
   exact ⟨rfl,rfl,rfl⟩
 · go_enter Tryz.func110,Tryz.ntmps110
   go_wp2_with (first
    | (go_at_call 154; refine (HB.out _ _ _ _).mono ?_; rintro e w' ⟨rfl,rfl⟩; rw [hb])
    | (go_at_call 153; refine (typed_ok _ _).mono ?_; rintro e w' ⟨rfl,rfl⟩))
   go_ret
   exact ⟨rfl,rfl⟩
theorem typeOf_6 (s: ByteArray) (a b: Int) (w: World) (R: Ending) (q0: (s.toList == [110,117,108,108]) = false) (q1: (s.toList == [110,111,116]) = false) (q2: (s.toList == [97,110,100]) = false) (q3: (s.toList == [111,114]) = false) (q4: (s.toList == [110,101,103]) = false) (q5: (s.toList == [45]) = false) (q6: (s.toList == [42]) = true) (hR: R = tyE (if bothB a b 2 then some 2 else none)): Calls Tryz.prog 110 #[.string s, .int .i64 a, .int .i64 b] w fun e w' => e = R /\ w' = w := by
 have HB := Rw.dh bothT_walk
 cases hb: bothB a b 2 <;> rw [hb] at hR <;> subst hR
 · go_enter Tryz.func110,Tryz.ntmps110
   go_wp2_with (first
    | (go_at_call 154; refine (HB.out _ _ _ _).mono ?_; rintro e w' ⟨rfl,rfl⟩; rw [hb])
    | (go_at_call 153; refine (typed_no _ _).mono ?_; rintro e w' ⟨rfl,rfl⟩))
   exact ⟨rfl,rfl,rfl⟩
 · go_enter Tryz.func110,Tryz.ntmps110
   go_wp2_with (first
    | (go_at_call 154; refine (HB.out _ _ _ _).mono ?_; rintro e w' ⟨rfl,rfl⟩; rw [hb])
    | (go_at_call 153; refine (typed_ok _ _).mono ?_; rintro e w' ⟨rfl,rfl⟩))
   go_ret
   exact ⟨rfl,rfl⟩
theorem typeOf_7 (s: ByteArray) (a b: Int) (w: World) (R: Ending) (q0: (s.toList == [110,117,108,108]) = false) (q1: (s.toList == [110,111,116]) = false) (q2: (s.toList == [97,110,100]) = false) (q3: (s.toList == [111,114]) = false) (q4: (s.toList == [110,101,103]) = false) (q5: (s.toList == [45]) = false) (q6: (s.toList == [42]) = false) (q7: (s.toList == [43]) = true) (hR: R = tyE (if bothB a b 2 || bothB a b 3 then some (max a b) else none)): Calls Tryz.prog 110 #[.string s, .int .i64 a, .int .i64 b] w fun e w' => e = R /\ w' = w := by
 have HB := Rw.dh bothT_walk
 cases hb: bothB a b 2
 · cases hc: bothB a b 3 <;> rw [hb,hc] at hR <;> subst hR
   · go_enter Tryz.func110,Tryz.ntmps110
     go_wp2_with (first
      | (go_at_call 154; refine (HB.out _ _ _ _).mono ?_; rintro e w' ⟨rfl,rfl⟩; (first | rw [hb] | rw [hc]))
      | (go_at_call 153; refine (typed_no _ _).mono ?_; rintro e w' ⟨rfl,rfl⟩))
     exact ⟨rfl,rfl,rfl⟩
   · go_enter Tryz.func110,Tryz.ntmps110
     go_wp2_with (first
      | (go_at_call 154; refine (HB.out _ _ _ _).mono ?_; rintro e w' ⟨rfl,rfl⟩; (first | rw [hb] | rw [hc]))
      | (go_at_call 153; refine (typed_ok _ _).mono ?_; rintro e w' ⟨rfl,rfl⟩))
     go_ret
     exact ⟨rfl,rfl⟩
 · rw [hb] at hR
   subst hR
   go_enter Tryz.func110,Tryz.ntmps110
   go_wp2_with (first
    | (go_at_call 154; refine (HB.out _ _ _ _).mono ?_; rintro e w' ⟨rfl,rfl⟩; rw [hb])
    | (go_at_call 153; refine (typed_ok _ _).mono ?_; rintro e w' ⟨rfl,rfl⟩))
   go_ret
   exact ⟨rfl,rfl⟩
theorem typeOf_8 (s: ByteArray) (a b: Int) (w: World) (R: Ending) (q0: (s.toList == [110,117,108,108]) = false) (q1: (s.toList == [110,111,116]) = false) (q2: (s.toList == [97,110,100]) = false) (q3: (s.toList == [111,114]) = false) (q4: (s.toList == [110,101,103]) = false) (q5: (s.toList == [45]) = false) (q6: (s.toList == [42]) = false) (q7: (s.toList == [43]) = false) (hR: R = tyE (if agreeB a b then some 1 else none)): Calls Tryz.prog 110 #[.string s, .int .i64 a, .int .i64 b] w fun e w' => e = R /\ w' = w := by
 have HA := Rw.dh agree_walk
 cases hb: agreeB a b <;> rw [hb] at hR <;> subst hR
 · go_enter Tryz.func110,Tryz.ntmps110
   go_wp2_with (first
    | (go_at_call 86; refine (HA.out _ _ _).mono ?_; rintro e w' ⟨rfl,rfl⟩; rw [hb])
    | (go_at_call 153; refine (typed_no _ _).mono ?_; rintro e w' ⟨rfl,rfl⟩))
   exact ⟨rfl,rfl,rfl⟩
 · go_enter Tryz.func110,Tryz.ntmps110
   go_wp2_with (first
    | (go_at_call 86; refine (HA.out _ _ _).mono ?_; rintro e w' ⟨rfl,rfl⟩; rw [hb])
    | (go_at_call 153; refine (typed_ok _ _).mono ?_; rintro e w' ⟨rfl,rfl⟩))
   go_ret
   exact ⟨rfl,rfl⟩
theorem typeOf_0 (s: ByteArray) (a b: Int) (w: World) (R: Ending) (q0: (s.toList == [110,117,108,108]) = true) (hR: R = tyE (some 1)): Calls Tryz.prog 110 #[.string s, .int .i64 a, .int .i64 b] w fun e w' => e = R /\ w' = w := by
 subst hR
 go_enter Tryz.func110,Tryz.ntmps110
 go_wp2
 go_ret
 exact ⟨rfl,rfl⟩
theorem typeOf_walk (s: ByteArray) (a b: Int) (w: World): Calls Tryz.prog 110 #[.string s, .int .i64 a, .int .i64 b] w fun e w' => e = tyE (typeO s.toList a b) /\ w' = w := by
 obtain ⟨R,hR⟩: ∃ R,R = tyE (typeO s.toList a b) := ⟨_,rfl⟩
 rw [<- hR]
 unfold typeO nNULL nNOT nAND nOR nNEG at hR
 cases q0: (s.toList == [110,117,108,108])
 rotate_left
 · exact typeOf_0 s a b w R q0 (by rw [hR,q0]; rfl)
 cases q1: (s.toList == [110,111,116])
 rotate_left
 · exact typeOf_1 s a b w R q0 q1 (by rw [hR,q0,q1]; rfl)
 cases q2: (s.toList == [97,110,100])
 rotate_left
 · exact typeOf_2 s a b w R q0 q1 q2 (by rw [hR,q0,q1,q2]; rfl)
 cases q3: (s.toList == [111,114])
 rotate_left
 · exact typeOf_3 s a b w R q0 q1 q2 q3 (by rw [hR,q0,q1,q2,q3]; rfl)
 cases q4: (s.toList == [110,101,103])
 rotate_left
 · exact typeOf_4 s a b w R q0 q1 q2 q3 q4 (by rw [hR,q0,q1,q2,q3,q4]; rfl)
 cases q5: (s.toList == [45])
 rotate_left
 · exact typeOf_5 s a b w R q0 q1 q2 q3 q4 q5 (by rw [hR,q0,q1,q2,q3,q4,q5]; rfl)
 cases q6: (s.toList == [42])
 rotate_left
 · exact typeOf_6 s a b w R q0 q1 q2 q3 q4 q5 q6 (by rw [hR,q0,q1,q2,q3,q4,q5,q6]; rfl)
 cases q7: (s.toList == [43])
 rotate_left
 · exact typeOf_7 s a b w R q0 q1 q2 q3 q4 q5 q6 q7 (by rw [hR,q0,q1,q2,q3,q4,q5,q6,q7]; rfl)
 exact typeOf_8 s a b w R q0 q1 q2 q3 q4 q5 q6 q7 (by rw [hR,q0,q1,q2,q3,q4,q5,q6,q7]; rfl)
end Go.Proofs.YteibhbnlcpejpaaGreat
