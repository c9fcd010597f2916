import Derived.Test.YtdnkbdjhccckhaaGreatMAH
set_option maxRecDepth 100000
set_option maxHeartbeats 4000000
namespace Go.Proofs.YtdnkbdjhccckhaaGreat.L5
open Go.RowKit
theorem weigh_wts (m: Nat) (l: List ByteArray): weigh l + m * l.length = (wts (4 + m) l).sum := by
 induction l with
 | nil => simp [weigh,wts]
 | cons s l ih =>
  unfold weigh wts at ih ⊢
  simp only [List.map_cons,List.sum_cons,List.length_cons]
  rw [Nat.mul_add]
  omega
theorem weigh_take (m: Nat) (l: List ByteArray) (k: Nat) (hk: k <= l.length): weigh (l.take k) + m * k = sumN (4 + m) l k := by
 have := weigh_wts m (l.take k)
 rw [List.length_take,Nat.min_eq_left hk] at this
 rw [this]
 unfold sumN wts
 rw [List.map_take]
theorem weigh_drop (m: Nat) (l: List ByteArray) (k: Nat): weigh (l.drop k) + m * (l.length - k) = (wts (4 + m) l).sum - sumN (4 + m) l k := by
 have := weigh_wts m (l.drop k)
 rw [List.length_drop] at this
 rw [this]
 have h := sum_parts (wts (4 + m) l) k
 unfold sumN
 have e: wts (4 + m) (l.drop k) = (wts (4 + m) l).drop k := by unfold wts; rw [List.map_drop]
 rw [e]
 omega
structure Nq (w: World) (n: No) (a: Option Addr) (c: Nat) (a': Option Addr) (c': Nat) (wr: World): Prop where
 bx: Bx w n a c a' c' wr
 nr: NR wr n a c a' c'
theorem Nq.on {w: World} {n: No} {a: Option Addr} {c: Nat} {a': Option Addr} {c': Nat} {wr wr': World} (h: Nq w n a c a' c' wr) (hb: Below wr.heap.size wr wr'): Nq w n a c a' c' wr' := ⟨h.bx.on hb,h.nr.below hb⟩
theorem Nq.new {w: World} {n: No} {a: Option Addr} {c: Nat} {a': Option Addr} {c': Nat} (hr: NR w n a c a' c') (t: TypeId): Nq w n a c a' c' (w.alloc (.cells #[.bool n.leaf, .slice a n.recs.length c, .slice a' n.kids.length c'] t)) := ⟨Bx.new w n a c a' c' t,hr.below (below_alloc _ _)⟩
structure BelowW (W: World) where
 w: World
 below: Below W.heap.size W w
theorem wp_region_below {P: Program} {id: Nat} {Q: Exit -> Act -> World -> Prop} {a: Act} {W: World} {l: List Oper} (hm: P.follows .mixedOrders = true) (hB: Region.lexB .any l.toArray = true)
 (h: Nonempty (BelowW W) -> wpQuiet P l.toArray (fun w' => ∃ q: BelowW W,w' = q.w) (fun a' => ∀ w',(∃ q: BelowW W,w' = q.w) -> Q .normal a' w') l a): (Code.region id l.toArray true).wp P Q a W :=
 wp_region_quiet (C := fun w' => ∃ q: BelowW W,w' = q.w) hm hB ⟨⟨{ W with drawn := W.drawn + 1 },(Below.refl _ _).drew⟩,rfl⟩ (by simpa using h ⟨⟨W,Below.refl _ _⟩⟩)
theorem quiet_of_below {P: Program} {f: FuncId} {args: Array Value} {W: World} {q: BelowW W} {v: Value} (h: Calls P f args q.w fun e w' => e = .returned v /\ Below q.w.heap.size q.w w') :
 Calls P f args q.w fun e w'' => e = .returned v /\ ∃ q': BelowW W,w'' = q'.w :=
 h.mono fun _ w' ⟨he,hb⟩ => ⟨he,⟨w',below_on q.below hb⟩,rfl⟩
def No.gap (n: No): Nat := if n.leaf then 0 else 1
def No.hv (n: No) (k: Nat): Nat := if n.leaf then heavy 4 0 n.recs k else heavy 8 1 n.recs k
def No.cut (n: No): Nat := minAt n.hv (n.recs.length - n.gap - 2)
theorem cut_leaf {n: No} (h: n.leaf = true): n.cut = cutN 4 0 n.recs := by
 unfold No.cut cutN No.gap
 rw [if_pos h]
 congr 1
 funext k
 unfold No.hv
 rw [if_pos h]
theorem cut_inner {n: No} (h: n.leaf = false): n.cut = cutN 8 1 n.recs := by
 unfold No.cut cutN No.gap
 rw [h]
 congr 1
 funext k
 unfold No.hv
 rw [h]
 rfl
def ltB (s r: ByteArray): Bool := Op.bytesLess r.toList s.toList
def leB (s r: ByteArray): Bool := Op.bytesLess r.toList s.toList || r.toList == s.toList
def isAt (l: List ByteArray) (s: ByteArray) (k: Nat): Bool := match l[k]? with | some r => r.toList == s.toList | none => false
def firstN (l: List ByteArray) (s: ByteArray): Nat := (l.takeWhile (ltB s)).length
theorem firstN_le (l: List ByteArray) (s: ByteArray): firstN l s <= l.length := List.takeWhile_sublist _ |>.length_le
theorem first_lt (l: List ByteArray) (s: ByteArray): ∀ i (h: i < l.length),i < firstN l s -> ltB s l[i] = true := by
 unfold firstN
 induction l with
 | nil => intro i h; simp at h
 | cons x l ih =>
  intro i h hi
  rw [List.takeWhile_cons] at hi
  split at hi
  · rename_i hx
    cases i with
    | zero => exact hx
    | succ i => exact ih i (by simpa using h) (by simpa using hi)
  · simp at hi
theorem first_ge (l: List ByteArray) (s: ByteArray): ∀ (h: firstN l s < l.length),ltB s l[firstN l s] = false := by
 unfold firstN
 induction l with
 | nil => intro h; simp at h
 | cons x l ih =>
  intro h
  by_cases hx: ltB s x = true
  · simp only [List.takeWhile_cons,hx,if_true,List.length_cons] at h ⊢
    exact ih (by simpa using h)
  · simp only [List.takeWhile_cons,hx]
    simpa using hx
theorem count_cut (l: List ByteArray) (p: ByteArray -> Bool): ∀ k,k <= l.length -> (∀ i (h: i < l.length),i < k -> p l[i] = true) -> (∀ i (h: i < l.length),k <= i -> p l[i] = false) -> l.countP p = k := by
 induction l with
 | nil => intro k hk _ _; simp at hk; simp [hk]
 | cons x l ih =>
  intro k hk h1 h2
  cases k with
  | zero =>
   rw [List.countP_eq_zero]
   intro y hy
   obtain ⟨i,hi,rfl⟩ := List.getElem_of_mem hy
   simp [h2 i hi (Nat.zero_le _)]
  | succ k =>
   have hx: p x = true := h1 0 (by simp) (by omega)
   rw [List.countP_cons,if_pos hx,ih k (by simpa using hk) (fun i hi hik => h1 (i + 1) (by simpa using hi) (by omega)) (fun i hi hik => h2 (i + 1) (by simpa using hi) (by omega))]
theorem lt_trans_b {x y z: List UInt8} (h1: Op.bytesLess x y = true) (h2: Op.bytesLess y z = true): Op.bytesLess x z = true := by
 rw [bytesLess_lt,decide_eq_true_eq] at *
 exact List.lt_trans h1 h2
theorem lt_irrefl_b (x: List UInt8): Op.bytesLess x x = false := by
 rw [bytesLess_lt]; exact decide_eq_false (List.lt_irrefl x)
theorem le_lt_b {x y z: List UInt8} (h1: Op.bytesLess y x = false) (h2: Op.bytesLess y z = true): Op.bytesLess x z = true := by
 have := le_not_lt x y
 rw [h1] at this
 simp only [Bool.not_false,Bool.or_eq_true,beq_iff_eq] at this
 rcases this with h | h
 · exact lt_trans_b h h2
 · rw [h]; exact h2
theorem rises_lt {l: List ByteArray} (h: risesB l = true): ∀ j i (_: i < j) (hj: j < l.length),Op.bytesLess l[i].toList l[j].toList = true := by
 have h0: ∀ i (hi: i + 1 < l.length),Op.bytesLess l[i].toList l[i + 1].toList = true := fun i hi => by
  have := List.all_eq_true.1 h (i + 1) (by simpa using hi)
  rw [recOk_succ l i hi] at this
  simp only [Bool.and_eq_true] at this
  exact this.2
 intro j
 induction j with
 | zero => intro i hi; omega
 | succ j ih =>
  intro i hi hj
  by_cases e: i = j
  · subst e; exact h0 i hj
  · exact lt_trans_b (ih i (by omega) (by omega)) (h0 j hj)
theorem count_lt {l: List ByteArray} (h: risesB l = true) (s: ByteArray): l.countP (ltB s) = firstN l s := by
 refine count_cut l _ _ (firstN_le l s) (first_lt l s) fun i hi hk => ?_
 have h1 := first_ge l s (by omega)
 by_cases e: i = firstN l s
 · subst e; exact h1
 · have h2 := rises_lt h i (firstN l s) (by omega) hi
   cases h3: ltB s l[i]
   · rfl
   · have: ltB s l[firstN l s] = true := lt_trans_b h2 h3
     rw [h1] at this
     cases this
theorem countP_snoc (l: List ByteArray) (p: ByteArray -> Bool) (j: Nat) (h: j < l.length): (l.take (j + 1)).countP p = (l.take j).countP p + if p l[j] then 1 else 0 := by
 rw [List.take_succ_eq_append_getElem h,List.countP_append]
 simp [List.countP_cons]
theorem countP_take_le (l: List ByteArray) (p: ByteArray -> Bool) (j: Nat) (h: l.length <= 1000): (l.take j).countP p <= 1000 := by
 have := List.countP_le_length (p := p) (l := l.take j)
 simp at this
 omega
theorem kid_walk {n: No} {a: Option Addr} {c: Nat} {a': Option Addr} {c': Nat} {w: World} (hr: NR w n a c a' c') (h1: n.recs.length <= 1000) (s: ByteArray) :
 Calls Tryz.prog 85 #[nodeV n a c a' c', .string s] w fun e w' => e = .returned (.int .i64 (n.recs.countP (leB s): Int)) /\ Below w.heap.size w w' := by
 have HX := Bx.new w n a c a' c' 69
 have HR: Hid (Rd (w.alloc (.cells #[.bool n.leaf, .slice a n.recs.length c, .slice a' n.kids.length c'] 69)) a c (svs n.recs)) := hr.recs.below HX.below
 have x1 := HX.c1
 have xl := HX.lt
 have HB := HX.below
 clear HX
 go_enter Tryz.func85,Tryz.ntmps85
 unfold nodeV
 go_wp2
 generalize w.alloc (.cells #[.bool n.leaf, .slice a n.recs.length c, .slice a' n.kids.length c'] 69) = W at *
 go_loop [5,11] (fun x i => ∃ j: Nat,j <= n.recs.length /\ i = .int .i64 (j: Int) /\ x = .int .i64 ((n.recs.take j).countP (leB s): Int)) (fun _ i => n.recs.length - (intOf i).toNat)
 case atStart => exact ⟨0,Nat.zero_le _,rfl,by simp⟩
 case round =>
  obtain ⟨j,hj,rfl,rfl⟩ := hrel
  have hw := countP_take_le n.recs (leB s) j h1
  by_cases hlt: j < n.recs.length
  · obtain ⟨b,o,rfl,hb,hc⟩ := HR.out.str j hlt
    have HW: Hid _ := countP_snoc n.recs (leB s) j hlt
    have hlt': (j: Int) < (n.recs.length: Int) := by omega
    generalize n.recs[j] = r at *
    cases hle: leB s r
    · have HW': Hid ((n.recs.take (j + 1)).countP (leB s) = (n.recs.take j).countP (leB s)) := by have := HW.out; rw [hle] at this; exact this
      unfold leB at hle
      simp only [Bool.or_eq_false_iff] at hle
      obtain ⟨e1,e2⟩ := hle
      clear HW
      go_wp2
      go_round
      case rel => exact ⟨j + 1,hlt,by go_num,by rw [HW'.out]⟩
      case measure => simp [intOf]; omega
    · have HW': Hid ((n.recs.take (j + 1)).countP (leB s) = (n.recs.take j).countP (leB s) + 1) := by have := HW.out; rw [hle] at this; exact this
      unfold leB at hle
      clear HW
      cases e1: Op.bytesLess r.toList s.toList
      · rw [e1,Bool.false_or] at hle
        go_wp2
        go_round
        case rel => exact ⟨j + 1,hlt,by go_num,by rw [HW'.out]; go_num⟩
        case measure => simp [intOf]; omega
      · clear hle
        go_wp2
        go_round
        case rel => exact ⟨j + 1,hlt,by go_num,by rw [HW'.out]; go_num⟩
        case measure => simp [intOf]; omega
  · have hlt': (n.recs.length: Int) <= (j: Int) := by omega
    go_wp2
    go_ret
    exact ⟨ret_int (by rw [List.take_of_length_le (by omega)]),HB⟩
theorem find_walk {n: No} {a: Option Addr} {c: Nat} {a': Option Addr} {c': Nat} {w: World} (hr: NR w n a c a' c') (h1: n.recs.length <= 1000) (s: ByteArray) :
 Calls Tryz.prog 64 #[nodeV n a c a' c', .string s] w fun e w' => e = .returned (.tuple #[.int .i64 (n.recs.countP (ltB s): Int), .bool (isAt n.recs s (n.recs.countP (ltB s)))]) /\ Below w.heap.size w w' := by
 have HX := Bx.new w n a c a' c' 69
 have HR: Hid (Rd (w.alloc (.cells #[.bool n.leaf, .slice a n.recs.length c, .slice a' n.kids.length c'] 69)) a c (svs n.recs)) := hr.recs.below HX.below
 have x1 := HX.c1
 have xl := HX.lt
 have HB := HX.below
 clear HX
 go_enter Tryz.func64,Tryz.ntmps64
 unfold nodeV
 go_wp2
 generalize w.alloc (.cells #[.bool n.leaf, .slice a n.recs.length c, .slice a' n.kids.length c'] 69) = W at *
 go_loop [6,12] (fun x i => ∃ j: Nat,j <= n.recs.length /\ i = .int .i64 (j: Int) /\ x = .int .i64 ((n.recs.take j).countP (ltB s): Int)) (fun _ i => n.recs.length - (intOf i).toNat)
 case atStart => exact ⟨0,Nat.zero_le _,rfl,by simp⟩
 case round =>
  obtain ⟨j,hj,rfl,rfl⟩ := hrel
  have hw := countP_take_le n.recs (ltB s) j h1
  by_cases hlt: j < n.recs.length
  · obtain ⟨b,o,rfl,hb,hc⟩ := HR.out.str j hlt
    have HW: Hid _ := countP_snoc n.recs (ltB s) j hlt
    have hlt': (j: Int) < (n.recs.length: Int) := by omega
    generalize n.recs[j] = r at *
    cases hle: ltB s r
    · have HW': Hid ((n.recs.take (j + 1)).countP (ltB s) = (n.recs.take j).countP (ltB s)) := by have := HW.out; rw [hle] at this; exact this
      unfold ltB at hle
      clear HW
      go_wp2
      go_round
      case rel => exact ⟨j + 1,hlt,by go_num,by rw [HW'.out]⟩
      case measure => simp [intOf]; omega
    · have HW': Hid ((n.recs.take (j + 1)).countP (ltB s) = (n.recs.take j).countP (ltB s) + 1) := by have := HW.out; rw [hle] at this; exact this
      unfold ltB at hle
      clear HW
      go_wp2
      go_round
      case rel => exact ⟨j + 1,hlt,by go_num,by rw [HW'.out]; go_num⟩
      case measure => simp [intOf]; omega
  · have hjr: j = n.recs.length := by omega
    subst hjr
    obtain ⟨k,hk0⟩: ∃ k,Hid (n.recs.countP (ltB s) = k) := ⟨_,rfl⟩
    rw [List.take_length,hk0.out] at hw ⊢
    by_cases hk: k < n.recs.length
    · obtain ⟨b,o,rfl,hb,hc⟩ := HR.out.str k hk
      have HA: Hid (isAt n.recs s k = (n.recs[k].toList == s.toList)) := by show _ = _; unfold isAt; rw [List.getElem?_eq_getElem hk]
      generalize n.recs[k] = r at *
      have hk': (k: Int) < (n.recs.length: Int) := by omega
      go_wp2
      go_quiet (fail)
      go_wp2
      go_ret2
      exact ⟨by rw [hk0.out,HA.out]; rfl,below_drewN HB _⟩
    · have HA: Hid (isAt n.recs s k = false) := by show _ = _; unfold isAt; rw [List.getElem?_eq_none (by omega)]
      have hk': decide (k < n.recs.length) = false := decide_eq_false hk
      go_wp2
      go_quiet (fail)
      go_wp2
      go_ret2
      exact ⟨by rw [hk0.out,HA.out]; rfl,below_drewN HB _⟩
theorem below_walk {n: No} {a: Option Addr} {c: Nat} {a': Option Addr} {c': Nat} {w: World} (hr: NR w n a c a' c') (h1: n.recs.length <= 1000) (s: ByteArray) :
 Calls Tryz.prog 55 #[nodeV n a c a' c', .string s] w fun e w' => e = .returned (.tuple #[.int .i64 (firstN n.recs s: Int), .bool (isAt n.recs s (firstN n.recs s))]) /\ Below w.heap.size w w' := by
 have HX := Bx.new w n a c a' c' 91
 have HR: Hid (Rd (w.alloc (.cells #[.bool n.leaf, .slice a n.recs.length c, .slice a' n.kids.length c'] 91)) a c (svs n.recs)) := hr.recs.below HX.below
 have x1 := HX.c1
 have xl := HX.lt
 have HB := HX.below
 clear HX
 have hfn := firstN_le n.recs s
 go_enter Tryz.func55,Tryz.ntmps55
 unfold nodeV
 go_wp2
 generalize w.alloc (.cells #[.bool n.leaf, .slice a n.recs.length c, .slice a' n.kids.length c'] 91) = W at *
 go_loop [6] (fun x => ∃ j: Nat,j <= firstN n.recs s /\ x = .int .i64 (j: Int)) (fun x => n.recs.length - (intOf x).toNat)
 case atStart => exact ⟨0,Nat.zero_le _,rfl⟩
 case round =>
  obtain ⟨j,hj,rfl⟩ := hrel
  by_cases hjk: j < firstN n.recs s
  · have hlt: j < n.recs.length := by omega
    obtain ⟨b,o,rfl,hb,hc⟩ := HR.out.str j hlt
    have hl := first_lt n.recs s j hlt hjk
    have hlt': (j: Int) < (n.recs.length: Int) := by omega
    generalize n.recs[j] = r at *
    unfold ltB at hl
    go_wp2
    go_round
    case rel => exact ⟨j + 1,by omega,by go_num⟩
    case measure => simp [intOf]; omega
  · have hjj: Hid (j = firstN n.recs s) := by show j = _; omega
    by_cases hk: j < n.recs.length
    · obtain ⟨b,o,rfl,hb,hc⟩ := HR.out.str j hk
      have hl: ltB s n.recs[j] = false := by
       have := first_ge n.recs s (by rw [<- hjj.out]; exact hk)
       simpa only [<- hjj.out] using this
      have HA: Hid (isAt n.recs s j = (n.recs[j].toList == s.toList)) := by show _ = _; unfold isAt; rw [List.getElem?_eq_getElem hk]
      generalize n.recs[j] = r at *
      clear hjk hfn hj
      unfold ltB at hl
      have hk': (j: Int) < (n.recs.length: Int) := by omega
      go_wp2
      go_quiet (fail)
      go_wp2
      go_ret2
      exact ⟨by rw [<- hjj.out,HA.out]; rfl,below_drewN HB _⟩
    · have HA: Hid (isAt n.recs s j = false) := by show _ = _; unfold isAt; rw [List.getElem?_eq_none (by omega)]
      clear hjk hfn hj
      have hk': decide (j < n.recs.length) = false := decide_eq_false hk
      go_wp2
      go_quiet (fail)
      go_wp2
      go_ret2
      exact ⟨by rw [<- hjj.out,HA.out]; rfl,below_drewN HB _⟩
def ltP (x y: ByteArray): Prop := Op.bytesLess x.toList y.toList = true
theorem rises_iff (l: List ByteArray): risesB l = true ↔ (∀ s ∈ l,1 <= s.size /\ s.size <= 400) /\ l.Pairwise ltP := by
 constructor
 · intro h
   refine ⟨fun s hs => ?_,List.pairwise_iff_getElem.2 fun i j hi hj hij => rises_lt h j i hij hj⟩
   obtain ⟨i,hi,rfl⟩ := List.getElem_of_mem hs
   have := List.all_eq_true.1 h i (by simpa using hi)
   rcases rec_cases l i hi with ⟨_,no⟩ | ⟨_,no⟩ | ⟨_,h1,h2,_⟩ | ⟨_,_,_,h1,h2,_,_⟩ | ⟨_,_,_,h1,h2,_,_⟩
   · rw [no] at this; cases this
   · rw [no] at this; cases this
   · exact ⟨h1,h2⟩
   · exact ⟨h1,h2⟩
   · exact ⟨h1,h2⟩
 · rintro ⟨h1,h2⟩
   refine rises_of l fun i hi => ?_
   have hs := h1 l[i] (List.getElem_mem hi)
   have e1: decide (1 <= l[i].size) = true := decide_eq_true hs.1
   have e2: decide (l[i].size <= 400) = true := decide_eq_true hs.2
   cases i with
   | zero => rw [recOk_zero l hi,e1,e2]; rfl
   | succ i => rw [recOk_succ l i hi,e1,e2,List.pairwise_iff_getElem.1 h2 i (i + 1) (by omega) hi (by omega)]; rfl
def insL (l: List ByteArray) (s: ByteArray): List ByteArray := l.take (firstN l s) ++ [s] ++ l.drop (firstN l s)
theorem rises_ins {l: List ByteArray} (h: risesB l = true) (s: ByteArray) (h1: 1 <= s.size) (h2: s.size <= 400) (hn: isAt l s (firstN l s) = false): risesB (insL l s) = true := by
 have hk := firstN_le l s
 have hlow: ∀ x ∈ l.take (firstN l s),ltP x s := fun x hx => by
  obtain ⟨i,hi,rfl⟩ := List.getElem_of_mem hx
  simp at hi
  rw [List.getElem_take]
  exact first_lt l s i (by omega) (by omega)
 have hhigh: ∀ x ∈ l.drop (firstN l s),ltP s x := fun x hx => by
  obtain ⟨i,hi,rfl⟩ := List.getElem_of_mem hx
  simp at hi
  rw [List.getElem_drop]
  have hlt: firstN l s < l.length := by omega
  have g := first_ge l s hlt
  unfold isAt at hn
  rw [List.getElem?_eq_getElem hlt] at hn
  have h0: Op.bytesLess s.toList l[firstN l s].toList = true := by
   have := le_not_lt l[firstN l s].toList s.toList
   unfold ltB at g
   simp only at hn
   rw [g,hn] at this
   simpa using this.symm
  by_cases e: i = 0
  · subst e
    exact h0
  · exact lt_trans_b h0 (rises_lt h (firstN l s + i) (firstN l s) (by omega) (by omega))
 rw [rises_iff] at h ⊢
 unfold insL
 refine ⟨fun x hx => ?_, ?_⟩
 · rcases List.mem_append.1 hx with hx | hx
   · rcases List.mem_append.1 hx with hx | hx
     · exact h.1 x (List.mem_of_mem_take hx)
     · simp at hx; subst hx; exact ⟨h1,h2⟩
   · exact h.1 x (List.mem_of_mem_drop hx)
 · rw [List.append_assoc,List.pairwise_append]
   refine ⟨h.2.sublist (List.take_sublist _ l), ?_,fun x hx y hy => ?_⟩
   · rw [List.pairwise_append]
     refine ⟨by simp,h.2.sublist (List.drop_sublist _ l),fun x hx y hy => ?_⟩
     simp at hx
     subst hx
     exact hhigh y hy
   · rcases List.mem_append.1 hy with hy | hy
     · simp at hy; subst hy; exact hlow x hx
     · exact lt_trans_b (hlow x hx) (hhigh y hy)
theorem weigh_append (x y: List ByteArray): weigh (x ++ y) = weigh x + weigh y := by
 unfold weigh; rw [List.map_append,List.sum_append]
theorem weigh_sum (l: List ByteArray): weigh l = (wts 4 l).sum := rfl
theorem halves_fit {l: List ByteArray} (hw: weigh l <= 1425) (hs: ∀ s ∈ l,s.size <= 400) (h2: 2 <= l.length): 3 + weigh (l.take (cutN 4 0 l)) <= 1024 /\ 3 + weigh (l.drop (cutN 4 0 l)) <= 1024 := by
 obtain ⟨k,k1,k2,k3,k4⟩ := half_exists (wts 4 l) 404 (fun x hx => by
  obtain ⟨s,h,rfl⟩ := List.mem_map.1 hx
  have := hs s h
  omega) (by rw [wts_length]; exact h2)
 rw [wts_length] at k2
 rw [weigh_sum] at hw
 have hp := sum_parts (wts 4 l) k
 have hm: heavy 4 0 l (cutN 4 0 l) <= heavy 4 0 l k := minAt_min _ _ k k1 (by omega)
 have hh: heavy 4 0 l k <= 914 := by
  unfold heavy sumN
  rw [Nat.add_zero]
  omega
 obtain ⟨c1,c2⟩ := cutN_le 4 0 l (by omega)
 have w1 := weigh_take 0 l (cutN 4 0 l) (by omega)
 have w2 := weigh_drop 0 l (cutN 4 0 l)
 have hd: heavy 4 0 l (cutN 4 0 l) = max (sumN 4 l (cutN 4 0 l)) ((wts 4 l).sum - sumN 4 l (cutN 4 0 l)) := by unfold heavy; rw [Nat.add_zero]
 rw [Nat.zero_mul,Nat.add_zero] at w1 w2
 rw [hd] at hm
 have e4: (4 + 0) = 4 := rfl
 rw [e4] at w1 w2
 omega
end Go.Proofs.YtdnkbdjhccckhaaGreat.L5
