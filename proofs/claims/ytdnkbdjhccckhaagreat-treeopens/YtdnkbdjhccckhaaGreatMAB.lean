import Derived.WalkKit
import Derived.Deep.Draws
import Derived.Deep.AppendLies
import Derived.Deep.WholeRow
import Derived.Deep.QuietTactic
import Derived.BigQuiet
import Derived.Laws.OwnMore
import Derived.Laws.Cover1
import Derived.Laws.AppendOwn
import Derived.Maps.AppendAt
import Derived.Test.YtdnkbdjhccckhaaGreatChecked
set_option maxRecDepth 100000
set_option maxHeartbeats 4000000
namespace Go.Proofs.YtdnkbdjhccckhaaGreat
open Go.RowKit
structure Only (S: Nat -> Prop) (w w': World): Prop where
 os: w'.os = w.os
 tape: w'.tape = w.tape
 output: w'.output = w.output
 size: w.heap.size <= w'.heap.size
 block: ∀ k,k < w.heap.size -> ¬ S k -> w'.heap[k]? = w.heap[k]?
theorem Only.refl (S: Nat -> Prop) (w: World): Only S w w := ⟨rfl,rfl,rfl,Nat.le_refl _,fun _ _ _ => rfl⟩
theorem Only.trans {S: Nat -> Prop} {a b c: World} (h: Only S a b) (k: Only S b c): Only S a c :=
 ⟨k.os.trans h.os,k.tape.trans h.tape,k.output.trans h.output,Nat.le_trans h.size k.size,
  fun i hi hs => (k.block i (Nat.lt_of_lt_of_le hi h.size) hs).trans (h.block i hi hs)⟩
theorem Only.weaken {S T: Nat -> Prop} {a b: World} (h: Only S a b) (hST: ∀ k,k < a.heap.size -> S k -> T k): Only T a b :=
 ⟨h.os,h.tape,h.output,h.size,fun i hi hs => h.block i hi fun x => hs (hST i hi x)⟩
theorem Only.alloc {S: Nat -> Prop} {a w: World} (h: Only S a w) (o: Obj): Only S a (w.alloc o) :=
 h.trans ⟨rfl,rfl,rfl,by simp,fun k hk _ => Below.heap_alloc _ _ _ hk⟩
theorem Only.setCell {S: Nat -> Prop} {a w: World} (h: Only S a w) {p: Addr} (hp: a.heap.size <= p.block \/ S p.block) (u: Value): Only S a (w.setCell p u) := by
 refine ⟨h.os,h.tape,h.output,by simpa [World.setCell] using h.size,fun k hk hs => ?_⟩
 have hne: k ≠ p.block := fun e => by rcases hp with hp | hp; omega; exact hs (e ▸ hp)
 rw [Below.heap_setCell _ _ _ _ hne]
 exact h.block k hk hs
theorem Only.drew {S: Nat -> Prop} {a w: World} (h: Only S a w): Only S a w.drew := ⟨h.os,h.tape,h.output,h.size,h.block⟩
theorem Only.grown {S: Nat -> Prop} {a w w': World} {row: Option Nat} (h: Only S a w) (hg: w.grownBy w' row) (hr: ∀ k,row = some k -> a.heap.size <= k \/ S k): Only S a w' := by
 refine ⟨hg.os.trans h.os,hg.tape.trans h.tape,hg.output.trans h.output,Nat.le_trans h.size hg.size,fun k hk hs => ?_⟩
 rw [hg.block k (Nat.lt_of_lt_of_le hk h.size) fun e => ?_]
 · exact h.block k hk hs
 · rcases hr k e.symm with h | h
   · omega
   · exact hs h
theorem Only.cell {S: Nat -> Prop} {w w': World} (h: Only S w w') {p: Addr} (hp: p.block < w.heap.size) (hs: ¬ S p.block): w'.cell? p = w.cell? p := World.cell?_of_block (w := w) (h.block p.block hp hs)
theorem Only.frozen {S: Nat -> Prop} {w w': World} (h: Only S w w') {p: Addr} (hp: p.block < w.heap.size) (hs: ¬ S p.block): w'.frozen? p = w.frozen? p := World.frozen?_of_block (w := w) (h.block p.block hp hs)
theorem Only.below {S: Nat -> Prop} {w w': World} (h: Only S w w') {B: Nat} (hB: B <= w.heap.size) (hs: ∀ k,k < B -> ¬ S k): Below B w w' :=
 ⟨h.os,h.tape,h.output,h.size,fun k hk => h.block k (by omega) (hs k hk)⟩
theorem Only.of_below {S: Nat -> Prop} {w w': World} (h: Below w.heap.size w w'): Only S w w' :=
 ⟨h.os,h.tape,h.output,h.size,fun k hk _ => h.block k hk⟩
theorem below_drewN {B: Nat} {a w: World} (h: Below B a w) (n: Nat): Below B a (w.drewN n) := ⟨h.os,h.tape,h.output,h.size,h.block⟩
theorem Only.drewN {S: Nat -> Prop} {a w: World} (h: Only S a w) (n: Nat): Only S a (w.drewN n) := ⟨h.os,h.tape,h.output,h.size,h.block⟩
end Go.Proofs.YtdnkbdjhccckhaaGreat
namespace Go.Proofs.YtdnkbdjhccckhaaGreat.L5
open Go.RowKit
theorem below_alloc (w: World) (o: Obj): Below w.heap.size w (w.alloc o) := (Below.refl _ _).alloc (Nat.le_refl _) o
theorem below_on {a b c: World} (h: Below a.heap.size a b) (k: Below b.heap.size b c): Below a.heap.size a c := h.trans (k.mono h.size)
theorem bcell {W w1: World} (hb: Below W.heap.size W w1): (∀ b o,b < W.heap.size -> w1.cell? ⟨b,o,none⟩ = W.cell? ⟨b,o,none⟩) /\ (∀ b o,b < W.heap.size -> w1.frozen? ⟨b,o,none⟩ = W.frozen? ⟨b,o,none⟩) :=
 ⟨fun b o h => hb.cell (p := ⟨b,o,none⟩) h,fun b o h => hb.frozen (p := ⟨b,o,none⟩) h⟩
theorem ret_int {k: IntKind} {a b: Int} (h: a = b): Ending.returned (.int k a) = .returned (.int k b) := by rw [h]
theorem ret_bool {a b: Bool} (h: a = b): Ending.returned (.bool a) = .returned (.bool b) := by rw [h]
structure No where
 leaf: Bool
 recs: List ByteArray
 kids: List Int
def iv (k: Int): Value := .int .i64 k
def svs (l: List ByteArray): List Value := l.map Value.string
def ivs (l: List Int): List Value := l.map iv
def bcs (l: List UInt8): List Value := l.map fun c => Value.int .u8 (c.toNat: Int)
theorem bcs_length (l: List UInt8): (bcs l).length = l.length := by simp [bcs]
theorem svs_length (l: List ByteArray): (svs l).length = l.length := by simp [svs]
theorem ivs_length (l: List Int): (ivs l).length = l.length := by simp [ivs]
def Rd (W: World) (a: Option Addr) (c: Nat) (l: List Value): Prop := l.length <= c /\ c <= maxLen /\ ∀ j u,l[j]? = some u -> ∃ b o,a = some ⟨b,o,none⟩ /\ b < W.heap.size /\ W.cell? ⟨b,o + j,none⟩ = some u
theorem Rd.below {W W': World} {a: Option Addr} {c: Nat} {l: List Value} (h: Rd W a c l) (hb: Below W.heap.size W W'): Rd W' a c l :=
 ⟨h.1,h.2.1,fun j u hj => by
  obtain ⟨b,o,h1,h2,h3⟩ := h.2.2 j u hj
  exact ⟨b,o,h1,Nat.lt_of_lt_of_le h2 hb.size,by rw [hb.cell h2]; exact h3⟩⟩
theorem Rd.str {W: World} {a: Option Addr} {c: Nat} {l: List ByteArray} (h: Rd W a c (svs l)) (j: Nat) (hj: j < l.length): ∃ b o,a = some ⟨b,o,none⟩ /\ b < W.heap.size /\ W.cell? ⟨b,o + j,none⟩ = some (.string l[j]) :=
 h.2.2 j _ (by simp [svs,List.getElem?_eq_getElem hj])
theorem Rd.int {W: World} {a: Option Addr} {c: Nat} {l: List Int} (h: Rd W a c (ivs l)) (j: Nat) (hj: j < l.length): ∃ b o,a = some ⟨b,o,none⟩ /\ b < W.heap.size /\ W.cell? ⟨b,o + j,none⟩ = some (.int .i64 l[j]) :=
 h.2.2 j _ (by simp [ivs,iv,List.getElem?_eq_getElem hj])
theorem Rd.take {W: World} {a: Option Addr} {c: Nat} {l: List Value} (h: Rd W a c l) (k: Nat): Rd W a c (l.take k) :=
 ⟨Nat.le_trans (by simp; omega) h.1,h.2.1,fun j u hj => h.2.2 j u (by
  rw [List.getElem?_take] at hj
  split at hj
  · exact hj
  · cases hj)⟩
theorem Rd.drop {W: World} {b o: Nat} {c: Nat} {l: List Value} (h: Rd W (some ⟨b,o,none⟩) c l) (k: Nat): Rd W (some ⟨b,o + k,none⟩) (c - k) (l.drop k) :=
 ⟨by have := h.1; simp; omega,by have := h.2.1; omega,fun j u hj => by
  rw [List.getElem?_drop] at hj
  obtain ⟨b',o',h1,h2,h3⟩ := h.2.2 _ u hj
  cases h1
  exact ⟨b,o + k,rfl,h2,by rw [Nat.add_assoc]; exact h3⟩⟩
def nodeV (n: No) (a: Option Addr) (c: Nat) (a': Option Addr) (c': Nat): Value := .agg #[.bool n.leaf, .slice a n.recs.length c, .slice a' n.kids.length c']
structure NR (W: World) (n: No) (a: Option Addr) (c: Nat) (a': Option Addr) (c': Nat): Prop where
 recs: Rd W a c (svs n.recs)
 kids: Rd W a' c' (ivs n.kids)
theorem NR.below {W W': World} {n: No} {a: Option Addr} {c: Nat} {a': Option Addr} {c': Nat} (h: NR W n a c a' c') (hb: Below W.heap.size W W'): NR W' n a c a' c' := ⟨h.recs.below hb,h.kids.below hb⟩
structure No.small (n: No): Prop where
 recs: n.recs.length <= 1000
 kids: n.kids.length <= 1000
 each: ∀ s ∈ n.recs,s.size <= 5000
def weigh (l: List ByteArray): Nat := (l.map fun s => 4 + s.size).sum
def No.size (n: No): Nat := 3 + 4 * n.kids.length + weigh n.recs
theorem weigh_snoc (l: List ByteArray) (j: Nat) (h: j < l.length): weigh (l.take (j + 1)) = weigh (l.take j) + (4 + l[j].size) := by
 unfold weigh
 rw [List.take_succ_eq_append_getElem h,List.map_append,List.sum_append]
 rfl
theorem weigh_le (l: List ByteArray) (h: ∀ s ∈ l,s.size <= 5000): weigh l <= 5004 * l.length := by
 induction l with
 | nil => exact Nat.le_refl _
 | cons x l ih =>
  have h1 := ih fun s hs => h s (by simp [hs])
  have h2 := h x (by simp)
  unfold weigh at h1 ⊢
  simp only [List.map_cons,List.sum_cons,List.length_cons]
  omega
theorem weigh_take_le (l: List ByteArray) (h: ∀ s ∈ l,s.size <= 5000) (hl: l.length <= 1000) (j: Nat): weigh (l.take j) <= 5004000 := by
 have := weigh_le (l.take j) (fun s hs => h s (List.mem_of_mem_take hs))
 have h2: (l.take j).length <= 1000 := by simp; omega
 omega
def recOk (l: List ByteArray) (i: Nat): Bool := match l[i]? with
 | none => false
 | some s => decide (1 <= s.size) && decide (s.size <= 400) && (i == 0 || Op.bytesLess (l[i - 1]?.getD ⟨#[]⟩).toList s.toList)
def kidOk (k: Int): Bool := decide (1 <= k) && decide (k <= 4096)
def No.shaped (n: No): Bool := (List.range n.recs.length).all (recOk n.recs) && n.kids.all kidOk && (n.kids.length == if n.leaf then 0 else n.recs.length + 1)
theorem box_cells (w: World) (x y z: Value) (t: TypeId): (w.alloc (.cells #[x,y,z] t)).cell? ⟨w.heap.size,0,none⟩ = some x /\ (w.alloc (.cells #[x,y,z] t)).cell? ⟨w.heap.size,1,none⟩ = some y /\ (w.alloc (.cells #[x,y,z] t)).cell? ⟨w.heap.size,2,none⟩ = some z := by
 refine ⟨?_, ?_, ?_⟩ <;> simp [go_sem]
theorem size_walk {n: No} {a: Option Addr} {c: Nat} {a': Option Addr} {c': Nat} {w: World} (hr: NR w n a c a' c') (hs: n.small) :
 Calls Tryz.prog 89 #[nodeV n a c a' c'] w fun e w' => e = .returned (.int .i64 (n.size: Int)) /\ Below w.heap.size w w' := by
 have h1 := hs.recs
 have h2 := hs.kids
 have HR: Hid (Rd (w.alloc (.cells #[.bool n.leaf, .slice a n.recs.length c, .slice a' n.kids.length c'] 69)) a c (svs n.recs)) := hr.recs.below (below_alloc _ _)
 clear hr
 go_enter Tryz.func89,Tryz.ntmps89
 unfold nodeV
 obtain ⟨b0,b1,b2⟩ := box_cells w (.bool n.leaf) (.slice a n.recs.length c) (.slice a' n.kids.length c') 69
 have HB := below_alloc w (.cells #[.bool n.leaf, .slice a n.recs.length c, .slice a' n.kids.length c'] 69)
 have hz: w.heap.size < (w.alloc (.cells #[.bool n.leaf, .slice a n.recs.length c, .slice a' n.kids.length c'] 69)).heap.size := by simp
 go_wp2
 generalize w.alloc (.cells #[.bool n.leaf, .slice a n.recs.length c, .slice a' n.kids.length c'] 69) = W at *
 go_loop [3,14] (fun x i => ∃ j: Nat,j <= n.recs.length /\ i = .int .i64 (j: Int) /\ x = .int .i64 ((3 + 4 * n.kids.length + weigh (n.recs.take j): Nat): Int)) (fun _ i => n.recs.length - (intOf i).toNat)
 case atStart => exact ⟨0,Nat.zero_le _,rfl,by simp [weigh]⟩
 case round =>
  obtain ⟨j,hj,rfl,rfl⟩ := hrel
  have hw := weigh_take_le n.recs hs.each h1 j
  by_cases hlt: j < n.recs.length
  · obtain ⟨b,o,rfl,hb,hc⟩ := HR.out.str j hlt
    have HW: Hid _ := weigh_snoc n.recs j hlt
    have hsz := hs.each _ (List.getElem_mem hlt)
    have hlt': (j: Int) < (n.recs.length: Int) := by omega
    generalize n.recs[j] = s at *
    go_wp2
    go_round
    case rel => exact ⟨j + 1,hlt,by go_num,by rw [HW.out]; go_num⟩
    case measure => simp [intOf]; omega
  · have hlt': (n.recs.length: Int) <= (j: Int) := by omega
    go_wp2
    go_ret
    refine ⟨ret_int ?_,HB⟩
    rw [List.take_of_length_le (by omega)]
    unfold No.size
    omega
theorem weigh_walk {l: List ByteArray} {a: Option Addr} {c: Nat} {w: World} (hr: Rd w a c (svs l)) (h1: l.length <= 1000) (hs: ∀ s ∈ l,s.size <= 5000) :
 Calls Tryz.prog 82 #[.slice a l.length c] w fun e w' => e = .returned (.int .i64 (weigh l: Int)) /\ w' = w := by
 have HR: Hid (Rd w a c (svs l)) := hr
 clear hr
 go_enter Tryz.func82,Tryz.ntmps82
 go_wp2
 go_loop [3,4] (fun x i => ∃ j: Nat,j <= l.length /\ i = .int .i64 (j: Int) /\ x = .int .i64 (weigh (l.take j): Int)) (fun _ i => l.length - (intOf i).toNat)
 case atStart => exact ⟨0,Nat.zero_le _,rfl,by simp [weigh]⟩
 case round =>
  obtain ⟨j,hj,rfl,rfl⟩ := hrel
  have hw := weigh_take_le l hs h1 j
  by_cases hlt: j < l.length
  · obtain ⟨b,o,rfl,hb,hc⟩ := HR.out.str j hlt
    have HW: Hid _ := weigh_snoc l j hlt
    have hsz := hs _ (List.getElem_mem hlt)
    have hlt': (j: Int) < (l.length: Int) := by omega
    generalize l[j] = s at *
    go_wp2
    go_round
    case rel => exact ⟨j + 1,hlt,by go_num,by rw [HW.out]; go_num⟩
    case measure => simp [intOf]; omega
  · have hlt': (l.length: Int) <= (j: Int) := by omega
    go_wp2
    go_ret
    exact ⟨ret_int (by rw [List.take_of_length_le (by omega)]),rfl⟩
theorem rsize_walk {n: No} {a: Option Addr} {c: Nat} {a': Option Addr} {c': Nat} {w: World} (hr: NR w n a c a' c') (hs: n.small) :
 Calls Tryz.prog 61 #[nodeV n a c a' c'] w fun e w' => e = .returned (.int .i64 (n.size: Int)) /\ Below w.heap.size w w' := by
 have h1 := hs.recs
 have h2 := hs.kids
 have hw := weigh_take_le n.recs hs.each h1 n.recs.length
 rw [List.take_length] at hw
 have HW: ∀ k,Calls Tryz.prog 82 #[.slice a n.recs.length c] ((w.alloc (.cells #[.bool n.leaf, .slice a n.recs.length c, .slice a' n.kids.length c'] 91)).drewN k) fun e w' => e = .returned (.int .i64 (weigh n.recs: Int)) /\ w' = ((w.alloc (.cells #[.bool n.leaf, .slice a n.recs.length c, .slice a' n.kids.length c'] 91)).drewN k) := fun k => weigh_walk (hr.recs.below (below_drewN (below_alloc _ _) k)) h1 hs.each
 go_enter Tryz.func61,Tryz.ntmps61
 unfold nodeV
 obtain ⟨b0,b1,b2⟩ := box_cells w (.bool n.leaf) (.slice a n.recs.length c) (.slice a' n.kids.length c') 91
 have HB := below_alloc w (.cells #[.bool n.leaf, .slice a n.recs.length c, .slice a' n.kids.length c'] 91)
 have hz: w.heap.size < (w.alloc (.cells #[.bool n.leaf, .slice a n.recs.length c, .slice a' n.kids.length c'] 91)).heap.size := by simp
 go_wp2
 generalize w.alloc (.cells #[.bool n.leaf, .slice a n.recs.length c, .slice a' n.kids.length c'] 91) = W at *
 go_quiet ((go_at_call 82; exact Calls.quiet_of_same (HW _)))
 go_wp2
 go_ret
 refine ⟨ret_int ?_,below_drewN HB _⟩
 unfold No.size
 omega
theorem bytesLess_lt (x: List UInt8): ∀ y,Op.bytesLess x y = decide (x < y) := by
 induction x with
 | nil => intro y; cases y <;> simp [Op.bytesLess]
 | cons a x ih =>
  intro y
  cases y with
  | nil => simp [Op.bytesLess]
  | cons b y =>
   rw [Op.bytesLess,ih,Bool.eq_iff_iff]
   simp [List.cons_lt_cons_iff]
theorem le_not_lt (x y: List UInt8): (Op.bytesLess x y || x == y) = !Op.bytesLess y x := by
 rw [bytesLess_lt,bytesLess_lt,Bool.eq_iff_iff]
 simp only [Bool.or_eq_true,decide_eq_true_eq,beq_iff_eq,Bool.not_eq_true',decide_eq_false_iff_not]
 constructor
 · rintro (h | rfl)
   · exact fun h2 => List.lt_irrefl x (List.lt_trans h h2)
   · exact List.lt_irrefl x
 · intro h
   have h1: x <= y := List.not_lt.1 h
   by_cases e: x = y
   · exact Or.inr e
   · left
     exact Classical.byContradiction fun h2 => e (List.le_antisymm h1 (List.not_lt.1 h2))
theorem empty_size (s: ByteArray): (s.toList == []) = decide (s.size = 0) := by
 rw [Bool.eq_iff_iff]
 simp only [beq_iff_eq,decide_eq_true_eq]
 rw [ByteArray.toList_eq]
 constructor
 · intro h
   have := congrArg List.length h
   simpa using this
 · intro h
   apply List.eq_nil_of_length_eq_zero
   simpa using h
theorem isEmpty_size (s: ByteArray): s.toList.isEmpty = decide (s.size = 0) := by
 rw [<- empty_size]
 cases s.toList <;> rfl
def risesB (l: List ByteArray): Bool := (List.range l.length).all (recOk l)
def numbB (n: No): Bool := if n.leaf then n.kids.length == 0 else n.kids.all kidOk && n.kids.length == n.recs.length + 1
theorem shaped_eq (n: No): n.shaped = (risesB n.recs && numbB n) := by
 unfold No.shaped risesB numbB
 cases n.leaf
 · simp [Bool.and_assoc]
 · simp only [if_true,Bool.and_assoc]
   congr 1
   cases h: n.kids with
   | nil => rfl
   | cons x l => simp
theorem recOk_zero (l: List ByteArray) (h: 0 < l.length): recOk l 0 = (decide (1 <= l[0].size) && decide (l[0].size <= 400)) := by
 unfold recOk
 rw [List.getElem?_eq_getElem h]
 simp
theorem recOk_succ (l: List ByteArray) (j: Nat) (h: j + 1 < l.length): recOk l (j + 1) = (decide (1 <= l[j + 1].size) && decide (l[j + 1].size <= 400) && Op.bytesLess l[j].toList l[j + 1].toList) := by
 unfold recOk
 rw [List.getElem?_eq_getElem h]
 have: (j + 1 == 0) = false := by simp
 simp only [this,Bool.false_or,Nat.add_sub_cancel]
 rw [List.getElem?_eq_getElem (by omega)]
 rfl
theorem rises_of (l: List ByteArray) (h: ∀ i,i < l.length -> recOk l i = true): risesB l = true :=
 List.all_eq_true.2 fun i hi => h i (by simpa using hi)
theorem rises_not (l: List ByteArray) (j: Nat) (hj: j < l.length) (h: recOk l j = false): risesB l = false :=
 List.all_eq_false.2 ⟨j,by simpa using hj,by simp [h]⟩
inductive RecCase (l: List ByteArray) (j: Nat) (s: ByteArray): Prop
 | empty (h: s.size = 0) (no: recOk l j = false)
 | long (h: 400 < s.size) (no: recOk l j = false)
 | first (h0: j = 0) (h: 1 <= s.size) (h': s.size <= 400) (ok: recOk l j = true)
 | above (p: ByteArray) (h0: 0 < j) (hp: l[j - 1]? = some p) (h: 1 <= s.size) (h': s.size <= 400) (hl: Op.bytesLess p.toList s.toList = true) (ok: recOk l j = true)
 | below (p: ByteArray) (h0: 0 < j) (hp: l[j - 1]? = some p) (h: 1 <= s.size) (h': s.size <= 400) (hl: Op.bytesLess p.toList s.toList = false) (no: recOk l j = false)
theorem rec_cases (l: List ByteArray) (j: Nat) (hj: j < l.length): RecCase l j l[j] := by
 by_cases h1: l[j].size = 0
 · refine .empty h1 ?_
   unfold recOk
   rw [List.getElem?_eq_getElem hj]
   simp [h1]
 by_cases h2: 400 < l[j].size
 · refine .long h2 ?_
   unfold recOk
   rw [List.getElem?_eq_getElem hj]
   have: decide (l[j].size <= 400) = false := by simp; omega
   simp [this]
 have e1: decide (1 <= l[j].size) = true := by simp; omega
 have e2: decide (l[j].size <= 400) = true := by simp; omega
 cases j with
 | zero => exact .first rfl (by omega) (by omega) (by rw [recOk_zero l hj,e1,e2]; rfl)
 | succ j =>
  have hp: l[j + 1 - 1]? = some l[j] := by rw [Nat.add_sub_cancel]; exact List.getElem?_eq_getElem (by omega)
  cases hb: Op.bytesLess l[j].toList l[j + 1].toList
  · exact .below l[j] (by omega) hp (by omega) (by omega) hb (by rw [recOk_succ l j hj,e1,e2,hb]; rfl)
  · exact .above l[j] (by omega) hp (by omega) (by omega) hb (by rw [recOk_succ l j hj,e1,e2,hb]; rfl)
theorem rising_walk {l: List ByteArray} {a: Option Addr} {c: Nat} {w: World} (hr: Rd w a c (svs l)) (h1: l.length <= 1000) :
 Calls Tryz.prog 110 #[.slice a l.length c] w fun e w' => e = .returned (.bool (risesB l)) /\ w' = w := by
 have HR: Hid (Rd w a c (svs l)) := hr
 clear hr
 go_enter Tryz.func110,Tryz.ntmps110
 go_wp2
 go_loop [7] (fun i => ∃ j: Nat,j <= l.length /\ i = .int .i64 (j: Int) /\ Hid (∀ i,i < j -> recOk l i = true)) (fun i => l.length - (intOf i).toNat)
 case atStart => exact ⟨0,Nat.zero_le _,rfl,fun i h => by omega⟩
 case round =>
  obtain ⟨j,hj,rfl,HI⟩ := hrel
  by_cases hlt: j < l.length
  · obtain ⟨b,o,rfl,hb,hc⟩ := HR.out.str j hlt
    have hlt': (j: Int) < (l.length: Int) := by omega
    have HC := rec_cases l j hlt
    have HN: Hid (recOk l j = false -> risesB l = false) := rises_not l j hlt
    have HS: Hid (recOk l j = true -> ∀ i,i < j + 1 -> recOk l i = true) := fun h i hi => by
     by_cases e: i = j
     · rw [e]; exact h
     · exact HI.out i (by omega)
    generalize l[j] = s at *
    have hem := isEmpty_size s
    rcases HC with ⟨h,no⟩ | ⟨h,no⟩ | ⟨h0,h,h',ok⟩ | ⟨p,h0,hp,h,h',hl,ok⟩ | ⟨p,h0,hp,h,h',hl,no⟩
    · have hn: Hid _ := HN.out no
      clear HN HS HI no
      rw [h] at hem
      have hem': s.toList.isEmpty = true := hem
      clear hem
      go_wp2
      go_ret
      exact ⟨ret_bool hn.out.symm,rfl⟩
    · have hn: Hid _ := HN.out no
      clear HN HS HI no
      have hem': s.toList.isEmpty = false := by rw [hem]; exact decide_eq_false (by omega)
      have h'': (400: Int) < (s.size: Int) := by omega
      clear hem
      go_wp2
      go_ret
      exact ⟨ret_bool hn.out.symm,rfl⟩
    · have HT: Hid _ := HS.out ok
      clear HN HS HI ok
      have hem': s.toList.isEmpty = false := by rw [hem]; exact decide_eq_false (by omega)
      have h'': (s.size: Int) <= 400 := by omega
      have h0': (j: Int) <= 0 := by omega
      clear hem h0
      go_wp2
      go_round
      case rel => exact ⟨j + 1,hlt,by go_num,HT⟩
      case measure => simp [intOf]; omega
    · have HT: Hid _ := HS.out ok
      clear HN HS HI ok
      have hem': s.toList.isEmpty = false := by rw [hem]; exact decide_eq_false (by omega)
      have h'': (s.size: Int) <= 400 := by omega
      have h0': (0: Int) < (j: Int) := by omega
      have hle := le_not_lt s.toList p.toList
      rw [hl] at hle
      simp only [Bool.not_true,Bool.or_eq_false_iff] at hle
      obtain ⟨hle1,hle2⟩ := hle
      obtain ⟨b',o',e',_,hc'⟩ := HR.out.2.2 (j - 1) (.string p) (by simp [svs,hp])
      cases e'
      have hj1: ((j: Int) - 1).toNat = j - 1 := by omega
      have hj2: (0: Int) <= (j: Int) - 1 := by omega
      have hj3: (j: Int) - 1 < (l.length: Int) := by omega
      clear hem hl hp
      go_wp2
      go_round
      case rel => exact ⟨j + 1,hlt,by go_num,HT⟩
      case measure => simp [intOf]; omega
    · have hn: Hid _ := HN.out no
      clear HN HS HI no
      have hem': s.toList.isEmpty = false := by rw [hem]; exact decide_eq_false (by omega)
      have h'': (s.size: Int) <= 400 := by omega
      have h0': (0: Int) < (j: Int) := by omega
      have hle := le_not_lt s.toList p.toList
      rw [hl] at hle
      simp only [Bool.not_false] at hle
      obtain ⟨b',o',e',_,hc'⟩ := HR.out.2.2 (j - 1) (.string p) (by simp [svs,hp])
      cases e'
      have hj1: ((j: Int) - 1).toNat = j - 1 := by omega
      have hj2: (0: Int) <= (j: Int) - 1 := by omega
      have hj3: (j: Int) - 1 < (l.length: Int) := by omega
      clear hem hl hp
      cases hb1: Op.bytesLess s.toList p.toList
      · rw [hb1,Bool.false_or] at hle
        go_wp2
        go_ret
        exact ⟨ret_bool hn.out.symm,rfl⟩
      · clear hle
        go_wp2
        go_ret
        exact ⟨ret_bool hn.out.symm,rfl⟩
  · have hlt': (l.length: Int) <= (j: Int) := by omega
    have hn: Hid _ := rises_of l fun i hi => HI.out i (by omega)
    clear HI
    go_wp2
    go_ret
    exact ⟨ret_bool hn.out.symm,rfl⟩
theorem kid_cases (k: Int): (k < 1 /\ kidOk k = false) \/ (1 <= k /\ 4096 < k /\ kidOk k = false) \/ (1 <= k /\ k <= 4096 /\ kidOk k = true) := by
 unfold kidOk
 by_cases h1: k < 1
 · exact Or.inl ⟨h1,by simp; omega⟩
 · by_cases h2: 4096 < k
   · exact Or.inr (Or.inl ⟨by omega,h2,by simp; omega⟩)
   · exact Or.inr (Or.inr ⟨by omega,by omega,by simp; omega⟩)
theorem kids_of (l: List Int) (h: ∀ i (h: i < l.length),kidOk l[i] = true): l.all kidOk = true :=
 List.all_eq_true.2 fun k hk => by obtain ⟨i,hi,rfl⟩ := List.getElem_of_mem hk; exact h i hi
theorem kids_not (l: List Int) (i: Nat) (h: i < l.length) (hk: kidOk l[i] = false): l.all kidOk = false :=
 List.all_eq_false.2 ⟨l[i],List.getElem_mem h,by simp [hk]⟩
theorem numbered_walk {n: No} {a: Option Addr} {c: Nat} {a': Option Addr} {c': Nat} {w: World} (hr: NR w n a c a' c') (hs: n.small) :
 Calls Tryz.prog 111 #[nodeV n a c a' c'] w fun e w' => e = .returned (.bool (numbB n)) /\ Below w.heap.size w w' := by
 have h1 := hs.recs
 have h2 := hs.kids
 obtain ⟨b0,b1,b2⟩ := box_cells w (.bool n.leaf) (.slice a n.recs.length c) (.slice a' n.kids.length c') 69
 have HB := below_alloc w (.cells #[.bool n.leaf, .slice a n.recs.length c, .slice a' n.kids.length c'] 69)
 have HR: Hid (Rd (w.alloc (.cells #[.bool n.leaf, .slice a n.recs.length c, .slice a' n.kids.length c'] 69)) a' c' (ivs n.kids)) := hr.kids.below (below_alloc _ _)
 have hz: w.heap.size < (w.alloc (.cells #[.bool n.leaf, .slice a n.recs.length c, .slice a' n.kids.length c'] 69)).heap.size := by simp
 clear hr hs
 cases hlf: n.leaf
 · have HN: Hid (numbB n = (n.kids.all kidOk && n.kids.length == n.recs.length + 1)) := by show numbB n = _; unfold numbB; rw [hlf]; rfl
   go_enter Tryz.func111,Tryz.ntmps111
   unfold nodeV
   rw [hlf] at b0 b1 b2 HB HR hz ⊢
   clear hlf
   go_wp2
   generalize w.alloc (.cells #[.bool false, .slice a n.recs.length c, .slice a' n.kids.length c'] 69) = W at *
   go_loop [14] (fun i => ∃ j: Nat,j <= n.kids.length /\ i = .int .i64 (j: Int) /\ Hid (∀ i (h: i < n.kids.length),i < j -> kidOk n.kids[i] = true)) (fun i => n.kids.length - (intOf i).toNat)
   case atStart => exact ⟨0,Nat.zero_le _,rfl,fun i _ h => by omega⟩
   case round =>
    obtain ⟨j,hj,rfl,HI⟩ := hrel
    by_cases hlt: j < n.kids.length
    · obtain ⟨b,o,rfl,hb,hc⟩ := HR.out.int j hlt
      have hlt': (j: Int) < (n.kids.length: Int) := by omega
      have HK: Hid (kidOk n.kids[j] = false -> numbB n = false) := fun h => by rw [HN.out,kids_not n.kids j hlt h]; rfl
      have HS: Hid (kidOk n.kids[j] = true -> ∀ i (h: i < n.kids.length),i < j + 1 -> kidOk n.kids[i] = true) := fun h i hi hij => by
       by_cases e: i = j
       · subst e; exact h
       · exact HI.out i hi (by omega)
      generalize n.kids[j] = k at *
      rcases kid_cases k with ⟨k1,k2⟩ | ⟨k1,k2,k3⟩ | ⟨k1,k2,k3⟩
      · have hn: Hid _ := HK.out k2
        clear HK HS HI k2 HN
        go_wp2
        go_ret
        exact ⟨ret_bool hn.out.symm,HB⟩
      · have hn: Hid _ := HK.out k3
        clear HK HS HI k3 HN
        go_wp2
        go_ret
        exact ⟨ret_bool hn.out.symm,HB⟩
      · have HT: Hid _ := HS.out k3
        clear HK HS HI k3 HN
        go_wp2
        go_round
        case rel => exact ⟨j + 1,hlt,by go_num,HT⟩
        case measure => simp [intOf]; omega
    · have hlt': (n.kids.length: Int) <= (j: Int) := by omega
      have hn: Hid (numbB n = (n.kids.length == n.recs.length + 1)) := by
       show numbB n = _
       rw [HN.out,kids_of n.kids fun i hi => HI.out i hi (by omega)]
       rfl
      clear HI HN
      go_wp2
      go_ret
      refine ⟨ret_bool ?_,HB⟩
      rw [hn.out,Bool.eq_iff_iff]
      simp
      omega
 · have hn: Hid (numbB n = (n.kids.length == 0)) := by show numbB n = _; unfold numbB; rw [hlf]; rfl
   go_enter Tryz.func111,Tryz.ntmps111
   unfold nodeV
   rw [hlf] at b0 b1 b2 HB HR hz ⊢
   clear hlf
   go_wp2
   go_ret
   refine ⟨ret_bool ?_,HB⟩
   rw [hn.out,Bool.eq_iff_iff]
   simp
theorem sound_walk {n: No} {a: Option Addr} {c: Nat} {a': Option Addr} {c': Nat} {w: World} (hr: NR w n a c a' c') (hs: n.small) :
 Calls Tryz.prog 97 #[nodeV n a c a' c'] w fun e w' => e = .returned (.bool n.shaped) /\ Below w.heap.size w w' := by
 have HB := below_alloc w (.cells #[.bool n.leaf, .slice a n.recs.length c, .slice a' n.kids.length c'] 69)
 have HR: Hid (NR (w.alloc (.cells #[.bool n.leaf, .slice a n.recs.length c, .slice a' n.kids.length c'] 69)) n a c a' c') := hr.below HB
 have HE: Hid (n.shaped = (risesB n.recs && numbB n)) := shaped_eq n
 go_enter Tryz.func97,Tryz.ntmps97
 unfold nodeV
 cases hb: risesB n.recs
 · go_wp2_with (first
    | (go_at_call 110; refine (rising_walk HR.out.recs hs.recs).mono ?_; rintro e w1 ⟨rfl,rfl⟩; rw [hb]))
   go_ret
   exact ⟨ret_bool (by rw [HE.out,hb]; rfl),HB⟩
 · go_wp2_with (first
    | (go_at_call 110; refine (rising_walk HR.out.recs hs.recs).mono ?_; rintro e w1 ⟨rfl,rfl⟩; rw [hb])
    | (go_at_call 111; refine (numbered_walk (n := n) (a := a) (c := c) (a' := a') (c' := c') HR.out hs).mono ?_; rintro e w1 ⟨rfl,B1⟩))
   go_ret
   exact ⟨ret_bool (by rw [HE.out,hb]; rfl),below_on HB B1⟩
end Go.Proofs.YtdnkbdjhccckhaaGreat.L5
