import Derived.Test.YtdaikppppkbfoaaMBL
import Derived.Test.YtdaikppppkbfoaaMBP
set_option maxRecDepth 100000
set_option maxHeartbeats 4000000
namespace Go.Proofs.Ytdaikppppkbfoaa
open Go.RowKit
theorem size_ops1 {s: ByteArray} (h: ops1.contains s.toList = true): s.size <= 1048576 := by
 have e: s.size = s.toList.length := by rw [ByteArray.toList_eq]; rfl
 rw [e]
 have h2: ∀ l ∈ ops1,l.length <= 4 := by decide
 have := h2 _ (List.contains_iff_mem.1 h)
 omega
theorem size_ops2 {s: ByteArray} (h: ops2.contains s.toList = true): s.size <= 1048576 := by
 have e: s.size = s.toList.length := by rw [ByteArray.toList_eq]; rfl
 rw [e]
 have h2: ∀ l ∈ ops2,l.length <= 4 := by decide
 have := h2 _ (List.contains_iff_mem.1 h)
 omega
theorem found_walk {l: List VarL} {a: Option Addr} {c: Nat} (hf: FewCols l): ∀ (n: Nat) (x: XL) (w: World),In n w x -> rightX n x = true -> VarsIn w a l -> Calls Try.prog 53 #[.slice a l.length c,xV x] w (FoP (chk n l x) w)
 | 0,_,_,_,h,_ => by cases h
 | n + 1, .mk xo xk xn xs xv xc xa xp kids,w,hi,hr,hl => by
  replace hr: (decide ((kids.length: Int) = kidsI xo) && (if xo.toList == oVALUE then xv.toList == [] && xc.toList == [] && rightB xk xn xs && decide (0 <= xn)
   else if xo.toList == oCOLUMN then noVal (.mk xo xk xn xs xv xc xa xp kids) && nameB xc && (xv.toList == [] || nameB xv)
   else noVal (.mk xo xk xn xs xv xc xa xp kids) && xv.toList == [] && xc.toList == [] && kids.all (rightX n))) = true := hr
  rw [Bool.and_eq_true] at hr
  obtain ⟨hk,hr⟩ := hr
  have hk := of_decide_eq_true hk
  rw [chk_mk]
  by_cases h1: (xo.toList == oVALUE) = true
  · rw [if_pos h1] at hr
    rw [if_pos h1]
    simp only [Bool.and_eq_true] at hr
    have hs: xs.size <= 24 := by
     have := hr.1.2
     unfold rightB at this
     (repeat' split at this) <;> simp only [Bool.and_eq_true,beq_iff_eq,decide_eq_true_eq] at this <;> omega
    exact found_value (by simpa using h1) hi.1.k hi.1.n hs
  · rw [if_neg h1] at hr
    rw [if_neg h1]
    by_cases h2: (xo.toList == oCOLUMN) = true
    · rw [if_pos h2]
      exact found_column (by simpa using h2) hl hf
    · rw [if_neg h2] at hr
      rw [if_neg h2]
      simp only [Bool.and_eq_true,List.all_eq_true] at hr
      have h1': (xo.toList == oVALUE) = false := by simpa using h1
      have h2': (xo.toList == oCOLUMN) = false := by simpa using h2
      unfold kidsI at hk
      rw [h1',h2'] at hk
      have key: (kids.length = 1 \/ kids.length = 2) /\ xo.size <= 1048576 := by
       simp only [Bool.or_false,Bool.false_eq_true,if_false] at hk
       split at hk
       · rename_i e; exact ⟨Or.inl (by omega),size_ops1 e⟩
       · split at hk
         · rename_i e; exact ⟨Or.inr (by omega),size_ops2 e⟩
         · omega
      exact found_kids h1' h2' key.2 key.1 hi.2.1 fun k hkm W hb => found_walk hf n k W ((hi.2.2 k hkm).on hb) (hr.2 k hkm) (hl.on hb)
def Ex1P (r: Chk) (pn pk: Nat) (w: World) (e: Ending) (W: World): Prop :=
 ((r.2.2 = 0 /\ e = .returned (.tuple #[]) /\ ∃ y,W.heap[pn]? = some (.cells (nC y).toArray 67 (0,0)) /\ W.heap[pk]? = some (.cells #[.int .i64 r.2.1] 3 (0,0)) /\ (∀ m,LikeN m r.1 y) /\ ∀ m,InN m W y /\ OffN (fun b => w.heap.size <= b) m y) \/
  ((r.2.2 != 0) = true /\ e = .panicked (stopped r.2.2 0) /\ W.heap[pn]? = some (.cells (nC zNL).toArray 67 (0,0)) /\ W.heap[pk]? = some (.cells #[.int .i64 0] 3 (0,0)))) /\ Only (fun k => k = pn \/ k = pk) w W
theorem expr1_walk {l: List VarL} {a: Option Addr} {c: Nat} {r: Chk} (x: XL) {w: World} (hC: ∀ W,Below w.heap.size w W -> Calls Try.prog 53 #[.slice a l.length c,xV x] W (FoP r W)) {pl pe pn pk: Nat}
 (h1: w.heap[pl]? = some (.cells #[.slice a l.length c] 28 (0,0))) (h2: w.heap[pe]? = some (.cells (xC x).toArray 46 (0,0))) (h3: w.heap[pn]? = some (.cells (nC zNL).toArray 67 (0,0))) (h4: w.heap[pk]? = some (.cells #[.int .i64 0] 3 (0,0))) :
 Calls Try.prog 52 #[.pointer (some ⟨pl,0,none⟩), .pointer (some ⟨pe,0,none⟩), .pointer (some ⟨pn,0,none⟩), .pointer (some ⟨pk,0,none⟩)] w (Ex1P r pn pk w) := by
 have c0: w.cell? ⟨pl,0,none⟩ = some (.slice a l.length c) := by rw [cell_of_row _ _ _ _ _ _ h1]; rfl
 obtain ⟨x0,x1,x2,x3,x4,x5,x6⟩ := xbox h2
 have hne: pk ≠ pn := fun e => by rw [e,h3] at h4; injection h4 with h4; injection h4 with _ h4 _; exact absurd h4 (by decide)
 have HC := Rw.dh (hC w (Below.refl _ _))
 have H3 := Rw.dh h3
 have H4 := Rw.dh h4
 clear hC h1 h2 h3 h4
 go_enter Try.func52,Try.ntmps52
 go_wp2_with fail
 refine HC.out.mono ?_
 clear HC
 rintro e w1 ⟨hb,⟨hz,y,rfl,hy1,hy2⟩ | ⟨hz,rfl⟩⟩
 · obtain ⟨⟨z0,z1,z2,z3,z4,z5,z6⟩,⟨f0,f1,f2,f3,f4,f5,f6⟩,zl⟩ := nzbox H3.out hb
   have k4 := (hb.block _ (Array.getElem?_eq_some_iff.1 H4.out).1).trans H4.out
   have HS: Hid (∀ z0 z1 z2 z3 z4 z5 z6: Value,(((((((w1.setCell ⟨pn,0,none⟩ z0).setCell ⟨pn,1,none⟩ z1).setCell ⟨pn,2,none⟩ z2).setCell ⟨pn,3,none⟩ z3).setCell ⟨pn,4,none⟩ z4).setCell ⟨pn,5,none⟩ z5).setCell ⟨pn,6,none⟩ z6).heap[pk]? = some (.cells #[.int .i64 0] 3 (0,0))) := fun z0 z1 z2 z3 z4 z5 z6 => by
    rw [nheap_set7 hne]; exact k4
   have hk7 := HS.out (.string y.op) (.int .i64 y.vk) (.int .i64 y.vn) (.string y.vs) (.int .i64 y.var) (.int .i64 y.col) (.slice y.a y.kids.length y.c)
   have e4: (((((((w1.setCell ⟨pn,0,none⟩ (.string y.op)).setCell ⟨pn,1,none⟩ (.int .i64 y.vk)).setCell ⟨pn,2,none⟩ (.int .i64 y.vn)).setCell ⟨pn,3,none⟩ (.string y.vs)).setCell ⟨pn,4,none⟩ (.int .i64 y.var)).setCell ⟨pn,5,none⟩ (.int .i64 y.col)).setCell ⟨pn,6,none⟩ (.slice y.a y.kids.length y.c)).cell? ⟨pk,0,none⟩ = some (.int .i64 0) := by rw [cell_of_row _ _ _ _ _ _ hk7]; rfl
   have e5: (((((((w1.setCell ⟨pn,0,none⟩ (.string y.op)).setCell ⟨pn,1,none⟩ (.int .i64 y.vk)).setCell ⟨pn,2,none⟩ (.int .i64 y.vn)).setCell ⟨pn,3,none⟩ (.string y.vs)).setCell ⟨pn,4,none⟩ (.int .i64 y.var)).setCell ⟨pn,5,none⟩ (.int .i64 y.col)).setCell ⟨pn,6,none⟩ (.slice y.a y.kids.length y.c)).frozen? ⟨pk,0,none⟩ = false := frozen_of_row _ _ _ _ _ hk7
   have n3 := (hb.block _ (Array.getElem?_eq_some_iff.1 H3.out).1).trans H3.out
   have HN: Hid (((((((((w1.setCell ⟨pn,0,none⟩ (.string y.op)).setCell ⟨pn,1,none⟩ (.int .i64 y.vk)).setCell ⟨pn,2,none⟩ (.int .i64 y.vn)).setCell ⟨pn,3,none⟩ (.string y.vs)).setCell ⟨pn,4,none⟩ (.int .i64 y.var)).setCell ⟨pn,5,none⟩ (.int .i64 y.col)).setCell ⟨pn,6,none⟩ (.slice y.a y.kids.length y.c)).setCell ⟨pk,0,none⟩ (.int .i64 r.2.1)).heap[pn]? = some (.cells (nC y).toArray 67 (0,0))) := by
    rw [Hid,heap_setCell_other _ _ _ _ (Ne.symm hne)]; exact nstore_heap n3
   have HP: Hid (((((((((w1.setCell ⟨pn,0,none⟩ (.string y.op)).setCell ⟨pn,1,none⟩ (.int .i64 y.vk)).setCell ⟨pn,2,none⟩ (.int .i64 y.vn)).setCell ⟨pn,3,none⟩ (.string y.vs)).setCell ⟨pn,4,none⟩ (.int .i64 y.var)).setCell ⟨pn,5,none⟩ (.int .i64 y.col)).setCell ⟨pn,6,none⟩ (.slice y.a y.kids.length y.c)).setCell ⟨pk,0,none⟩ (.int .i64 r.2.1)).heap[pk]? = some (.cells #[.int .i64 r.2.1] 3 (0,0))) := by
    have := heap_setCell_same _ pk 0 _ 3 (.int .i64 r.2.1) hk7
    rw [Hid]; simpa using this
   have HO: Hid (Only (fun k => k = pn \/ k = pk) w ((((((((w1.setCell ⟨pn,0,none⟩ (.string y.op)).setCell ⟨pn,1,none⟩ (.int .i64 y.vk)).setCell ⟨pn,2,none⟩ (.int .i64 y.vn)).setCell ⟨pn,3,none⟩ (.string y.vs)).setCell ⟨pn,4,none⟩ (.int .i64 y.var)).setCell ⟨pn,5,none⟩ (.int .i64 y.col)).setCell ⟨pn,6,none⟩ (.slice y.a y.kids.length y.c)).setCell ⟨pk,0,none⟩ (.int .i64 r.2.1))) :=
    ((((((((Only.of_below (S := fun k => k = pn \/ k = pk) hb).setCell (p := ⟨pn,0,none⟩) (Or.inr (Or.inl rfl)) _).setCell (p := ⟨pn,1,none⟩) (Or.inr (Or.inl rfl)) _).setCell (p := ⟨pn,2,none⟩) (Or.inr (Or.inl rfl)) _).setCell (p := ⟨pn,3,none⟩) (Or.inr (Or.inl rfl)) _).setCell (p := ⟨pn,4,none⟩) (Or.inr (Or.inl rfl)) _).setCell (p := ⟨pn,5,none⟩) (Or.inr (Or.inl rfl)) _).setCell (p := ⟨pn,6,none⟩) (Or.inr (Or.inl rfl)) _).setCell (p := ⟨pk,0,none⟩) (Or.inr (Or.inr rfl)) _
   have pnl := (Array.getElem?_eq_some_iff.1 H3.out).1
   have pkl := (Array.getElem?_eq_some_iff.1 H4.out).1
   have HI: Hid (∀ m,InN m ((((((((w1.setCell ⟨pn,0,none⟩ (.string y.op)).setCell ⟨pn,1,none⟩ (.int .i64 y.vk)).setCell ⟨pn,2,none⟩ (.int .i64 y.vn)).setCell ⟨pn,3,none⟩ (.string y.vs)).setCell ⟨pn,4,none⟩ (.int .i64 y.var)).setCell ⟨pn,5,none⟩ (.int .i64 y.col)).setCell ⟨pn,6,none⟩ (.slice y.a y.kids.length y.c)).setCell ⟨pk,0,none⟩ (.int .i64 r.2.1)) y /\ OffN (fun b => w.heap.size <= b) m y) := fun m =>
    ⟨(hy2 m).1.turn (hy2 m).2 (by simp) fun b _ hbb => by rw [heap_setCell_other _ _ _ _ (by show _ ≠ pk; omega),nheap_set7 (by omega)],(hy2 m).2⟩
   have HL := Rw.dh hy1
   have HZ := Rw.dh hz
   clear hk7 hb hy1 hy2 n3 pnl pkl HS k4
   unfold nV
   go_wp2
   go_end0
   exact ⟨Or.inl ⟨HZ.out,rfl,y,HN.out,HP.out,HL.out,HI.out⟩,HO.out⟩
 · go_wp2
   have n3 := (hb.block _ (Array.getElem?_eq_some_iff.1 H3.out).1).trans H3.out
   have n4 := (hb.block _ (Array.getElem?_eq_some_iff.1 H4.out).1).trans H4.out
   exact ⟨rfl,Or.inr ⟨hz,rfl,n3,n4⟩,Only.of_below hb⟩
end Go.Proofs.Ytdaikppppkbfoaa
