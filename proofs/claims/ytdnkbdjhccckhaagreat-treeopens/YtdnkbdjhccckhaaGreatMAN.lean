import Derived.Test.YtdnkbdjhccckhaaGreatMAM
import Derived.Below
import Derived.Test.YtdnkbdjhccckhaaGreatMAJ
import Derived.Laws.IdiomCopy
import Derived.Shelf.Slices.Cells
import Derived.ProofKit
import Derived.OpenShut
import Derived.ShutString
import Derived.ChangeOld
set_option maxRecDepth 100000
set_option maxHeartbeats 4000000
namespace Go.Proofs.YtdnkbdjhccckhaaGreat.L4
open Go.RowKit
theorem small_of {s: Ar} (h: s.abs.Ok): s.pg.length <= 4096 := by simpa [Ar.abs] using h.small
theorem Abs.next_pos {a: Abs} (h: a.Ok): 1 <= a.next := by
 unfold Abs.next
 split
 · omega
 · rename_i n hn
   exact (h.low n (List.mem_of_getLast? hn)).1
theorem Abs.at_nat (a: Abs) (n: Nat) (hn: 1 <= n): a.at (n: Int) = (a.pg[n - 1]?).join := by
 unfold Abs.at
 rw [if_pos (by omega),Int.toNat_natCast]
theorem Abs.take_pg {a: Abs} (h: a.Ok): a.take.pg[a.next - 1]? = some none /\ a.take.q = a.q /\ a.take.pg.length - a.take.fr.length = a.used + 1 /\ a.take.fr.length <= a.take.pg.length := by
 have hle := h.le
 unfold Abs.take Abs.next Abs.used
 cases hg: a.fr.getLast? with
 | none =>
  have hf: a.fr = [] := by simpa using hg
  refine ⟨by simp,rfl, ?_, ?_⟩
  · simp [hf]
  · simp [hf]
 | some n =>
  have hm := List.mem_of_getLast? hg
  have hl: 0 < a.fr.length := List.length_pos_of_mem hm
  refine ⟨(h.low n hm).2,rfl, ?_, ?_⟩
  · simp only [List.length_dropLast]; omega
  · simp only [List.length_dropLast]; omega
theorem Abs.alloc_used {a: Abs} (h: a.Ok): a.alloc.used = a.used + 1 /\ a.alloc.q = a.q /\ a.alloc.at (a.next: Int) = some zeroP := by
 obtain ⟨h1,h2,h3,_⟩ := Abs.take_pg h
 refine ⟨?_,h2, ?_⟩
 · unfold Abs.alloc Abs.lay
   show (a.take.pg.set (a.next - 1) (some zeroP)).length - a.take.fr.length = _
   rw [List.length_set]
   exact h3
 · rw [Abs.at_nat _ _ (Abs.next_pos h)]
   have hlt := (List.getElem?_eq_some_iff.1 h1).1
   show ((a.take.pg.set (a.next - 1) (some zeroP))[a.next - 1]?).join = _
   rw [List.getElem?_set_self hlt]
   rfl
def HG (Φ: Ar -> World -> Prop) (p: Nat) (a: Abs) (w: World): Prop := ∃ s,s.p = p /\ ArP s w /\ s.abs = a /\ a.Ok /\ Φ s w
variable {Φ: Ar -> World -> Prop} {p: Nat} {a: Abs} {w: World}
end Go.Proofs.YtdnkbdjhccckhaaGreat.L4
namespace Go.Proofs.YtdnkbdjhccckhaaGreat
open Go.RowKit
theorem tbelow (w: World) (o: Obj): Below w.heap.size w (w.alloc o) := (Below.refl _ _).alloc (Nat.le_refl _) o
theorem tbelow_on {a b c: World} (h: Below a.heap.size a b) (k: Below b.heap.size b c): Below a.heap.size a c := h.trans (k.mono h.size)
theorem thid {p: Prop} (h: p): Hid p := h
theorem hfield (a b c: Int) (w: World): (Instr.field 40 (.agg #[.int .i64 a, .int .i64 b, .int .i64 c]) 0).run Tryz.prog w = .ok (.int .i64 a) w /\ (Instr.field 40 (.agg #[.int .i64 a, .int .i64 b, .int .i64 c]) 1).run Tryz.prog w = .ok (.int .i64 b) w /\ (Instr.field 40 (.agg #[.int .i64 a, .int .i64 b, .int .i64 c]) 2).run Tryz.prog w = .ok (.int .i64 c) w := by
 refine ⟨?_, ?_, ?_⟩ <;> simp [Instr.field,run_underlying Tryz.underlying40,go_sem,Tryz.isAgg3,asAgg]
theorem head_nil (w: World): Calls Tryz.prog 9 #[.pointer none] w fun e w' => e = .returned (.agg #[.int .i64 0, .int .i64 0, .int .i64 0]) /\ Below w.heap.size w w' := by
 go_enter Tryz.func9,Tryz.ntmps9
 go_wp2
 refine bodyPost_ret (v := .agg #[.int .i64 0, .int .i64 0, .int .i64 0]) (by simp [results,Tryz.results9,go_sem]) rfl ⟨rfl,tbelow _ _⟩
structure TrC (w: World) (t p r h l: Nat): Prop where
 blk: w.heap[t]? = some (.cells #[.pointer (some ⟨p,0,none⟩), .int .i64 (r: Int), .int .i64 (h: Int), .int .i64 (l: Int)] 61 (0,0))
theorem TrC.cells {w: World} {t p r h l: Nat} (k: TrC w t p r h l): w.cell? ⟨t,0,none⟩ = some (.pointer (some ⟨p,0,none⟩)) /\ w.cell? ⟨t,1,none⟩ = some (.int .i64 (r: Int)) /\ w.cell? ⟨t,2,none⟩ = some (.int .i64 (h: Int)) /\ w.cell? ⟨t,3,none⟩ = some (.int .i64 (l: Int)) /\ t < w.heap.size /\ ∀ i,w.frozen? ⟨t,i,none⟩ = false := by
 refine ⟨?_, ?_, ?_, ?_,(Array.getElem?_eq_some_iff.1 k.blk).1,fun i => frozen_of_row _ _ _ _ _ k.blk⟩ <;> rw [cell_of_row _ _ _ _ _ _ k.blk] <;> rfl
theorem TrC.on {w w': World} {t p r h l: Nat} (k: TrC w t p r h l) (hb: Below w.heap.size w w'): TrC w' t p r h l := ⟨(hb.block _ (Array.getElem?_eq_some_iff.1 k.blk).1).trans k.blk⟩
theorem head_ok {w: World} {t p r h l: Nat} (k: TrC w t p r h l): Calls Tryz.prog 9 #[.pointer (some ⟨t,0,none⟩)] w fun e w' => e = .returned (.agg #[.int .i64 (r: Int), .int .i64 (h: Int), .int .i64 (l: Int)]) /\ Below w.heap.size w w' := by
 obtain ⟨c0,c1,c2,c3,ct,cf⟩ := k.cells
 go_enter Tryz.func9,Tryz.ntmps9
 go_wp2
 refine bodyPost_ret (v := .agg #[.int .i64 (r: Int), .int .i64 (h: Int), .int .i64 (l: Int)]) (by simp [results,Tryz.results9,go_sem]) rfl ⟨rfl,tbelow _ _⟩
theorem over_ok {w: World} {t p r h l: Nat} (k: TrC w t p r h l) (hr: r ≠ 0): Calls Tryz.prog 41 #[.pointer (some ⟨t,0,none⟩)] w fun e w' => e = .returned (.bool false) /\ Below w.heap.size w w' := by
 have hr': ¬ (r: Int) = 0 := by omega
 have hr2: ((r: Int) == 0) = false := by rw [beq_eq_false_iff_ne]; exact hr'
 go_enter Tryz.func41,Tryz.ntmps41
 go_wp2_with fail
 refine (head_ok k).mono ?_
 rintro e w1 ⟨rfl,B1⟩
 obtain ⟨hf0,hf1,hf2⟩ := hfield (r: Int) (h: Int) (l: Int) w1
 go_wp2
 go_ret
 exact ⟨rfl,B1⟩
theorem len_ok {w: World} {t p r h l: Nat} (k: TrC w t p r h l): Calls Tryz.prog 14 #[.pointer (some ⟨t,0,none⟩)] w fun e w' => e = .returned (.int .i64 (l: Int)) /\ Below w.heap.size w w' := by
 go_enter Tryz.func14,Tryz.ntmps14
 go_wp2_with fail
 refine (head_ok k).mono ?_
 rintro e w1 ⟨rfl,B1⟩
 obtain ⟨hf0,hf1,hf2⟩ := hfield (r: Int) (h: Int) (l: Int) w1
 go_wp2
 go_ret
 exact ⟨rfl,B1⟩
theorem height_ok {w: World} {t p r h l: Nat} (k: TrC w t p r h l): Calls Tryz.prog 18 #[.pointer (some ⟨t,0,none⟩)] w fun e w' => e = .returned (.int .i64 (h: Int)) /\ Below w.heap.size w w' := by
 go_enter Tryz.func18,Tryz.ntmps18
 go_wp2_with fail
 refine (head_ok k).mono ?_
 rintro e w1 ⟨rfl,B1⟩
 obtain ⟨hf0,hf1,hf2⟩ := hfield (r: Int) (h: Int) (l: Int) w1
 go_wp2
 go_ret
 exact ⟨rfl,B1⟩
theorem root_ok {w: World} {t p r h l: Nat} (k: TrC w t p r h l): Calls Tryz.prog 35 #[.pointer (some ⟨t,0,none⟩)] w fun e w' => e = .returned (.int .i64 (r: Int)) /\ Below w.heap.size w w' := by
 go_enter Tryz.func35,Tryz.ntmps35
 go_wp2_with fail
 refine (head_ok k).mono ?_
 rintro e w1 ⟨rfl,B1⟩
 obtain ⟨hf0,hf1,hf2⟩ := hfield (r: Int) (h: Int) (l: Int) w1
 go_wp2
 go_ret
 exact ⟨rfl,B1⟩
end Go.Proofs.YtdnkbdjhccckhaaGreat
namespace Go.Proofs.YtdnkbdjhccckhaaGreat
open Go.RowKit
open L4 (Ar ArP Abs arV nv)
def Got (w: World) (nd: L5.No) (v: Value) (w': World): Prop := ∃ a c a' c',v = L5.nodeV nd a c a' c' /\ w'.ownsRow w.heap.size 9 1 (.slice a nd.recs.length c) nd.recs.length (L5.svs nd.recs) /\ w'.ownsRow w.heap.size 3 1 (.slice a' nd.kids.length c') nd.kids.length (L5.ivs nd.kids) /\ Below w.heap.size w w'
theorem owns_weak {b b': Nat} {W: World} {e: TypeId} {v: Value} {n: Nat} {xs: List Value} (h: W.ownsRow b e 1 v n xs) (hb: b' <= b): W.ownsRow b' e 1 v n xs := L5.owns_base h hb
theorem read_ok {s: Ar} {w: World} {t r h l: Nat} {nd: L5.No} {n: Nat} (hA: ArP s w) (ho: s.abs.Ok) (ht: TrC w t s.p r h l) (hn: s.abs.at (n: Int) = some (L5.pageL nd.toNd)) (hs: nd.shaped = true) (hz: nd.size <= 1024) :
 Calls Tryz.prog 93 #[.pointer (some ⟨t,0,none⟩), .int .i64 (n: Int), .bool nd.leaf] w fun e w' => ∃ v,e = .returned (.tuple #[v, .int .i64 0]) /\ Got w nd v w' := by
 obtain ⟨c0,c1,c2,c3,ct,cf⟩ := ht.cells
 have HT := thid ht
 have HA1 := thid (L4.arSt.below hA (tbelow w (.cells #[.bool false, .slice none 0 0, .slice none 0 0] 69)))
 have HZ := thid (L5.Dz.new w)
 have HL := thid (L4.load_blk HA1.out ho hn)
 clear hA ho ht hn HA1
 go_enter Tryz.func93,Tryz.ntmps93
 go_wp2_with fail
 refine HL.out.mono ?_
 rintro e w2 ⟨rfl,hp,B2⟩
 have HK: Hid (L5.RBlk w2 (w.alloc (.cells #[.bool false, .slice none 0 0, .slice none 0 0] 69)).heap.size (L5.pageL nd.toNd)) := hp
 have HZ2 := thid (HZ.out.on B2)
 have hsz: (w.alloc (.cells #[.bool false, .slice none 0 0, .slice none 0 0] 69)).heap.size = w.heap.size + 1 := by simp
 rw [hsz] at HK
 clear HL HZ hp B2 c0 c1 c2 c3 ct cf HT hsz
 go_wp2_with fail
 refine (L5.decode_page HK.out hs hz).mono ?_
 rintro e w3 ⟨a,c,a',c',rfl,o1,o2,B3⟩
 have HZ3 := thid (HZ2.out.on B3)
 have HO1 := thid (owns_weak o1 HZ2.out.below.size)
 have HO2 := thid (owns_weak o2 HZ2.out.below.size)
 clear HZ2 HK o1 o2 B3
 have HB4 := thid (tbelow w3 (.cells #[.bool nd.leaf, .slice a nd.recs.length c, .slice a' nd.kids.length c'] 69))
 have HZ4 := thid (HZ3.out.on HB4.out)
 have HP1 := thid (L5.owns_below HO1.out HB4.out)
 have HP2 := thid (L5.owns_below HO2.out HB4.out)
 have z0 := (L5.node_cells HZ4.out.z).1
 have z1 := (L5.node_cells HZ4.out.z).2.1
 have z2 := (L5.node_cells HZ4.out.z).2.2
 have zf: ∀ i,(w3.alloc (.cells #[.bool nd.leaf, .slice a nd.recs.length c, .slice a' nd.kids.length c'] 69)).frozen? ⟨w.heap.size,i,none⟩ = false := fun i => frozen_of_row _ _ _ _ _ HZ4.out.z
 have n0 := (L5.box_cells w3 (.bool nd.leaf) (.slice a nd.recs.length c) (.slice a' nd.kids.length c') 69).1
 have n1 := (L5.box_cells w3 (.bool nd.leaf) (.slice a nd.recs.length c) (.slice a' nd.kids.length c') 69).2.1
 have n2 := (L5.box_cells w3 (.bool nd.leaf) (.slice a nd.recs.length c) (.slice a' nd.kids.length c') 69).2.2
 clear HZ3 HO1 HO2 HB4
 unfold L5.nodeV
 go_wp2_with fail
 refine L5.to_letter (show L5.RRes w (.bool nd.leaf) (.slice a nd.recs.length c) (.slice a' nd.kids.length c') nd.recs.length (L5.svs nd.recs) nd.kids.length (L5.ivs nd.kids) _ from ⟨HZ4.out.out (.bool nd.leaf) (.slice a nd.recs.length c) (.slice a' nd.kids.length c'),L5.owns_put3 HP1.out (by decide) HZ4.out.z _ _ _,L5.owns_put3 HP2.out (by decide) HZ4.out.z _ _ _⟩) ?_
 clear z0 z1 z2 zf n0 n1 n2 HZ4 HP1 HP2
 intro Wf hF
 obtain ⟨⟨g0,g1,g2,hB⟩,r1,r2⟩ := hF
 refine bodyPost_ret (v := .tuple #[.agg #[.bool nd.leaf, .slice a nd.recs.length c, .slice a' nd.kids.length c'], .int .i64 0]) ?_ rfl ⟨_,rfl,a,c,a',c',rfl,r1,r2,hB⟩
 simp [results,Tryz.results93,go_sem,g0,g1,g2]
theorem load_ok {s: Ar} {w: World} {t r h l: Nat} {nd: L5.No} {n: Nat} (hA: ArP s w) (ho: s.abs.Ok) (ht: TrC w t s.p r h l) (hn: s.abs.at (n: Int) = some (L5.pageL nd.toNd)) (hs: nd.shaped = true) (hz: nd.size <= 1024) :
 Calls Tryz.prog 84 #[.pointer (some ⟨t,0,none⟩), .int .i64 (n: Int), .bool nd.leaf] w fun e w' => ∃ v,e = .returned v /\ Got w nd v w' := by
 have HB := thid (tbelow w (.cells #[.bool false, .slice none 0 0, .slice none 0 0] 69))
 have HL2 := thid (read_ok (L4.arSt.below hA HB.out) ho (ht.on HB.out) hn hs hz)
 have HZ := thid (L5.Dz.new w)
 clear hA ho ht hn
 go_enter Tryz.func84,Tryz.ntmps84
 go_wp2_with fail
 refine HL2.out.mono ?_
 rintro e w2 ⟨v,rfl,a,c,a',c',rfl,o1,o2,B2⟩
 have HZ2 := thid (HZ.out.on B2)
 have HO1 := thid (owns_weak o1 HB.out.size)
 have HO2 := thid (owns_weak o2 HB.out.size)
 clear HL2 HZ HB o1 o2 B2
 have HB4 := thid (tbelow w2 (.cells #[.bool nd.leaf, .slice a nd.recs.length c, .slice a' nd.kids.length c'] 69))
 have HZ4 := thid (HZ2.out.on HB4.out)
 have HP1 := thid (L5.owns_below HO1.out HB4.out)
 have HP2 := thid (L5.owns_below HO2.out HB4.out)
 have z0 := (L5.node_cells HZ4.out.z).1
 have z1 := (L5.node_cells HZ4.out.z).2.1
 have z2 := (L5.node_cells HZ4.out.z).2.2
 have zf: ∀ i,(w2.alloc (.cells #[.bool nd.leaf, .slice a nd.recs.length c, .slice a' nd.kids.length c'] 69)).frozen? ⟨w.heap.size,i,none⟩ = false := fun i => frozen_of_row _ _ _ _ _ HZ4.out.z
 have n0 := (L5.box_cells w2 (.bool nd.leaf) (.slice a nd.recs.length c) (.slice a' nd.kids.length c') 69).1
 have n1 := (L5.box_cells w2 (.bool nd.leaf) (.slice a nd.recs.length c) (.slice a' nd.kids.length c') 69).2.1
 have n2 := (L5.box_cells w2 (.bool nd.leaf) (.slice a nd.recs.length c) (.slice a' nd.kids.length c') 69).2.2
 clear HZ2 HO1 HO2 HB4
 unfold L5.nodeV
 go_wp2_with (go_at_call 53; refine (L1.check_ok _).mono ?_; rintro e w3 ⟨rfl,rfl⟩)
 refine L5.to_letter (show L5.RRes w (.bool nd.leaf) (.slice a nd.recs.length c) (.slice a' nd.kids.length c') nd.recs.length (L5.svs nd.recs) nd.kids.length (L5.ivs nd.kids) _ from ⟨HZ4.out.out (.bool nd.leaf) (.slice a nd.recs.length c) (.slice a' nd.kids.length c'),L5.owns_put3 HP1.out (by decide) HZ4.out.z _ _ _,L5.owns_put3 HP2.out (by decide) HZ4.out.z _ _ _⟩) ?_
 clear z0 z1 z2 zf n0 n1 n2 HZ4 HP1 HP2
 intro Wf hF
 obtain ⟨⟨g0,g1,g2,hB⟩,r1,r2⟩ := hF
 refine bodyPost_ret (v := .agg #[.bool nd.leaf, .slice a nd.recs.length c, .slice a' nd.kids.length c']) ?_ rfl ⟨_,rfl,a,c,a',c',rfl,r1,r2,hB⟩
 simp [results,Tryz.results84,go_sem,g0,g1,g2]
end Go.Proofs.YtdnkbdjhccckhaaGreat
namespace Go.Proofs.YtdnkbdjhccckhaaGreat
open Go.RowKit
def ov (L: List Value) (o: Nat) (t: List Value): List Value := L.take o ++ t ++ L.drop (o + t.length)
theorem ov_nil (L: List Value) (o: Nat): ov L o [] = L := by simp [ov]
theorem ov_length (L: List Value) (o: Nat) (t: List Value) (h: o + t.length <= L.length): (ov L o t).length = L.length := by
 unfold ov; simp; omega
theorem ov_cons (L: List Value) (o: Nat) (x: Value) (t: List Value) (h: o + (t.length + 1) <= L.length): ov (L.set o x) (o + 1) t = ov L o (x :: t) := by
 unfold ov
 have e1: (L.set o x).take (o + 1) = L.take o ++ [x] := by
  rw [List.take_succ_eq_append_getElem (by simp; omega),List.take_set_of_le (Nat.le_refl _)]
  simp
 have e2: (L.set o x).drop (o + 1 + t.length) = L.drop (o + (x :: t).length) := by
  rw [List.drop_set_of_lt (by omega)]
  congr 1
  simp; omega
 rw [e1,e2]
 simp
theorem setCells_blk {b: Nat} {tag: TypeId}: ∀ (t: List Value) (o: Nat) (W: World) (L: List Value),W.heap[b]? = some (.cells L.toArray tag (0,0)) -> o + t.length <= L.length -> (W.setCells b o t).heap[b]? = some (.cells (ov L o t).toArray tag (0,0))
 | [],o,W,L,h,_ => by rw [ov_nil]; exact h
 | x :: t,o,W,L,h,hl => by
  rw [<- ov_cons L o x t (by simpa using hl)]
  refine setCells_blk t (o + 1) (W.setCell ⟨b,o,none⟩ x) (L.set o x) ?_ (by simp at hl ⊢; omega)
  rw [Go.heap_setCell_same W b o _ _ _ h,List.setIfInBounds_toArray]
theorem setCells_grown (b: Nat): ∀ (t: List Value) (o: Nat) (W W0: World),W0.grownBy W (some b) -> W0.grownBy (W.setCells b o t) (some b)
 | [],_,_,_,h => h
 | x :: t,o,W,W0,h => setCells_grown b t (o + 1) (W.setCell ⟨b,o,none⟩ x) W0 ⟨h.os,h.tape,h.output,by simpa [World.setCell] using h.size,fun k hk hne => by
  rw [heap_setCell_other _ _ _ _ (show k ≠ b from fun e => hne (by rw [e]))]
  exact h.block k hk hne⟩
theorem grown_refl (W: World) (r: Option Nat): W.grownBy W r := ⟨rfl,rfl,rfl,Nat.le_refl _,fun _ _ _ => rfl⟩
theorem grown_drew {W W': World} {r: Option Nat} (h: W.grownBy W' r): W.grownBy W'.drew r := ⟨h.os,h.tape,h.output,h.size,h.block⟩
theorem grown_alloc {W W': World} {r: Option Nat} (h: W.grownBy W' r) (o: Obj): W.grownBy (W'.alloc o) r := by
 have g := World.grownBy_alloc W' o r
 exact ⟨g.os.trans h.os,g.tape.trans h.tape,g.output.trans h.output,Nat.le_trans h.size g.size,fun k hk hne => (g.block k (Nat.lt_of_lt_of_le hk h.size) hne).trans (h.block k hk hne)⟩
theorem own_new (w: World) (base: Nat) (hbase: base <= w.heap.size) (e: TypeId) (z: Array Value) (hz: z.size = 1) (xs: List Value) (k cap: Nat) (hk: xs.length = k) (hc: k <= cap) (hm: cap <= maxLen) :
 (w.alloc (.cells (xs.toArray ++ Builtin.zeroCells z (cap - k)) e)).ownsRow base e 1 (.slice (some ⟨w.heap.size,0,none⟩) k cap) k xs := by
 refine ⟨by omega, .inr ⟨w.heap.size,cap,_,rfl,hbase,heap_alloc_new w _,hc,hm, ?_, ?_⟩⟩
 · simp only [Array.size_append,List.size_toArray,size_zeroCells,hz,hk]
   omega
 · simp only [Array.toList_append,Nat.mul_one]
   rw [<- hk]
   exact List.take_left
theorem own_row {W: World} {base g cap n: Nat} {e: TypeId} {L xs: List Value} (hb: base <= g) (h: W.heap[g]? = some (.cells L.toArray e (0,0))) (hn: n <= cap) (hm: cap <= maxLen) (hL: L.length = cap) (hx: L.take n = xs): W.ownsRow base e 1 (.slice (some ⟨g,0,none⟩) n cap) n xs :=
 ⟨by rw [<- hx,List.length_take]; omega, .inr ⟨g,cap,_,rfl,hb,h,hn,hm,by simp [hL],by simpa using hx⟩⟩
end Go.Proofs.YtdnkbdjhccckhaaGreat
namespace Go.Proofs.YtdnkbdjhccckhaaGreat
open Go.RowKit
open L4 (Ar ArP Abs arV nv)
def EdC (w: World) (x t r h l: Nat) (tk ld gn: Value): Prop := w.heap[x]? = some (.cells #[.pointer (some ⟨t,0,none⟩), .int .i64 (r: Int), .int .i64 (h: Int), .int .i64 (l: Int),tk,ld,gn] 66 (0,0))
theorem EdC.cells {w: World} {x t r h l: Nat} {tk ld gn: Value} (k: EdC w x t r h l tk ld gn): w.cell? ⟨x,0,none⟩ = some (.pointer (some ⟨t,0,none⟩)) /\ w.cell? ⟨x,1,none⟩ = some (.int .i64 (r: Int)) /\ w.cell? ⟨x,2,none⟩ = some (.int .i64 (h: Int)) /\ w.cell? ⟨x,3,none⟩ = some (.int .i64 (l: Int)) /\ w.cell? ⟨x,4,none⟩ = some tk /\ w.cell? ⟨x,5,none⟩ = some ld /\ w.cell? ⟨x,6,none⟩ = some gn /\ x < w.heap.size /\ ∀ i,w.frozen? ⟨x,i,none⟩ = false := by
 refine ⟨?_, ?_, ?_, ?_, ?_, ?_, ?_,(Array.getElem?_eq_some_iff.1 k).1,fun i => frozen_of_row _ _ _ _ _ k⟩ <;> rw [cell_of_row _ _ _ _ _ _ k] <;> rfl
theorem EdC.on {w w': World} {x t r h l: Nat} {tk ld gn: Value} (k: EdC w x t r h l tk ld gn) (hb: Below w.heap.size w w'): EdC w' x t r h l tk ld gn := (hb.block _ (Array.getElem?_eq_some_iff.1 k).1).trans k
structure Lay where
 at_: Nat
 n: L5.No
 vr: Value
 vk: Value
 kid: Nat
def Lay.cells (y: Lay): List Value := [nv y.at_, .bool y.n.leaf,y.vr,y.vk,nv y.kid]
structure Es (B: Nat) (s: Ar) (t x r h l xr xh xl: Nat) (tk ld gn: Value) (T: List Nat) (Ld: List Lay) (G: List Nat) (w: World): Prop where
 ar: ArP s w
 tr: TrC w t s.p r h l
 ed: EdC w x t xr xh xl tk ld gn
 bs: B <= w.heap.size
 rt: w.ownsRow B 3 1 tk T.length (T.map nv)
 rl: w.ownsRow B 104 5 ld Ld.length (Ld.flatMap Lay.cells)
 rg: w.ownsRow B 3 1 gn G.length (G.map nv)
 rr: ∀ y ∈ Ld,w.ownsRow B 9 1 y.vr y.n.recs.length (L5.svs y.n.recs)
 rk: ∀ y ∈ Ld,w.ownsRow B 3 1 y.vk y.n.kids.length (L5.ivs y.n.kids)
 a1: ∀ k,s.own k -> tk.ownBlock ≠ some k /\ gn.ownBlock ≠ some k /\ ∀ y ∈ Ld,y.vk.ownBlock ≠ some k
 a2: ∀ k,tk.ownBlock = some k -> gn.ownBlock ≠ some k /\ ∀ y ∈ Ld,y.vk.ownBlock ≠ some k
 a3: ∀ k,gn.ownBlock = some k -> ∀ y ∈ Ld,y.vk.ownBlock ≠ some k
structure Stp (B: Nat) (s s': Ar) (t x: Nat) (w w': World): Prop where
 only: Only (fun k => s.own k \/ k = t \/ k = x \/ B <= k) w w'
 own: ∀ k,s'.own k -> s.own k \/ B <= k
theorem Stp.refl (B: Nat) (s: Ar) (t x: Nat) (w: World): Stp B s s t x w w := ⟨Only.refl _ _,fun _ h => Or.inl h⟩
theorem Stp.trans {B: Nat} {s s' s'': Ar} {t x: Nat} {w w1 w2: World} (h: Stp B s s' t x w w1) (h': Stp B s' s'' t x w1 w2): Stp B s s'' t x w w2 := by
 have z := h.only.size
 refine ⟨⟨h'.only.os.trans h.only.os,h'.only.tape.trans h.only.tape,h'.only.output.trans h.only.output,Nat.le_trans z h'.only.size,fun k hk hs => ?_⟩,fun k hk => ?_⟩
 · rw [h'.only.block k (by omega) fun y => by
    rcases y with y | y
    · rcases h.own k y with y | y
      · exact hs (Or.inl y)
      · exact hs (Or.inr (Or.inr (Or.inr y)))
    · exact hs (Or.inr y)]
   exact h.only.block k hk hs
 · rcases h'.own k hk with y | y
   · exact h.own k y
   · exact Or.inr y
theorem Stp.below {B: Nat} {s: Ar} {t x: Nat} {w w': World} (hb: Below w.heap.size w w'): Stp B s s t x w w' := ⟨Only.of_below hb,fun _ h => Or.inl h⟩
theorem Stp.moves {B: Nat} {s s': Ar} {t x: Nat} {w w': World} (hB: B <= w.heap.size) (hm: L4.Moves L4.arSt s s' w w'): Stp B s s' t x w w' :=
 ⟨hm.only.weaken fun _ _ y => Or.inl y,fun k y => (hm.own k y).imp id fun z => Nat.le_trans hB z⟩
theorem not_own {s: Ar} {w: World} (h: ArP s w) {k: Nat} {cs: Array Value} {e: TypeId} (hk: w.heap[k]? = some (.cells cs e (0,0))) (h1: e ≠ 59) (h2: e ≠ 107) (h3: e ≠ 3): ¬ s.own k := fun x => by
 obtain ⟨cur,t,e1,e2⟩ := h.tag x
 rw [hk] at e1
 cases e1
 rcases e2 with e2 | e2 | e2
 · exact h1 e2
 · exact h2 e2
 · exact h3 e2
theorem row_not_own {s: Ar} {w: World} (h: ArP s w) {B: Nat} {e: TypeId} {m: Nat} {v: Value} {n: Nat} {xs: List Value} (hr: w.ownsRow B e m v n xs) (h1: e ≠ 59) (h2: e ≠ 107) (h3: e ≠ 3) {k: Nat} (hk: v.ownBlock = some k): ¬ s.own k := by
 obtain ⟨cur,hc⟩ := L4.owns_tag hr hk
 exact not_own h hc h1 h2 h3
theorem Es.below {B: Nat} {s: Ar} {t x r h l xr xh xl: Nat} {tk ld gn: Value} {T: List Nat} {Ld: List Lay} {G: List Nat} {w w': World} (k: Es B s t x r h l xr xh xl tk ld gn T Ld G w) (hb: Below w.heap.size w w'): Es B s t x r h l xr xh xl tk ld gn T Ld G w' :=
 have row: ∀ {e: TypeId} {m: Nat} {v: Value} {n: Nat} {xs: List Value},w.ownsRow B e m v n xs -> w'.ownsRow B e m v n xs := fun hr => L5.owns_of_block hr fun q hq => hb.block q (hr.lt q hq).2
 ⟨L4.arSt.below k.ar hb,k.tr.on hb,k.ed.on hb,Nat.le_trans k.bs hb.size,row k.rt,row k.rl,row k.rg,fun y hy => row (k.rr y hy),fun y hy => row (k.rk y hy),k.a1,k.a2,k.a3⟩
theorem Es.moves {B: Nat} {s s': Ar} {t x r h l xr xh xl: Nat} {tk ld gn: Value} {T: List Nat} {Ld: List Lay} {G: List Nat} {w w': World} (k: Es B s t x r h l xr xh xl tk ld gn T Ld G w) (hA: ArP s' w') (hp: s'.p = s.p) (hm: L4.Moves L4.arSt s s' w w'): Es B s' t x r h l xr xh xl tk ld gn T Ld G w' := by
 have blk: ∀ {q: Nat},q < w.heap.size -> ¬ s.own q -> w'.heap[q]? = w.heap[q]? := fun hq hn => hm.only.block _ hq hn
 have row: ∀ {e: TypeId} {m: Nat} {v: Value} {n: Nat} {xs: List Value},w.ownsRow B e m v n xs -> (∀ q,v.ownBlock = some q -> ¬ s.own q) -> w'.ownsRow B e m v n xs := fun hr hn => L5.owns_of_block hr fun q hq => blk (hr.lt q hq).2 (hn q hq)
 have nt: ∀ q,s'.own q -> s.own q \/ w.heap.size <= q := hm.own
 refine ⟨hA,⟨?_⟩,(blk (Array.getElem?_eq_some_iff.1 k.ed).1 (not_own k.ar k.ed (by decide) (by decide) (by decide))).trans k.ed,Nat.le_trans k.bs hm.only.size,row k.rt fun q hq x => (k.a1 q x).1 hq,row k.rl fun q hq => row_not_own k.ar k.rl (by decide) (by decide) (by decide) hq,row k.rg fun q hq x => (k.a1 q x).2.1 hq,fun y hy => row (k.rr y hy) fun q hq => row_not_own k.ar (k.rr y hy) (by decide) (by decide) (by decide) hq,fun y hy => row (k.rk y hy) fun q hq x => (k.a1 q x).2.2 y hy hq, ?_,k.a2,k.a3⟩
 · rw [hp]
   exact (blk (Array.getElem?_eq_some_iff.1 k.tr.blk).1 (not_own k.ar k.tr.blk (by decide) (by decide) (by decide))).trans k.tr.blk
 · intro q hq
   rcases nt q hq with hq | hq
   · exact k.a1 q hq
   · exact ⟨fun e => by have := (k.rt.lt q e).2; omega,fun e => by have := (k.rg.lt q e).2; omega,fun y hy e => by have := ((k.rk y hy).lt q e).2; omega⟩
theorem tag_ne {w: World} {q q': Nat} {c c': Array Value} {e e': TypeId} (h: w.heap[q]? = some (.cells c e (0,0))) (h': w.heap[q']? = some (.cells c' e' (0,0))) (he: e ≠ e'): q ≠ q' := fun x => by
 subst x
 rw [h] at h'
 cases h'
 exact he rfl
theorem row_ne {w: World} {B: Nat} {q: Nat} {c: Array Value} {e e': TypeId} {m n: Nat} {v: Value} {xs: List Value} (h: w.heap[q]? = some (.cells c e (0,0))) (h': w.ownsRow B e' m v n xs) (he: e ≠ e'): v.ownBlock ≠ some q := fun x => by
 obtain ⟨cur,hc⟩ := L4.owns_tag h' x
 exact tag_ne h hc he rfl
theorem rows_ne {w: World} {B B': Nat} {e e': TypeId} {m m' n n': Nat} {v v': Value} {xs xs': List Value} (h: w.ownsRow B e m v n xs) (h': w.ownsRow B' e' m' v' n' xs') (he: e ≠ e') (q: Nat) (hq: v.ownBlock = some q): v'.ownBlock ≠ some q := by
 obtain ⟨cur,hc⟩ := L4.owns_tag h hq
 exact row_ne hc h' he
theorem core {w w1 w2: World} {v0 v': Value} {x i: Nat} (hb: Below w.heap.size w w1) (hg: w1.grownBy w2 v0.ownBlock): ∀ q,q < w.heap.size -> v0.ownBlock ≠ some q -> q ≠ x -> (w2.setCell ⟨x,i,none⟩ v').heap[q]? = w.heap[q]? := fun q hq hn hx => by
 rw [heap_setCell_other _ _ _ _ hx,hg.block q (Nat.lt_of_lt_of_le hq hb.size) (fun e => hn e.symm),hb.block q hq]
theorem core_only {w w1 w2: World} {v0 v': Value} {x i B: Nat} {s: Ar} {t: Nat} (hb: Below w.heap.size w w1) (hg: w1.grownBy w2 v0.ownBlock) (h0: ∀ q,v0.ownBlock = some q -> B <= q): Stp B s s t x w (w2.setCell ⟨x,i,none⟩ v') :=
 ⟨⟨hg.os.trans hb.os,hg.tape.trans hb.tape,hg.output.trans hb.output,by have := hg.size; have := hb.size; simp [World.setCell]; omega,fun q hq hn => core hb hg q hq (fun e => hn (Or.inr (Or.inr (Or.inr (h0 q e))))) (fun e => hn (Or.inr (Or.inr (Or.inl e))))⟩,fun _ h => Or.inl h⟩
theorem core_fine {w w1 w2: World} {v0 v': Value} {x i: Nat} (hb: Below w.heap.size w w1) (hg: w1.grownBy w2 v0.ownBlock): Only (fun k => k = x \/ v0.ownBlock = some k) w (w2.setCell ⟨x,i,none⟩ v') :=
 ⟨hg.os.trans hb.os,hg.tape.trans hb.tape,hg.output.trans hb.output,by have := hg.size; have := hb.size; simp [World.setCell]; omega,fun q hq hn => core hb hg q hq (fun e => hn (Or.inr e)) (fun e => hn (Or.inl e))⟩
theorem core_ar {s: Ar} {w W: World} {v0: Value} {x: Nat} {e0: TypeId} {B m n: Nat} {xs: List Value} {cx: Array Value} (hA: ArP s w) (h0: w.ownsRow B e0 m v0 n xs) (hx: w.heap[x]? = some (.cells cx 66 (0,0))) (hc: ∀ q,q < w.heap.size -> v0.ownBlock ≠ some q -> q ≠ x -> W.heap[q]? = w.heap[q]?) (hn: ∀ q,s.own q -> v0.ownBlock ≠ some q) (he: e0 ≠ 109): ArP s W :=
 L4.arSt.keep s w W hA (fun q hq => hc q (L4.arSt.lt s w q hA hq) (hn q hq) (fun e => not_own hA hx (by decide) (by decide) (by decide) (e ▸ hq))) fun q cs hq => hc q (Array.getElem?_eq_some_iff.1 hq).1 (row_ne hq h0 (fun e => he e.symm)) (tag_ne hq hx (by decide))
theorem Es.took {B: Nat} {s: Ar} {t x r h l xr xh xl: Nat} {tk ld gn: Value} {T: List Nat} {Ld: List Lay} {G: List Nat} {w w1 w2: World} {v': Value} {nx m: Nat} (k: Es B s t x r h l xr xh xl tk ld gn T Ld G w) (hb: Below w.heap.size w w1) (hg: w1.grownBy w2 tk.ownBlock) (hm: m = T.length + 1) (ho: w2.ownsRow B 3 1 v' m (T.map nv ++ [nv nx])) (hat: ∀ q,v'.ownBlock = some q -> tk.ownBlock = some q \/ w1.heap.size <= q) :
 Es B s t x r h l xr xh xl v' ld gn (T ++ [nx]) Ld G (w2.setCell ⟨x,4,none⟩ v') /\ Stp B s s t x w (w2.setCell ⟨x,4,none⟩ v') := by
 subst hm
 have hc := core (v' := v') (x := x) (i := 4) hb hg
 have hsz: (w2.setCell ⟨x,4,none⟩ v').heap.size = w2.heap.size := by simp [World.setCell]
 have hle: w.heap.size <= w2.heap.size := Nat.le_trans hb.size hg.size
 have xlt := (Array.getElem?_eq_some_iff.1 k.ed).1
 have hx2: w2.heap[x]? = some (.cells #[.pointer (some ⟨t,0,none⟩), .int .i64 (xr: Int), .int .i64 (xh: Int), .int .i64 (xl: Int),tk,ld,gn] 66 (0,0)) := by
  rw [hg.block x (Nat.lt_of_lt_of_le xlt hb.size) (fun e => row_ne k.ed k.rt (by decide) e.symm),hb.block x xlt]
  exact k.ed
 have new: ∀ q,v'.ownBlock = some q -> tk.ownBlock = some q \/ w.heap.size <= q := fun q hq => (hat q hq).imp id fun y => Nat.le_trans hb.size y
 have row: ∀ {e: TypeId} {m: Nat} {v: Value} {n: Nat} {xs: List Value},w.ownsRow B e m v n xs -> e ≠ 66 -> (∀ q,v.ownBlock = some q -> tk.ownBlock ≠ some q) -> (w2.setCell ⟨x,4,none⟩ v').ownsRow B e m v n xs := fun hr he hn => L5.owns_of_block hr fun q hq => hc q (hr.lt q hq).2 (hn q hq) (fun e => row_ne k.ed hr (fun e => he e.symm) (e ▸ hq))
 refine ⟨⟨core_ar k.ar k.rt k.ed hc (fun q hq => (k.a1 q hq).1) (by decide),⟨?_⟩, ?_,by rw [hsz]; exact Nat.le_trans k.bs hle, ?_,row k.rl (by decide) fun q hq => rows_ne k.rl k.rt (by decide) q hq,row k.rg (by decide) fun q hq e => (k.a2 q e).1 hq,fun y hy => row (k.rr y hy) (by decide) fun q hq => rows_ne (k.rr y hy) k.rt (by decide) q hq,fun y hy => row (k.rk y hy) (by decide) fun q hq e => (k.a2 q e).2 y hy hq,fun q hq => ⟨fun e => ?_,(k.a1 q hq).2⟩,fun q hq => ?_,k.a3⟩,core_only hb hg (fun q hq => (k.rt.lt q hq).1)⟩
 · exact (hc t (Array.getElem?_eq_some_iff.1 k.tr.blk).1 (row_ne k.tr.blk k.rt (by decide)) (tag_ne k.tr.blk k.ed (by decide))).trans k.tr.blk
 · exact heap_setCell_same w2 x 4 _ _ v' hx2
 · rw [List.map_append,List.length_append]
   refine L5.owns_of_block ho fun q hq => heap_setCell_other _ _ _ _ fun e => ?_
   have e': q = x := e
   subst e'
   exact row_ne hx2 ho (by decide) hq
 · rcases new q e with e | e
   · exact (k.a1 q hq).1 e
   · have := L4.arSt.lt s w q k.ar hq
     omega
 · rcases new q hq with e | e
   · exact k.a2 q e
   · exact ⟨fun y => by have := (k.rg.lt q y).2; omega,fun y hy z => by have := ((k.rk y hy).lt q z).2; omega⟩
theorem take_ok2 {B: Nat} {s: Ar} {t x r h l xr xh xl: Nat} {tk ld gn: Value} {T: List Nat} {Ld: List Lay} {G: List Nat} {w: World} (k: Es B s t x r h l xr xh xl tk ld gn T Ld G w) (ho: s.abs.Ok) (hl: 0 < s.abs.left) (hT: T.length <= 10000) :
 Calls Tryz.prog 22 #[.pointer (some ⟨x,0,none⟩)] w fun e w' => e = .returned (nv s.abs.next) /\ ∃ s' tk',s'.p = s.p /\ s'.abs = s.abs.alloc /\ Es B s' t x r h l xr xh xl tk' ld gn (T ++ [s.abs.next]) Ld G w' /\ Stp B s s' t x w w' /\ Only (fun k => s.own k \/ k = x \/ tk.ownBlock = some k) w w' /\ (∀ q,tk'.ownBlock = some q -> tk.ownBlock = some q \/ w.heap.size <= q) /\ (∀ q,s'.own q -> s.own q \/ w.heap.size <= q) := by
 have HK := thid k
 have HA := thid (L4.alloc_ok k.ar ho hl)
 obtain ⟨c0,c1,c2,c3,ct,cf⟩ := k.tr.cells
 obtain ⟨d0,d1,d2,d3,d4,d5,d6,dl,df⟩ := k.ed.cells
 clear k
 go_enter Tryz.func22,Tryz.ntmps22
 go_wp2_with fail
 refine HA.out.mono ?_
 rintro e w1 ⟨rfl,s',hA',hp,hab,hm⟩
 have HK1 := thid (HK.out.moves hA' hp hm)
 have HS1 := thid (Stp.moves (t := t) (x := x) HK.out.bs hm)
 have HM := thid hm
 clear HA HK c0 c1 c2 c3 ct cf d0 d1 d2 d3 d4 d5 d6 dl df hA' hm
 obtain ⟨d0,d1,d2,d3,d4,d5,d6,dl,df⟩ := HK1.out.ed.cells
 obtain ⟨nx,hnx⟩: ∃ nx,Hid (s.abs.next = nx) := ⟨_,rfl⟩
 rw [hnx.out]
 unfold nv
 go_wp2_with (first
  | (go_at_call 53; refine (L1.check_ok _).mono ?_; rintro e w3 ⟨rfl,rfl⟩)
  | (at_builtin
     revert HK1)
  | fail)
 intro HK1
 have HB4 := thid (tbelow w3 (.cells #[.int .i64 (nx: Int)] 3))
 have HK4 := thid (HK1.out.below HB4.out)
 refine L5.append_row (z := .int .i64 0) (by_ := 8) Tryz.underlying55 (by kernel_rfl) (by decide) rfl B HK4.out.bs rfl _ _ rfl tk T.length (T.map nv) [nv nx] rfl HK4.out.rt (by omega) 1 (by omega) ⟨w3.heap.size,0,none⟩ 1 rfl rfl (L5.one_int w3 _ _) (fun u hu => by simp at hu; subst hu; rfl) ?_
 intro v' w5 hown hg hat
 obtain ⟨ad,cp,rfl⟩ := L5.owns_at hown
 obtain ⟨HE,HS⟩ := HK1.out.took HB4.out hg rfl hown hat
 have HE5 := thid HE
 have HS5 := thid (HS1.out.trans HS)
 have HF5: Hid (Only (fun k => s.own k \/ k = x \/ tk.ownBlock = some k) w (w5.setCell ⟨x,4,none⟩ (.slice ad (T.length + 1) cp))) := (HM.out.only.weaken fun _ _ y => Or.inl y).trans ((core_fine (x := x) (i := 4) (v' := .slice ad (T.length + 1) cp) HB4.out hg).weaken fun _ _ y => Or.inr y)
 have HN5: Hid (∀ q,(Value.slice ad (T.length + 1) cp).ownBlock = some q -> tk.ownBlock = some q \/ w.heap.size <= q) := fun q hq => (hat q hq).imp id fun y => Nat.le_trans HM.out.only.size (Nat.le_trans HB4.out.size y)
 have HO5 := thid HM.out.own
 have x2: w5.heap[x]? = some (.cells #[.pointer (some ⟨t,0,none⟩), .int .i64 (xr: Int), .int .i64 (xh: Int), .int .i64 (xl: Int),tk,ld,gn] 66 (0,0)) := by
  rw [hg.block x (by simp; omega) (fun e => row_ne HK1.out.ed HK1.out.rt (by decide) e.symm),HB4.out.block x dl]
  exact HK1.out.ed
 have y4: w5.cell? ⟨x,4,none⟩ = some tk := (EdC.cells x2).2.2.2.2.1
 have yl := (EdC.cells x2).2.2.2.2.2.2.2.1
 have yf := (EdC.cells x2).2.2.2.2.2.2.2.2
 clear d0 d1 d2 d3 d4 d5 d6 dl df HK1 HB4 HK4 HS1 HE HS hown hg hat x2 HM
 go_wp2
 go_ret
 exact ⟨by rw [hnx.out]; rfl,s',_,hp,hab,by rw [hnx.out]; exact HE5.out,HS5.out,HF5.out,HN5.out,HO5.out⟩
theorem take_ok {B: Nat} {s: Ar} {t x r h l xr xh xl: Nat} {tk ld gn: Value} {T: List Nat} {Ld: List Lay} {G: List Nat} {w: World} (k: Es B s t x r h l xr xh xl tk ld gn T Ld G w) (ho: s.abs.Ok) (hl: 0 < s.abs.left) (hT: T.length <= 10000) :
 Calls Tryz.prog 22 #[.pointer (some ⟨x,0,none⟩)] w fun e w' => e = .returned (nv s.abs.next) /\ ∃ s' tk',s'.p = s.p /\ s'.abs = s.abs.alloc /\ Es B s' t x r h l xr xh xl tk' ld gn (T ++ [s.abs.next]) Ld G w' /\ Stp B s s' t x w w' :=
 (take_ok2 k ho hl hT).mono fun _ _ ⟨h1,s',tk',h2,h3,h4,h5,_⟩ => ⟨h1,s',tk',h2,h3,h4,h5⟩
end Go.Proofs.YtdnkbdjhccckhaaGreat
namespace Go.Proofs.YtdnkbdjhccckhaaGreat
open Go.Shelf Go.RowKit
def delS_ren: Go.Shelf.Ren := ⟨fun | 24 => 70 | n => n,fun | 24 => 33 | 9 => 9 | 3 => 3 | 4 => 4 | 0 => 0 | n => n,fun | n => n⟩
theorem delS_lays: Go.Proofs.Lays2.n24 Tryz.prog delS_ren := {
 mixed := by kernel_rfl
 f24 := Tryz.func70.trans (congrArg some (by kernel_rfl))
 t0 := Tryz.underlying0
 a0 := Tryz.isAgg0
 z0 := Tryz.sizeOf0
 v0 := Tryz.zeroValue0
 t3 := Tryz.underlying3
 a3 := Tryz.isAgg3
 z3 := Tryz.sizeOf3
 v3 := Tryz.zeroValue3
 t4 := Tryz.underlying4
 a4 := Tryz.isAgg4
 z4 := Tryz.sizeOf4
 v4 := Tryz.zeroValue4
 t9 := Tryz.underlying9
 a9 := Tryz.isAgg9
 z9 := Tryz.sizeOf9
 v9 := Tryz.zeroValue9
 t24 := Tryz.underlying33
 a24 := Tryz.isAgg33
 z24 := Tryz.sizeOf33
 v24 := Tryz.zeroValue33
 i9 := by kernel_rfl }
def delI_ren: Go.Shelf.Ren := ⟨fun | 23 => 131 | n => n,fun | 22 => 55 | 3 => 3 | 4 => 4 | 0 => 0 | n => n,fun | n => n⟩
theorem delI_lays: Go.Proofs.Lays2.n23 Tryz.prog delI_ren := {
 mixed := by kernel_rfl
 f23 := Tryz.func131.trans (congrArg some (by kernel_rfl))
 t0 := Tryz.underlying0
 a0 := Tryz.isAgg0
 z0 := Tryz.sizeOf0
 v0 := Tryz.zeroValue0
 t3 := Tryz.underlying3
 a3 := Tryz.isAgg3
 z3 := Tryz.sizeOf3
 v3 := Tryz.zeroValue3
 t4 := Tryz.underlying4
 a4 := Tryz.isAgg4
 z4 := Tryz.sizeOf4
 v4 := Tryz.zeroValue4
 t22 := Tryz.underlying55
 a22 := Tryz.isAgg55
 z22 := Tryz.sizeOf55
 v22 := Tryz.zeroValue55
 i3 := by kernel_rfl }
theorem del_row {w w': World} {base g cap n i: Nat} {e: TypeId} {cur: Array Value} {xs ys: List Value} {z: Value} (hbg: base <= g) (hg: w.heap[g]? = some (.cells cur e (0,0))) (hnc: n <= cap) (hcm: cap <= maxLen) (hcs: cur.size = cap) (hxl: xs.length = n) (hi: i < n) (q: Nat) (hys: ys = xs.take i ++ xs.drop (i + 1) ++ [z]) (hw: w' = (w.drewN q).setCells g 0 ys) :
 w'.ownsRow base e 1 (.slice (some ⟨g,0,none⟩) (n - 1) cap) (n - 1) (xs.take i ++ xs.drop (i + 1)) /\ w.grownBy w' (some g) := by
 have hyl: ys.length = n := by rw [hys]; simp; omega
 have hg': (w.drewN q).heap[g]? = some (.cells cur.toList.toArray e (0,0)) := by simpa using hg
 have hb := setCells_blk ys 0 (w.drewN q) cur.toList hg' (by rw [hyl,Array.length_toList]; omega)
 have hd: w.grownBy (w.drewN q) (some g) := ⟨rfl,rfl,rfl,Nat.le_refl _,fun _ _ _ => rfl⟩
 rw [hw]
 refine ⟨own_row hbg hb (by omega) hcm (by rw [ov_length _ _ _ (by rw [hyl,Array.length_toList]; omega),Array.length_toList]; omega) ?_,setCells_grown g _ _ _ _ hd⟩
 unfold ov
 rw [List.take_zero,List.nil_append,hys,List.append_assoc]
 have hl: (xs.take i ++ xs.drop (i + 1)).length = n - 1 := by simp; omega
 rw [<- hl]
 exact List.take_left
theorem delete_str {w: World} {base n i: Nat} {v: Value} {l: List ByteArray} (h: w.ownsRow base 9 1 v n (l.map Value.string)) (hi: i < n) :
 Calls Tryz.prog 70 #[v, .int .i64 (i: Int), .int .i64 ((i + 1: Nat): Int)] w fun e w' => ∃ v',e = .returned v' /\ w'.ownsRow base 9 1 v' (n - 1) ((l.take i ++ l.drop (i + 1)).map Value.string) /\ w.grownBy w' v.ownBlock /\ v'.ownBlock = v.ownBlock := by
 have hxl: l.length = n := by have := h.1; simpa using this
 rcases h.2 with ⟨rfl,rfl⟩ | ⟨g,cap,cur,rfl,hbg,hg,hnc,hcm,hcs,htake⟩
 · omega
 have hcell: ∀ j,j < n -> w.cell? ⟨g,0 + j,none⟩ = some (.string (l.getD j ⟨#[]⟩)) := fun j hj => by
  rw [cell_of_row _ _ _ _ _ _ hg,Nat.zero_add]
  have e: cur.toList[j]? = (l.map Value.string)[j]? := by rw [<- htake,List.getElem?_take,if_pos (by omega)]
  rw [<- Array.getElem?_toList,e,List.getElem?_map,List.getElem?_eq_getElem (by omega),List.getD_eq_getElem?_getD,List.getElem?_eq_getElem (by omega)]
  rfl
 refine (Any.slices_Delete_string_cells delS_lays g 0 n cap i (i + 1) (fun j => l.getD j ⟨#[]⟩) w hnc (by unfold maxLen at hcm; omega) (by omega) (by omega) hcell (fun j _ => frozen_of_row _ _ _ _ _ hg)).mono ?_
 rintro e w' ⟨rfl,q,hw⟩
 have hst: (Lib.strsOf (fun j => l.getD j ⟨#[]⟩) n).map Go.Proofs.encStr = l.map Value.string := by
  apply List.ext_getElem?
  intro j
  unfold Lib.strsOf
  rw [List.getElem?_map,List.getElem?_map,List.getElem?_map]
  by_cases hj: j < n
  · rw [List.getElem?_range hj,List.getElem?_eq_getElem (by omega)]
    simp [Go.Proofs.encStr,List.getD_eq_getElem?_getD,List.getElem?_eq_getElem (show j < l.length by omega)]
  · rw [List.getElem?_eq_none (by simpa using hj),List.getElem?_eq_none (by omega)]
    rfl
 obtain ⟨h1,h2⟩ := del_row (i := i) hbg hg hnc hcm (by omega) (xs := l.map Value.string) (by simpa using hxl) hi q (z := .string ⟨#[]⟩) (by
  rw [List.map_append,List.map_append,List.map_take,List.map_drop,hst,show i + 1 - i = 1 by omega]
  rfl) hw
 refine ⟨.slice (some ⟨g,0,none⟩) (n - 1) cap,by rw [show i + 1 - i = 1 by omega], ?_,h2,rfl⟩
 rw [List.map_append,List.map_take,List.map_drop]
 exact h1
theorem delete_int {w: World} {base n i: Nat} {v: Value} {l: List Int} (h: w.ownsRow base 3 1 v n (l.map (Value.int .i64))) (hi: i < n) :
 Calls Tryz.prog 131 #[v, .int .i64 (i: Int), .int .i64 ((i + 1: Nat): Int)] w fun e w' => ∃ v',e = .returned v' /\ w'.ownsRow base 3 1 v' (n - 1) ((l.take i ++ l.drop (i + 1)).map (Value.int .i64)) /\ w.grownBy w' v.ownBlock /\ v'.ownBlock = v.ownBlock := by
 have hxl: l.length = n := by have := h.1; simpa using this
 rcases h.2 with ⟨rfl,rfl⟩ | ⟨g,cap,cur,rfl,hbg,hg,hnc,hcm,hcs,htake⟩
 · omega
 have hcell: ∀ j,j < l.length -> w.cell? ⟨g,0 + j,none⟩ = some (.int .i64 (l.getD j 0)) := fun j hj => by
  rw [cell_of_row _ _ _ _ _ _ hg,Nat.zero_add]
  have e: cur.toList[j]? = (l.map (Value.int .i64))[j]? := by rw [<- htake,List.getElem?_take,if_pos (by omega)]
  rw [<- Array.getElem?_toList,e,List.getElem?_map,List.getElem?_eq_getElem (by omega),List.getD_eq_getElem?_getD,List.getElem?_eq_getElem (by omega)]
  rfl
 refine (Any.slices_Delete_int_cells delI_lays g 0 n cap i (i + 1) l w (by omega) hnc (by unfold maxLen at hcm; omega) (by omega) (by omega) hcell (fun j _ => frozen_of_row _ _ _ _ _ hg)).mono ?_
 rintro e w' ⟨rfl,q,hw⟩
 have hln: l.take n = l := List.take_of_length_le (by omega)
 obtain ⟨h1,h2⟩ := del_row (i := i) hbg hg hnc hcm (by omega) (xs := l.map (Value.int .i64)) (by simpa using hxl) hi q (z := .int .i64 0) (by
  rw [hln,List.map_append,List.map_append,List.map_take,List.map_drop,show i + 1 - i = 1 by omega]
  rfl) hw
 refine ⟨.slice (some ⟨g,0,none⟩) (n - 1) cap,by rw [show i + 1 - i = 1 by omega], ?_,h2,rfl⟩
 rw [List.map_append,List.map_take,List.map_drop]
 exact h1
end Go.Proofs.YtdnkbdjhccckhaaGreat
namespace Go.Proofs.YtdnkbdjhccckhaaGreat
open Go.RowKit
open L4 (Ar ArP Abs arV nv)
theorem Es.gave {B: Nat} {s: Ar} {t x r h l xr xh xl: Nat} {tk ld gn: Value} {T: List Nat} {Ld: List Lay} {G: List Nat} {w w1 w2: World} {v': Value} {nx m: Nat} (k: Es B s t x r h l xr xh xl tk ld gn T Ld G w) (hb: Below w.heap.size w w1) (hg: w1.grownBy w2 gn.ownBlock) (hm: m = G.length + 1) (ho: w2.ownsRow B 3 1 v' m (G.map nv ++ [nv nx])) (hat: ∀ q,v'.ownBlock = some q -> gn.ownBlock = some q \/ w1.heap.size <= q) :
 Es B s t x r h l xr xh xl tk ld v' T Ld (G ++ [nx]) (w2.setCell ⟨x,6,none⟩ v') /\ Stp B s s t x w (w2.setCell ⟨x,6,none⟩ v') /\ Only (fun q => q = x \/ gn.ownBlock = some q) w (w2.setCell ⟨x,6,none⟩ v') /\ (∀ q,v'.ownBlock = some q -> gn.ownBlock = some q \/ w.heap.size <= q) := by
 subst hm
 have hc := core (v' := v') (x := x) (i := 6) hb hg
 have hsz: (w2.setCell ⟨x,6,none⟩ v').heap.size = w2.heap.size := by simp [World.setCell]
 have hle: w.heap.size <= w2.heap.size := Nat.le_trans hb.size hg.size
 have xlt := (Array.getElem?_eq_some_iff.1 k.ed).1
 have hx2: w2.heap[x]? = some (.cells #[.pointer (some ⟨t,0,none⟩), .int .i64 (xr: Int), .int .i64 (xh: Int), .int .i64 (xl: Int),tk,ld,gn] 66 (0,0)) := by
  rw [hg.block x (Nat.lt_of_lt_of_le xlt hb.size) (fun e => row_ne k.ed k.rg (by decide) e.symm),hb.block x xlt]
  exact k.ed
 have new: ∀ q,v'.ownBlock = some q -> gn.ownBlock = some q \/ w.heap.size <= q := fun q hq => (hat q hq).imp id fun y => Nat.le_trans hb.size y
 have row: ∀ {e: TypeId} {m: Nat} {v: Value} {n: Nat} {xs: List Value},w.ownsRow B e m v n xs -> e ≠ 66 -> (∀ q,v.ownBlock = some q -> gn.ownBlock ≠ some q) -> (w2.setCell ⟨x,6,none⟩ v').ownsRow B e m v n xs := fun hr he hn => L5.owns_of_block hr fun q hq => hc q (hr.lt q hq).2 (hn q hq) (fun e => row_ne k.ed hr (fun e => he e.symm) (e ▸ hq))
 refine ⟨⟨core_ar k.ar k.rg k.ed hc (fun q hq => (k.a1 q hq).2.1) (by decide),⟨?_⟩, ?_,by rw [hsz]; exact Nat.le_trans k.bs hle,row k.rt (by decide) fun q hq => (k.a2 q hq).1,row k.rl (by decide) fun q hq => rows_ne k.rl k.rg (by decide) q hq, ?_,fun y hy => row (k.rr y hy) (by decide) fun q hq => rows_ne (k.rr y hy) k.rg (by decide) q hq,fun y hy => row (k.rk y hy) (by decide) fun q hq e => k.a3 q e y hy hq,fun q hq => ⟨(k.a1 q hq).1,fun e => ?_,(k.a1 q hq).2.2⟩,fun q hq => ⟨fun e => ?_,(k.a2 q hq).2⟩,fun q hq y hy z => ?_⟩,core_only hb hg (fun q hq => (k.rg.lt q hq).1),⟨?_, ?_, ?_,by rw [hsz]; exact hle,fun q hq hn => hc q hq (fun e => hn (Or.inr e)) (fun e => hn (Or.inl e))⟩,new⟩
 · exact (hc t (Array.getElem?_eq_some_iff.1 k.tr.blk).1 (row_ne k.tr.blk k.rg (by decide)) (tag_ne k.tr.blk k.ed (by decide))).trans k.tr.blk
 · exact heap_setCell_same w2 x 6 _ _ v' hx2
 · rw [List.map_append,List.length_append]
   refine L5.owns_of_block ho fun q hq => heap_setCell_other _ _ _ _ fun e => ?_
   have e': q = x := e
   subst e'
   exact row_ne hx2 ho (by decide) hq
 · rcases new q e with e | e
   · exact (k.a1 q hq).2.1 e
   · have := L4.arSt.lt s w q k.ar hq
     omega
 · rcases new q e with e | e
   · exact (k.a2 q hq).1 e
   · have := (k.rt.lt q hq).2
     omega
 · rcases new q hq with e | e
   · exact k.a3 q e y hy z
   · have := ((k.rk y hy).lt q z).2
     omega
 · exact hg.os.trans hb.os
 · exact hg.tape.trans hb.tape
 · exact hg.output.trans hb.output
end Go.Proofs.YtdnkbdjhccckhaaGreat
namespace Go.Proofs.YtdnkbdjhccckhaaGreat
open Go.ChangeShapes Go.WideShapes Go.ChangeAt Go.RowKit
end Go.Proofs.YtdnkbdjhccckhaaGreat
namespace Go.Proofs.YtdnkbdjhccckhaaGreat.L4
open Go.RowKit
theorem same_walk {b1 b2: Nat} {w: World} {v1 v2: Value} {l: List Nat} (h1: IS b1 w v1 l) (h2: IS b2 w v2 l) (hl: l.length <= 1000000): Calls Tryz.prog 37 #[v1,v2] w fun e w' => e = .returned (.bool true) /\ Below w.heap.size w w' := by
 obtain ⟨a1,k1,rfl,hf1,_⟩ := owns_slice h1
 obtain ⟨a2,k2,rfl,hf2,_⟩ := owns_slice h2
 have key: ∀ j,j < l.length -> ∃ g1 g2 n,a1 = some ⟨g1,0,none⟩ /\ a2 = some ⟨g2,0,none⟩ /\ g1 < w.heap.size /\ g2 < w.heap.size /\ w.cell? ⟨g1,j,none⟩ = some (.int .i64 n) /\ w.cell? ⟨g2,j,none⟩ = some (.int .i64 n) := by
  intro j hj
  obtain ⟨g1,rfl,x1⟩ := hf1 (by omega)
  obtain ⟨g2,rfl,x2⟩ := hf2 (by omega)
  have hx: (l.map nv)[j]? = some (nv l[j]) := by simp [List.getElem?_eq_getElem hj]
  refine ⟨g1,g2,(l[j]: Int),rfl,rfl,x1,x2, ?_, ?_⟩
  · rw [World.ownsRow.cellAt h1 j (by omega),hx]; rfl
  · rw [World.ownsRow.cellAt h2 j (by omega),hx]; rfl
 have HK: Hid (∀ j,j < l.length -> ∃ g1 g2 n,a1 = some ⟨g1,0,none⟩ /\ a2 = some ⟨g2,0,none⟩ /\ g1 < w.heap.size /\ g2 < w.heap.size /\ w.cell? ⟨g1,j,none⟩ = some (.int .i64 n) /\ w.cell? ⟨g2,j,none⟩ = some (.int .i64 n)) := key
 clear h1 h2 hf1 hf2 key
 generalize l.length = len at *
 go_enter Tryz.func37,Tryz.ntmps37
 go_wp2
 go_loopw [5] (fun i wr => ∃ j: Nat,j <= len /\ i = .int .i64 (j: Int) /\ Below w.heap.size w wr) (fun i _ => len - (intOf i).toNat)
 case atStart => exact ⟨0,by omega,rfl,Below.refl _ _⟩
 case round =>
  obtain ⟨j,hj,rfl,B⟩ := hrel
  have HB: Hid (Below w.heap.size w wr) := B
  clear B
  by_cases hlt: j < len
  · obtain ⟨g1,g2,n,rfl,rfl,x1,x2,c1,c2⟩ := HK.out j hlt
    have c1': wr.cell? ⟨g1,j,none⟩ = some (.int .i64 n) := by rw [HB.out.cell x1]; exact c1
    have c2': wr.cell? ⟨g2,j,none⟩ = some (.int .i64 n) := by rw [HB.out.cell x2]; exact c2
    clear c1 c2 x1 x2
    go_wp2
    go_quiet (fail)
    go_wp2
    refine ⟨⟨j + 1,by omega,by go_num,below_drewN HB.out _⟩,by simp [intOf]; omega⟩
  · have hj': j = len := by omega
    subst hj'
    go_wp2
    go_ret
    exact ⟨rfl,HB.out⟩
end Go.Proofs.YtdnkbdjhccckhaaGreat.L4
namespace Go.Proofs.YtdnkbdjhccckhaaGreat
open Go.RowKit
def TrZ (w: World) (t: Nat): Prop := w.heap[t]? = some (.cells #[.pointer none, .int .i64 0, .int .i64 0, .int .i64 0] 61 (0,0))
def Ov (w: World) (v: Value): Prop := v = .pointer none \/ ∃ t,v = .pointer (some ⟨t,0,none⟩) /\ TrZ w t
theorem Ov.on {w w': World} {v: Value} (k: Ov w v) (hb: Below w.heap.size w w'): Ov w' v := by
 rcases k with k | ⟨t,e,k⟩
 · exact Or.inl k
 · exact Or.inr ⟨t,e,(hb.block _ (Array.getElem?_eq_some_iff.1 k).1).trans k⟩
theorem head_ov {w: World} {v: Value} (k: Ov w v): Calls Tryz.prog 9 #[v] w fun e w' => e = .returned (.agg #[.int .i64 0, .int .i64 0, .int .i64 0]) /\ Below w.heap.size w w' := by
 rcases k with rfl | ⟨t,rfl,k⟩
 · exact head_nil w
 have c1: w.cell? ⟨t,1,none⟩ = some (.int .i64 0) := by rw [cell_of_row _ _ _ _ _ _ k]; rfl
 have c2: w.cell? ⟨t,2,none⟩ = some (.int .i64 0) := by rw [cell_of_row _ _ _ _ _ _ k]; rfl
 have c3: w.cell? ⟨t,3,none⟩ = some (.int .i64 0) := by rw [cell_of_row _ _ _ _ _ _ k]; rfl
 have ct: t < w.heap.size := (Array.getElem?_eq_some_iff.1 k).1
 have cf: ∀ i,w.frozen? ⟨t,i,none⟩ = false := fun i => frozen_of_row _ _ _ _ _ k
 clear k
 go_enter Tryz.func9,Tryz.ntmps9
 go_wp2
 refine bodyPost_ret (v := .agg #[.int .i64 0, .int .i64 0, .int .i64 0]) (by simp [results,Tryz.results9,go_sem]) rfl ⟨rfl,tbelow _ _⟩
theorem over_ov {w: World} {v: Value} (k: Ov w v): Calls Tryz.prog 41 #[v] w fun e w' => e = .returned (.bool true) /\ Below w.heap.size w w' := by
 have HH := thid (head_ov k)
 clear k
 go_enter Tryz.func41,Tryz.ntmps41
 go_wp2_with fail
 refine HH.out.mono ?_
 rintro e w1 ⟨rfl,B1⟩
 obtain ⟨hf0,hf1,hf2⟩ := hfield 0 0 0 w1
 go_wp2
 go_ret
 exact ⟨rfl,B1⟩
theorem insert_ov {w: World} {v: Value} (k: Ov w v) (s: ByteArray): Calls Tryz.prog 15 #[v, .string s] w fun e w' => e = .returned (.int .i64 15) /\ Below w.heap.size w w' := by
 have HB := thid (tbelow w (.cells #[.string s] 9))
 have HH := thid (over_ov (k.on HB.out))
 clear k
 go_enter Tryz.func15,Tryz.ntmps15
 go_wp2_with fail
 refine HH.out.mono ?_
 rintro e w1 ⟨rfl,B1⟩
 clear HH
 go_wp2
 go_ret
 exact ⟨rfl,tbelow_on HB.out B1⟩
end Go.Proofs.YtdnkbdjhccckhaaGreat
