import Derived.Test.YtdnkbdjhccckhaaGreatMAT
import Derived.Test.YtdnkbdjhccckhaaGreatMAS
import Derived.Test.YtdnkbdjhccckhaaGreatMAK
import Derived.Laws.EntriesVeiled
import Derived.RangeFuncFrom
import Derived.RangeFuncBound
import Derived.RangeFuncCalls
import Derived.RangeFuncLeaves
import Derived.OwnWalkIn
import Derived.TacticsInMore
set_option maxRecDepth 100000
set_option maxHeartbeats 4000000
namespace Go.Proofs.YtdnkbdjhccckhaaGreat
open Go.RowKit
open L4 (Ar ArP Abs arV nv)
def withRec (n: L5.No) (i: Nat) (k: ByteArray): L5.No := ⟨n.leaf,n.recs.take i ++ [k] ++ n.recs.drop i,n.kids⟩
theorem withRec_len (n: L5.No) {i: Nat} (h: i <= n.recs.length) (k: ByteArray): (withRec n i k).recs.length = n.recs.length + 1 := by
 simp [withRec]; omega
theorem withRec_svs (n: L5.No) (i: Nat) (k: ByteArray): L5.svs (withRec n i k).recs = (L5.svs n.recs).take i ++ [.string k] ++ (L5.svs n.recs).drop i := by
 simp [withRec,L5.svs,List.map_take,List.map_drop]
theorem tinsert1 {x b: Nat} {k: ByteArray} {w: World} {R: World -> Prop} (hc: w.cell? ⟨b,0,none⟩ = some (.string k)) (H: Calls Tryz.prog 43 #[.pointer (some ⟨x,0,none⟩), .string k] w fun e w1 => e = .returned (.tuple #[]) /\ R w1) :
 Calls Tryz.prog 42 #[.pointer (some ⟨x,0,none⟩), .pointer (some ⟨b,0,none⟩)] w fun e w1 => e = .returned (.tuple #[]) /\ R w1 := by
 have HH := thid H
 clear H
 go_enter Tryz.func42,Tryz.ntmps42
 go_wp2_with fail
 refine HH.out.mono ?_
 rintro e w1 ⟨rfl,hR⟩
 have HR := thid hR
 clear hR HH hc
 go_wp2
 go_end0
 exact ⟨rfl,HR.out⟩
def lessRec (n: L5.No) (i: Nat): L5.No := ⟨n.leaf,n.recs.take i ++ n.recs.drop (i + 1),n.kids⟩
theorem lessRec_len (n: L5.No) {i: Nat} (h: i < n.recs.length): (lessRec n i).recs.length = n.recs.length - 1 := by
 simp [lessRec]; omega
theorem tdelete1 {x b: Nat} {k: ByteArray} {w: World} {R: World -> Prop} (hc: w.cell? ⟨b,0,none⟩ = some (.string k)) (H: Calls Tryz.prog 47 #[.pointer (some ⟨x,0,none⟩), .string k] w fun e w1 => e = .returned (.tuple #[]) /\ R w1) :
 Calls Tryz.prog 46 #[.pointer (some ⟨x,0,none⟩), .pointer (some ⟨b,0,none⟩)] w fun e w1 => e = .returned (.tuple #[]) /\ R w1 := by
 have HH := thid H
 clear H
 go_enter Tryz.func46,Tryz.ntmps46
 go_wp2_with fail
 refine HH.out.mono ?_
 rintro e w1 ⟨rfl,hR⟩
 have HR := thid hR
 clear hR HH hc
 go_wp2
 go_end0
 exact ⟨rfl,HR.out⟩
end Go.Proofs.YtdnkbdjhccckhaaGreat
namespace Go.Proofs.YtdnkbdjhccckhaaGreat
open Go.RowKit
open L4 (Ar ArP Abs arV nv)
theorem eql_func_nil (w: World) (t: TypeId) {a: Array TypeId} {b: Array TypeId} {v: Bool} (fn: Fn) (first cap: Array Value) (h: Tryz.prog.underlying t = some (.func a b v)): (binOp .eql t (.func fn first cap) .nilFunc).run Tryz.prog w = .ok (.bool false) w := by
 have h1: ∀ d: Nat,(Op.equalIn (d + 1) t (.func fn first cap) .nilFunc).run Tryz.prog w = .ok false w := fun d => by simp [Op.equalIn,run_underlying h]
 have h2: (Op.equal t (.func fn first cap) .nilFunc).run Tryz.prog w = .ok false w := h1 9999
 simp [binOp,h2]
end Go.Proofs.YtdnkbdjhccckhaaGreat
namespace Go.Proofs.YtdnkbdjhccckhaaGreat
open Go.RowKit
open L4 (Ar ArP Abs arV nv)
open L1 (stopped faultV Came undoW)
theorem bwd_nil {w: World}: Calls Tryz.prog 76 #[.slice none 0 0] w fun e w' => e = .returned (.func (.func 99) #[] #[.pointer (some ⟨w.heap.size,0,none⟩)]) /\ w'.cell? ⟨w.heap.size,0,none⟩ = some (.slice none 0 0) /\ w.heap.size < w'.heap.size /\ Below w.heap.size w w' := by
 have hmf: ∀ (fn: Fn) (first cap: Array Value) (w: World),(Instr.makeFunc fn first cap).run Tryz.prog w = .ok (.func fn first cap) w := fun _ _ _ _ => rfl
 go_enter Tryz.func76,Tryz.ntmps76
 go_wp2
 go_ret
 exact ⟨rfl,by simp [go_sem],by simp,tbelow _ _⟩
theorem bwd1_nil {w: World} {b: Nat} {f: Value} (hc: w.cell? ⟨b,0,none⟩ = some (.slice none 0 0)) (hb: b < w.heap.size): Calls Tryz.prog 99 #[f, .pointer (some ⟨b,0,none⟩)] w fun e w' => e = .returned (.tuple #[]) /\ w' = w := by
 go_enter Tryz.func99,Tryz.ntmps99
 go_wp2_with fail
 go_loopw [3] (fun i w2 => i = .int .i64 (-1) /\ w2 = w) (fun _ _ => 0)
 case atStart => exact ⟨rfl,rfl⟩
 case round =>
  obtain ⟨rfl,rfl⟩ := hrel
  go_wp2
  go_end0
  exact ⟨rfl,rfl⟩
def nothing: L4.St Unit where
 own := fun _ _ => False
 P := fun _ _ => True
 keep := fun _ _ _ _ _ _ => trivial
 lt := fun _ _ _ _ h => h.elim
 tag := fun _ _ _ _ _ h => h.elim
theorem nothing_moves {w w': World} (h: Below w.heap.size w w'): L4.Moves nothing () () w w' := ⟨Only.of_below h,fun _ h => h.elim⟩
theorem nothing_below {w w': World} (h: L4.Moves nothing () () w w'): Below w.heap.size w w' := h.only.below (Nat.le_refl _) fun _ _ x => x
theorem stopped_inj {c a c' a': Int} (h: Ending.panicked (stopped c a) = .panicked (stopped c' a')): c = c' /\ a = a' := by
 simp only [Ending.panicked.injEq,stopped,List.cons.injEq,PanicEntry.mk.injEq,Value.iface.injEq,faultV,Value.agg.injEq] at h
 simpa using h
attribute [local go_sem] Oper.semAt_some in
theorem back_none {w: World} {x t xr xh xl: Nat} {ld gn: Value} (k: EdC w x t xr xh xl (.slice none 0 0) ld gn): Calls Tryz.prog 51 #[.pointer (some ⟨x,0,none⟩)] w fun e w' => e = .returned (.tuple #[]) /\ Below w.heap.size w w' := by
 obtain ⟨d0,d1,d2,d3,d4,d5,d6,dl,df⟩ := k.cells
 clear k
 refine (callsIn_wide (n := 5)).1 ?_
 refine callsIn_of_wp_marks Tryz.func51 rfl trivial ?_ rfl
 simp only [Tryz.ntmps51,List.size_toArray,List.length_cons,List.length_nil,Nat.reduceAdd,Nat.reduceSub,Array.replicate_succ,Array.replicate_zero,List.push_toArray,List.append_toArray,List.nil_append,List.cons_append]
 gi_wp2_with fail
 refine ⟨trivial,(callsIn_wide.2 bwd_nil).mono ?_⟩
 rintro e w2 ⟨rfl,hc2,hl2,B2⟩
 have hz: (w.alloc (.cells #[.pointer (some ⟨x,0,none⟩)] 63)).heap.size = w.heap.size + 1 := by simp
 have HB2 := thid (tbelow_on (tbelow w _) B2)
 rw [hz] at hc2 hl2 ⊢
 clear B2
 gi_wp2_with fail
 refine wpIn_rangeFunc_ownF (α := Empty) rfl (by omega) (gf := 99) (lb := #[.pointer (some ⟨w.heap.size + 1,0,none⟩)]) rfl trivial (enters_of Tryz.func99 (by kernel_rfl) rfl)
  (encs := fun x => x.elim) (Kp := fun _ _ => True) (S := fun xs => xs = []) (Sp := fun _ => False) (N := 0) (w0 := w2) (fun l J Jx W hW _ _ _ h0 => ?seq) (fun _ _ => trivial) (fun _ _ _ _ _ _ _ _ => trivial) (Below.refl _ _) (fun x => x.elim)
  (fun _ W => Below w.heap.size w W) (fun _ _ _ => False) (ownFrom_below (Nat.le_refl _) HB2.out.size) (fun _ _ _ _ _ hs _ _ => hs) HB2.out (fun x => x.elim) ?assign ?body ?done ?stop
 case seq =>
  refine (callsIn_wide.2 (bwd1_nil ((hW.cell (p := ⟨w.heap.size + 1,0,none⟩) hl2).trans hc2) (Nat.lt_of_lt_of_le hl2 hW.size))).mono ?_
  rintro e W' ⟨rfl,rfl⟩
  exact ⟨⟨_,rfl⟩, .inl ⟨[],rfl,h0⟩⟩
 case assign => exact fun _ x => x.elim
 case body => exact fun _ _ x => x.elim
 case done =>
  rintro D ys W hD rfl hB hK
  gi_wp2
  refine ⟨by simp, .inl ⟨_,_,rfl,run_takeDeferred hK, ?_⟩⟩
  exact ⟨_,results_none rfl _ _ _,rfl,hB.trans (belowK_b (w := w) (Nat.le_refl _) W D _ _ (by have := HB2.out.size; omega) hK rfl rfl)⟩
 case stop =>
  rintro D c pre W _ h _ _
  exact h.elim
theorem change1_stop {w: World} {x b0 b2: Nat} {c: Int} {g: FuncId} {cap: Array Value} (hg: ∀ args w,(callFunc g args).run Tryz.prog w = .ok (.enter g args) w) (h0: w.cell? ⟨b0,0,none⟩ = some (.func (.func g) #[] cap)) (h2: w.cell? ⟨b2,0,none⟩ = some (.pointer (some ⟨x,0,none⟩))) (H: Calls Tryz.prog g (#[.pointer (some ⟨x,0,none⟩)] ++ cap) w fun e w1 => e = .panicked (stopped c 0) /\ Below w.heap.size w w1): Calls Tryz.prog 49 #[.pointer (some ⟨b0,0,none⟩), .pointer (some ⟨b2,0,none⟩)] w fun e w' => e = .panicked (stopped c 0) /\ Below w.heap.size w w' := by
 have HT := thid H
 clear H
 go_enter Tryz.func49,Tryz.ntmps49
 go_wp2_with fail
 refine HT.out.mono ?_
 rintro e w2 ⟨rfl,B2⟩
 exact ⟨rfl,rfl,B2⟩
theorem change_stop {s: Ar} {t r h l: Nat} {c: Int} {w: World} (hA: ArP s w) (ht: TrC w t s.p r h l) (g: FuncId) (hg: ∀ args w,(callFunc g args).run Tryz.prog w = .ok (.enter g args) w) (cap: Array Value)
 (H: ∀ (x: Nat) (W: World),w.heap.size <= x -> Below w.heap.size w W -> Es W.heap.size s t x r h l r h l (.slice none 0 0) (.slice none 0 0) (.slice none 0 0) [] [] [] W -> Calls Tryz.prog g (#[.pointer (some ⟨x,0,none⟩)] ++ cap) W fun e w1 => e = .panicked (stopped c 0) /\ Below W.heap.size W w1) :
 Calls Tryz.prog 20 #[.pointer (some ⟨t,0,none⟩), .func (.func g) #[] cap] w fun e w' => e = .returned (.int .i64 c) /\ Below w.heap.size w w' := by
 obtain ⟨c0,c1,c2,c3,ct,cf⟩ := ht.cells
 have HA := thid hA
 have HT := thid ht
 have HH := thid H
 clear hA ht H
 have hmf: ∀ (fn: Fn) (first cap: Array Value) (w: World),(Instr.makeFunc fn first cap).run Tryz.prog w = .ok (.func fn first cap) w := fun _ _ _ _ => rfl
 go_enter Tryz.func20,Tryz.ntmps20
 go_wp2_with fail
 have B3: Below w.heap.size w (((w.alloc (.cells #[.func (.func g) #[] cap] 70)).alloc (.cells #[.pointer (some ⟨t,0,none⟩), .int .i64 (r: Int), .int .i64 (h: Int), .int .i64 (l: Int), .slice none 0 0, .slice none 0 0, .slice none 0 0] 66)).alloc (.cells #[.pointer (some ⟨w.heap.size + 1,0,none⟩)] 63)) := ((tbelow w _).alloc (by simp) _).alloc (by simp; omega) _
 have z3: (((w.alloc (.cells #[.func (.func g) #[] cap] 70)).alloc (.cells #[.pointer (some ⟨t,0,none⟩), .int .i64 (r: Int), .int .i64 (h: Int), .int .i64 (l: Int), .slice none 0 0, .slice none 0 0, .slice none 0 0] 66)).alloc (.cells #[.pointer (some ⟨w.heap.size + 1,0,none⟩)] 63)).heap.size = w.heap.size + 3 := by simp
 have k0: (((w.alloc (.cells #[.func (.func g) #[] cap] 70)).alloc (.cells #[.pointer (some ⟨t,0,none⟩), .int .i64 (r: Int), .int .i64 (h: Int), .int .i64 (l: Int), .slice none 0 0, .slice none 0 0, .slice none 0 0] 66)).alloc (.cells #[.pointer (some ⟨w.heap.size + 1,0,none⟩)] 63)).cell? ⟨w.heap.size,0,none⟩ = some (.func (.func g) #[] cap) := by simp [go_sem]
 have k1: EdC (((w.alloc (.cells #[.func (.func g) #[] cap] 70)).alloc (.cells #[.pointer (some ⟨t,0,none⟩), .int .i64 (r: Int), .int .i64 (h: Int), .int .i64 (l: Int), .slice none 0 0, .slice none 0 0, .slice none 0 0] 66)).alloc (.cells #[.pointer (some ⟨w.heap.size + 1,0,none⟩)] 63)) (w.heap.size + 1) t r h l (.slice none 0 0) (.slice none 0 0) (.slice none 0 0) := by
  have h1 := heap_alloc_new (w.alloc (.cells #[.func (.func g) #[] cap] 70)) (.cells #[.pointer (some ⟨t,0,none⟩), .int .i64 (r: Int), .int .i64 (h: Int), .int .i64 (l: Int), .slice none 0 0, .slice none 0 0, .slice none 0 0] 66)
  rw [show (w.alloc (.cells #[.func (.func g) #[] cap] 70)).heap.size = w.heap.size + 1 by simp] at h1
  exact ((tbelow _ _).block _ (by simp)).trans h1
 have k2: (((w.alloc (.cells #[.func (.func g) #[] cap] 70)).alloc (.cells #[.pointer (some ⟨t,0,none⟩), .int .i64 (r: Int), .int .i64 (h: Int), .int .i64 (l: Int), .slice none 0 0, .slice none 0 0, .slice none 0 0] 66)).alloc (.cells #[.pointer (some ⟨w.heap.size + 1,0,none⟩)] 63)).cell? ⟨w.heap.size + 1 + 1,0,none⟩ = some (.pointer (some ⟨w.heap.size + 1,0,none⟩)) := by simp [go_sem]
 have HB3 := thid B3
 have HK1 := thid k1
 clear B3 k1 c0 c1 c2 c3 cf hmf
 generalize ((w.alloc (.cells #[.func (.func g) #[] cap] 70)).alloc (.cells #[.pointer (some ⟨t,0,none⟩), .int .i64 (r: Int), .int .i64 (h: Int), .int .i64 (l: Int), .slice none 0 0, .slice none 0 0, .slice none 0 0] 66)).alloc (.cells #[.pointer (some ⟨w.heap.size + 1,0,none⟩)] 63) = W at *
 have HU := thid (L1.below_catchW W: Below W.heap.size W (undoW W))
 have HBU := thid (HB3.out.trans (HU.out.mono HB3.out.size))
 have HE: Hid (Es (undoW W).heap.size s t (w.heap.size + 1) r h l r h l (.slice none 0 0) (.slice none 0 0) (.slice none 0 0) [] [] [] (undoW W)) :=
  ⟨L4.arSt.below HA.out HBU.out,HT.out.on HBU.out,HK1.out.on HU.out,Nat.le_refl _,⟨rfl,Or.inl ⟨rfl,rfl⟩⟩,⟨rfl,Or.inl ⟨rfl,rfl⟩⟩,⟨rfl,Or.inl ⟨rfl,rfl⟩⟩,fun y hy => by simp at hy,fun y hy => by simp at hy,fun k _ => ⟨by simp [Value.ownBlock],by simp [Value.ownBlock],fun y hy => by simp at hy⟩,fun k hk => by simp [Value.ownBlock] at hk,fun k hk => by simp [Value.ownBlock] at hk⟩
 have HG := thid (HH.out (w.heap.size + 1) (undoW W) (by omega) HBU.out HE.out)
 refine (L4.undo_st nothing 49 (fun _ _ => rfl) _ 51 (fun _ _ => rfl) _ W () trivial (fun e _ => e = .panicked (stopped c 0)) (fun _ e _ => e = .returned (.tuple #[])) ?_ ?_).mono ?_
 · refine (change1_stop hg ((HU.out.cell (p := ⟨w.heap.size,0,none⟩) (by show w.heap.size < W.heap.size; omega)).trans k0) ((HU.out.cell (p := ⟨w.heap.size + 1 + 1,0,none⟩) (by show w.heap.size + 1 + 1 < W.heap.size; omega)).trans k2) HG.out).mono ?_
   rintro e w1 ⟨rfl,B⟩
   exact ⟨(),rfl,trivial,nothing_moves B,_,_,_, .stop c 0⟩
 · intro W2 s' c' a _ _ hm
   refine (back_none (HK1.out.on (nothing_below hm))).mono ?_
   rintro e w1 ⟨rfl,B⟩
   exact ⟨(),rfl,trivial,nothing_moves B,_,_,_, .done⟩
 · rintro e w2 ⟨_,_,hm,hh⟩
   have HB4 := thid (tbelow_on HB3.out (nothing_below hm))
   have he: e = .returned (faultV c 0) := by
    rcases hh with ⟨h,_⟩ | ⟨c',a,s1,e2,c2,a2,t2,h1,h2,h3,rfl⟩
    · cases h
    · obtain ⟨rfl,rfl⟩ := stopped_inj h1
      subst h2
      cases h3
      rfl
   subst he
   clear hh hm HE HU HB3 HK1 k0 k2 HT HA HH HG HBU
   simp only [faultV]
   have ff := fun w => ffield c 0 w
   go_wp2
   refine bodyPost_ret (v := .int .i64 c) (by simp [results,Tryz.results20,go_sem]) rfl ⟨rfl,HB4.out⟩
end Go.Proofs.YtdnkbdjhccckhaaGreat
namespace Go.Proofs.YtdnkbdjhccckhaaGreat
open Go.RowKit
open L4 (Ar ArP Abs arV nv)
open L1 (stopped)
theorem tinsert1_stop {x b: Nat} {k: ByteArray} {c: Int} {w: World} (hc: w.cell? ⟨b,0,none⟩ = some (.string k)) (H: Calls Tryz.prog 43 #[.pointer (some ⟨x,0,none⟩), .string k] w fun e w1 => e = .panicked (stopped c 0) /\ Below w.heap.size w w1) :
 Calls Tryz.prog 42 #[.pointer (some ⟨x,0,none⟩), .pointer (some ⟨b,0,none⟩)] w fun e w1 => e = .panicked (stopped c 0) /\ Below w.heap.size w w1 := by
 have HH := thid H
 clear H
 go_enter Tryz.func42,Tryz.ntmps42
 go_wp2_with fail
 refine HH.out.mono ?_
 rintro e w1 ⟨rfl,hR⟩
 exact ⟨rfl,rfl,hR⟩
theorem tinsert_stop {s: Ar} {t r h l: Nat} {k: ByteArray} {c: Int} {w: World} (hA: ArP s w) (ht: TrC w t s.p r h l) (hr: r ≠ 0) (hk1: 1 <= k.size) (hk2: k.size <= 400)
 (H: ∀ (x: Nat) (W: World),Es W.heap.size s t x r h l r h l (.slice none 0 0) (.slice none 0 0) (.slice none 0 0) [] [] [] W -> Calls Tryz.prog 43 #[.pointer (some ⟨x,0,none⟩), .string k] W fun e w1 => e = .panicked (stopped c 0) /\ Below W.heap.size W w1) :
 Calls Tryz.prog 15 #[.pointer (some ⟨t,0,none⟩), .string k] w fun e w' => e = .returned (.int .i64 c) /\ Below w.heap.size w w' := by
 have HB1 := thid (tbelow w (.cells #[.string k] 9))
 have HA1 := thid (L4.arSt.below hA HB1.out)
 have HT1 := thid (ht.on HB1.out)
 have hc1: (w.alloc (.cells #[.string k] 9)).cell? ⟨w.heap.size,0,none⟩ = some (.string k) := by simp [go_sem]
 have HOV := thid (over_ok HT1.out hr)
 have HH := thid H
 clear hA ht H
 have hmf: ∀ (fn: Fn) (first cap: Array Value) (w: World),(Instr.makeFunc fn first cap).run Tryz.prog w = .ok (.func fn first cap) w := fun _ _ _ _ => rfl
 go_enter Tryz.func15,Tryz.ntmps15
 go_wp2_with fail
 refine HOV.out.mono ?_
 rintro e w2 ⟨rfl,B2⟩
 have hl2: w.heap.size < (w.alloc (.cells #[.string k] 9)).heap.size := by simp
 have hc2 := (B2.cell (p := ⟨w.heap.size,0,none⟩) hl2).trans hc1
 have HB2 := thid (tbelow_on HB1.out B2)
 have HA2 := thid (L4.arSt.below HA1.out B2)
 have HT2 := thid (HT1.out.on B2)
 have hl3: w.heap.size < w2.heap.size := Nat.lt_of_lt_of_le hl2 B2.size
 clear HOV B2 HA1 HT1 HB1 hc1 hl2
 have he: k.toList.isEmpty = false := by rw [L5.isEmpty_size]; exact decide_eq_false (by omega)
 have hk4: decide (400 < (k.size: Int)) = false := by simp; omega
 have HC := thid (change_stop HA2.out HT2.out 42 (fun _ _ => rfl) #[.pointer (some ⟨w.heap.size,0,none⟩)] (fun x W _ hb hE => by
  have hcW := (hb.cell (p := ⟨w.heap.size,0,none⟩) hl3).trans hc2
  simpa using tinsert1_stop hcW (HH.out x W hE)))
 clear HA2 HT2 HH
 go_wp2_with fail
 refine HC.out.mono ?_
 rintro e w3 ⟨rfl,B3⟩
 have HF := thid (tbelow_on HB2.out B3)
 clear HC HB2 hmf B3
 go_wp2
 go_ret
 exact ⟨rfl,HF.out⟩
theorem tdelete1_stop {x b: Nat} {k: ByteArray} {c: Int} {w: World} (hc: w.cell? ⟨b,0,none⟩ = some (.string k)) (H: Calls Tryz.prog 47 #[.pointer (some ⟨x,0,none⟩), .string k] w fun e w1 => e = .panicked (stopped c 0) /\ Below w.heap.size w w1) :
 Calls Tryz.prog 46 #[.pointer (some ⟨x,0,none⟩), .pointer (some ⟨b,0,none⟩)] w fun e w1 => e = .panicked (stopped c 0) /\ Below w.heap.size w w1 := by
 have HH := thid H
 clear H
 go_enter Tryz.func46,Tryz.ntmps46
 go_wp2_with fail
 refine HH.out.mono ?_
 rintro e w1 ⟨rfl,hR⟩
 exact ⟨rfl,rfl,hR⟩
theorem tdelete_stop {s: Ar} {t r h l: Nat} {k: ByteArray} {c: Int} {w: World} (hA: ArP s w) (ht: TrC w t s.p r h l) (hr: r ≠ 0)
 (H: ∀ (x: Nat) (W: World),Es W.heap.size s t x r h l r h l (.slice none 0 0) (.slice none 0 0) (.slice none 0 0) [] [] [] W -> Calls Tryz.prog 47 #[.pointer (some ⟨x,0,none⟩), .string k] W fun e w1 => e = .panicked (stopped c 0) /\ Below W.heap.size W w1) :
 Calls Tryz.prog 17 #[.pointer (some ⟨t,0,none⟩), .string k] w fun e w' => e = .returned (.int .i64 c) /\ Below w.heap.size w w' := by
 have HB1 := thid (tbelow w (.cells #[.string k] 9))
 have HA1 := thid (L4.arSt.below hA HB1.out)
 have HT1 := thid (ht.on HB1.out)
 have hc1: (w.alloc (.cells #[.string k] 9)).cell? ⟨w.heap.size,0,none⟩ = some (.string k) := by simp [go_sem]
 have HOV := thid (over_ok HT1.out hr)
 have HH := thid H
 clear hA ht H
 have hmf: ∀ (fn: Fn) (first cap: Array Value) (w: World),(Instr.makeFunc fn first cap).run Tryz.prog w = .ok (.func fn first cap) w := fun _ _ _ _ => rfl
 go_enter Tryz.func17,Tryz.ntmps17
 go_wp2_with fail
 refine HOV.out.mono ?_
 rintro e w2 ⟨rfl,B2⟩
 have hl2: w.heap.size < (w.alloc (.cells #[.string k] 9)).heap.size := by simp
 have hc2 := (B2.cell (p := ⟨w.heap.size,0,none⟩) hl2).trans hc1
 have HB2 := thid (tbelow_on HB1.out B2)
 have HA2 := thid (L4.arSt.below HA1.out B2)
 have HT2 := thid (HT1.out.on B2)
 have hl3: w.heap.size < w2.heap.size := Nat.lt_of_lt_of_le hl2 B2.size
 clear HOV B2 HA1 HT1 HB1 hc1 hl2
 have HC := thid (change_stop HA2.out HT2.out 46 (fun _ _ => rfl) #[.pointer (some ⟨w.heap.size,0,none⟩)] (fun x W _ hb hE => by
  have hcW := (hb.cell (p := ⟨w.heap.size,0,none⟩) hl3).trans hc2
  simpa using tdelete1_stop hcW (HH.out x W hE)))
 clear HA2 HT2 HH
 go_wp2_with fail
 refine HC.out.mono ?_
 rintro e w3 ⟨rfl,B3⟩
 have HF := thid (tbelow_on HB2.out B3)
 clear HC HB2 hmf B3
 go_wp2
 go_ret
 exact ⟨rfl,HF.out⟩
theorem tinsert_arg {s: Ar} {t r h l: Nat} {k: ByteArray} {w: World} (ht: TrC w t s.p r h l) (hr: r ≠ 0) (hk: k.size = 0 \/ 400 < k.size) :
 Calls Tryz.prog 15 #[.pointer (some ⟨t,0,none⟩), .string k] w fun e w' => e = .returned (.int .i64 15) /\ Below w.heap.size w w' := by
 have HB1 := thid (tbelow w (.cells #[.string k] 9))
 have HT1 := thid (ht.on HB1.out)
 have hc1: (w.alloc (.cells #[.string k] 9)).cell? ⟨w.heap.size,0,none⟩ = some (.string k) := by simp [go_sem]
 have HOV := thid (over_ok HT1.out hr)
 clear ht
 go_enter Tryz.func15,Tryz.ntmps15
 go_wp2_with fail
 refine HOV.out.mono ?_
 rintro e w2 ⟨rfl,B2⟩
 have hl2: w.heap.size < (w.alloc (.cells #[.string k] 9)).heap.size := by simp
 have hc2 := (B2.cell (p := ⟨w.heap.size,0,none⟩) hl2).trans hc1
 have HB2 := thid (tbelow_on HB1.out B2)
 have hl3: w.heap.size < w2.heap.size := Nat.lt_of_lt_of_le hl2 B2.size
 clear HOV B2 HT1 HB1 hc1 hl2
 rcases hk with h | h
 · have h1: k.toList.isEmpty = true := by rw [L5.isEmpty_size]; exact decide_eq_true h
   clear h
   go_wp2
   go_ret
   exact ⟨rfl,HB2.out⟩
 · have h1: k.toList.isEmpty = false := by rw [L5.isEmpty_size]; exact decide_eq_false (by omega)
   have h2: decide (400 < (k.size: Int)) = true := by simp; omega
   go_wp2
   go_ret
   exact ⟨rfl,HB2.out⟩
end Go.Proofs.YtdnkbdjhccckhaaGreat
