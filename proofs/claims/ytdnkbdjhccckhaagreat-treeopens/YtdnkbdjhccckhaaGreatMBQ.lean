import Derived.Test.YtdnkbdjhccckhaaGreatMBP
set_option maxRecDepth 100000
set_option maxHeartbeats 4000000
namespace Go.Proofs.YtdnkbdjhccckhaaGreat
open Go.RowKit
open L4 (Ar ArP Abs arV nv)
theorem six_new (w: World) (o0 o1 o2 o3 o4 o5: Obj): ((((((w.alloc o0).alloc o1).alloc o2).alloc o3).alloc o4).alloc o5).heap[w.heap.size]? = some o0 /\ ((((((w.alloc o0).alloc o1).alloc o2).alloc o3).alloc o4).alloc o5).heap[w.heap.size + 1]? = some o1 /\ ((((((w.alloc o0).alloc o1).alloc o2).alloc o3).alloc o4).alloc o5).heap[w.heap.size + 2]? = some o2 /\ ((((((w.alloc o0).alloc o1).alloc o2).alloc o3).alloc o4).alloc o5).heap[w.heap.size + 3]? = some o3 /\ ((((((w.alloc o0).alloc o1).alloc o2).alloc o3).alloc o4).alloc o5).heap[w.heap.size + 4]? = some o4 /\ ((((((w.alloc o0).alloc o1).alloc o2).alloc o3).alloc o4).alloc o5).heap[w.heap.size + 5]? = some o5 := by
 have nw: ∀ (W: World) (o: Obj) (k: Nat),W.heap.size = k -> (W.alloc o).heap[k]? = some o := fun W o k hk => by rw [<- hk]; exact heap_alloc_new W o
 have up: ∀ (W: World) (o o': Obj) (k: Nat),W.heap[k]? = some o -> (W.alloc o').heap[k]? = some o := fun W o o' k hk => ((tbelow W o').block k (Array.getElem?_eq_some_iff.1 hk).1).trans hk
 exact ⟨up _ _ _ _ (up _ _ _ _ (up _ _ _ _ (up _ _ _ _ (up _ _ _ _ (nw _ _ _ rfl))))),up _ _ _ _ (up _ _ _ _ (up _ _ _ _ (up _ _ _ _ (nw _ _ _ (by simp))))),up _ _ _ _ (up _ _ _ _ (up _ _ _ _ (nw _ _ _ (by simp)))),up _ _ _ _ (up _ _ _ _ (nw _ _ _ (by simp))),up _ _ _ _ (nw _ _ _ (by simp)),nw _ _ _ (by simp)⟩
section
variable {σ β: Type} {A: L4.St σ} {bt: σ -> β} {tl: β -> Nat -> L5.No -> β} {en: β -> Bool} {wt: β -> Nat} {M: Nat} {g g': FuncId} {f1 k1 f2 k2: Array Value} {s: Ar} {t r h: Nat} {fr: ByteArray}
theorem through_any (T: Teller A bt tl en wt M g g' f1 k1 f2 k2) {es: List ByteArray} {ps: List Nat} {b: σ} {w: World} (hT: TW s t r h es ps w) (hp: A.P b w) (d1: ∀ k,A.own b k -> ¬ s.own k) (d2: ∀ k,A.own b k -> k ≠ t) (hM: wt (bt b) + es.length + ps.length <= M) :
 Calls Tryz.prog 67 #[.pointer (some ⟨t,0,none⟩), .string fr, .func (.func g) f1 k1, .func (.func g') f2 k2] w fun e w' => e = .returned (.int .i64 0) /\ ∃ b',Vs s.abs fr tl en h r (bt b) (bt b') /\ A.P b' w' /\ L4.Moves A b b' w w' := by
 obtain ⟨c0,c1,c2,c3,ct,cf⟩ := hT.tr.cells
 have HT := thid T
 have HTW := thid hT
 have HP := thid hp
 have HD := thid (And.intro d1 d2)
 have HTL := thid (hT.tp.tall hT.ok)
 have hmf: ∀ (fn: Fn) (first cap: Array Value) (w: World),(Instr.makeFunc fn first cap).run Tryz.prog w = .ok (.func fn first cap) w := fun _ _ _ _ => rfl
 have own_lt: ∀ q,s.own q -> q < w.heap.size := fun q hq => L4.arSt.lt s w q hT.ar hq
 have ob: ∀ q,A.own b q -> q < w.heap.size := fun q hq => A.lt b w q hp hq
 have HLEN := thid (pages_le hT.ok hT.tp.nodup hT.tp.sub.pages)
 clear hT hp d1 d2 T
 go_enter Tryz.func67,Tryz.ntmps67
 have p5: ((((((w.alloc (.cells #[.pointer (some ⟨t,0,none⟩)] 29)).alloc (.cells #[.string fr] 9)).alloc (.cells #[.func (.func g) f1 k1] 67)).alloc (.cells #[.func (.func g') f2 k2] 23)).alloc (.cells #[.int .i64 4096] 3)).alloc (.cells #[.nilFunc] 145)).cell? ⟨w.heap.size + 1 + 1 + 1 + 1 + 1,0,none⟩ = some .nilFunc := by simp [go_sem]
 have f5: ∀ i,((((((w.alloc (.cells #[.pointer (some ⟨t,0,none⟩)] 29)).alloc (.cells #[.string fr] 9)).alloc (.cells #[.func (.func g) f1 k1] 67)).alloc (.cells #[.func (.func g') f2 k2] 23)).alloc (.cells #[.int .i64 4096] 3)).alloc (.cells #[.nilFunc] 145)).frozen? ⟨w.heap.size + 1 + 1 + 1 + 1 + 1,i,none⟩ = false := fun i => by simp [go_sem]
 go_wp2_with fail
 clear p5 f5
 have HB := thid ((((((tbelow w (.cells #[.pointer (some ⟨t,0,none⟩)] 29)).alloc (by simp) (.cells #[.string fr] 9)).alloc (by simp; omega) (.cells #[.func (.func g) f1 k1] 67)).alloc (by simp; omega) (.cells #[.func (.func g') f2 k2] 23)).alloc (by simp; omega) (.cells #[.int .i64 4096] 3)).alloc (by simp; omega) (.cells #[(.func (.func 92) #[] #[.pointer (some ⟨w.heap.size + 1 + 1 + 1 + 1,0,none⟩), .pointer (some ⟨w.heap.size,0,none⟩), .pointer (some ⟨w.heap.size + 1 + 1,0,none⟩), .pointer (some ⟨w.heap.size + 1,0,none⟩), .pointer (some ⟨w.heap.size + 1 + 1 + 1 + 1 + 1,0,none⟩), .pointer (some ⟨w.heap.size + 1 + 1 + 1,0,none⟩)])] 145))
 have z6: ((((((w.alloc (.cells #[.pointer (some ⟨t,0,none⟩)] 29)).alloc (.cells #[.string fr] 9)).alloc (.cells #[.func (.func g) f1 k1] 67)).alloc (.cells #[.func (.func g') f2 k2] 23)).alloc (.cells #[.int .i64 4096] 3)).alloc (.cells #[(.func (.func 92) #[] #[.pointer (some ⟨w.heap.size + 1 + 1 + 1 + 1,0,none⟩), .pointer (some ⟨w.heap.size,0,none⟩), .pointer (some ⟨w.heap.size + 1 + 1,0,none⟩), .pointer (some ⟨w.heap.size + 1,0,none⟩), .pointer (some ⟨w.heap.size + 1 + 1 + 1 + 1 + 1,0,none⟩), .pointer (some ⟨w.heap.size + 1 + 1 + 1,0,none⟩)])] 145)).heap.size = w.heap.size + 6 := by simp
 have v0: ((((((w.alloc (.cells #[.pointer (some ⟨t,0,none⟩)] 29)).alloc (.cells #[.string fr] 9)).alloc (.cells #[.func (.func g) f1 k1] 67)).alloc (.cells #[.func (.func g') f2 k2] 23)).alloc (.cells #[.int .i64 4096] 3)).alloc (.cells #[(.func (.func 92) #[] #[.pointer (some ⟨w.heap.size + 1 + 1 + 1 + 1,0,none⟩), .pointer (some ⟨w.heap.size,0,none⟩), .pointer (some ⟨w.heap.size + 1 + 1,0,none⟩), .pointer (some ⟨w.heap.size + 1,0,none⟩), .pointer (some ⟨w.heap.size + 1 + 1 + 1 + 1 + 1,0,none⟩), .pointer (some ⟨w.heap.size + 1 + 1 + 1,0,none⟩)])] 145)).cell? ⟨w.heap.size,0,none⟩ = some (.pointer (some ⟨t,0,none⟩)) := by simp [go_sem]
 have v2: ((((((w.alloc (.cells #[.pointer (some ⟨t,0,none⟩)] 29)).alloc (.cells #[.string fr] 9)).alloc (.cells #[.func (.func g) f1 k1] 67)).alloc (.cells #[.func (.func g') f2 k2] 23)).alloc (.cells #[.int .i64 4096] 3)).alloc (.cells #[(.func (.func 92) #[] #[.pointer (some ⟨w.heap.size + 1 + 1 + 1 + 1,0,none⟩), .pointer (some ⟨w.heap.size,0,none⟩), .pointer (some ⟨w.heap.size + 1 + 1,0,none⟩), .pointer (some ⟨w.heap.size + 1,0,none⟩), .pointer (some ⟨w.heap.size + 1 + 1 + 1 + 1 + 1,0,none⟩), .pointer (some ⟨w.heap.size + 1 + 1 + 1,0,none⟩)])] 145)).cell? ⟨w.heap.size + 1 + 1,0,none⟩ = some (.func (.func g) f1 k1) := by simp [go_sem]
 have v5: ((((((w.alloc (.cells #[.pointer (some ⟨t,0,none⟩)] 29)).alloc (.cells #[.string fr] 9)).alloc (.cells #[.func (.func g) f1 k1] 67)).alloc (.cells #[.func (.func g') f2 k2] 23)).alloc (.cells #[.int .i64 4096] 3)).alloc (.cells #[(.func (.func 92) #[] #[.pointer (some ⟨w.heap.size + 1 + 1 + 1 + 1,0,none⟩), .pointer (some ⟨w.heap.size,0,none⟩), .pointer (some ⟨w.heap.size + 1 + 1,0,none⟩), .pointer (some ⟨w.heap.size + 1,0,none⟩), .pointer (some ⟨w.heap.size + 1 + 1 + 1 + 1 + 1,0,none⟩), .pointer (some ⟨w.heap.size + 1 + 1 + 1,0,none⟩)])] 145)).cell? ⟨w.heap.size + 1 + 1 + 1 + 1 + 1,0,none⟩ = some (.func (.func 92) #[] #[.pointer (some ⟨w.heap.size + 1 + 1 + 1 + 1,0,none⟩), .pointer (some ⟨w.heap.size,0,none⟩), .pointer (some ⟨w.heap.size + 1 + 1,0,none⟩), .pointer (some ⟨w.heap.size + 1,0,none⟩), .pointer (some ⟨w.heap.size + 1 + 1 + 1 + 1 + 1,0,none⟩), .pointer (some ⟨w.heap.size + 1 + 1 + 1,0,none⟩)]) := by simp [go_sem]
 have v4: ((((((w.alloc (.cells #[.pointer (some ⟨t,0,none⟩)] 29)).alloc (.cells #[.string fr] 9)).alloc (.cells #[.func (.func g) f1 k1] 67)).alloc (.cells #[.func (.func g') f2 k2] 23)).alloc (.cells #[.int .i64 4096] 3)).alloc (.cells #[(.func (.func 92) #[] #[.pointer (some ⟨w.heap.size + 1 + 1 + 1 + 1,0,none⟩), .pointer (some ⟨w.heap.size,0,none⟩), .pointer (some ⟨w.heap.size + 1 + 1,0,none⟩), .pointer (some ⟨w.heap.size + 1,0,none⟩), .pointer (some ⟨w.heap.size + 1 + 1 + 1 + 1 + 1,0,none⟩), .pointer (some ⟨w.heap.size + 1 + 1 + 1,0,none⟩)])] 145)).heap[w.heap.size + 1 + 1 + 1 + 1]? = some (.cells #[.int .i64 4096] 3 (0,0)) := by
  have h := heap_alloc_new ((((w.alloc (.cells #[.pointer (some ⟨t,0,none⟩)] 29)).alloc (.cells #[.string fr] 9)).alloc (.cells #[.func (.func g) f1 k1] 67)).alloc (.cells #[.func (.func g') f2 k2] 23)) (.cells #[.int .i64 4096] 3)
  rw [show ((((w.alloc (.cells #[.pointer (some ⟨t,0,none⟩)] 29)).alloc (.cells #[.string fr] 9)).alloc (.cells #[.func (.func g) f1 k1] 67)).alloc (.cells #[.func (.func g') f2 k2] 23)).heap.size = w.heap.size + 1 + 1 + 1 + 1 by simp] at h
  exact ((tbelow _ _).block _ (by simp)).trans h
 have HV4 := thid v4
 clear v4
 have HVB := thid (six_new w (.cells #[.pointer (some ⟨t,0,none⟩)] 29) (.cells #[.string fr] 9) (.cells #[.func (.func g) f1 k1] 67) (.cells #[.func (.func g') f2 k2] 23) (.cells #[.int .i64 4096] 3) (.cells #[visV w.heap.size (w.heap.size + 1) (w.heap.size + 2) (w.heap.size + 3) (w.heap.size + 4) (w.heap.size + 5)] 145))
 unfold visV at HVB
 generalize ((((((w.alloc (.cells #[.pointer (some ⟨t,0,none⟩)] 29)).alloc (.cells #[.string fr] 9)).alloc (.cells #[.func (.func g) f1 k1] 67)).alloc (.cells #[.func (.func g') f2 k2] 23)).alloc (.cells #[.int .i64 4096] 3)).alloc (.cells #[(.func (.func 92) #[] #[.pointer (some ⟨w.heap.size + 1 + 1 + 1 + 1,0,none⟩), .pointer (some ⟨w.heap.size,0,none⟩), .pointer (some ⟨w.heap.size + 1 + 1,0,none⟩), .pointer (some ⟨w.heap.size + 1,0,none⟩), .pointer (some ⟨w.heap.size + 1 + 1 + 1 + 1 + 1,0,none⟩), .pointer (some ⟨w.heap.size + 1 + 1 + 1,0,none⟩)])] 145)) = V at *
 have t1 := (HB.out.cell (p := ⟨t,1,none⟩) ct).trans c1
 have t2: V.cell? ⟨t,2,none⟩ = some (.int .i64 (h: Int)) := (HB.out.cell (p := ⟨t,2,none⟩) ct).trans c2
 refine wp_region_quiet_tail (fun w' => ∃ n,w' = World.drewN V n) 11 (by kernel_rfl) (by kernel_rfl) ⟨1,rfl⟩ ?_
 simp only [List.take_succ_cons,List.take_zero,List.drop_succ_cons,List.drop_zero]
 repeat (go_big_quiet_step (fail))
 refine wpQuiet_nil ?_
 rintro _ ⟨nq,rfl⟩
 have hd: Below V.heap.size V (World.drewN V nq) := below_drewN (Below.refl _ _) nq
 have HB2 := thid (tbelow_on HB.out hd)
 have bl: ∀ {q: Nat} {o: Obj},V.heap[q]? = some o -> (World.drewN V nq).heap[q]? = some o := fun hq => (hd.block _ (Array.getElem?_eq_some_iff.1 hq).1).trans hq
 have HVW: Hid (Vw A s t r h es.length fr (.func (.func g) f1 k1) (.func (.func g') f2 k2) (visV w.heap.size (w.heap.size + 1) (w.heap.size + 2) (w.heap.size + 3) (w.heap.size + 4) (w.heap.size + 5)) w.heap.size (w.heap.size + 1) (w.heap.size + 2) (w.heap.size + 3) (w.heap.size + 4) (w.heap.size + 5) b 4096 (World.drewN V nq)) :=
  ⟨L4.arSt.below HTW.out.ar HB2.out,HTW.out.tr.on HB2.out,bl HVB.out.1,bl HVB.out.2.1,bl HVB.out.2.2.1,bl HVB.out.2.2.2.1,bl HVB.out.2.2.2.2.1,bl HVB.out.2.2.2.2.2,A.below HP.out HB2.out,HD.out.1,fun q hq => ⟨HD.out.2 q hq,by have := ob q hq; omega⟩,fun x => by have := own_lt _ x; omega⟩
 have HVI := thid (visit_any HT.out HTW.out.ok h r e0 e0 es ps b 4096 (World.drewN V nq) HTW.out.tp.sub HTL.out.1 HVW.out HLEN.out (Nat.le_refl _) hM)
 have hsz2: w.heap.size + 6 <= (World.drewN V nq).heap.size := by have := hd.size; omega
 clear v0 v2 v5 t1 t2 hd HB HV4 c0 c1 c2 c3 cf bl HVB HVW
 generalize World.drewN V nq = V2 at *
 go_wp2_with fail
 refine HVI.out.mono ?_
 rintro e w4 ⟨rfl,b',left',u1,u2,u3,u4,u5,u6,u7⟩
 have HF: Hid (∃ b',Vs s.abs fr tl en h r (bt b) (bt b') /\ A.P b' w4 /\ L4.Moves A b b' w w4) := by
  refine ⟨b',u1,u5.p,only_join (Only.of_below HB2.out) u6 (fun q hq => ?_),fun q hq => ?_⟩
  · rcases hq with hq | hq
    · exact Or.inl hq
    · exact Or.inr (by omega)
  · exact (u7 q hq).imp id fun y => by omega
 clear u1 u2 u3 u4 u5 u6 u7 HVI HB2
 go_wp2
 go_ret
 exact ⟨rfl,HF.out⟩
end
end Go.Proofs.YtdnkbdjhccckhaaGreat
