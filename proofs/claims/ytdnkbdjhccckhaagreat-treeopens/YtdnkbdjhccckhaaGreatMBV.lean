import Derived.Test.YtdnkbdjhccckhaaGreatMBS
set_option maxRecDepth 100000
set_option maxHeartbeats 4000000
namespace Go.Proofs.YtdnkbdjhccckhaaGreat
open Go.RowKit
open L4 (Ar ArP Abs arV nv)
open L5 (ltP ltB leB)
def StepQ (ins: Prop) (w0: World) (s: Ar) (t p h: Nat) (es: List ByteArray) (ps: List Nat) (w W: World): Prop := ∃ s' r' h' es' ps',Both w0 s' t p r' h' es' ps' es' W /\ Flow ins s.abs s'.abs h h' es es' ps ps' /\ s'.p = s.p /\ Only (fun q => s.own q \/ q = t \/ q = p) w W /\ ∀ k,s'.own k -> s.own k \/ w.heap.size <= k
theorem StepQ.weak {ins ins': Prop} {w0: World} {s: Ar} {t p h: Nat} {es: List ByteArray} {ps: List Nat} {w W: World} (k: StepQ ins w0 s t p h es ps w W) (hi: ins -> ins'): StepQ ins' w0 s t p h es ps w W := by
 obtain ⟨s',r',h',es',ps',k1,k2,k3,k4⟩ := k
 exact ⟨s',r',h',es',ps',k1,k2.weak hi,k3,k4⟩
theorem only_tree {s: Ar} {t p: Nat} {w w1 w2: World} (h0: Only (fun q => s.own q \/ q = t \/ q = p) w w1) (h1: Only (fun k => s.own k \/ k = t) w1 w2): Only (fun q => s.own q \/ q = t \/ q = p) w w2 := h0.trans (h1.weaken fun k _ e => by
 rcases e with e | e
 · exact Or.inl e
 · exact Or.inr (Or.inl e))
theorem only_set {s: Ar} {t p: Nat} {w w1 w2: World} (h0: Only (fun q => s.own q \/ q = t \/ q = p) w w1) (h1: Only (fun q => q = p) w1 w2): Only (fun q => s.own q \/ q = t \/ q = p) w w2 := h0.trans (h1.weaken fun _ _ e => Or.inr (Or.inr e))
theorem only_on {s: Ar} {t p: Nat} {w w1 w2: World} (h0: Only (fun q => s.own q \/ q = t \/ q = p) w w1) (h1: Below w1.heap.size w1 w2): Only (fun q => s.own q \/ q = t \/ q = p) w w2 := h0.trans (Only.of_below h1)
theorem del_same {es es': List ByteArray} {x: ByteArray} {c: Int} (h: DelI es x c es') (hr: es.Pairwise ltP): delD es x = (c,es') := by
 rcases h with ⟨h1,rfl,rfl⟩ | ⟨h1,rfl,rfl⟩
 · have: ¬ L5.isAt es' x (es'.countP (ltB x)) = true := fun e => h1 ((isAt_mem hr x).1 e)
   simp [delD,this]
 · have := (isAt_mem hr x).2 h1
   simp [delD,this]
theorem ins_same {es es': List ByteArray} {x: ByteArray} {c: Int} {left h: Nat} (k: InsR es x left h c es') (hr: es.Pairwise ltP) (hn: ¬ (c = 9)): insD es x = (c,es') := by
 rcases k with ⟨h1,rfl,rfl⟩ | ⟨⟨h1,h2⟩,⟨h3,rfl,rfl⟩ | ⟨h3,⟨h4,rfl,rfl⟩ | ⟨h4,rfl,rfl⟩⟩⟩
 · unfold insD
   rw [if_pos (by omega)]
 · have e := (isAt_mem hr x).2 h3
   unfold insD
   rw [if_neg (by omega)]
   simp [e]
 · exact absurd rfl hn
 · have e: ¬ L5.isAt es x (es.countP (ltB x)) = true := fun e => h3 ((isAt_mem hr x).1 e)
   unfold insD
   rw [if_neg (by omega)]
   simp [e]
theorem step_del {w0: World} {s: Ar} {t p r h: Nat} {es: List ByteArray} {ps: List Nat} {w: World} {o: TOp} (k: Both w0 s t p r h es ps es w) (hl: es.length <= 900) (hs: o.s.size <= 420) (hk: o.k = 1) :
 Calls Tryz.prog 8 #[arV s.p, .pointer (some ⟨t,0,none⟩), .pointer (some ⟨p,0,none⟩),oV o] w fun e W => e = .returned (.bool true) /\ StepQ (o.k = 0) w0 s t p h es ps w W := by
 obtain ⟨ok,on,os⟩ := o
 simp only at hs
 obtain rfl := (hk: ok = 1)
 have HTX := thid (fun (W: World) => text_walk (o := ⟨1,on,os⟩) (w := W) hs)
 unfold oV at HTX
 have HK := thid k
 clear k
 unfold arV
 show Calls Tryz.prog 8 #[.pointer (some ⟨s.p,0,none⟩), .pointer (some ⟨t,0,none⟩), .pointer (some ⟨p,0,none⟩), .agg #[.int .i64 1, .int .i64 on, .string os]] w _
 obtain ⟨x,hx⟩: ∃ x,textO ⟨1,on,os⟩ = x := ⟨_,rfl⟩
 rw [hx] at HTX
 have HB1 := thid (tbelow w (.cells #[.int .i64 1, .int .i64 on, .string os] 37))
 have a1 := heap_alloc_new w (.cells #[.int .i64 1, .int .i64 on, .string os] 37)
 cases hb: textB ⟨1,on,os⟩
 · rw [hb] at HTX
   go_enter Tryz.func8,Tryz.ntmps8
   go_wp2_with fail
   refine (HTX.out _).mono ?_
   rintro e w1 ⟨rfl,hb1⟩
   have HB := thid (tbelow_on HB1.out hb1)
   have HK1 := thid (HK.out.on HB.out)
   have HON: Hid (Only (fun q => s.own q \/ q = t \/ q = p) w w1) := Only.of_below HB.out
   have a2 := (hb1.block _ (Array.getElem?_eq_some_iff.1 a1).1).trans a1
   have o0: w1.cell? ⟨w.heap.size,0,none⟩ = some (.int .i64 1) := by rw [cell_of_row _ _ _ _ _ _ a2]; rfl
   have o1: w1.cell? ⟨w.heap.size,1,none⟩ = some (.int .i64 on) := by rw [cell_of_row _ _ _ _ _ _ a2]; rfl
   have ol := (Array.getElem?_eq_some_iff.1 a2).1
   clear hb1 HTX HK HB1 a1
   have HF: Hid (StepQ ((1: Int) = 0) w0 s t p h es ps w w1) := ⟨s,r,h,es,ps,HK1.out,Flow.refl,rfl,HON.out,fun _ h => Or.inl h⟩
   clear HK1 HB a2
   go_wp2
   go_ret
   exact ⟨rfl,HF.out⟩
 · rw [hb] at HTX
   go_enter Tryz.func8,Tryz.ntmps8
   go_wp2_with fail
   refine (HTX.out _).mono ?_
   rintro e w1 ⟨rfl,hb1⟩
   have HB := thid (tbelow_on HB1.out hb1)
   have HK1 := thid (HK.out.on HB.out)
   have HON: Hid (Only (fun q => s.own q \/ q = t \/ q = p) w w1) := Only.of_below HB.out
   have a2 := (hb1.block _ (Array.getElem?_eq_some_iff.1 a1).1).trans a1
   have o0: w1.cell? ⟨w.heap.size,0,none⟩ = some (.int .i64 1) := by rw [cell_of_row _ _ _ _ _ _ a2]; rfl
   have o1: w1.cell? ⟨w.heap.size,1,none⟩ = some (.int .i64 on) := by rw [cell_of_row _ _ _ _ _ _ a2]; rfl
   have ol := (Array.getElem?_eq_some_iff.1 a2).1
   clear hb1 HTX HK HB1 a1
   clear a2 HB
   have hri := HK1.out.rise
   go_wp2_with fail
   refine (tdelete_tree HK1.out.tw HK1.out.ru (by omega)).mono ?_
   rintro e w2 ⟨cc,s',r',h',es',ps',rfl,hD,hT⟩
   have hd := del_same hD hri
   have HLE := thid (hT.2.2.2.2.2.2.weak (ins' := (1: Int) = 0) False.elim)
   have HPP := thid hT.2.2.1
   have HGG: Hid (∀ k,s'.own k -> s.own k \/ w.heap.size <= k) := fun k hk => (hT.2.2.2.2.2.1 k hk).imp id fun h => Nat.le_trans HON.out.size h
   have HON2 := thid (only_tree HON.out hT.2.2.2.2.1)
   have HK2 := thid (HK1.out.tree hT)
   have HSD := thid (sdel_walk (x := x) HK2.out.st HK2.out.bel.size (by omega) hri)
   rw [hd] at HSD
   have hcc: (cc == cc) = true := by simp
   clear hd hD hT HK1 hri
   go_wp2_with fail
   refine HSD.out.mono ?_
   rintro e w3 ⟨rfl,q1,q2⟩
   have HF: Hid (StepQ ((1: Int) = 0) w0 s t p h es ps w w3) := ⟨s',r',h',es',ps',HK2.out.set q1 q2,HLE.out,HPP.out,only_set HON2.out q2,HGG.out⟩
   clear HSD HK2 q1 q2
   go_wp2
   go_ret
   exact ⟨rfl,HF.out⟩
theorem step_limit {w0: World} {s: Ar} {t p r h: Nat} {es: List ByteArray} {ps: List Nat} {w: World} {o: TOp} (k: Both w0 s t p r h es ps es w) (_hl: es.length <= 900) (hs: o.s.size <= 420) (hk: o.k = 3) :
 Calls Tryz.prog 8 #[arV s.p, .pointer (some ⟨t,0,none⟩), .pointer (some ⟨p,0,none⟩),oV o] w fun e W => e = .returned (.bool true) /\ StepQ (o.k = 0) w0 s t p h es ps w W := by
 obtain ⟨ok,on,os⟩ := o
 simp only at hs
 obtain rfl := (hk: ok = 3)
 have HTX := thid (fun (W: World) => text_walk (o := ⟨3,on,os⟩) (w := W) hs)
 unfold oV at HTX
 have HK := thid k
 clear k
 unfold arV
 show Calls Tryz.prog 8 #[.pointer (some ⟨s.p,0,none⟩), .pointer (some ⟨t,0,none⟩), .pointer (some ⟨p,0,none⟩), .agg #[.int .i64 3, .int .i64 on, .string os]] w _
 obtain ⟨x,hx⟩: ∃ x,textO ⟨3,on,os⟩ = x := ⟨_,rfl⟩
 rw [hx] at HTX
 have HB1 := thid (tbelow w (.cells #[.int .i64 3, .int .i64 on, .string os] 37))
 have a1 := heap_alloc_new w (.cells #[.int .i64 3, .int .i64 on, .string os] 37)
 obtain ⟨bb,hb⟩: ∃ bb,textB ⟨3,on,os⟩ = bb := ⟨_,rfl⟩
 rw [hb] at HTX
 by_cases hm: 0 <= on /\ on <= 4096
 · obtain ⟨m,rfl⟩: ∃ m: Nat,on = (m: Int) := ⟨on.toNat,by omega⟩
   go_enter Tryz.func8,Tryz.ntmps8
   go_wp2_with fail
   refine (HTX.out _).mono ?_
   rintro e w1 ⟨rfl,hb1⟩
   have HB := thid (tbelow_on HB1.out hb1)
   have HK1 := thid (HK.out.on HB.out)
   have HON: Hid (Only (fun q => s.own q \/ q = t \/ q = p) w w1) := Only.of_below HB.out
   have a2 := (hb1.block _ (Array.getElem?_eq_some_iff.1 a1).1).trans a1
   have o0: w1.cell? ⟨w.heap.size,0,none⟩ = some (.int .i64 3) := by rw [cell_of_row _ _ _ _ _ _ a2]; rfl
   have o1: w1.cell? ⟨w.heap.size,1,none⟩ = some (.int .i64 (m: Int)) := by rw [cell_of_row _ _ _ _ _ _ a2]; rfl
   have ol := (Array.getElem?_eq_some_iff.1 a2).1
   clear hb1 HTX HK HB1 a1
   have HL := thid (L4.limit_ok HK1.out.tw.ar m (by omega))
   unfold arV at HL
   go_wp2_with fail
   refine HL.out.mono ?_
   rintro e w2 ⟨rfl,s',hA,hp,hab,hM⟩
   have HF: Hid (StepQ ((3: Int) = 0) w0 s t p h es ps w w2) := ⟨s',r,h,es,ps,HK1.out.limit hA hp hab (by omega) hM,Flow.at_ (fun q => by rw [hab]; rfl) (by rw [hab]; rfl),hp,HON.out.trans (hM.only.weaken fun _ _ e => Or.inl e),fun k hk => (hM.own k hk).imp id fun h => Nat.le_trans HON.out.size h⟩
   clear HL hA hM HK1
   go_wp2
   go_ret
   exact ⟨rfl,HF.out⟩
 · have hmb: L4.mayB on = false := by unfold L4.mayB; simp; omega
   go_enter Tryz.func8,Tryz.ntmps8
   go_wp2_with fail
   refine (HTX.out _).mono ?_
   rintro e w1 ⟨rfl,hb1⟩
   have HB := thid (tbelow_on HB1.out hb1)
   have HK1 := thid (HK.out.on HB.out)
   have HON: Hid (Only (fun q => s.own q \/ q = t \/ q = p) w w1) := Only.of_below HB.out
   have a2 := (hb1.block _ (Array.getElem?_eq_some_iff.1 a1).1).trans a1
   have o0: w1.cell? ⟨w.heap.size,0,none⟩ = some (.int .i64 3) := by rw [cell_of_row _ _ _ _ _ _ a2]; rfl
   have o1: w1.cell? ⟨w.heap.size,1,none⟩ = some (.int .i64 on) := by rw [cell_of_row _ _ _ _ _ _ a2]; rfl
   have ol := (Array.getElem?_eq_some_iff.1 a2).1
   clear hb1 HTX HK HB1 a1
   have HL := thid (fun (W: World) => L4.limit_no (p := s.p) hmb W)
   unfold arV at HL
   have HF: Hid (StepQ ((3: Int) = 0) w0 s t p h es ps w w1) := ⟨s,r,h,es,ps,HK1.out,Flow.refl,rfl,HON.out,fun _ h => Or.inl h⟩
   clear HK1
   go_wp2_with fail
   refine (HL.out _).mono ?_
   rintro e w2 ⟨rfl,rfl⟩
   go_wp2
   go_ret
   exact ⟨rfl,HF.out⟩
theorem step_none_ {w0: World} {s: Ar} {t p r h: Nat} {es: List ByteArray} {ps: List Nat} {w: World} {o: TOp} (k: Both w0 s t p r h es ps es w) (_hl: es.length <= 900) (hs: o.s.size <= 420) (hk0: o.k ≠ 0) (hk1: o.k ≠ 1) (hk2: o.k ≠ 2) (hk3: o.k ≠ 3) :
 Calls Tryz.prog 8 #[arV s.p, .pointer (some ⟨t,0,none⟩), .pointer (some ⟨p,0,none⟩),oV o] w fun e W => e = .returned (.bool true) /\ StepQ (o.k = 0) w0 s t p h es ps w W := by
 obtain ⟨ok,on,os⟩ := o
 simp only at hs
 simp only at hk0 hk1 hk2 hk3
 have HTX := thid (fun (W: World) => text_walk (o := ⟨ok,on,os⟩) (w := W) hs)
 unfold oV at HTX
 have HK := thid k
 clear k
 unfold arV
 show Calls Tryz.prog 8 #[.pointer (some ⟨s.p,0,none⟩), .pointer (some ⟨t,0,none⟩), .pointer (some ⟨p,0,none⟩), .agg #[.int .i64 ok, .int .i64 on, .string os]] w _
 obtain ⟨x,hx⟩: ∃ x,textO ⟨ok,on,os⟩ = x := ⟨_,rfl⟩
 rw [hx] at HTX
 have HB1 := thid (tbelow w (.cells #[.int .i64 ok, .int .i64 on, .string os] 37))
 have a1 := heap_alloc_new w (.cells #[.int .i64 ok, .int .i64 on, .string os] 37)
 obtain ⟨bb,hb⟩: ∃ bb,textB ⟨ok,on,os⟩ = bb := ⟨_,rfl⟩
 rw [hb] at HTX
 have e0: (ok == 0) = false := by simpa using hk0
 have e1: (ok == 1) = false := by simpa using hk1
 have e2: (ok == 2) = false := by simpa using hk2
 have e3: (ok == 3) = false := by simpa using hk3
 go_enter Tryz.func8,Tryz.ntmps8
 go_wp2_with fail
 refine (HTX.out _).mono ?_
 rintro e w1 ⟨rfl,hb1⟩
 have HB := thid (tbelow_on HB1.out hb1)
 have HK1 := thid (HK.out.on HB.out)
 have HON: Hid (Only (fun q => s.own q \/ q = t \/ q = p) w w1) := Only.of_below HB.out
 have a2 := (hb1.block _ (Array.getElem?_eq_some_iff.1 a1).1).trans a1
 have o0: w1.cell? ⟨w.heap.size,0,none⟩ = some (.int .i64 ok) := by rw [cell_of_row _ _ _ _ _ _ a2]; rfl
 have o1: w1.cell? ⟨w.heap.size,1,none⟩ = some (.int .i64 on) := by rw [cell_of_row _ _ _ _ _ _ a2]; rfl
 have ol := (Array.getElem?_eq_some_iff.1 a2).1
 clear hb1 HTX HK HB1 a1
 have HF: Hid (StepQ (ok = 0) w0 s t p h es ps w w1) := ⟨s,r,h,es,ps,HK1.out,Flow.refl,rfl,HON.out,fun _ h => Or.inl h⟩
 clear HK1 HB a2
 go_wp2
 go_ret
 exact ⟨rfl,HF.out⟩
end Go.Proofs.YtdnkbdjhccckhaaGreat
