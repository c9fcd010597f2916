import Derived.Test.YteibhbnlcpejpaaGreatMAV
import Derived.Test.YteibhbnlcpejpaaGreatMAB
import Derived.Test.YteibhbnlcpejpaaGreatMAA
set_option maxRecDepth 100000
set_option maxHeartbeats 4000000
namespace Go.Proofs.YteibhbnlcpejpaaGreat
open Go.RowKit
theorem hid {p: Prop} (h: p): Hid p := h
structure Col where
 s: ByteArray
 t: Int
 nn: Bool
 uq: Bool
structure Va where
 k: Int
 n: Int
 s: ByteArray
def colVS (c: Col): Value := .agg #[.string c.s, .int .i64 c.t, .bool c.nn, .bool c.uq]
def SlC (W: World) (a: Option Addr) (l: List Col): Prop := l = [] \/ ∃ b o,a = some ⟨b,o,none⟩ /\ b < W.heap.size /\ ∀ j c,l[j]? = some c ->
 W.cell? ⟨b,o + j * 4,none⟩ = some (.string c.s) /\ W.cell? ⟨b,o + j * 4 + 1,none⟩ = some (.int .i64 c.t) /\ W.cell? ⟨b,o + j * 4 + 2,none⟩ = some (.bool c.nn) /\ W.cell? ⟨b,o + j * 4 + 3,none⟩ = some (.bool c.uq)
def SlV (W: World) (a: Option Addr) (l: List Va): Prop := l = [] \/ ∃ b o,a = some ⟨b,o,none⟩ /\ b < W.heap.size /\ ∀ j v,l[j]? = some v ->
 W.cell? ⟨b,o + j * 3,none⟩ = some (.int .i64 v.k) /\ W.cell? ⟨b,o + j * 3 + 1,none⟩ = some (.int .i64 v.n) /\ W.cell? ⟨b,o + j * 3 + 2,none⟩ = some (.string v.s)
theorem SlC.below {W W': World} {a: Option Addr} {l: List Col} {m: Nat} (h: SlC W a l) (hb: Below m W W') (hm: W.heap.size <= m): SlC W' a l := by
 rcases h with h | ⟨b,o,e,hlt,hc⟩
 · exact Or.inl h
 · refine Or.inr ⟨b,o,e, ?_,fun j c hj => ?_⟩
   · have := hb.size; omega
   · obtain ⟨c0,c1,c2,c3⟩ := hc j c hj
     have e := fun i => hb.cell (p := ⟨b,i,none⟩) (show b < m by omega)
     simp only [e]
     exact ⟨c0,c1,c2,c3⟩
theorem SlV.below {W W': World} {a: Option Addr} {l: List Va} {m: Nat} (h: SlV W a l) (hb: Below m W W') (hm: W.heap.size <= m): SlV W' a l := by
 rcases h with h | ⟨b,o,e,hlt,hc⟩
 · exact Or.inl h
 · refine Or.inr ⟨b,o,e, ?_,fun j c hj => ?_⟩
   · have := hb.size; omega
   · obtain ⟨c0,c1,c2⟩ := hc j c hj
     have e := fun i => hb.cell (p := ⟨b,i,none⟩) (show b < m by omega)
     simp only [e]
     exact ⟨c0,c1,c2⟩
theorem SlC.at {W: World} {a: Option Addr} {l: List Col} (h: SlC W a l) {j: Nat} (hj: j < l.length): ∃ b o,a = some ⟨b,o,none⟩ /\ b < W.heap.size /\
 W.cell? ⟨b,o + j * 4,none⟩ = some (.string l[j].s) /\ W.cell? ⟨b,o + j * 4 + 1,none⟩ = some (.int .i64 l[j].t) /\ W.cell? ⟨b,o + j * 4 + 2,none⟩ = some (.bool l[j].nn) /\ W.cell? ⟨b,o + j * 4 + 3,none⟩ = some (.bool l[j].uq) := by
 rcases h with rfl | ⟨b,o,e,hlt,hc⟩
 · simp at hj
 · exact ⟨b,o,e,hlt,hc j _ (List.getElem?_eq_getElem hj)⟩
theorem SlV.at {W: World} {a: Option Addr} {l: List Va} (h: SlV W a l) {j: Nat} (hj: j < l.length): ∃ b o,a = some ⟨b,o,none⟩ /\ b < W.heap.size /\
 W.cell? ⟨b,o + j * 3,none⟩ = some (.int .i64 l[j].k) /\ W.cell? ⟨b,o + j * 3 + 1,none⟩ = some (.int .i64 l[j].n) /\ W.cell? ⟨b,o + j * 3 + 2,none⟩ = some (.string l[j].s) := by
 rcases h with rfl | ⟨b,o,e,hlt,hc⟩
 · simp at hj
 · exact ⟨b,o,e,hlt,hc j _ (List.getElem?_eq_getElem hj)⟩
def fitE (c: Col) (v: Va): Int := if rightB v.k v.n v.s = false then 15 else if v.k = 0 then (if c.nn then 5 else 0) else if v.k = c.t then 0 else 4
theorem fitE_15 {c: Col} {v: Va} (h: rightB v.k v.n v.s = false): fitE c v = 15 := by simp [fitE,h]
theorem fitE_5 {c: Col} {v: Va} (h: rightB v.k v.n v.s = true) (h0: v.k = 0) (hn: c.nn = true): fitE c v = 5 := by unfold fitE; rw [if_neg (by simp [h]),if_pos h0,if_pos hn]
theorem fitE_0 {c: Col} {v: Va} (h: rightB v.k v.n v.s = true) (h0: v.k = 0) (hn: c.nn = false): fitE c v = 0 := by unfold fitE; rw [if_neg (by simp [h]),if_pos h0,if_neg (by simp [hn])]
theorem fitE_eq {c: Col} {v: Va} (h: rightB v.k v.n v.s = true) (h0: ¬ v.k = 0) (ht: v.k = c.t): fitE c v = 0 := by unfold fitE; rw [if_neg (by simp [h]),if_neg h0,if_pos ht]
theorem fitE_4 {c: Col} {v: Va} (h: rightB v.k v.n v.s = true) (h0: ¬ v.k = 0) (ht: ¬ v.k = c.t): fitE c v = 4 := by simp [fitE,h,h0,ht]
def fitL: List Col -> List Va -> Int
 | c :: cs,v :: vs => if fitE c v = 0 then fitL cs vs else fitE c v
 | _,_ => 0
theorem fitL_step {l: List Col} {r: List Va} {k: Nat} (h1: k < l.length) (h2: k < r.length): fitL (l.drop k) (r.drop k) = if fitE l[k] r[k] = 0 then fitL (l.drop (k + 1)) (r.drop (k + 1)) else fitE l[k] r[k] := by
 rw [List.drop_eq_getElem_cons h1,List.drop_eq_getElem_cons h2]; rfl
theorem fitL_end {l: List Col} {r: List Va} {k: Nat} (h1: l.length <= k): fitL (l.drop k) (r.drop k) = 0 := by
 rw [List.drop_eq_nil_of_le h1]; rfl
def fitT (l: List Col) (r: List Va): Int := if l.length = r.length then fitL l r else 15
theorem ret_int {k: IntKind} {a b: Int} (h: a = b): Ending.returned (.int k a) = .returned (.int k b) := by rw [h]
theorem below_drewNs {B: Nat} {a w: World} (h: Below B a w) (n: Nat): Below B a (w.drewN n) := ⟨h.os,h.tape,h.output,h.size,h.block⟩
theorem rfit_walk (l: List Col) (r: List Va) {a a': Option Addr} {c c': Nat} {w: World} (hl: SlC w a l) (hr: SlV w a' r) (h1: l.length <= 50) :
 Calls Tryz.prog 33 #[.slice a l.length c, .slice a' r.length c'] w fun e w' => e = .returned (.int .i64 (fitT l r)) /\ Below w.heap.size w w' := by
 by_cases he: l.length = r.length
 · have HT: Hid (fitT l r = fitL l r) := by unfold fitT Hid; rw [if_pos he]
   have HL := hid hl
   have HV := hid hr
   have HE := hid he
   clear hl hr he
   have he': ((l.length: Int) != (r.length: Int)) = false := by rw [HE.out]; simp
   go_enter Tryz.func33,Tryz.ntmps33
   go_wp2
   go_loopw [5] (fun i wx => ∃ k: Nat,k <= l.length /\ i = .int .i64 k /\ Below w.heap.size w wx /\ Hid (fitL l r = fitL (l.drop k) (r.drop k))) (fun i _ => l.length - (intOf i).toNat)
   case atStart => exact ⟨0,Nat.zero_le _,rfl,Below.refl _ _,rfl⟩
   case round =>
    obtain ⟨k,hk,rfl,HB,HF⟩ := hrel
    by_cases hlt: k < l.length
    · have hlt': k < r.length := by have := HE.out; omega
      obtain ⟨b',o',rfl,hb',v0,v1,v2⟩ := (HV.out.below HB (Nat.le_refl _)).at hlt'
      have HW := rright_walk r[k].k r[k].n r[k].s
      unfold valV at HW
      go_wp2_with fail
      refine (HW _).mono ?_
      rintro e w1 ⟨rfl,B1⟩
      have HB1 := hid (HB.trans (B1.mono HB.size))
      clear v0 v1 v2 hb' B1 HB HW
      obtain ⟨b',o',h',hb',v0,v1,v2⟩ := (HV.out.below HB1.out (Nat.le_refl _)).at hlt'
      cases h'
      obtain ⟨b,o,rfl,hb,c0,c1,c2,c3⟩ := (HL.out.below HB1.out (Nat.le_refl _)).at hlt
      have HS := hid (fitL_step hlt hlt')
      have H15 := hid (@fitE_15 l[k] r[k])
      have H5 := hid (@fitE_5 l[k] r[k])
      have H0 := hid (@fitE_0 l[k] r[k])
      have HE' := hid (@fitE_eq l[k] r[k])
      have H4 := hid (@fitE_4 l[k] r[k])
      generalize hcc: l[k] = cc at *
      generalize hvv: r[k] = vv at *
      clear hcc hvv
      obtain ⟨x0,x1,x2,x3⟩ := cc
      obtain ⟨y0,y1,y2⟩ := vv
      dsimp only at *
      generalize fitE ⟨x0,x1,x2,x3⟩ ⟨y0,y1,y2⟩ = E at *
      cases hq: rightB y0 y1 y2
      · go_wp2
        go_ret
        exact ⟨ret_int (by rw [HT.out,HF.out,HS.out,H15.out hq]; rfl),HB1.out⟩
      · by_cases hk0: y0 = 0
        · subst hk0
          cases hn: x2
          · go_wp2
            go_roundw
            case rel => exact ⟨k + 1,hlt,by go_num,HB1.out,by rw [HF.out,HS.out,H0.out hq (by simp) hn]; rfl⟩
            case measure => simp [intOf]; omega
          · go_wp2
            go_ret
            exact ⟨ret_int (by rw [HT.out,HF.out,HS.out,H5.out hq (by simp) hn]; rfl),HB1.out⟩
        · have hk': (y0 == 0) = false := beq_eq_false_iff_ne.2 hk0
          by_cases ht: y0 = x1
          · have HT': Hid (y0 = x1) := ht
            have ht': (y0 == x1) = true := beq_iff_eq.2 ht
            clear ht
            go_wp2_with fail
            go_quiet (fail)
            go_wp2
            go_roundw
            case rel => exact ⟨k + 1,hlt,by go_num,below_drewNs HB1.out _,by rw [HF.out,HS.out,HE'.out hq hk0 HT'.out]; rfl⟩
            case measure => simp [intOf]; omega
          · have ht': (y0 == x1) = false := beq_eq_false_iff_ne.2 ht
            go_wp2_with fail
            go_quiet (fail)
            go_wp2
            go_ret
            exact ⟨ret_int (by rw [HT.out,HF.out,HS.out,H4.out hq hk0 ht]; rfl),below_drewNs HB1.out _⟩
    · have hlt': (l.length: Int) <= (k: Int) := by omega
      go_wp2
      go_ret
      exact ⟨ret_int (by rw [HT.out,HF.out,fitL_end (by omega)]),HB⟩
 · have HT: Hid (fitT l r = 15) := by unfold fitT Hid; rw [if_neg he]
   have he': ((l.length: Int) != (r.length: Int)) = true := bne_iff_ne.2 (by omega)
   go_enter Tryz.func33,Tryz.ntmps33
   go_wp2
   go_ret
   exact ⟨ret_int HT.out.symm,Below.refl _ _⟩
theorem any_snoc_false {α: Type} {l: List α} {p: α -> Bool} {k: Nat} (hk: k < l.length) (h: (l.take k).any p = false) (hp: p l[k] = false): (l.take (k + 1)).any p = false := by
 rw [List.take_succ_eq_append_getElem hk,List.any_append,h]; simp [hp]
theorem sc_any_at {α: Type} {l: List α} {p: α -> Bool} {k: Nat} (hk: k < l.length) (hp: p l[k] = true): l.any p = true := List.any_eq_true.2 ⟨_,List.getElem_mem hk,hp⟩
theorem any_all {α: Type} {l: List α} {p: α -> Bool} {k: Nat} (hk: l.length <= k) (h: (l.take k).any p = false): l.any p = false := by
 rwa [List.take_of_length_le hk] at h
def eqS (a b: ByteArray): Bool := a.toList == b.toList
def findI (l: List Col) (s: ByteArray): Int := match l.findIdx? (fun c => eqS c.s s) with
 | some i => i
 | none => -1
theorem findI_at {l: List Col} {s: ByteArray} {k: Nat} (hk: k < l.length) (h: (l.take k).any (fun c => eqS c.s s) = false) (he: eqS l[k].s s = true): findI l s = k := by
 have: l.findIdx? (fun c => eqS c.s s) = some k := by
  rw [List.findIdx?_eq_some_iff_getElem]
  refine ⟨hk,he,fun j hj => ?_⟩
  have h' := List.any_eq_false.1 h (l[j]'(by omega)) (by
   rw [List.mem_take_iff_getElem]
   exact ⟨j,by omega,rfl⟩)
  simpa using h'
 unfold findI; rw [this]
theorem findI_none {l: List Col} {s: ByteArray} {k: Nat} (hk: l.length <= k) (h: (l.take k).any (fun c => eqS c.s s) = false): findI l s = -1 := by
 rw [List.take_of_length_le hk] at h
 have: l.findIdx? (fun c => eqS c.s s) = none := by
  rw [List.findIdx?_eq_none_iff]
  intro x hx
  have := List.any_eq_false.1 h x hx
  simpa using this
 unfold findI; rw [this]
theorem find1_walk (x0 s: ByteArray) (x1: Int) (x2 x3: Bool) (g: Nat) {w: World} (hg: g < w.heap.size) (hc: w.cell? ⟨g,0,none⟩ = some (.string s)) :
 Calls Tryz.prog 191 #[.agg #[.string x0, .int .i64 x1, .bool x2, .bool x3], .pointer (some ⟨g,0,none⟩)] w fun e w' => e = .returned (.bool (eqS x0 s)) /\ Below w.heap.size w w' := by
 go_enter Tryz.func191,Tryz.ntmps191
 go_wp2
 go_ret
 exact ⟨rfl,below_alloc _ _⟩
theorem idx_walk (l: List Col) (s: ByteArray) {a: Option Addr} {c g: Nat} {w: World} (hl: SlC w a l) (h1: l.length <= 50) (hg: g < w.heap.size) (hc: w.cell? ⟨g,0,none⟩ = some (.string s)) :
 Calls Tryz.prog 190 #[.slice a l.length c, .func (.func 191) #[] #[.pointer (some ⟨g,0,none⟩)]] w fun e w' => e = .returned (.int .i64 (findI l s)) /\ Below w.heap.size w w' := by
 have HL := hid hl
 clear hl
 go_enter Tryz.func190,Tryz.ntmps190
 go_wp2
 go_loopw [8] (fun i wx => ∃ k: Nat,k <= l.length /\ i = .int .i64 k /\ Below w.heap.size w wx /\ Hid ((l.take k).any (fun c => eqS c.s s) = false)) (fun i _ => l.length - (intOf i).toNat)
 case atStart => exact ⟨0,Nat.zero_le _,rfl,Below.refl _ _,by simp [Hid]⟩
 case round =>
  obtain ⟨k,hk,rfl,HB,HF⟩ := hrel
  by_cases hlt: k < l.length
  · obtain ⟨b,o,rfl,hb,c0,c1,c2,c3⟩ := (HL.out.below HB (Nat.le_refl _)).at hlt
    have HA := hid (@any_snoc_false _ l (fun c => eqS c.s s) k hlt HF.out)
    have HT := hid (@findI_at l s k hlt HF.out)
    generalize l[k] = cc at *
    obtain ⟨x0,x1,x2,x3⟩ := cc
    dsimp only at *
    have C1 := find1_walk x0 s x1 x2 x3 g (w := wr) (by have := HB.size; omega) (by rw [HB.cell (p := ⟨g,0,none⟩) hg]; exact hc)
    go_wp2_with fail
    refine C1.mono ?_
    rintro e w1 ⟨rfl,B1⟩
    have HB1 := hid (HB.trans (B1.mono HB.size))
    clear C1 B1 HB c0 c1 c2 c3 hb
    cases he: eqS x0 s
    · go_wp2
      go_roundw
      case rel => exact ⟨k + 1,hlt,by go_num,HB1.out,HA.out he⟩
      case measure => simp [intOf]; omega
    · go_wp2
      go_ret
      exact ⟨ret_int (HT.out he).symm,HB1.out⟩
  · have hlt': (l.length: Int) <= (k: Int) := by omega
    go_wp2
    go_ret
    exact ⟨ret_int (findI_none (by omega) HF.out).symm,HB⟩
theorem find_walk (l: List Col) (s: ByteArray) {a: Option Addr} {c: Nat} {w: World} (hl: SlC w a l) (h1: l.length <= 50) :
 Calls Tryz.prog 152 #[.slice a l.length c, .string s] w fun e w' => e = .returned (.int .i64 (findI l s)) /\ Below w.heap.size w w' := by
 have C1 := idx_walk l s (c := c) (g := w.heap.size) (w := w.alloc (.cells #[.string s] 9)) (hl.below (below_alloc _ _) (Nat.le_refl _)) h1 (by simp) (by simp [go_sem])
 go_enter Tryz.func152,Tryz.ntmps152
 go_wp2_with fail
 refine C1.mono ?_
 rintro e w1 ⟨rfl,B1⟩
 have HB := (below_alloc w (.cells #[.string s] 9)).trans (B1.mono (by simp))
 clear C1 B1
 go_wp2
 go_ret
 exact ⟨rfl,HB⟩
def colE (pre: List Col) (c: Col): Int := if nameB c.s && typB c.t then (if pre.any (fun d => eqS d.s c.s) then 3 else 0) else 15
theorem colE_15 {pre: List Col} {c: Col} (h: nameB c.s = false): colE pre c = 15 := by simp [colE,h]
theorem colE_15t {pre: List Col} {c: Col} (h: typB c.t = false): colE pre c = 15 := by simp [colE,h]
theorem colE_3 {pre: List Col} {c: Col} (h: nameB c.s = true) (ht: typB c.t = true) (ha: pre.any (fun d => eqS d.s c.s) = true): colE pre c = 3 := by unfold colE; rw [h,ht,ha]; rfl
theorem colE_0 {pre: List Col} {c: Col} (h: nameB c.s = true) (ht: typB c.t = true) (ha: pre.any (fun d => eqS d.s c.s) = false): colE pre c = 0 := by unfold colE; rw [h,ht,ha]; rfl
def colsL (pre: List Col): List Col -> Int
 | [] => 0
 | c :: t => if colE pre c = 0 then colsL (pre ++ [c]) t else colE pre c
theorem colsL_step {l: List Col} {k: Nat} (h: k < l.length): colsL (l.take k) (l.drop k) = if colE (l.take k) l[k] = 0 then colsL (l.take (k + 1)) (l.drop (k + 1)) else colE (l.take k) l[k] := by
 rw [List.drop_eq_getElem_cons h,List.take_succ_eq_append_getElem h]; rfl
theorem colsL_end {l: List Col} {k: Nat} (h: l.length <= k): colsL (l.take k) (l.drop k) = 0 := by
 rw [List.drop_eq_nil_of_le h]; rfl
def colsT (l: List Col): Int := if l.length = 0 then 15 else if 6 < l.length then 8 else colsL [] l
theorem typB_lt {t: Int} (h: t < 1): typB t = false := by simp [typB]; omega
theorem typB_gt {t: Int} (h: 3 < t): typB t = false := by simp [typB]; omega
theorem typB_in {t: Int} (h: ¬ t < 1) (h': ¬ 3 < t): typB t = true := by simp [typB]; omega
theorem rcolumns_walk (l: List Col) {a: Option Addr} {c: Nat} {w: World} (hl: SlC w a l) (h1: l.length <= 50) (hs: ∀ d ∈ l,d.s.size <= 140737488355328) :
 Calls Tryz.prog 32 #[.slice a l.length c] w fun e w' => e = .returned (.int .i64 (colsT l)) /\ Below w.heap.size w w' := by
 have HL := hid hl
 have HS := hid hs
 clear hl hs
 by_cases k0: l.length = 0
 · have HT: Hid (colsT l = 15) := by unfold colsT Hid; rw [if_pos k0]
   have k0': ((l.length: Int) == 0) = true := by rw [k0]; rfl
   clear k0
   go_enter Tryz.func32,Tryz.ntmps32
   go_wp2
   go_ret
   exact ⟨ret_int HT.out.symm,Below.refl _ _⟩
 have k0': ((l.length: Int) == 0) = false := beq_eq_false_iff_ne.2 (by omega)
 by_cases k6: 6 < l.length
 · have HT: Hid (colsT l = 8) := by unfold colsT Hid; rw [if_neg k0,if_pos k6]
   have k6': (6: Int) < (l.length: Int) := by omega
   go_enter Tryz.func32,Tryz.ntmps32
   go_wp2
   go_ret
   exact ⟨ret_int HT.out.symm,Below.refl _ _⟩
 have HT: Hid (colsT l = colsL [] l) := by unfold colsT Hid; rw [if_neg k0,if_neg k6]
 have k6': decide ((6: Int) < (l.length: Int)) = false := decide_eq_false (by omega)
 clear k0
 go_enter Tryz.func32,Tryz.ntmps32
 go_wp2
 go_loopw [3] (fun i wx => ∃ k: Nat,k <= l.length /\ i = .int .i64 k /\ Below w.heap.size w wx /\ Hid (colsL [] l = colsL (l.take k) (l.drop k))) (fun i _ => l.length - (intOf i).toNat)
 case atStart => exact ⟨0,Nat.zero_le _,rfl,Below.refl _ _,rfl⟩
 case round =>
  obtain ⟨k,hk,rfl,HB,HF⟩ := hrel
  by_cases hlt: k < l.length
  · obtain ⟨b,o,rfl,hb,c0,c1,c2,c3⟩ := (HL.out.below HB (Nat.le_refl _)).at hlt
    have hsz := HS.out _ (List.getElem_mem hlt)
    have HST := hid (colsL_step hlt)
    have H15 := hid (@colE_15 (l.take k) l[k])
    have H15t := hid (@colE_15t (l.take k) l[k])
    have H3 := hid (@colE_3 (l.take k) l[k])
    have H0 := hid (@colE_0 (l.take k) l[k])
    generalize hcc: l[k] = cc at *
    obtain ⟨x0,x1,x2,x3⟩ := cc
    have HCC := hid hcc
    clear hcc
    dsimp only at *
    generalize colE (l.take k) ⟨x0,x1,x2,x3⟩ = E at *
    have HN := fun w => rname_walk x0 w (by unfold maxLen; omega)
    go_wp2_with fail
    refine (HN _).mono ?_
    rintro e w1 ⟨rfl,rfl⟩
    clear HN
    cases hn: nameB x0
    · go_wp2
      go_ret
      exact ⟨ret_int (by rw [HT.out,HF.out,HST.out,H15.out hn]; rfl),HB⟩
    by_cases t1: x1 < 1
    · go_wp2
      go_ret
      exact ⟨ret_int (by rw [HT.out,HF.out,HST.out,H15t.out (typB_lt t1)]; rfl),HB⟩
    by_cases t3: 3 < x1
    · go_wp2
      go_ret
      exact ⟨ret_int (by rw [HT.out,HF.out,HST.out,H15t.out (typB_gt t3)]; rfl),HB⟩
    have ht := hid (typB_in t1 t3)
    go_wp2
    clear c0 c1 c2 c3 hb
    go_loopw [4] (fun i wx => ∃ m: Nat,m <= k /\ i = .int .i64 m /\ Below w.heap.size w wx /\ Hid (((l.take k).take m).any (fun c => eqS c.s x0) = false)) (fun i _ => k - (intOf i).toNat)
    case atStart => exact ⟨0,Nat.zero_le _,rfl,HB,by simp [Hid]⟩
    case round =>
     clear HB
     obtain ⟨m,hm,rfl,HB,HM⟩ := hrel
     by_cases hmk: m < k
     · have hmt: m < (l.take k).length := by simp; omega
       obtain ⟨b',o',e',hb,c0,c1,c2,c3⟩ := (HL.out.below HB (Nat.le_refl _)).at (j := m) (by omega)
       obtain ⟨b2,o2,e2,hb2,d0,d1,d2,d3⟩ := (HL.out.below HB (Nat.le_refl _)).at hlt
       cases e'
       cases e2
       rw [HCC.out] at d0 d1 d2 d3
       dsimp only at d0 d1 d2 d3
       have HA := hid (@any_snoc_false _ (l.take k) (fun c => eqS c.s x0) m hmt HM.out)
       have HAT := hid (@sc_any_at _ (l.take k) (fun c => eqS c.s x0) m hmt)
       have hget: (l.take k)[m]'hmt = l[m]'(by omega) := by simp
       rw [hget] at HA HAT
       generalize l[m]'(by omega) = dd at *
       obtain ⟨y0,y1,y2,y3⟩ := dd
       dsimp only at *
       cases he: eqS y0 x0
       · have he': (y0.toList == x0.toList) = false := he
         go_wp2_with fail
         go_quiet (fail)
         go_wp2
         go_roundw
         case rel => exact ⟨m + 1,hmk,by go_num,below_drewNs HB _,HA.out he⟩
         case measure => simp [intOf]; omega
       · have he': (y0.toList == x0.toList) = true := he
         go_wp2_with fail
         go_quiet (fail)
         go_wp2
         go_ret
         exact ⟨ret_int (by rw [HT.out,HF.out,HST.out,H3.out hn ht.out (HAT.out he)]; rfl),below_drewNs HB _⟩
     · have hmk': ¬ (m: Int) < (k: Int) := by omega
       have HA := hid (any_all (by simp; omega) HM.out)
       go_wp2
       go_roundw
       case rel => exact ⟨k + 1,hlt,by go_num,HB,by rw [HF.out,HST.out,H0.out hn ht.out HA.out]; rfl⟩
       case measure => simp [intOf]; omega
  · have hlt': (l.length: Int) <= (k: Int) := by omega
    go_wp2
    go_ret
    exact ⟨ret_int (by rw [HT.out,HF.out,colsL_end (by omega)]),HB⟩
end Go.Proofs.YteibhbnlcpejpaaGreat
