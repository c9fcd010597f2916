import Derived.Test.YtdaikppppkbfoaaMAD
import Derived.Test.YtdaikppppkbfoaaMAB
import Derived.Test.YtdaikppppkbfoaaMAA
set_option maxRecDepth 100000
set_option maxHeartbeats 4000000
namespace Go.Proofs.Ytdaikppppkbfoaa
open Go.RowKit
theorem hid {p: Prop} (h: p): Hid p := h
structure Col where
 s: ByteArray
 t: Int
 nn: Bool
 uq: Bool
structure Va where
 k: Int
 n: Int
 s: ByteArray
def colV (c: Col): Value := .agg #[.string c.s, .int .i64 c.t, .bool c.nn, .bool c.uq]
def SlC (W: World) (a: Option Addr) (l: List Col): Prop := l = [] \/ ∃ b o,a = some ⟨b,o,none⟩ /\ b < W.heap.size /\ ∀ j c,l[j]? = some c ->
 W.cell? ⟨b,o + j * 4,none⟩ = some (.string c.s) /\ W.cell? ⟨b,o + j * 4 + 1,none⟩ = some (.int .i64 c.t) /\ W.cell? ⟨b,o + j * 4 + 2,none⟩ = some (.bool c.nn) /\ W.cell? ⟨b,o + j * 4 + 3,none⟩ = some (.bool c.uq)
def SlV (W: World) (a: Option Addr) (l: List Va): Prop := l = [] \/ ∃ b o,a = some ⟨b,o,none⟩ /\ b < W.heap.size /\ ∀ j v,l[j]? = some v ->
 W.cell? ⟨b,o + j * 3,none⟩ = some (.int .i64 v.k) /\ W.cell? ⟨b,o + j * 3 + 1,none⟩ = some (.int .i64 v.n) /\ W.cell? ⟨b,o + j * 3 + 2,none⟩ = some (.string v.s)
theorem SlC.below {W W': World} {a: Option Addr} {l: List Col} {m: Nat} (h: SlC W a l) (hb: Below m W W') (hm: W.heap.size <= m): SlC W' a l := by
 rcases h with h | ⟨b,o,e,hlt,hc⟩
 · exact Or.inl h
 · refine Or.inr ⟨b,o,e, ?_,fun j c hj => ?_⟩
   · have := hb.size; omega
   · obtain ⟨c0,c1,c2,c3⟩ := hc j c hj
     have e := fun i => hb.cell (p := ⟨b,i,none⟩) (show b < m by omega)
     simp only [e]
     exact ⟨c0,c1,c2,c3⟩
theorem SlV.below {W W': World} {a: Option Addr} {l: List Va} {m: Nat} (h: SlV W a l) (hb: Below m W W') (hm: W.heap.size <= m): SlV W' a l := by
 rcases h with h | ⟨b,o,e,hlt,hc⟩
 · exact Or.inl h
 · refine Or.inr ⟨b,o,e, ?_,fun j c hj => ?_⟩
   · have := hb.size; omega
   · obtain ⟨c0,c1,c2⟩ := hc j c hj
     have e := fun i => hb.cell (p := ⟨b,i,none⟩) (show b < m by omega)
     simp only [e]
     exact ⟨c0,c1,c2⟩
theorem SlC.at {W: World} {a: Option Addr} {l: List Col} (h: SlC W a l) {j: Nat} (hj: j < l.length): ∃ b o,a = some ⟨b,o,none⟩ /\ b < W.heap.size /\
 W.cell? ⟨b,o + j * 4,none⟩ = some (.string l[j].s) /\ W.cell? ⟨b,o + j * 4 + 1,none⟩ = some (.int .i64 l[j].t) /\ W.cell? ⟨b,o + j * 4 + 2,none⟩ = some (.bool l[j].nn) /\ W.cell? ⟨b,o + j * 4 + 3,none⟩ = some (.bool l[j].uq) := by
 rcases h with rfl | ⟨b,o,e,hlt,hc⟩
 · simp at hj
 · exact ⟨b,o,e,hlt,hc j _ (List.getElem?_eq_getElem hj)⟩
theorem SlV.at {W: World} {a: Option Addr} {l: List Va} (h: SlV W a l) {j: Nat} (hj: j < l.length): ∃ b o,a = some ⟨b,o,none⟩ /\ b < W.heap.size /\
 W.cell? ⟨b,o + j * 3,none⟩ = some (.int .i64 l[j].k) /\ W.cell? ⟨b,o + j * 3 + 1,none⟩ = some (.int .i64 l[j].n) /\ W.cell? ⟨b,o + j * 3 + 2,none⟩ = some (.string l[j].s) := by
 rcases h with rfl | ⟨b,o,e,hlt,hc⟩
 · simp at hj
 · exact ⟨b,o,e,hlt,hc j _ (List.getElem?_eq_getElem hj)⟩
def fitE (c: Col) (v: Va): Int := if rightB v.k v.n v.s = false then 15 else if v.k = 0 then (if c.nn then 5 else 0) else if v.k = c.t then 0 else 4
theorem fitE_15 {c: Col} {v: Va} (h: rightB v.k v.n v.s = false): fitE c v = 15 := by simp [fitE,h]
theorem fitE_5 {c: Col} {v: Va} (h: rightB v.k v.n v.s = true) (h0: v.k = 0) (hn: c.nn = true): fitE c v = 5 := by unfold fitE; rw [if_neg (by simp [h]),if_pos h0,if_pos hn]
theorem fitE_0 {c: Col} {v: Va} (h: rightB v.k v.n v.s = true) (h0: v.k = 0) (hn: c.nn = false): fitE c v = 0 := by unfold fitE; rw [if_neg (by simp [h]),if_pos h0,if_neg (by simp [hn])]
theorem fitE_eq {c: Col} {v: Va} (h: rightB v.k v.n v.s = true) (h0: ¬ v.k = 0) (ht: v.k = c.t): fitE c v = 0 := by unfold fitE; rw [if_neg (by simp [h]),if_neg h0,if_pos ht]
theorem fitE_4 {c: Col} {v: Va} (h: rightB v.k v.n v.s = true) (h0: ¬ v.k = 0) (ht: ¬ v.k = c.t): fitE c v = 4 := by simp [fitE,h,h0,ht]
def fitL: List Col -> List Va -> Int
 | c :: cs,v :: vs => if fitE c v = 0 then fitL cs vs else fitE c v
 | _,_ => 0
theorem fitL_step {l: List Col} {r: List Va} {k: Nat} (h1: k < l.length) (h2: k < r.length): fitL (l.drop k) (r.drop k) = if fitE l[k] r[k] = 0 then fitL (l.drop (k + 1)) (r.drop (k + 1)) else fitE l[k] r[k] := by
 rw [List.drop_eq_getElem_cons h1,List.drop_eq_getElem_cons h2]; rfl
theorem fitL_end {l: List Col} {r: List Va} {k: Nat} (h1: l.length <= k): fitL (l.drop k) (r.drop k) = 0 := by
 rw [List.drop_eq_nil_of_le h1]; rfl
def fitT (l: List Col) (r: List Va): Int := if l.length = r.length then fitL l r else 15
theorem ret_int {k: IntKind} {a b: Int} (h: a = b): Ending.returned (.int k a) = .returned (.int k b) := by rw [h]
theorem below_drewNs {B: Nat} {a w: World} (h: Below B a w) (n: Nat): Below B a (w.drewN n) := ⟨h.os,h.tape,h.output,h.size,h.block⟩
theorem rfit_walk (l: List Col) (r: List Va) {a a': Option Addr} {c c': Nat} {w: World} (hl: SlC w a l) (hr: SlV w a' r) (h1: l.length <= 50) :
 Calls Try.prog 17 #[.slice a l.length c, .slice a' r.length c'] w fun e w' => e = .returned (.int .i64 (fitT l r)) /\ Below w.heap.size w w' := by
 by_cases he: l.length = r.length
 · have HT: Hid (fitT l r = fitL l r) := by unfold fitT Hid; rw [if_pos he]
   have HL := hid hl
   have HV := hid hr
   have HE := hid he
   clear hl hr he
   have he': ((l.length: Int) != (r.length: Int)) = false := by rw [HE.out]; simp
   go_enter Try.func17,Try.ntmps17
   go_wp2
   go_loopw [5] (fun i wx => ∃ k: Nat,k <= l.length /\ i = .int .i64 k /\ Below w.heap.size w wx /\ Hid (fitL l r = fitL (l.drop k) (r.drop k))) (fun i _ => l.length - (intOf i).toNat)
   case atStart => exact ⟨0,Nat.zero_le _,rfl,Below.refl _ _,rfl⟩
   case round =>
    obtain ⟨k,hk,rfl,HB,HF⟩ := hrel
    by_cases hlt: k < l.length
    · have hlt': k < r.length := by have := HE.out; omega
      obtain ⟨b',o',rfl,hb',v0,v1,v2⟩ := (HV.out.below HB (Nat.le_refl _)).at hlt'
      have HW := rright_walk r[k].k r[k].n r[k].s
      unfold valV at HW
      go_wp2_with fail
      refine (HW _).mono ?_
      rintro e w1 ⟨rfl,B1⟩
      have HB1 := hid (HB.trans (B1.mono HB.size))
      clear v0 v1 v2 hb' B1 HB HW
      obtain ⟨b',o',h',hb',v0,v1,v2⟩ := (HV.out.below HB1.out (Nat.le_refl _)).at hlt'
      cases h'
      obtain ⟨b,o,rfl,hb,c0,c1,c2,c3⟩ := (HL.out.below HB1.out (Nat.le_refl _)).at hlt
      have HS := hid (fitL_step hlt hlt')
      have H15 := hid (@fitE_15 l[k] r[k])
      have H5 := hid (@fitE_5 l[k] r[k])
      have H0 := hid (@fitE_0 l[k] r[k])
      have HE' := hid (@fitE_eq l[k] r[k])
      have H4 := hid (@fitE_4 l[k] r[k])
      generalize hcc: l[k] = cc at *
      generalize hvv: r[k] = vv at *
      clear hcc hvv
      obtain ⟨x0,x1,x2,x3⟩ := cc
      obtain ⟨y0,y1,y2⟩ := vv
      dsimp only at *
      generalize fitE ⟨x0,x1,x2,x3⟩ ⟨y0,y1,y2⟩ = E at *
      cases hq: rightB y0 y1 y2
      · go_wp2
        go_ret
        exact ⟨ret_int (by rw [HT.out,HF.out,HS.out,H15.out hq]; rfl),HB1.out⟩
      · by_cases hk0: y0 = 0
        · subst hk0
          cases hn: x2
          · go_wp2
            go_roundw
            case rel => exact ⟨k + 1,hlt,by go_num,HB1.out,by rw [HF.out,HS.out,H0.out hq (by simp) hn]; rfl⟩
            case measure => simp [intOf]; omega
          · go_wp2
            go_ret
            exact ⟨ret_int (by rw [HT.out,HF.out,HS.out,H5.out hq (by simp) hn]; rfl),HB1.out⟩
        · have hk': (y0 == 0) = false := beq_eq_false_iff_ne.2 hk0
          by_cases ht: y0 = x1
          · have HT': Hid (y0 = x1) := ht
            have ht': (y0 == x1) = true := beq_iff_eq.2 ht
            clear ht
            go_wp2_with fail
            go_quiet (fail)
            go_wp2
            go_roundw
            case rel => exact ⟨k + 1,hlt,by go_num,below_drewNs HB1.out _,by rw [HF.out,HS.out,HE'.out hq hk0 HT'.out]; rfl⟩
            case measure => simp [intOf]; omega
          · have ht': (y0 == x1) = false := beq_eq_false_iff_ne.2 ht
            go_wp2_with fail
            go_quiet (fail)
            go_wp2
            go_ret
            exact ⟨ret_int (by rw [HT.out,HF.out,HS.out,H4.out hq hk0 ht]; rfl),below_drewNs HB1.out _⟩
    · have hlt': (l.length: Int) <= (k: Int) := by omega
      go_wp2
      go_ret
      exact ⟨ret_int (by rw [HT.out,HF.out,fitL_end (by omega)]),HB⟩
 · have HT: Hid (fitT l r = 15) := by unfold fitT Hid; rw [if_neg he]
   have he': ((l.length: Int) != (r.length: Int)) = true := bne_iff_ne.2 (by omega)
   go_enter Try.func17,Try.ntmps17
   go_wp2
   go_ret
   exact ⟨ret_int HT.out.symm,Below.refl _ _⟩
end Go.Proofs.Ytdaikppppkbfoaa
