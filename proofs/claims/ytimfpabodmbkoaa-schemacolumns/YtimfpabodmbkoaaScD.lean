/-
  Fit and the document's Fit.
-/
import Derived.Test.YtimfpabodmbkoaaScC
import Derived.Test.YtimfpabodmbkoaaQuietTail
namespace Go.Proofs.Ytimfpabodmbkoaa
open Go.RowKit

theorem box4 (w : World) (x0 x1 x2 x3 : Value) (t : TypeId) : (w.alloc (.cells #[x0, x1, x2, x3] t)).cell? ⟨w.heap.size, 0, none⟩ = some x0 ∧ (w.alloc (.cells #[x0, x1, x2, x3] t)).cell? ⟨w.heap.size, 1, none⟩ = some x1 ∧ (w.alloc (.cells #[x0, x1, x2, x3] t)).cell? ⟨w.heap.size, 2, none⟩ = some x2 ∧ (w.alloc (.cells #[x0, x1, x2, x3] t)).cell? ⟨w.heap.size, 3, none⟩ = some x3 ∧ w.heap.size < (w.alloc (.cells #[x0, x1, x2, x3] t)).heap.size := by
  refine ⟨?_, ?_, ?_, ?_, ?_⟩ <;> simp [go_sem]

theorem below_drewN {B : Nat} {a w : World} (h : Below B a w) (n : Nat) : Below B a (w.drewN n) := ⟨h.os, h.tape, h.output, h.size, h.block⟩

theorem to_letter {p F : World → Prop} {W0 : World} (h : F W0) (k : ∀ W, F W → p W) : p W0 := k W0 h

set_option maxRecDepth 100000 in
set_option maxHeartbeats 400000 in
theorem fit_walk (l : List Col) (r : List Va) {a a' : Option Addr} {c c' : Nat} {w : World} (hl : SlC w a l) (hr : SlV w a' r) (h1 : l.length ≤ 50) :
    Calls Try.prog 14 #[.slice a l.length c, .slice a' r.length c'] w fun e w' => e = .returned (.int .i64 (fitT l r)) ∧ Below w.heap.size w w' := by
  by_cases he : l.length = r.length
  · have HT : Hid (fitT l r = fitL l r) := by unfold fitT Hid; rw [if_pos he]
    have HL := hid hl
    have HV := hid hr
    have HE := hid he
    clear hl hr he
    have he' : ((l.length : Int) != (r.length : Int)) = false := by rw [HE.out]; simp
    go_enter Try.func14, Try.ntmps14
    go_wp2
    go_loopw [15] (fun i wx => ∃ k : Nat, k ≤ l.length ∧ i = .int .i64 k ∧ Below w.heap.size w wx ∧ Hid (fitL l r = fitL (l.drop k) (r.drop k))) (fun i _ => l.length - (intOf i).toNat)
    case atStart => exact ⟨0, Nat.zero_le _, rfl, Below.refl _ _, rfl⟩
    case round =>
      obtain ⟨k, hk, rfl, HB, HF⟩ := hrel
      by_cases hlt : k < l.length
      · have hlt' : k < r.length := by have := HE.out; omega
        obtain ⟨b, o, rfl, hb, c0, c1, c2, c3⟩ := (HL.out.below HB (Nat.le_refl _)).at hlt
        go_wp2_with fail
        obtain ⟨d0, d1, d2, d3, dz⟩ := box4 wr (.string l[k].s) (.int .i64 l[k].t) (.bool l[k].nn) (.bool l[k].uq) 35
        have HB1 := hid (HB.alloc HB.size (.cells #[.string l[k].s, .int .i64 l[k].t, .bool l[k].nn, .bool l[k].uq] 35))
        clear c0 c1 c2 c3 hb HB
        generalize wr.alloc (.cells #[.string l[k].s, .int .i64 l[k].t, .bool l[k].nn, .bool l[k].uq] 35) = W at *
        obtain ⟨b', o', rfl, hb', v0, v1, v2⟩ := (HV.out.below HB1.out (Nat.le_refl _)).at hlt'
        have HW := fits_walk l[k] r[k]
        have HS := hid (fitL_step hlt hlt')
        generalize hcc : l[k] = cc at *
        generalize hvv : r[k] = vv at *
        clear hcc hvv
        obtain ⟨x0, x1, x2, x3⟩ := cc
        obtain ⟨y0, y1, y2⟩ := vv
        unfold colV vaV at HW
        dsimp only at *
        refine wp_region_quiet_tail (fun w' => ∃ n, w' = World.drewN W n) 5 (by kernel_rfl) (by kernel_rfl) ⟨1, rfl⟩ ?_
        simp only [List.take_succ_cons, List.take_zero, List.drop_succ_cons, List.drop_zero]
        repeat (go_big_quiet_step (fail))
        refine wpQuiet_nil ?_
        rintro _ ⟨nq, rfl⟩
        go_wp2_with fail
        refine (HW _).mono ?_
        rintro e w1 ⟨rfl, B1⟩
        have HB2 := HB1.out.trans ((below_drewN (Below.refl _ _) nq : Below W.heap.size W (World.drewN W nq)).mono HB1.out.size)
        have HB3 := hid (HB2.trans (B1.mono HB2.size))
        clear HB1 HB2 B1 d0 d1 d2 d3 v0 v1 v2 dz HW
        generalize fitE ⟨x0, x1, x2, x3⟩ ⟨y0, y1, y2⟩ = E at *
        by_cases hE : E = 0
        · subst hE
          go_wp2
          go_roundw
          case rel => exact ⟨k + 1, hlt, by go_num, HB3.out, by rw [HF.out, HS.out]; rfl⟩
          case measure => simp [intOf]; omega
        · go_wp2
          go_ret
          exact ⟨ret_int (by rw [HT.out, HF.out, HS.out, if_neg hE]), HB3.out⟩
      · have hlt' : (l.length : Int) ≤ (k : Int) := by omega
        go_wp2
        go_ret
        exact ⟨ret_int (by rw [HT.out, HF.out, fitL_end (by omega)]), HB⟩
  · have HT : Hid (fitT l r = 15) := by unfold fitT Hid; rw [if_neg he]
    have he' : ((l.length : Int) != (r.length : Int)) = true := bne_iff_ne.2 (by omega)
    go_enter Try.func14, Try.ntmps14
    go_wp2
    go_ret
    exact ⟨ret_int HT.out.symm, Below.refl _ _⟩

set_option maxRecDepth 100000 in
set_option maxHeartbeats 400000 in
theorem rfit_walk (l : List Col) (r : List Va) {a a' : Option Addr} {c c' : Nat} {w : World} (hl : SlC w a l) (hr : SlV w a' r) (h1 : l.length ≤ 50) :
    Calls Try.prog 15 #[.slice a l.length c, .slice a' r.length c'] w fun e w' => e = .returned (.int .i64 (fitT l r)) ∧ Below w.heap.size w w' := by
  by_cases he : l.length = r.length
  · have HT : Hid (fitT l r = fitL l r) := by unfold fitT Hid; rw [if_pos he]
    have HL := hid hl
    have HV := hid hr
    have HE := hid he
    clear hl hr he
    have he' : ((l.length : Int) != (r.length : Int)) = false := by rw [HE.out]; simp
    go_enter Try.func15, Try.ntmps15
    go_wp2
    go_loopw [5] (fun i wx => ∃ k : Nat, k ≤ l.length ∧ i = .int .i64 k ∧ Below w.heap.size w wx ∧ Hid (fitL l r = fitL (l.drop k) (r.drop k))) (fun i _ => l.length - (intOf i).toNat)
    case atStart => exact ⟨0, Nat.zero_le _, rfl, Below.refl _ _, rfl⟩
    case round =>
      obtain ⟨k, hk, rfl, HB, HF⟩ := hrel
      by_cases hlt : k < l.length
      · have hlt' : k < r.length := by have := HE.out; omega
        obtain ⟨b', o', rfl, hb', v0, v1, v2⟩ := (HV.out.below HB (Nat.le_refl _)).at hlt'
        have HW := rright_walk r[k].k r[k].n r[k].s
        unfold valV at HW
        go_wp2_with fail
        refine (HW _).mono ?_
        rintro e w1 ⟨rfl, B1⟩
        have HB1 := hid (HB.trans (B1.mono HB.size))
        clear v0 v1 v2 hb' B1 HB HW
        obtain ⟨b', o', h', hb', v0, v1, v2⟩ := (HV.out.below HB1.out (Nat.le_refl _)).at hlt'
        cases h'
        obtain ⟨b, o, rfl, hb, c0, c1, c2, c3⟩ := (HL.out.below HB1.out (Nat.le_refl _)).at hlt
        have HS := hid (fitL_step hlt hlt')
        have H15 := hid (@fitE_15 l[k] r[k])
        have H5 := hid (@fitE_5 l[k] r[k])
        have H0 := hid (@fitE_0 l[k] r[k])
        have HE' := hid (@fitE_eq l[k] r[k])
        have H4 := hid (@fitE_4 l[k] r[k])
        generalize hcc : l[k] = cc at *
        generalize hvv : r[k] = vv at *
        clear hcc hvv
        obtain ⟨x0, x1, x2, x3⟩ := cc
        obtain ⟨y0, y1, y2⟩ := vv
        dsimp only at *
        generalize fitE ⟨x0, x1, x2, x3⟩ ⟨y0, y1, y2⟩ = E at *
        cases hq : rightB y0 y1 y2
        · go_wp2
          go_ret
          exact ⟨ret_int (by rw [HT.out, HF.out, HS.out, H15.out hq]; rfl), HB1.out⟩
        · by_cases hk0 : y0 = 0
          · subst hk0
            cases hn : x2
            · go_wp2
              go_roundw
              case rel => exact ⟨k + 1, hlt, by go_num, HB1.out, by rw [HF.out, HS.out, H0.out hq (by simp) hn]; rfl⟩
              case measure => simp [intOf]; omega
            · go_wp2
              go_ret
              exact ⟨ret_int (by rw [HT.out, HF.out, HS.out, H5.out hq (by simp) hn]; rfl), HB1.out⟩
          · have hk' : (y0 == 0) = false := beq_eq_false_iff_ne.2 hk0
            by_cases ht : y0 = x1
            · have HT' : Hid (y0 = x1) := ht
              have ht' : (y0 == x1) = true := beq_iff_eq.2 ht
              clear ht
              go_wp2_with fail
              go_quiet (fail)
              go_wp2
              go_roundw
              case rel => exact ⟨k + 1, hlt, by go_num, below_drewN HB1.out _, by rw [HF.out, HS.out, HE'.out hq hk0 HT'.out]; rfl⟩
              case measure => simp [intOf]; omega
            · have ht' : (y0 == x1) = false := beq_eq_false_iff_ne.2 ht
              go_wp2_with fail
              go_quiet (fail)
              go_wp2
              go_ret
              exact ⟨ret_int (by rw [HT.out, HF.out, HS.out, H4.out hq hk0 ht]; rfl), below_drewN HB1.out _⟩
      · have hlt' : (l.length : Int) ≤ (k : Int) := by omega
        go_wp2
        go_ret
        exact ⟨ret_int (by rw [HT.out, HF.out, fitL_end (by omega)]), HB⟩
  · have HT : Hid (fitT l r = 15) := by unfold fitT Hid; rw [if_neg he]
    have he' : ((l.length : Int) != (r.length : Int)) = true := bne_iff_ne.2 (by omega)
    go_enter Try.func15, Try.ntmps15
    go_wp2
    go_ret
    exact ⟨ret_int HT.out.symm, Below.refl _ _⟩
end Go.Proofs.Ytimfpabodmbkoaa
