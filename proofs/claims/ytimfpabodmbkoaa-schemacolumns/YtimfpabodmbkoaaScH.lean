/-
  Columns and the document's Columns.
-/
import Derived.Test.YtimfpabodmbkoaaScG
import Derived.Test.YtimfpabodmbkoaaScB
namespace Go.Proofs.Ytimfpabodmbkoaa
open Go.RowKit

theorem findI_any {l : List Col} {s : ByteArray} (h : l.any (fun c => eqS c.s s) = true) : 0 ≤ findI l s := by
  unfold findI
  cases e : l.findIdx? (fun c => eqS c.s s) with
  | some i => simp
  | none =>
    rw [List.findIdx?_eq_none_iff] at e
    obtain ⟨x, hx, hs⟩ := List.any_eq_true.1 h
    rw [e x hx] at hs; cases hs

theorem findI_no {l : List Col} {s : ByteArray} (h : l.any (fun c => eqS c.s s) = false) : findI l s = -1 :=
  findI_none (Nat.le_refl _) (by rwa [List.take_of_length_le (Nat.le_refl _)])

def colE (pre : List Col) (c : Col) : Int := if nameB c.s && typB c.t then (if pre.any (fun d => eqS d.s c.s) then 3 else 0) else 15

theorem colE_15 {pre : List Col} {c : Col} (h : nameB c.s = false) : colE pre c = 15 := by simp [colE, h]
theorem colE_15t {pre : List Col} {c : Col} (h : typB c.t = false) : colE pre c = 15 := by simp [colE, h]
theorem colE_3 {pre : List Col} {c : Col} (h : nameB c.s = true) (ht : typB c.t = true) (ha : pre.any (fun d => eqS d.s c.s) = true) : colE pre c = 3 := by unfold colE; rw [h, ht, ha]; rfl
theorem colE_0 {pre : List Col} {c : Col} (h : nameB c.s = true) (ht : typB c.t = true) (ha : pre.any (fun d => eqS d.s c.s) = false) : colE pre c = 0 := by unfold colE; rw [h, ht, ha]; rfl

def colsL (pre : List Col) : List Col → Int
  | [] => 0
  | c :: t => if colE pre c = 0 then colsL (pre ++ [c]) t else colE pre c

theorem colsL_step {l : List Col} {k : Nat} (h : k < l.length) : colsL (l.take k) (l.drop k) = if colE (l.take k) l[k] = 0 then colsL (l.take (k + 1)) (l.drop (k + 1)) else colE (l.take k) l[k] := by
  rw [List.drop_eq_getElem_cons h, List.take_succ_eq_append_getElem h]; rfl

theorem colsL_end {l : List Col} {k : Nat} (h : l.length ≤ k) : colsL (l.take k) (l.drop k) = 0 := by
  rw [List.drop_eq_nil_of_le h]; rfl

def colsT (l : List Col) : Int := if l.length = 0 then 15 else if 6 < l.length then 8 else colsL [] l

set_option maxRecDepth 100000 in
set_option maxHeartbeats 400000 in
theorem columns_walk (l : List Col) {a : Option Addr} {c : Nat} {w : World} (hl : SlC w a l) (h1 : l.length ≤ 50) (hcap : l.length ≤ c) (hcm : c ≤ maxLen) (hs : ∀ d ∈ l, d.s.size ≤ 1000) :
    Calls Try.prog 10 #[.slice a l.length c] w fun e w' => e = .returned (.int .i64 (colsT l)) ∧ Below w.heap.size w w' := by
  unfold maxLen at hcm
  have HL := hid hl
  have HS := hid hs
  clear hl hs
  by_cases k0 : l.length = 0
  · have HT : Hid (colsT l = 15) := by unfold colsT Hid; rw [if_pos k0]
    have k0' : ((l.length : Int) == 0) = true := by rw [k0]; rfl
    clear k0
    go_enter Try.func10, Try.ntmps10
    go_wp2
    go_ret
    exact ⟨ret_int HT.out.symm, Below.refl _ _⟩
  have k0' : ((l.length : Int) == 0) = false := beq_eq_false_iff_ne.2 (by omega)
  by_cases k6 : 6 < l.length
  · have HT : Hid (colsT l = 8) := by unfold colsT Hid; rw [if_neg k0, if_pos k6]
    have k6' : (6 : Int) < (l.length : Int) := by omega
    go_enter Try.func10, Try.ntmps10
    go_wp2
    go_ret
    exact ⟨ret_int HT.out.symm, Below.refl _ _⟩
  have HT : Hid (colsT l = colsL [] l) := by unfold colsT Hid; rw [if_neg k0, if_neg k6]
  have k6' : decide ((6 : Int) < (l.length : Int)) = false := decide_eq_false (by omega)
  clear k0
  go_enter Try.func10, Try.ntmps10
  go_wp2
  go_loopw [15] (fun i wx => ∃ k : Nat, k ≤ l.length ∧ i = .int .i64 k ∧ Below w.heap.size w wx ∧ Hid (colsL [] l = colsL (l.take k) (l.drop k))) (fun i _ => l.length - (intOf i).toNat)
  case atStart => exact ⟨0, Nat.zero_le _, rfl, Below.refl _ _, rfl⟩
  case round =>
    obtain ⟨k, hk, rfl, HB, HF⟩ := hrel
    by_cases hlt : k < l.length
    · obtain ⟨b, o, rfl, hb, c0, c1, c2, c3⟩ := (HL.out.below HB (Nat.le_refl _)).at hlt
      have hsz := HS.out _ (List.getElem_mem hlt)
      have HST := hid (colsL_step hlt)
      have H15 := hid (@colE_15 (l.take k) l[k])
      have H15t := hid (@colE_15t (l.take k) l[k])
      have H3 := hid (@colE_3 (l.take k) l[k])
      have H0 := hid (@colE_0 (l.take k) l[k])
      generalize l[k] = cc at *
      obtain ⟨x0, x1, x2, x3⟩ := cc
      dsimp only at *
      generalize colE (l.take k) ⟨x0, x1, x2, x3⟩ = E at *
      obtain ⟨d0, d1, d2, d3, dz⟩ := box4 wr (.string x0) (.int .i64 x1) (.bool x2) (.bool x3) 35
      have HB1 := hid (HB.alloc HB.size (.cells #[.string x0, .int .i64 x1, .bool x2, .bool x3] 35))
      have HN := fun w => name_walk x0 w (by unfold maxLen; omega)
      have HTY := fun w => isType_walk x1 w
      go_wp2_with fail
      clear c0 c1 c2 c3 hb HB
      generalize wr.alloc (.cells #[.string x0, .int .i64 x1, .bool x2, .bool x3] 35) = W at *
      refine (HN _).mono ?_
      rintro e w1 ⟨rfl, rfl⟩
      clear HN
      cases hn : nameB x0
      · go_wp2
        go_ret
        exact ⟨ret_int (by rw [HT.out, HF.out, HST.out, H15.out hn]; rfl), HB1.out⟩
      go_wp2_with fail
      refine (HTY _).mono ?_
      rintro e w1 ⟨rfl, rfl⟩
      clear HTY
      cases ht : typB x1
      · go_wp2
        go_ret
        exact ⟨ret_int (by rw [HT.out, HF.out, HST.out, H15t.out ht]; rfl), HB1.out⟩
      go_wp2_with fail
      have hkc : (k : Int) ≤ (c : Int) := by omega
      have hk0 : (0 : Int) ≤ (k : Int) := by omega
      have hc0 : ¬ c = 0 := by omega
      have C1 := fun (w : World) (h : SlC w (some ⟨b, o, none⟩) (l.take k)) => find_walk (l.take k) x0 (c := c) h (by simp; omega)
      rw [List.length_take, Nat.min_eq_left hk] at C1
      refine wp_region_quiet_tail (fun w' => ∃ n, w' = World.drewN w1 n) 5 (by kernel_rfl) (by kernel_rfl) ⟨1, rfl⟩ ?_
      simp only [List.take_succ_cons, List.take_zero, List.drop_succ_cons, List.drop_zero]
      repeat (go_big_quiet_step (fail))
      refine wpQuiet_nil ?_
      rintro _ ⟨nq, rfl⟩
      have HB2 := HB1.out.trans ((below_drewN (Below.refl _ _) nq : Below w1.heap.size w1 (World.drewN w1 nq)).mono HB1.out.size)
      go_wp2_with fail
      refine (C1 _ ((HL.out.below HB2 (Nat.le_refl _)).take k)).mono ?_
      rintro e w2 ⟨rfl, B1⟩
      have HB3 := hid (HB2.trans (B1.mono HB2.size))
      clear HB1 HB2 B1 C1 d0 d1 d2 d3 dz
      cases ha : (l.take k).any (fun d => eqS d.s x0)
      · rw [findI_no ha]
        go_wp2
        go_roundw
        case rel => exact ⟨k + 1, hlt, by go_num, HB3.out, by rw [HF.out, HST.out, H0.out hn ht ha]; rfl⟩
        case measure => simp [intOf]; omega
      · have hf := findI_any ha
        generalize findI (l.take k) x0 = q at *
        go_wp2
        go_ret
        exact ⟨ret_int (by rw [HT.out, HF.out, HST.out, H3.out hn ht ha]; rfl), HB3.out⟩
    · have hlt' : (l.length : Int) ≤ (k : Int) := by omega
      go_wp2
      go_ret
      exact ⟨ret_int (by rw [HT.out, HF.out, colsL_end (by omega)]), HB⟩

theorem typB_lt {t : Int} (h : t < 1) : typB t = false := by simp [typB]; omega
theorem typB_gt {t : Int} (h : 3 < t) : typB t = false := by simp [typB]; omega
theorem typB_in {t : Int} (h : ¬ t < 1) (h' : ¬ 3 < t) : typB t = true := by simp [typB]; omega

set_option maxRecDepth 100000 in
set_option maxHeartbeats 1000000 in
theorem rcolumns_walk (l : List Col) {a : Option Addr} {c : Nat} {w : World} (hl : SlC w a l) (h1 : l.length ≤ 50) (hs : ∀ d ∈ l, d.s.size ≤ 1000) :
    Calls Try.prog 11 #[.slice a l.length c] w fun e w' => e = .returned (.int .i64 (colsT l)) ∧ Below w.heap.size w w' := by
  have HL := hid hl
  have HS := hid hs
  clear hl hs
  by_cases k0 : l.length = 0
  · have HT : Hid (colsT l = 15) := by unfold colsT Hid; rw [if_pos k0]
    have k0' : ((l.length : Int) == 0) = true := by rw [k0]; rfl
    clear k0
    go_enter Try.func11, Try.ntmps11
    go_wp2
    go_ret
    exact ⟨ret_int HT.out.symm, Below.refl _ _⟩
  have k0' : ((l.length : Int) == 0) = false := beq_eq_false_iff_ne.2 (by omega)
  by_cases k6 : 6 < l.length
  · have HT : Hid (colsT l = 8) := by unfold colsT Hid; rw [if_neg k0, if_pos k6]
    have k6' : (6 : Int) < (l.length : Int) := by omega
    go_enter Try.func11, Try.ntmps11
    go_wp2
    go_ret
    exact ⟨ret_int HT.out.symm, Below.refl _ _⟩
  have HT : Hid (colsT l = colsL [] l) := by unfold colsT Hid; rw [if_neg k0, if_neg k6]
  have k6' : decide ((6 : Int) < (l.length : Int)) = false := decide_eq_false (by omega)
  clear k0
  go_enter Try.func11, Try.ntmps11
  go_wp2
  go_loopw [3] (fun i wx => ∃ k : Nat, k ≤ l.length ∧ i = .int .i64 k ∧ Below w.heap.size w wx ∧ Hid (colsL [] l = colsL (l.take k) (l.drop k))) (fun i _ => l.length - (intOf i).toNat)
  case atStart => exact ⟨0, Nat.zero_le _, rfl, Below.refl _ _, rfl⟩
  case round =>
    obtain ⟨k, hk, rfl, HB, HF⟩ := hrel
    by_cases hlt : k < l.length
    · obtain ⟨b, o, rfl, hb, c0, c1, c2, c3⟩ := (HL.out.below HB (Nat.le_refl _)).at hlt
      have hsz := HS.out _ (List.getElem_mem hlt)
      have HST := hid (colsL_step hlt)
      have H15 := hid (@colE_15 (l.take k) l[k])
      have H15t := hid (@colE_15t (l.take k) l[k])
      have H3 := hid (@colE_3 (l.take k) l[k])
      have H0 := hid (@colE_0 (l.take k) l[k])
      generalize hcc : l[k] = cc at *
      obtain ⟨x0, x1, x2, x3⟩ := cc
      have HCC := hid hcc
      clear hcc
      dsimp only at *
      generalize colE (l.take k) ⟨x0, x1, x2, x3⟩ = E at *
      have HN := fun w => rname_walk x0 w (by unfold maxLen; omega)
      go_wp2_with fail
      refine (HN _).mono ?_
      rintro e w1 ⟨rfl, rfl⟩
      clear HN
      cases hn : nameB x0
      · go_wp2
        go_ret
        exact ⟨ret_int (by rw [HT.out, HF.out, HST.out, H15.out hn]; rfl), HB⟩
      by_cases t1 : x1 < 1
      · go_wp2
        go_ret
        exact ⟨ret_int (by rw [HT.out, HF.out, HST.out, H15t.out (typB_lt t1)]; rfl), HB⟩
      by_cases t3 : 3 < x1
      · go_wp2
        go_ret
        exact ⟨ret_int (by rw [HT.out, HF.out, HST.out, H15t.out (typB_gt t3)]; rfl), HB⟩
      have ht := hid (typB_in t1 t3)
      go_wp2
      clear c0 c1 c2 c3 hb
      go_loopw [4] (fun i wx => ∃ m : Nat, m ≤ k ∧ i = .int .i64 m ∧ Below w.heap.size w wx ∧ Hid (((l.take k).take m).any (fun c => eqS c.s x0) = false)) (fun i _ => k - (intOf i).toNat)
      case atStart => exact ⟨0, Nat.zero_le _, rfl, HB, by simp [Hid]⟩
      case round =>
        clear HB
        obtain ⟨m, hm, rfl, HB, HM⟩ := hrel
        by_cases hmk : m < k
        · have hmt : m < (l.take k).length := by simp; omega
          obtain ⟨b', o', e', hb, c0, c1, c2, c3⟩ := (HL.out.below HB (Nat.le_refl _)).at (j := m) (by omega)
          obtain ⟨b2, o2, e2, hb2, d0, d1, d2, d3⟩ := (HL.out.below HB (Nat.le_refl _)).at hlt
          cases e'
          cases e2
          rw [HCC.out] at d0 d1 d2 d3
          dsimp only at d0 d1 d2 d3
          have HA := hid (@any_snoc_false _ (l.take k) (fun c => eqS c.s x0) m hmt HM.out)
          have HAT := hid (@any_at _ (l.take k) (fun c => eqS c.s x0) m hmt)
          have hget : (l.take k)[m]'hmt = l[m]'(by omega) := by simp
          rw [hget] at HA HAT
          generalize l[m]'(by omega) = dd at *
          obtain ⟨y0, y1, y2, y3⟩ := dd
          dsimp only at *
          cases he : eqS y0 x0
          · have he' : (y0.toList == x0.toList) = false := he
            go_wp2_with fail
            go_quiet (fail)
            go_wp2
            go_roundw
            case rel => exact ⟨m + 1, hmk, by go_num, below_drewN HB _, HA.out he⟩
            case measure => simp [intOf]; omega
          · have he' : (y0.toList == x0.toList) = true := he
            go_wp2_with fail
            go_quiet (fail)
            go_wp2
            go_ret
            exact ⟨ret_int (by rw [HT.out, HF.out, HST.out, H3.out hn ht.out (HAT.out he)]; rfl), below_drewN HB _⟩
        · have hmk' : ¬ (m : Int) < (k : Int) := by omega
          have HA := hid (any_all (by simp; omega) HM.out)
          go_wp2
          go_roundw
          case rel => exact ⟨k + 1, hlt, by go_num, HB, by rw [HF.out, HST.out, H0.out hn ht.out HA.out]; rfl⟩
          case measure => simp [intOf]; omega
    · have hlt' : (l.length : Int) ≤ (k : Int) := by omega
      go_wp2
      go_ret
      exact ⟨ret_int (by rw [HT.out, HF.out, colsL_end (by omega)]), HB⟩
end Go.Proofs.Ytimfpabodmbkoaa
