/-
  Delta: Of of package delta and the document's.
-/
import Derived.Test.YtbeilgikmikonaaDlO
namespace Go.Proofs.Ytbeilgikmikonaa
open Go.RowKit

def isOf (tb : ByteArray) (kd : Int) (c : Chg) : Bool := c.t.toList == tb.toList && c.kind == kd

def ofL (tb : ByteArray) (kd : Int) (l : List Chg) : List Chg := l.filter (isOf tb kd)

theorem ofL_snoc (tb : ByteArray) (kd : Int) (l : List Chg) (c : Chg) : ofL tb kd (l ++ [c]) = ofL tb kd l ++ if isOf tb kd c then [c] else [] := by
  unfold ofL
  rw [List.filter_append]
  cases h : isOf tb kd c <;> simp [h]

set_option maxRecDepth 100000 in
set_option maxHeartbeats 1000000 in
theorem of_walk {l : List PC} {a : Option Addr} {n c : Nat} {tb : ByteArray} {kd : Int} {w : World} (hs : SlC w a l) (hm : AllM w l) (hl : l.length = n) (hn : n ≤ 1000) :
    Calls Try.prog 16 #[.slice a n c, .string tb, .int .i64 kd] w fun e w' => ∃ v, e = .returned v ∧ ∃ N, NetW w v N w' ∧ N.map (·.2) = ofL tb kd (l.map (·.2)) := by
  have HSD := dhid hs
  have HMD := dhid hm
  have HDm := dhid hl
  clear hs hm hl
  go_enter Try.func16, Try.ntmps16
  go_wp2
  go_loopw [7, 12] (fun s i wr => ∃ (j : Nat) (N : List PC), j ≤ n ∧ i = .int .i64 (j : Int) ∧ Hid (NetW w s N wr ∧ N.map (·.2) = ofL tb kd ((l.take j).map (·.2)))) (fun _ i _ => n - (intOf i).toNat)
  case atStart => exact ⟨0, [], Nat.zero_le _, rfl, NetW.nil _, rfl⟩
  case round =>
    obtain ⟨j, N, hj, rfl, HW⟩ := hrel
    by_cases hlt : j < n
    · obtain ⟨b, o, x, rfl, hb, hx, c0, c1, c2, c3⟩ := (HSD.out.below HW.out.1.below).at (j := j) (by rw [HDm.out]; exact hlt)
      have HX := dhid hx
      clear hx
      have HMx := dhid (((HMD.out x (List.mem_of_getElem? HX.out)).below HW.out.1.below).below (below_alloc wr (.cells #[.string x.1.t, .int .i64 x.1.id, .slice x.1.oa x.1.ol x.1.oc, .slice x.1.na x.1.nl x.1.nc] 27)))
      have HK := dhid (kind_walk HMx.out)
      have HNF := dhid (ofL_snoc tb kd ((l.take j).map (·.2)) x.2)
      have HIS : Hid (isOf tb kd x.2 = (x.1.t.toList == tb.toList && x.2.kind == kd)) := by
        unfold isOf; rw [(HMD.out x (List.mem_of_getElem? HX.out)).t]; rfl
      have HT : Hid ((l.take (j + 1)).map (·.2) = (l.take j).map (·.2) ++ [x.2]) := by rw [(take_mem HX.out).2, List.map_append]; rfl
      have HI := dhid HW.out.2
      have hNl : N.length ≤ 1000 := by
        have h1 : (N.map (·.2)).length ≤ ((l.take j).map (·.2)).length := by rw [HW.out.2]; exact List.length_filter_le _ _
        simp at h1; omega
      have HN1 := dhid (HW.out.1.on (below_alloc wr (.cells #[.string x.1.t, .int .i64 x.1.id, .slice x.1.oa x.1.ol x.1.oc, .slice x.1.na x.1.nl x.1.nc] 27)))
      generalize x.2.kind = k at HK HIS
      clear hb HW
      cases htb : (x.1.t.toList == tb.toList)
      · rw [htb] at HIS
        rw [HIS.out] at HNF
        go_wp2
        refine ⟨⟨j + 1, N, by omega, by go_num, HN1.out, ?_⟩, by simp [intOf]; omega⟩
        rw [HT.out, HNF.out, HI.out]; simp
      · rw [htb] at HIS
        go_wp2_with fail
        refine HK.out.mono ?_
        rintro e W3 ⟨rfl, B3⟩
        have HN3 := dhid (HN1.out.on B3)
        have HM3 := dhid (HMx.out.below B3)
        have hc3 : Box4 W3 wr.heap.size (.string x.1.t) (.int .i64 x.1.id) (.slice x.1.oa x.1.ol x.1.oc) (.slice x.1.na x.1.nl x.1.nc) := by
          unfold Box4; rw [B3.block _ (by simp), go_heap_new]
        obtain ⟨x0, x1, x2, x3, -, -, -, -, xl⟩ := hc3.facts
        clear B3 HMx HK c0 c1 c2 c3 hc3 HN1
        cases hk : (k == kd)
        · rw [hk] at HIS
          rw [HIS.out] at HNF
          go_wp2
          refine ⟨⟨j + 1, N, by omega, by go_num, HN3.out, ?_⟩, by simp [intOf]; omega⟩
          rw [HT.out, HNF.out, HI.out]; simp
        · rw [hk] at HIS
          rw [HIS.out] at HNF
          have HC := dhid (copied_walk HM3.out)
          obtain ⟨a4, k4, rfl⟩ := owns_slice HN3.out.own
          go_wp2_with fail
          refine HC.out.mono ?_
          rintro e W4 ⟨r', rfl, C4⟩
          have HN4 := dhid (fun W5 v5 o O G => NetW.grow HN3.out HM3.out C4 (W3 := W5) (v3 := v5) (o := o) rfl O G)
          have HO4 := dhid (HN3.out.on C4.below).own
          have hz4 : w.heap.size ≤ W4.heap.size := Nat.le_trans HN3.out.below.size C4.below.size
          clear C4 HN3 HM3 HC x0 x1 x2 x3 xl
          obtain ⟨NL, HNL⟩ : ∃ m, Hid (N.length = m) := ⟨_, rfl⟩
          rw [HNL.out] at hNl HN4 HO4 ⊢
          unfold rcV
          go_wp2_with (first | (at_builtin; refine append_src Try.underlying22 infoChg rfl (by decide) (by decide) rfl _ _ rfl w.heap.size (by simp; omega) _ NL (rcs N) rfl (HO4.out.alloc _) _ 1 1 (rcC r') rfl (src_new _ _) rfl rcC_one (by omega) ?_) | go_in)
          intro v5 W5 O5 G5 A5
          have HN5 := dhid (HN4.out W5 v5 _ O5 G5)
          clear O5 G5 A5 HN4 HO4
          go_wp2
          refine ⟨⟨j + 1, N ++ [(r', x.2)], by omega, by go_num, HN5.out, ?_⟩, by simp [intOf]; omega⟩
          rw [HT.out, HNF.out, List.map_append, HI.out]; rfl
    · have hjn : j = n := by omega
      subst hjn
      have ht : l.take j = l := List.take_of_length_le (by rw [HDm.out]; exact Nat.le_refl _)
      have HI := HW.out.2
      rw [ht] at HI
      obtain ⟨a3, k3, rfl⟩ := owns_slice HW.out.1.own
      go_wp2
      go_ret
      exact ⟨_, rfl, N, HW.out.1, HI⟩

set_option maxRecDepth 100000 in
set_option maxHeartbeats 1000000 in
theorem rof_walk {l : List PC} {a : Option Addr} {n c : Nat} {tb : ByteArray} {kd : Int} {w : World} (hs : SlC w a l) (hm : AllM w l) (hl : l.length = n) (hn : n ≤ 1000) :
    Calls Try.prog 17 #[.slice a n c, .string tb, .int .i64 kd] w fun e w' => ∃ v, e = .returned v ∧ ∃ N, PlW w v N w' ∧ AllM w N ∧ N.map (·.2) = ofL tb kd (l.map (·.2)) := by
  have HSD := dhid hs
  have HMD := dhid hm
  have HDm := dhid hl
  clear hs hm hl
  have HNEW := dhid (World.ownsRow_lit (base := w.heap.size) (e := 30) (size := 4) w #[] 0 (Nat.le_refl _) (by unfold maxLen; omega) (by simp))
  go_enter Try.func17, Try.ntmps17
  go_wp2
  go_loopw [7, 8] (fun s i wr => ∃ (j : Nat) (N : List PC), j ≤ n ∧ i = .int .i64 (j : Int) ∧ Hid (PlW w s N wr ∧ AllM w N ∧ N.map (·.2) = ofL tb kd ((l.take j).map (·.2)))) (fun _ i _ => n - (intOf i).toNat)
  case atStart => exact ⟨0, [], Nat.zero_le _, rfl, ⟨below_alloc _ _, HNEW.out⟩, fun _ h => (by cases h), rfl⟩
  case round =>
    obtain ⟨j, N, hj, rfl, HW⟩ := hrel
    by_cases hlt : j < n
    · obtain ⟨b, o, x, rfl, hb, hx, c0, c1, c2, c3⟩ := (HSD.out.below HW.out.1.below).at (j := j) (by rw [HDm.out]; exact hlt)
      have HX := dhid hx
      clear hx
      have HMx := dhid ((HMD.out x (List.mem_of_getElem? HX.out)).below HW.out.1.below)
      have HK := dhid (rkind_walk HMx.out)
      have HNF := dhid (ofL_snoc tb kd ((l.take j).map (·.2)) x.2)
      have HIS : Hid (isOf tb kd x.2 = (x.1.t.toList == tb.toList && x.2.kind == kd)) := by
        unfold isOf; rw [(HMD.out x (List.mem_of_getElem? HX.out)).t]; rfl
      have HT : Hid ((l.take (j + 1)).map (·.2) = (l.take j).map (·.2) ++ [x.2]) := by rw [(take_mem HX.out).2, List.map_append]; rfl
      have HI := dhid HW.out.2.2
      have hNl : N.length ≤ 1000 := by
        have h1 : (N.map (·.2)).length ≤ ((l.take j).map (·.2)).length := by rw [HW.out.2.2]; exact List.length_filter_le _ _
        simp at h1; omega
      generalize x.2.kind = k at HK HIS
      cases htb : (x.1.t.toList == tb.toList)
      · rw [htb] at HIS
        rw [HIS.out] at HNF
        go_wp2
        refine ⟨⟨j + 1, N, by omega, by go_num, HW.out.1, HW.out.2.1, ?_⟩, by simp [intOf]; omega⟩
        rw [HT.out, HNF.out, HI.out]; simp
      · rw [htb] at HIS
        go_wp2_with fail
        refine HK.out.mono ?_
        rintro e W3 ⟨rfl, B3⟩
        have HN3 := dhid (HW.out.1.on B3)
        have e0 := (B3.cell (p := ⟨b, o + j * 4, none⟩) hb).trans c0
        have e1 := (B3.cell (p := ⟨b, o + j * 4 + 1, none⟩) hb).trans c1
        have e2 := (B3.cell (p := ⟨b, o + j * 4 + 2, none⟩) hb).trans c2
        have e3 := (B3.cell (p := ⟨b, o + j * 4 + 3, none⟩) hb).trans c3
        clear B3 HMx HK c0 c1 c2 c3
        cases hk : (k == kd)
        · rw [hk] at HIS
          rw [HIS.out] at HNF
          go_wp2
          refine ⟨⟨j + 1, N, by omega, by go_num, HN3.out, HW.out.2.1, ?_⟩, by simp [intOf]; omega⟩
          rw [HT.out, HNF.out, HI.out]; simp
        · rw [hk] at HIS
          rw [HIS.out] at HNF
          obtain ⟨a4, k4, rfl⟩ := owns_slice HN3.out.own
          have HO4 := dhid (HN3.out.on (below_alloc W3 (.cells #[.string x.1.t, .int .i64 x.1.id, .slice x.1.oa x.1.ol x.1.oc, .slice x.1.na x.1.nl x.1.nc] 30)))
          have hz4 : w.heap.size ≤ W3.heap.size := HN3.out.below.size
          obtain ⟨NL, HNL⟩ : ∃ m, Hid (N.length = m) := ⟨_, rfl⟩
          have HOW := dhid HO4.out.own
          rw [HNL.out] at hNl HOW ⊢
          go_wp2_with (first | (at_builtin; refine append_src Try.underlying31 infoRChg rfl (by decide) (by decide) rfl _ _ rfl w.heap.size (by simp; omega) _ NL (rcs N) rfl HOW.out _ 1 1 (rcC x.1) rfl (src_newT _ _ _ rfl) rfl rcC_one (by omega) ?_) | go_in)
          intro v5 W5 O5 G5 A5
          have HN5 := dhid (PlW.grow (x := x) (HNL.out ▸ HO4.out) HNL.out O5 (HNL.out ▸ G5))
          clear O5 G5 A5 HO4
          go_wp2
          refine ⟨⟨j + 1, N ++ [x], by omega, by go_num, HN5.out, fun z hz => ?_, ?_⟩, by simp [intOf]; omega⟩
          · rcases List.mem_append.1 hz with hz | hz
            · exact HW.out.2.1 z hz
            · simp at hz; subst hz; exact HMD.out _ (List.mem_of_getElem? HX.out)
          · rw [HT.out, HNF.out, List.map_append, HI.out]; rfl
    · have hjn : j = n := by omega
      subst hjn
      have ht : l.take j = l := List.take_of_length_le (by rw [HDm.out]; exact Nat.le_refl _)
      have HI := HW.out.2.2
      rw [ht] at HI
      obtain ⟨a3, k3, rfl⟩ := owns_slice HW.out.1.own
      go_wp2
      go_ret
      exact ⟨_, rfl, N, HW.out.1, HW.out.2.1, HI⟩
end Go.Proofs.Ytbeilgikmikonaa
