/-
  Ast: Show of a Delete with a condition; the law's example.
-/
import Derived.Test.YtcgpcigablefhaaGreatDoorAsO
import Derived.Test.YtcgpcigablefhaaGreatDoorAsQ
namespace Go.Proofs.YtcgpcigablefhaaGreatDoor
open Go.RowKit

set_option maxRecDepth 100000 in
set_option maxHeartbeats 1000000 in
theorem wht_walk {x : XL} {a : Option Addr} {c : Nat} {tb : ByteArray} {w : World} (hS : Rw.SlG xC 7 w a [x]) (hI : In 20 w x) (hV : LibV w) (hr : rightX 20 x = true) :
    Calls Tryz.prog 68 #[dV tb a c] w fun e W => e = .returned (.string (⟨#[32, 87, 72, 69, 82, 69, 32]⟩ ++ shB (showX 20 x))) ∧ Below w.heap.size w W := by
  have HE := Rw.dh (fun W (hb : Below w.heap.size w W) => et_walk x W (hI.on hb) (hV.on hb) hr)
  have hLs : (shB (showX 20 x)).size ≤ 348678440100 := by rw [← bal, shB, bl_list, ← lenB_20]; exact showX_len 20 x w hI hr
  obtain ⟨kb, ko, rfl, hkb, c0, c1, c2, c3, c4, c5, c6⟩ := kid0 hS
  have hbA : ∀ o, Below w.heap.size w (w.alloc o) := fun o => Rw.below_alloc _ _
  have HC : Hid (∀ o, (w.alloc o).cell? ⟨kb, ko, none⟩ = some (.string x.op) ∧ (w.alloc o).cell? ⟨kb, ko + 1, none⟩ = some (.int .i64 x.vk) ∧ (w.alloc o).cell? ⟨kb, ko + 2, none⟩ = some (.int .i64 x.vn) ∧ (w.alloc o).cell? ⟨kb, ko + 3, none⟩ = some (.string x.vs) ∧ (w.alloc o).cell? ⟨kb, ko + 4, none⟩ = some (.string x.var) ∧ (w.alloc o).cell? ⟨kb, ko + 5, none⟩ = some (.string x.col) ∧ (w.alloc o).cell? ⟨kb, ko + 6, none⟩ = some (.slice x.a x.kids.length x.c)) := fun o => by
    refine ⟨?_, ?_, ?_, ?_, ?_, ?_, ?_⟩ <;> rw [(hbA o).cell hkb] <;> assumption
  clear hS hI hV hr hbA c0 c1 c2 c3 c4 c5 c6
  generalize shB (showX 20 x) = T at *
  unfold dV
  obtain ⟨c0, c1, c2, c3, c4, c5, c6⟩ := HC.out (.cells #[.int .i64 14, .string ⟨#[]⟩, .string tb, .string ⟨#[]⟩, .slice none 0 0, .slice none 0 0, .slice none 0 0, .slice (some ⟨kb, ko, none⟩) 1 c, .slice none 0 0, .slice none 0 0, .int .i64 0, .int .i64 0, .bool false, .bool false, .slice none 0 0] 28)
  have hne : ¬ kb = w.heap.size := by omega
  go_enter Tryz.func68, Tryz.ntmps68
  go_wp2_with fail
  refine (HE.out _ (Rw.below_alloc _ _)).mono ?_
  rintro e w1 ⟨rfl, hb1⟩
  have HB := Rw.dh (dig_below_on (Rw.below_alloc w _) hb1)
  clear hb1
  go_wp2
  go_ret
  exact ⟨rfl, HB.out⟩

set_option maxRecDepth 100000 in
set_option maxHeartbeats 1000000 in
theorem stt_walk {x : XL} {a : Option Addr} {c : Nat} {tb : ByteArray} {w : World} (hS : Rw.SlG xC 7 w a [x]) (hI : In 20 w x) (hV : LibV w) (hr : rightX 20 x = true) (ht : tb.size ≤ 16) :
    Calls Tryz.prog 38 #[dV tb a c] w fun e W => e = .returned (.string (⟨#[68, 69, 76, 69, 84, 69, 32, 70, 82, 79, 77, 32]⟩ ++ tb ++ (⟨#[32, 87, 72, 69, 82, 69, 32]⟩ ++ shB (showX 20 x)))) ∧ Below w.heap.size w W := by
  have HE := Rw.dh (fun W (hb : Below w.heap.size w W) => wht_walk (tb := tb) (c := c) (hS.below hb) (hI.on hb) (hV.on hb) hr)
  have hLs : (shB (showX 20 x)).size ≤ 348678440100 := by rw [← bal, shB, bl_list, ← lenB_20]; exact showX_len 20 x w hI hr
  have hL2 : ((⟨#[32, 87, 72, 69, 82, 69, 32]⟩ : ByteArray) ++ shB (showX 20 x)).size ≤ 348678440200 := by
    rw [ByteArray.size_append]
    show 7 + _ ≤ _
    omega
  clear hS hI hV hr hLs
  generalize (⟨#[32, 87, 72, 69, 82, 69, 32]⟩ : ByteArray) ++ shB (showX 20 x) = T at *
  have hb1 : ((⟨#[68, 69, 76, 69, 84, 69, 32, 70, 82, 79, 77, 32]⟩ : ByteArray) ++ tb).size ≤ 30 := by
    rw [ByteArray.size_append]
    show 12 + _ ≤ _
    omega
  have HE2 : Hid (∀ W, Below w.heap.size w W → Calls Tryz.prog 68 #[.agg #[.int .i64 14, .string ⟨#[]⟩, .string tb, .string ⟨#[]⟩, .slice none 0 0, .slice none 0 0, .slice none 0 0, .slice a 1 c, .slice none 0 0, .slice none 0 0, .int .i64 0, .int .i64 0, .bool false, .bool false, .slice none 0 0]] W fun e W' => e = .returned (.string T) ∧ Below W.heap.size W W') := fun W hb => HE.out W hb
  clear HE
  show Calls Tryz.prog 38 #[.agg #[.int .i64 14, .string ⟨#[]⟩, .string tb, .string ⟨#[]⟩, .slice none 0 0, .slice none 0 0, .slice none 0 0, .slice a 1 c, .slice none 0 0, .slice none 0 0, .int .i64 0, .int .i64 0, .bool false, .bool false, .slice none 0 0]] w _
  go_enter Tryz.func38, Tryz.ntmps38
  go_wp2_with fail
  refine Rw.to_letter (F := fun W => Below w.heap.size w W ∧ w.heap.size < W.heap.size ∧ W.heap[w.heap.size]? = some (.cells #[.int .i64 14, .string ⟨#[]⟩, .string tb, .string ⟨#[]⟩, .slice none 0 0, .slice none 0 0, .slice none 0 0, .slice a 1 c, .slice none 0 0, .slice none 0 0, .int .i64 0, .int .i64 0, .bool false, .bool false, .slice none 0 0] 28 (0, 0))) ⟨Rw.below_alloc _ _, by simp, Rw.heap_new _ _⟩ ?_
  rintro W0 ⟨B0, hlt, P0⟩
  have KS : Hid (∀ W, Below W0.heap.size W0 W → W.cell? ⟨w.heap.size, 0, none⟩ = some (.int .i64 14) ∧ W.cell? ⟨w.heap.size, 1, none⟩ = some (.string ⟨#[]⟩) ∧ W.cell? ⟨w.heap.size, 2, none⟩ = some (.string tb) ∧ W.cell? ⟨w.heap.size, 3, none⟩ = some (.string ⟨#[]⟩) ∧ W.cell? ⟨w.heap.size, 4, none⟩ = some (.slice none 0 0) ∧ W.cell? ⟨w.heap.size, 5, none⟩ = some (.slice none 0 0) ∧ W.cell? ⟨w.heap.size, 6, none⟩ = some (.slice none 0 0) ∧ W.cell? ⟨w.heap.size, 7, none⟩ = some (.slice a 1 c) ∧ W.cell? ⟨w.heap.size, 8, none⟩ = some (.slice none 0 0) ∧ W.cell? ⟨w.heap.size, 9, none⟩ = some (.slice none 0 0) ∧ W.cell? ⟨w.heap.size, 10, none⟩ = some (.int .i64 0) ∧ W.cell? ⟨w.heap.size, 11, none⟩ = some (.int .i64 0) ∧ W.cell? ⟨w.heap.size, 12, none⟩ = some (.bool false) ∧ W.cell? ⟨w.heap.size, 13, none⟩ = some (.bool false) ∧ W.cell? ⟨w.heap.size, 14, none⟩ = some (.slice none 0 0)) := fun W hb => dc_at (by rw [hb.block _ hlt]; exact P0)
  have HO1 : Hid (Calls Tryz.prog 68 #[.agg #[.int .i64 14, .string ⟨#[]⟩, .string tb, .string ⟨#[]⟩, .slice none 0 0, .slice none 0 0, .slice none 0 0, .slice a 1 c, .slice none 0 0, .slice none 0 0, .int .i64 0, .int .i64 0, .bool false, .bool false, .slice none 0 0]] W0.drew fun e w1 => e = .returned (.string T) ∧ Below W0.heap.size W0 w1) := (HE2.out W0.drew B0.drew).mono (by
    rintro e w1 ⟨rfl, hb⟩
    exact ⟨rfl, (Below.refl _ W0).drew.trans (hb.mono (Nat.le_refl _))⟩)
  have k0 : Below W0.heap.size W0 W0 := Below.refl _ _
  have k1 : Below W0.heap.size W0 W0.drew := (Below.refl _ _).drew
  go_region_held (fun W => W.cell? ⟨w.heap.size, 0, none⟩ = some (.int .i64 14) ∧ W.cell? ⟨w.heap.size, 1, none⟩ = some (.string ⟨#[]⟩) ∧ W.cell? ⟨w.heap.size, 2, none⟩ = some (.string tb) ∧ W.cell? ⟨w.heap.size, 3, none⟩ = some (.string ⟨#[]⟩) ∧ W.cell? ⟨w.heap.size, 4, none⟩ = some (.slice none 0 0) ∧ W.cell? ⟨w.heap.size, 5, none⟩ = some (.slice none 0 0) ∧ W.cell? ⟨w.heap.size, 6, none⟩ = some (.slice none 0 0) ∧ W.cell? ⟨w.heap.size, 7, none⟩ = some (.slice a 1 c) ∧ W.cell? ⟨w.heap.size, 8, none⟩ = some (.slice none 0 0) ∧ W.cell? ⟨w.heap.size, 9, none⟩ = some (.slice none 0 0) ∧ W.cell? ⟨w.heap.size, 10, none⟩ = some (.int .i64 0) ∧ W.cell? ⟨w.heap.size, 11, none⟩ = some (.int .i64 0) ∧ W.cell? ⟨w.heap.size, 12, none⟩ = some (.bool false) ∧ W.cell? ⟨w.heap.size, 13, none⟩ = some (.bool false) ∧ W.cell? ⟨w.heap.size, 14, none⟩ = some (.slice none 0 0)) (exact KS.out _ (by with_reducible assumption)) (first
    | (go_at_call 68; refine HO1.out.mono ?_; rintro e w1 ⟨rfl, k2⟩))
  all_goals
    have HB2 := Rw.dh (dig_below_on B0 k2)
    clear k0 k1 k2 KS HO1 P0
    go_wp2
    go_ret
    exact ⟨rfl, HB2.out⟩

set_option maxRecDepth 100000 in
set_option maxHeartbeats 1000000 in
theorem shows_walk {x : XL} {a : Option Addr} {c : Nat} {tb : ByteArray} {w : World} (hS : Rw.SlG xC 7 w a [x]) (hI : In 20 w x) (hV : LibV w) (hr : rightX 20 x = true) (ht : nameB tb = true) :
    Calls Tryz.prog 11 #[dV tb a c] w fun e W => e = .returned (.string (⟨#[68, 69, 76, 69, 84, 69, 32, 70, 82, 79, 77, 32]⟩ ++ tb ++ (⟨#[32, 87, 72, 69, 82, 69, 32]⟩ ++ shB (showX 20 x)))) ∧ Below w.heap.size w W := by
  have HR : Hid (∀ W, Below w.heap.size w W → Calls Tryz.prog 9 #[.agg #[.int .i64 14, .string ⟨#[]⟩, .string tb, .string ⟨#[]⟩, .slice none 0 0, .slice none 0 0, .slice none 0 0, .slice a 1 c, .slice none 0 0, .slice none 0 0, .int .i64 0, .int .i64 0, .bool false, .bool false, .slice none 0 0]] W fun e W' => e = .returned (.bool true) ∧ Below W.heap.size W W') := fun W hb => by
    have := right_del (c := c) (hS.below hb) (hI.on hb) ht
    rw [hr] at this
    exact this
  have HE : Hid (∀ W, Below w.heap.size w W → Calls Tryz.prog 38 #[.agg #[.int .i64 14, .string ⟨#[]⟩, .string tb, .string ⟨#[]⟩, .slice none 0 0, .slice none 0 0, .slice none 0 0, .slice a 1 c, .slice none 0 0, .slice none 0 0, .int .i64 0, .int .i64 0, .bool false, .bool false, .slice none 0 0]] W fun e W' => e = .returned (.string (⟨#[68, 69, 76, 69, 84, 69, 32, 70, 82, 79, 77, 32]⟩ ++ tb ++ (⟨#[32, 87, 72, 69, 82, 69, 32]⟩ ++ shB (showX 20 x)))) ∧ Below W.heap.size W W') := fun W hb => stt_walk (hS.below hb) (hI.on hb) (hV.on hb) hr (nameB_size ht)
  clear hS hI hV hr ht
  generalize (⟨#[68, 69, 76, 69, 84, 69, 32, 70, 82, 79, 77, 32]⟩ : ByteArray) ++ tb ++ ((⟨#[32, 87, 72, 69, 82, 69, 32]⟩ : ByteArray) ++ shB (showX 20 x)) = T at *
  show Calls Tryz.prog 11 #[.agg #[.int .i64 14, .string ⟨#[]⟩, .string tb, .string ⟨#[]⟩, .slice none 0 0, .slice none 0 0, .slice none 0 0, .slice a 1 c, .slice none 0 0, .slice none 0 0, .int .i64 0, .int .i64 0, .bool false, .bool false, .slice none 0 0]] w _
  go_enter Tryz.func11, Tryz.ntmps11
  go_wp2_with fail
  refine (HR.out _ (by first | exact Below.refl _ _ | exact Rw.below_alloc _ _)).mono ?_
  rintro e w1 ⟨rfl, hb1⟩
  have p1 : w1.heap[w.heap.size]? = some (.cells #[.int .i64 14, .string ⟨#[]⟩, .string tb, .string ⟨#[]⟩, .slice none 0 0, .slice none 0 0, .slice none 0 0, .slice a 1 c, .slice none 0 0, .slice none 0 0, .int .i64 0, .int .i64 0, .bool false, .bool false, .slice none 0 0] 28 (0, 0)) := (hb1.block _ (by simp)).trans (Rw.heap_new _ _)
  obtain ⟨m0, m1, m2, m3, m4, m5, m6, m7, m8, m9, m10, m11, m12, m13, m14⟩ := dc_at p1
  have HB := Rw.dh (dig_below_on (Rw.below_alloc w _) hb1)
  clear hb1 p1
  go_wp2_with fail
  refine (HE.out _ HB.out).mono ?_
  rintro e w2 ⟨rfl, hb2⟩
  have HB2 := Rw.dh (dig_below_on HB.out hb2)
  clear hb2
  go_wp2
  go_ret
  exact ⟨rfl, HB2.out⟩

theorem chain8 (w : World) (o0 o1 o2 o3 o4 o5 o6 o7 : Obj) :
    ((((((((w.alloc o0).alloc o1).alloc o2).alloc o3).alloc o4).alloc o5).alloc o6).alloc o7).heap[w.heap.size + 1 + 1 + 1]? = some o3 ∧
    ((((((((w.alloc o0).alloc o1).alloc o2).alloc o3).alloc o4).alloc o5).alloc o6).alloc o7).heap[w.heap.size + 1 + 1 + 1 + 1]? = some o4 ∧
    ((((((((w.alloc o0).alloc o1).alloc o2).alloc o3).alloc o4).alloc o5).alloc o6).alloc o7).heap[w.heap.size + 1 + 1 + 1 + 1 + 1]? = some o5 ∧
    ((((((((w.alloc o0).alloc o1).alloc o2).alloc o3).alloc o4).alloc o5).alloc o6).alloc o7).heap[w.heap.size + 1 + 1 + 1 + 1 + 1 + 1 + 1]? = some o7 := by
  have z3 : (((w.alloc o0).alloc o1).alloc o2).heap.size = w.heap.size + 1 + 1 + 1 := by simp
  have a3 := Rw.heap_new (((w.alloc o0).alloc o1).alloc o2) o3
  rw [z3] at a3
  have a3_4 := ((Rw.below_alloc ((((w.alloc o0).alloc o1).alloc o2).alloc o3) o4).block (w.heap.size + 1 + 1 + 1) (by simp)).trans a3
  have a3_5 := ((Rw.below_alloc (((((w.alloc o0).alloc o1).alloc o2).alloc o3).alloc o4) o5).block (w.heap.size + 1 + 1 + 1) (by simp)).trans a3_4
  have a3_6 := ((Rw.below_alloc ((((((w.alloc o0).alloc o1).alloc o2).alloc o3).alloc o4).alloc o5) o6).block (w.heap.size + 1 + 1 + 1) (by simp)).trans a3_5
  have a3_7 := ((Rw.below_alloc (((((((w.alloc o0).alloc o1).alloc o2).alloc o3).alloc o4).alloc o5).alloc o6) o7).block (w.heap.size + 1 + 1 + 1) (by simp)).trans a3_6
  have z4 : ((((w.alloc o0).alloc o1).alloc o2).alloc o3).heap.size = w.heap.size + 1 + 1 + 1 + 1 := by simp
  have a4 := Rw.heap_new ((((w.alloc o0).alloc o1).alloc o2).alloc o3) o4
  rw [z4] at a4
  have a4_5 := ((Rw.below_alloc (((((w.alloc o0).alloc o1).alloc o2).alloc o3).alloc o4) o5).block (w.heap.size + 1 + 1 + 1 + 1) (by simp)).trans a4
  have a4_6 := ((Rw.below_alloc ((((((w.alloc o0).alloc o1).alloc o2).alloc o3).alloc o4).alloc o5) o6).block (w.heap.size + 1 + 1 + 1 + 1) (by simp)).trans a4_5
  have a4_7 := ((Rw.below_alloc (((((((w.alloc o0).alloc o1).alloc o2).alloc o3).alloc o4).alloc o5).alloc o6) o7).block (w.heap.size + 1 + 1 + 1 + 1) (by simp)).trans a4_6
  have z5 : (((((w.alloc o0).alloc o1).alloc o2).alloc o3).alloc o4).heap.size = w.heap.size + 1 + 1 + 1 + 1 + 1 := by simp
  have a5 := Rw.heap_new (((((w.alloc o0).alloc o1).alloc o2).alloc o3).alloc o4) o5
  rw [z5] at a5
  have a5_6 := ((Rw.below_alloc ((((((w.alloc o0).alloc o1).alloc o2).alloc o3).alloc o4).alloc o5) o6).block (w.heap.size + 1 + 1 + 1 + 1 + 1) (by simp)).trans a5
  have a5_7 := ((Rw.below_alloc (((((((w.alloc o0).alloc o1).alloc o2).alloc o3).alloc o4).alloc o5).alloc o6) o7).block (w.heap.size + 1 + 1 + 1 + 1 + 1) (by simp)).trans a5_6
  have z7 : (((((((w.alloc o0).alloc o1).alloc o2).alloc o3).alloc o4).alloc o5).alloc o6).heap.size = w.heap.size + 1 + 1 + 1 + 1 + 1 + 1 + 1 := by simp
  have a7 := Rw.heap_new (((((((w.alloc o0).alloc o1).alloc o2).alloc o3).alloc o4).alloc o5).alloc o6) o7
  rw [z7] at a7
  exact ⟨a3_7, a4_7, a5_7, a7⟩

set_option maxRecDepth 100000 in
set_option maxHeartbeats 1000000 in
theorem awake_walk (w : World) (hV : LibV w) : Calls Tryz.prog 6 #[] w fun e W => e = .returned (.bool true) ∧ Below w.heap.size w W := by
  obtain ⟨X, HX⟩ : ∃ X : ByteArray, Hid ((⟨#[68, 69, 76, 69, 84, 69, 32, 70, 82, 79, 77, 32]⟩ : ByteArray) ++ (⟨#[116]⟩ : ByteArray) ++ ((⟨#[32, 87, 72, 69, 82, 69, 32]⟩ : ByteArray) ++ shB [40, 40, 97, 32, 60, 32, 49, 41, 32, 65, 78, 68, 32, 40, 98, 32, 73, 83, 32, 78, 85, 76, 76, 41, 41]) = X) := ⟨_, Rw.dh rfl⟩
  have hx : (X.toList == [68, 69, 76, 69, 84, 69, 32, 70, 82, 79, 77, 32, 116, 32, 87, 72, 69, 82, 69, 32, 40, 40, 97, 32, 60, 32, 49, 41, 32, 65, 78, 68, 32, 40, 98, 32, 73, 83, 32, 78, 85, 76, 76, 41, 41]) = true := by
    rw [← HX.out, ByteArray.toList_eq]
    rfl
  have HC : Hid (∀ W, Below w.heap.size w W → Rw.SlG xC 7 W (some ⟨w.heap.size + 1 + 1 + 1, 0, none⟩) [eA, eOne] → Rw.SlG xC 7 W (some ⟨w.heap.size + 1 + 1 + 1 + 1, 0, none⟩) [eB] → Rw.SlG xC 7 W (some ⟨w.heap.size + 1 + 1 + 1 + 1 + 1, 0, none⟩) [eLt (w.heap.size + 1 + 1 + 1), eNull (w.heap.size + 1 + 1 + 1 + 1)] → Rw.SlG xC 7 W (some ⟨w.heap.size + 1 + 1 + 1 + 1 + 1 + 1 + 1, 0, none⟩) [eAnd (w.heap.size + 1 + 1 + 1) (w.heap.size + 1 + 1 + 1 + 1) (w.heap.size + 1 + 1 + 1 + 1 + 1)] →
      Calls Tryz.prog 11 #[.agg #[.int .i64 14, .string ⟨#[]⟩, .string ⟨#[116]⟩, .string ⟨#[]⟩, .slice none 0 0, .slice none 0 0, .slice none 0 0, .slice (some ⟨w.heap.size + 1 + 1 + 1 + 1 + 1 + 1 + 1, 0, none⟩) 1 1, .slice none 0 0, .slice none 0 0, .int .i64 0, .int .i64 0, .bool false, .bool false, .slice none 0 0]] W fun e W' => e = .returned (.string X) ∧ Below w.heap.size w W') := fun W hb s1 s2 s3 s4 => by
    have := shows_walk (c := 1) (tb := ⟨#[116]⟩) s4 (eAnd_in s1 s2 s3 20) (hV.on hb) (eAnd_right _ _ _) (by decide)
    rw [eAnd_show, HX.out] at this
    exact this.mono fun e W' ⟨h1, h2⟩ => ⟨h1, dig_below_on hb h2⟩
  clear hV HX
  go_enter Tryz.func6, Tryz.ntmps6
  go_wp2_with fail
  refine (HC.out _ ?_ ?_ ?_ ?_ ?_).mono ?_
  · repeat (first | exact Below.refl _ _ | refine Below.alloc ?_ (by simp; try omega) _)
  · exact slg_row (T := 44) (fz := (0, 0)) (chain8 w _ _ _ _ _ _ _ _).1
  · exact slg_row (T := 44) (fz := (0, 0)) (chain8 w _ _ _ _ _ _ _ _).2.1
  · exact slg_row (T := 44) (fz := (0, 0)) (chain8 w _ _ _ _ _ _ _ _).2.2.1
  · exact slg_row (T := 44) (fz := (0, 0)) (chain8 w _ _ _ _ _ _ _ _).2.2.2
  rintro e w1 ⟨rfl, hb1⟩
  have HB := Rw.dh hb1
  clear hb1
  go_wp2
  go_ret
  exact ⟨rfl, HB.out⟩
end Go.Proofs.YtcgpcigablefhaaGreatDoor
