/-
  The text with whose key some bytes begin: beginText of package code.
-/
import Derived.Deep.OwnRows
import Derived.Deep.QuietTactic
import Derived.BigQuiet
import Derived.Test.YtedlohapoafkjaaDoorCodeC
import Derived.Test.YtedlohapoafkjaaDoorReadL
namespace Go.Proofs.YtedlohapoafkjaaDoor
open Go.RowKit

def optV (o : Option (List UInt8 × Nat)) : Value := match o with | some p => valV 3 0 (strB p.1) | none => valV 0 0 ⟨#[]⟩
def optN (o : Option (List UInt8 × Nat)) : Int := match o with | some p => (p.2 : Int) | none => 0

def zero24 : Array Value := #[.int .u8 0, .int .u8 0, .int .u8 0, .int .u8 0, .int .u8 0, .int .u8 0, .int .u8 0, .int .u8 0, .int .u8 0, .int .u8 0, .int .u8 0, .int .u8 0, .int .u8 0, .int .u8 0, .int .u8 0, .int .u8 0, .int .u8 0, .int .u8 0, .int .u8 0, .int .u8 0, .int .u8 0, .int .u8 0, .int .u8 0, .int .u8 0]

theorem zero24_get : ∀ i, i < zero24.size → zero24[i]? = some (.int .u8 0) := by
  intro i hi
  have hi' : i < 24 := hi
  rw [show zero24 = Array.replicate 24 (.int .u8 0) from rfl]
  simp [hi']

/-- A value's three cells, all zero. -/
def zeroV (t : Nat) : Value := if t = 2 then .string ⟨#[]⟩ else .int .i64 0

/-- What the reader's loop keeps: the bytes so far lie in the array, and the rest is still to be read. -/
structure TInv (w : World) (s : ByteArray) (j : Nat) (acc : List UInt8) (wr : World) : Prop where
  len : acc.length ≤ 24
  read : left [] 1 (s.data.toList.drop 1) = left acc j (s.data.toList.drop j)
  text : wr.rowIs (w.heap.size + 1) 86 24 (fun t => .int .u8 ((acc.getD t 0).toNat : Int))
  res : wr.rowIs w.heap.size 23 3 zeroV
  below : Below w.heap.size w wr

theorem TInv.store {w : World} {s : ByteArray} {j : Nat} {acc : List UInt8} {wr : World} (h : TInv w s j acc wr) (hl : acc.length < 24) (c : UInt8) (j' : Nat) (hr : left acc j (s.data.toList.drop j) = left (acc ++ [c]) j' (s.data.toList.drop j')) :
    TInv w s j' (acc ++ [c]) (wr.setCell ⟨w.heap.size + 1, acc.length, none⟩ (.int .u8 (c.toNat : Int))) := by
  refine ⟨by simp; omega, h.read.trans hr, ?_, h.res.setOther (by simp) _, h.below.setCell (by simp) _⟩
  refine (World.rowIs.set h.text acc.length (.int .u8 (c.toNat : Int))).congr fun i hi => ?_
  by_cases e : i = acc.length
  · subst e; simp
  · rw [if_neg e]
    by_cases e2 : i < acc.length
    · simp [List.getElem?_append, e2]
    · have : ¬ i < (acc ++ [c]).length := by simp; omega
      simp [List.getElem?_eq_none (by omega : acc.length ≤ i), List.getElem?_eq_none (by simp; omega : (acc ++ [c]).length ≤ i)]

theorem TInv.start (w : World) (s : ByteArray) : TInv w s 1 [] ((w.alloc (.cells #[.int .i64 0, .int .i64 0, .string ⟨#[]⟩] 23)).alloc (.cells zero24 86)) := by
  refine ⟨by simp, rfl, ?_, ?_, ((below_alloc w _).alloc (by simp) _)⟩
  · have := World.rowIs_alloc (w.alloc (.cells #[.int .i64 0, .int .i64 0, .string ⟨#[]⟩] 23)) zero24 86 (fun t => .int .u8 ((([] : List UInt8).getD t 0).toNat : Int)) (fun i hi => by rw [zero24_get i hi]; simp)
    simp only [World.size_alloc] at this
    exact this
  · refine (World.rowIs_alloc w #[.int .i64 0, .int .i64 0, .string ⟨#[]⟩] 23 zeroV ?_).alloc _
    intro i hi
    have hi' : i < 3 := hi
    have : i = 0 ∨ i = 1 ∨ i = 2 := by omega
    rcases this with rfl | rfl | rfl <;> rfl

/-- The text of the bytes so far. -/
theorem TInv.conv {w : World} {s : ByteArray} {j : Nat} {acc : List UInt8} {wr : World} (h : TInv w s j acc wr) :
    (convert 58 9 (.slice (some ⟨w.heap.size + 1, 0, none⟩) acc.length 24)).run Tryd.prog wr = .ok (.string (strB acc)) wr := by
  refine run_convert_bytes_back (P := Tryd.prog) wr 58 9 5 ⟨w.heap.size + 1, 0, none⟩ 24 acc Tryd.underlying58 Tryd.underlying5 Tryd.underlying9 (fun j hj => ?_)
  have hl := h.len
  rw [show (⟨w.heap.size + 1, 0, none⟩ : Addr).add j = ⟨w.heap.size + 1, j, none⟩ by unfold Addr.add; split <;> simp_all, h.text.cell (by omega)]
  simp [List.getElem?_eq_getElem hj]

theorem below_drewN {B : Nat} {a w : World} (h : Below B a w) (n : Nat) : Below B a (w.drewN n) := ⟨h.os, h.tape, h.output, h.size, h.block⟩

theorem TInv.drewN {w : World} {s : ByteArray} {j : Nat} {acc : List UInt8} {wr : World} (h : TInv w s j acc wr) (n : Nat) : TInv w s j acc (wr.drewN n) :=
  ⟨h.len, h.read, h.text, h.res, below_drewN h.below n⟩

theorem below_store3 {w W : World} (h : Below w.heap.size w W) (x y z : Value) : Below w.heap.size w (((W.setCell ⟨w.heap.size, 0, none⟩ x).setCell ⟨w.heap.size, 1, none⟩ y).setCell ⟨w.heap.size, 2, none⟩ z) :=
  ((h.setCell (Nat.le_refl _) _).setCell (Nat.le_refl _) _).setCell (Nat.le_refl _) _

theorem byte_ne {c : UInt8} {x : Int} (d : UInt8) (hd : x = (d.toNat : Int)) (h : ((c.toNat : Int) == x) = false) : ¬ c = d := by
  rw [beq_eq_false_iff_ne] at h
  intro e
  rw [e, hd] at h
  exact h rfl

theorem byte_eq {c : UInt8} {x : Int} (d : UInt8) (hd : x = (d.toNat : Int)) (h : ((c.toNat : Int) == x) = true) : c = d := by
  rw [beq_iff_eq, hd] at h
  exact UInt8.toNat_inj.1 (by omega)

set_option maxRecDepth 100000 in
set_option maxHeartbeats 4000000 in
theorem bt_walk (s : ByteArray) (hs : s.size ≤ 1000000) (h1 : 1 ≤ s.size) (w : World) :
    Calls Tryd.prog 46 #[.string s] w fun e w' => e = .returned (.tuple #[optV (left [] 1 (s.data.toList.drop 1)), .int .i64 (optN (left [] 1 (s.data.toList.drop 1)))]) ∧ Below w.heap.size w w' := by
  go_enter Tryd.func46, Tryd.ntmps46
  go_wp2
  go_loopw [5, 6] (fun z i wr => ∃ (j : Nat) (acc : List UInt8), 1 ≤ j ∧ j ≤ s.size ∧ z = .int .i64 (acc.length : Int) ∧ i = .int .i64 (j : Int) ∧ TInv w s j acc wr) (fun _ i _ => s.size - (intOf i).toNat)
  case atStart => exact ⟨1, [], by omega, h1, rfl, rfl, TInv.start w s⟩
  case round =>
    obtain ⟨j, acc, hj1, hj, rfl, rfl, T⟩ := hrel
    have v0 : wr.cell? ⟨w.heap.size, 0, none⟩ = some (.int .i64 0) := T.res.cell (i := 0) (by decide)
    have v1 : wr.cell? ⟨w.heap.size, 1, none⟩ = some (.int .i64 0) := T.res.cell (i := 1) (by decide)
    have v2 : wr.cell? ⟨w.heap.size, 2, none⟩ = some (.string ⟨#[]⟩) := T.res.cell (i := 2) (by decide)
    have vf := T.res.frozen
    have hl := T.len
    by_cases hlt : j + 1 < s.size
    · have hd := drop_two s j hlt
      have HD : Hid _ := hd
      clear hd
      have hjs : j < s.size := by omega
      cases hc0 : ((s[j].toNat : Int) == 0)
      · have hne := byte_ne 0 rfl hc0
        by_cases hfull : acc.length = 24
        · have hff : ((acc.length : Int) == 24) = true := by rw [hfull]; rfl
          have HN : Hid (left acc j (s.data.toList.drop j) = none) := by
            show _ = _
            rw [HD.out, left_ne_full hne (by omega)]
          clear hfull hne
          go_wp2
          refine bodyPost_ret (v := .tuple #[valV 0 0 ⟨#[]⟩, .int .i64 0]) (by simp [results, Tryd.results46, go_sem, valV, v0, v1, v2]) rfl ⟨?_, below_store3 T.below _ _ _⟩
          rw [T.read, HN.out]
          rfl
        · have hff : ((acc.length : Int) == 24) = false := by rw [beq_eq_false_iff_ne]; omega
          have hl2 : acc.length < 24 := by omega
          have hc := T.text.cell hl2
          have hf := T.text.frozen acc.length
          have N := T.store hl2 s[j] (j + 1) (by rw [HD.out, left_ne hne, drop_one s (j + 1) hlt])
          have HN : Hid _ := N
          clear N hne hfull v0 v1 v2 vf
          go_wp2
          refine ⟨⟨j + 1, acc ++ [s[j]], by omega, by omega, ?_, by go_num, HN.out⟩, by simp [intOf]; omega⟩
          rw [List.length_append]; go_num
      · have heq := byte_eq 0 rfl hc0
        have HQ : Hid _ := heq
        clear heq
        have hj2 : (j : Int) + 1 < (s.size : Int) := by omega
        have hj3 : 0 ≤ (j : Int) + 1 := by omega
        have k1 : ((⟨#[0, 1]⟩ : ByteArray)[1]'(by decide)).toNat = 1 := rfl
        have k2 : ((⟨#[0, 255]⟩ : ByteArray)[1]'(by decide)).toNat = 255 := rfl
        have hl3 : (acc.length : Int) ≤ 24 := by omega
        cases hc1 : ((s[j + 1].toNat : Int) == 1)
        · have hne1 := byte_ne 1 rfl hc1
          cases hc2 : ((s[j + 1].toNat : Int) == 255)
          · have hne2 := byte_ne 255 rfl hc2
            have HN : Hid (left acc j (s.data.toList.drop j) = none) := by
              show _ = _
              rw [HD.out, HQ.out, left_bad hne1 hne2]
            clear hne1 hne2
            go_wp2
            go_quiet (fail)
            go_wp2
            go_quiet (fail)
            go_wp2
            refine bodyPost_ret (v := .tuple #[valV 0 0 ⟨#[]⟩, .int .i64 0]) (by simp [results, Tryd.results46, go_sem, valV, v0, v1, v2]) rfl ⟨?_, ?_⟩
            · rw [T.read, HN.out]
              rfl
            · exact below_store3 (below_drewN T.below _) _ _ _
          · have he2 := byte_eq 255 rfl hc2
            have HQ2 : Hid _ := he2
            clear he2 hne1
            by_cases hfull : acc.length = 24
            · have hff : ((acc.length : Int) == 24) = true := by rw [hfull]; rfl
              have HN : Hid (left acc j (s.data.toList.drop j) = none) := by
                show _ = _
                rw [HD.out, HQ.out, HQ2.out, left_ff_full (by omega)]
              clear hfull
              go_wp2
              go_quiet (fail)
              go_wp2
              go_quiet (fail)
              go_wp2
              refine bodyPost_ret (v := .tuple #[valV 0 0 ⟨#[]⟩, .int .i64 0]) (by simp [results, Tryd.results46, go_sem, valV, v0, v1, v2]) rfl ⟨?_, ?_⟩
              · rw [T.read, HN.out]
                rfl
              · exact below_store3 (below_drewN T.below _) _ _ _
            · have hff : ((acc.length : Int) == 24) = false := by rw [beq_eq_false_iff_ne]; omega
              have hl2 : acc.length < 24 := by omega
              have hc := T.text.cell hl2
              have hf := T.text.frozen acc.length
              have N : ∀ m, TInv w s (j + 2) (acc ++ [s[j]]) ((wr.drewN m).setCell ⟨w.heap.size + 1, acc.length, none⟩ (.int .u8 (s[j].toNat : Int))) := fun m =>
                (T.drewN m).store hl2 s[j] (j + 2) (by rw [HD.out, HQ.out, HQ2.out, left_ff])
              have HN : Hid _ := N
              clear N hfull v0 v1 v2 vf
              go_wp2
              go_quiet (fail)
              go_wp2
              go_quiet (fail)
              go_wp2
              refine ⟨⟨j + 2, acc ++ [s[j]], by omega, by omega, ?_, by go_num, HN.out _⟩, by simp [intOf]; omega⟩
              rw [List.length_append]; go_num
        · have he1 := byte_eq 1 rfl hc1
          have HN : Hid (left acc j (s.data.toList.drop j) = some (acc, j + 2)) := by
            show _ = _
            rw [HD.out, HQ.out, he1, left_one hl]
          clear he1
          have hcv : ∀ m, (convert 58 9 (.slice (some ⟨w.heap.size + 1, 0, none⟩) acc.length 24)).run Tryd.prog (wr.drewN m) = .ok (.string (strB acc)) (wr.drewN m) := fun m => (T.drewN m).conv
          go_wp2
          go_quiet (fail)
          go_wp2
          refine bodyPost_ret (v := .tuple #[valV 3 0 (strB acc), .int .i64 ((j : Int) + 1 + 1)]) (by simp [results, Tryd.results46, go_sem, valV, v0, v1, v2]) rfl ⟨?_, ?_⟩
          · rw [T.read, HN.out]
            have : (j : Int) + 1 + 1 = ((j + 2 : Nat) : Int) := by omega
            rw [this]
            rfl
          · exact below_store3 (below_drewN T.below _) _ _ _
    · have HN : Hid (left acc j (s.data.toList.drop j) = none) := left_end _ _ _ (by rw [List.length_drop]; show s.size - j ≤ 1; omega)
      go_wp2
      refine bodyPost_ret (v := .tuple #[valV 0 0 ⟨#[]⟩, .int .i64 0]) (by simp [results, Tryd.results46, go_sem, valV, v0, v1, v2]) rfl ⟨?_, below_store3 T.below _ _ _⟩
      rw [T.read, HN.out]
      rfl
end Go.Proofs.YtedlohapoafkjaaDoor
