/-
  A text's key read byte by byte: what each step of a reader leaves to be read. Of no program.
-/
import Derived.Test.YtjocopclgehciaaGreatDoorMAB
import Derived.Deep.OwnRows
import Derived.Deep.QuietTactic
import Derived.BigQuiet
import Derived.Test.YtjocopclgehciaaGreatDoorCards
import Derived.Test.YtjocopclgehciaaGreatDoorTie
import Derived.WalkKit
import Derived.ProofKit
import Derived.HandedShaped
import Derived.Shelf.Vars
import Derived.Lay
import Derived.SevenTiedAt
import Derived.Carry
import Derived.Lib.SmallJoins
namespace Go.Proofs.YtjocopclgehciaaGreatDoor.L3
open Go

/-- What a reader that has 'acc' makes of what is left, j bytes behind the beginning. -/
def left (acc : List UInt8) (j : Nat) (l : List UInt8) : Option (List UInt8 × Nat) :=
  (readT l).bind fun p => if (acc ++ p.1).length ≤ 24 then some (acc ++ p.1, p.2 + j) else none

theorem left_end (acc : List UInt8) (j : Nat) (l : List UInt8) (h : l.length ≤ 1) : left acc j l = none := by
  match l, h with
  | [], _ => rfl
  | [_], _ => rfl

theorem left_full (acc : List UInt8) (j : Nat) (c : UInt8) (o : Option (List UInt8 × Nat)) (k : Nat) (h : 24 ≤ acc.length) :
    ((o.map fun p => (c :: p.1, p.2 + k)).bind fun p => if (acc ++ p.1).length ≤ 24 then some (acc ++ p.1, p.2 + j) else none) = none := by
  cases o with
  | none => rfl
  | some p =>
    rw [Option.map_some, Option.bind_some, if_neg]
    simp; omega

theorem left_step (acc : List UInt8) (j : Nat) (c : UInt8) (o : Option (List UInt8 × Nat)) (k : Nat) :
    ((o.map fun p => (c :: p.1, p.2 + k)).bind fun p => if (acc ++ p.1).length ≤ 24 then some (acc ++ p.1, p.2 + j) else none) =
      o.bind fun p => if ((acc ++ [c]) ++ p.1).length ≤ 24 then some ((acc ++ [c]) ++ p.1, p.2 + (j + k)) else none := by
  cases o with
  | none => rfl
  | some p =>
    rw [Option.map_some, Option.bind_some, Option.bind_some]
    simp only [List.append_assoc, List.singleton_append]
    rw [show p.2 + k + j = p.2 + (j + k) by omega]

theorem left_ne {acc : List UInt8} {j : Nat} {a b : UInt8} {l : List UInt8} (h : ¬ a = 0) : left acc j (a :: b :: l) = left (acc ++ [a]) (j + 1) (b :: l) := by
  unfold left
  rw [readT]
  have : (a == 0) = false := by simpa using h
  rw [this]
  exact left_step acc j a _ 1

theorem left_ne_full {acc : List UInt8} {j : Nat} {a b : UInt8} {l : List UInt8} (h : ¬ a = 0) (hf : 24 ≤ acc.length) : left acc j (a :: b :: l) = none := by
  unfold left
  rw [readT]
  have : (a == 0) = false := by simpa using h
  rw [this]
  exact left_full acc j a _ 1 hf

theorem left_one {acc : List UInt8} {j : Nat} {l : List UInt8} (h : acc.length ≤ 24) : left acc j (0 :: 1 :: l) = some (acc, j + 2) := by
  unfold left
  rw [readT]
  simp [h]
  omega

theorem left_one_long {acc : List UInt8} {j : Nat} {l : List UInt8} (h : ¬ acc.length ≤ 24) : left acc j (0 :: 1 :: l) = none := by
  unfold left
  rw [readT]
  simp; omega

theorem left_bad {acc : List UInt8} {j : Nat} {b : UInt8} {l : List UInt8} (h1 : ¬ b = 1) (h2 : ¬ b = 255) : left acc j (0 :: b :: l) = none := by
  unfold left
  rw [readT]
  simp [h1, h2]

theorem left_ff {acc : List UInt8} {j : Nat} {l : List UInt8} : left acc j (0 :: 255 :: l) = left (acc ++ [0]) (j + 2) l := by
  unfold left
  rw [readT]
  exact left_step acc j 0 _ 2

theorem left_ff_full {acc : List UInt8} {j : Nat} {l : List UInt8} (hf : 24 ≤ acc.length) : left acc j (0 :: 255 :: l) = none := by
  unfold left
  rw [readT]
  exact left_full acc j 0 _ 2 hf

/-- A list from a place on, byte by byte. -/
theorem drop_two (s : ByteArray) (j : Nat) (h : j + 1 < s.size) : s.data.toList.drop j = s[j] :: s[j + 1] :: s.data.toList.drop (j + 2) := by
  have h1 : j < s.data.toList.length := by show j < s.size; omega
  have h2 : j + 1 < s.data.toList.length := h
  rw [List.drop_eq_getElem_cons h1, List.drop_eq_getElem_cons h2]
  rfl

theorem drop_one (s : ByteArray) (j : Nat) (h : j < s.size) : s.data.toList.drop j = s[j] :: s.data.toList.drop (j + 1) := by
  have h1 : j < s.data.toList.length := h
  rw [List.drop_eq_getElem_cons h1]
  rfl

/-- The value that is read, and the key's length. -/
def readV (l : List UInt8) : Int × Int × List UInt8 := match readL l with | some p => p.1 | none => (0, 0, [])
def readN (l : List UInt8) : Nat := match readL l with | some p => p.2 | none => 0

theorem read_text (l : List UInt8) : readL (3 :: l) = (left [] 1 l).map fun p => ((3, 0, p.1), p.2) := by
  unfold left
  show (readT l).bind _ = _
  cases readT l with
  | none => rfl
  | some p =>
    simp only [Option.bind_some, List.nil_append]
    split <;> rfl
end Go.Proofs.YtjocopclgehciaaGreatDoor.L3
/-
  The text with whose key some bytes begin: beginText of package code.
-/
namespace Go.Proofs.YtjocopclgehciaaGreatDoor.L3
open Go.RowKit

def optV (o : Option (List UInt8 × Nat)) : Value := match o with | some p => valV 3 0 (strB p.1) | none => valV 0 0 ⟨#[]⟩
def optN (o : Option (List UInt8 × Nat)) : Int := match o with | some p => (p.2 : Int) | none => 0

def zero24 : Array Value := #[.int .u8 0, .int .u8 0, .int .u8 0, .int .u8 0, .int .u8 0, .int .u8 0, .int .u8 0, .int .u8 0, .int .u8 0, .int .u8 0, .int .u8 0, .int .u8 0, .int .u8 0, .int .u8 0, .int .u8 0, .int .u8 0, .int .u8 0, .int .u8 0, .int .u8 0, .int .u8 0, .int .u8 0, .int .u8 0, .int .u8 0, .int .u8 0]

theorem zero24_get : ∀ i, i < zero24.size → zero24[i]? = some (.int .u8 0) := by
  intro i hi
  have hi' : i < 24 := hi
  rw [show zero24 = Array.replicate 24 (.int .u8 0) from rfl]
  simp [hi']

/-- A value's three cells, all zero. -/
def zeroV (t : Nat) : Value := if t = 2 then .string ⟨#[]⟩ else .int .i64 0

/-- What the reader's loop keeps: the bytes so far lie in the array, and the rest is still to be read. -/
structure TInv (w : World) (s : ByteArray) (j : Nat) (acc : List UInt8) (wr : World) : Prop where
  len : acc.length ≤ 24
  read : left [] 1 (s.data.toList.drop 1) = left acc j (s.data.toList.drop j)
  text : wr.rowIs (w.heap.size + 1) 223 24 (fun t => .int .u8 ((acc.getD t 0).toNat : Int))
  res : wr.rowIs w.heap.size 37 3 zeroV
  below : Below w.heap.size w wr

theorem TInv.store {w : World} {s : ByteArray} {j : Nat} {acc : List UInt8} {wr : World} (h : TInv w s j acc wr) (hl : acc.length < 24) (c : UInt8) (j' : Nat) (hr : left acc j (s.data.toList.drop j) = left (acc ++ [c]) j' (s.data.toList.drop j')) :
    TInv w s j' (acc ++ [c]) (wr.setCell ⟨w.heap.size + 1, acc.length, none⟩ (.int .u8 (c.toNat : Int))) := by
  refine ⟨by simp; omega, h.read.trans hr, ?_, h.res.setOther (by simp) _, h.below.setCell (by simp) _⟩
  refine (World.rowIs.set h.text acc.length (.int .u8 (c.toNat : Int))).congr fun i hi => ?_
  by_cases e : i = acc.length
  · subst e; simp
  · rw [if_neg e]
    by_cases e2 : i < acc.length
    · simp [List.getElem?_append, e2]
    · have : ¬ i < (acc ++ [c]).length := by simp; omega
      simp [List.getElem?_eq_none (by omega : acc.length ≤ i), List.getElem?_eq_none (by simp; omega : (acc ++ [c]).length ≤ i)]

theorem TInv.start (w : World) (s : ByteArray) : TInv w s 1 [] ((w.alloc (.cells #[.int .i64 0, .int .i64 0, .string ⟨#[]⟩] 37)).alloc (.cells zero24 223)) := by
  refine ⟨by simp, rfl, ?_, ?_, ((below_alloc w _).alloc (by simp) _)⟩
  · have := World.rowIs_alloc (w.alloc (.cells #[.int .i64 0, .int .i64 0, .string ⟨#[]⟩] 37)) zero24 223 (fun t => .int .u8 ((([] : List UInt8).getD t 0).toNat : Int)) (fun i hi => by rw [zero24_get i hi]; simp)
    simp only [World.size_alloc] at this
    exact this
  · refine (World.rowIs_alloc w #[.int .i64 0, .int .i64 0, .string ⟨#[]⟩] 37 zeroV ?_).alloc _
    intro i hi
    have hi' : i < 3 := hi
    have : i = 0 ∨ i = 1 ∨ i = 2 := by omega
    rcases this with rfl | rfl | rfl <;> rfl

/-- The text of the bytes so far. -/
theorem TInv.conv {w : World} {s : ByteArray} {j : Nat} {acc : List UInt8} {wr : World} (h : TInv w s j acc wr) :
    (convert 119 9 (.slice (some ⟨w.heap.size + 1, 0, none⟩) acc.length 24)).run Tryz.prog wr = .ok (.string (strB acc)) wr := by
  refine run_convert_bytes_back (P := Tryz.prog) wr 119 9 5 ⟨w.heap.size + 1, 0, none⟩ 24 acc Tryz.underlying119 Tryz.underlying5 Tryz.underlying9 (fun j hj => ?_)
  have hl := h.len
  rw [show (⟨w.heap.size + 1, 0, none⟩ : Addr).add j = ⟨w.heap.size + 1, j, none⟩ by unfold Addr.add; split <;> simp_all, h.text.cell (by omega)]
  simp [List.getElem?_eq_getElem hj]

theorem below_drewN {B : Nat} {a w : World} (h : Below B a w) (n : Nat) : Below B a (w.drewN n) := ⟨h.os, h.tape, h.output, h.size, h.block⟩

theorem TInv.drewN {w : World} {s : ByteArray} {j : Nat} {acc : List UInt8} {wr : World} (h : TInv w s j acc wr) (n : Nat) : TInv w s j acc (wr.drewN n) :=
  ⟨h.len, h.read, h.text, h.res, below_drewN h.below n⟩

theorem below_store3 {w W : World} (h : Below w.heap.size w W) (x y z : Value) : Below w.heap.size w (((W.setCell ⟨w.heap.size, 0, none⟩ x).setCell ⟨w.heap.size, 1, none⟩ y).setCell ⟨w.heap.size, 2, none⟩ z) :=
  ((h.setCell (Nat.le_refl _) _).setCell (Nat.le_refl _) _).setCell (Nat.le_refl _) _

theorem byte_ne {c : UInt8} {x : Int} (d : UInt8) (hd : x = (d.toNat : Int)) (h : ((c.toNat : Int) == x) = false) : ¬ c = d := by
  rw [beq_eq_false_iff_ne] at h
  intro e
  rw [e, hd] at h
  exact h rfl

theorem byte_eq {c : UInt8} {x : Int} (d : UInt8) (hd : x = (d.toNat : Int)) (h : ((c.toNat : Int) == x) = true) : c = d := by
  rw [beq_iff_eq, hd] at h
  exact UInt8.toNat_inj.1 (by omega)

set_option maxRecDepth 100000 in
set_option maxHeartbeats 4000000 in
theorem bt_walk (s : ByteArray) (hs : s.size ≤ 1000000) (h1 : 1 ≤ s.size) (w : World) :
    Calls Tryz.prog 133 #[.string s] w fun e w' => e = .returned (.tuple #[optV (left [] 1 (s.data.toList.drop 1)), .int .i64 (optN (left [] 1 (s.data.toList.drop 1)))]) ∧ Below w.heap.size w w' := by
  go_enter Tryz.func133, Tryz.ntmps133
  go_wp2
  go_loopw [5, 6] (fun z i wr => ∃ (j : Nat) (acc : List UInt8), 1 ≤ j ∧ j ≤ s.size ∧ z = .int .i64 (acc.length : Int) ∧ i = .int .i64 (j : Int) ∧ TInv w s j acc wr) (fun _ i _ => s.size - (intOf i).toNat)
  case atStart => exact ⟨1, [], by omega, h1, rfl, rfl, TInv.start w s⟩
  case round =>
    obtain ⟨j, acc, hj1, hj, rfl, rfl, T⟩ := hrel
    have v0 : wr.cell? ⟨w.heap.size, 0, none⟩ = some (.int .i64 0) := T.res.cell (i := 0) (by decide)
    have v1 : wr.cell? ⟨w.heap.size, 1, none⟩ = some (.int .i64 0) := T.res.cell (i := 1) (by decide)
    have v2 : wr.cell? ⟨w.heap.size, 2, none⟩ = some (.string ⟨#[]⟩) := T.res.cell (i := 2) (by decide)
    have vf := T.res.frozen
    have hl := T.len
    by_cases hlt : j + 1 < s.size
    · have hd := drop_two s j hlt
      have HD : Hid _ := hd
      clear hd
      have hjs : j < s.size := by omega
      cases hc0 : ((s[j].toNat : Int) == 0)
      · have hne := byte_ne 0 rfl hc0
        by_cases hfull : acc.length = 24
        · have hff : ((acc.length : Int) == 24) = true := by rw [hfull]; rfl
          have HN : Hid (left acc j (s.data.toList.drop j) = none) := by
            show _ = _
            rw [HD.out, left_ne_full hne (by omega)]
          clear hfull hne
          go_wp2
          refine bodyPost_ret (v := .tuple #[valV 0 0 ⟨#[]⟩, .int .i64 0]) (by simp [results, Tryz.results133, go_sem, valV, v0, v1, v2]) rfl ⟨?_, below_store3 T.below _ _ _⟩
          rw [T.read, HN.out]
          rfl
        · have hff : ((acc.length : Int) == 24) = false := by rw [beq_eq_false_iff_ne]; omega
          have hl2 : acc.length < 24 := by omega
          have hc := T.text.cell hl2
          have hf := T.text.frozen acc.length
          have N := T.store hl2 s[j] (j + 1) (by rw [HD.out, left_ne hne, drop_one s (j + 1) hlt])
          have HN : Hid _ := N
          clear N hne hfull v0 v1 v2 vf
          go_wp2
          refine ⟨⟨j + 1, acc ++ [s[j]], by omega, by omega, ?_, by go_num, HN.out⟩, by simp [intOf]; omega⟩
          rw [List.length_append]; go_num
      · have heq := byte_eq 0 rfl hc0
        have HQ : Hid _ := heq
        clear heq
        have hj2 : (j : Int) + 1 < (s.size : Int) := by omega
        have hj3 : 0 ≤ (j : Int) + 1 := by omega
        have k1 : ((⟨#[0, 1]⟩ : ByteArray)[1]'(by decide)).toNat = 1 := rfl
        have k2 : ((⟨#[0, 255]⟩ : ByteArray)[1]'(by decide)).toNat = 255 := rfl
        have hl3 : (acc.length : Int) ≤ 24 := by omega
        cases hc1 : ((s[j + 1].toNat : Int) == 1)
        · have hne1 := byte_ne 1 rfl hc1
          cases hc2 : ((s[j + 1].toNat : Int) == 255)
          · have hne2 := byte_ne 255 rfl hc2
            have HN : Hid (left acc j (s.data.toList.drop j) = none) := by
              show _ = _
              rw [HD.out, HQ.out, left_bad hne1 hne2]
            clear hne1 hne2
            go_wp2
            go_quiet (fail)
            go_wp2
            go_quiet (fail)
            go_wp2
            refine bodyPost_ret (v := .tuple #[valV 0 0 ⟨#[]⟩, .int .i64 0]) (by simp [results, Tryz.results133, go_sem, valV, v0, v1, v2]) rfl ⟨?_, ?_⟩
            · rw [T.read, HN.out]
              rfl
            · exact below_store3 (below_drewN T.below _) _ _ _
          · have he2 := byte_eq 255 rfl hc2
            have HQ2 : Hid _ := he2
            clear he2 hne1
            by_cases hfull : acc.length = 24
            · have hff : ((acc.length : Int) == 24) = true := by rw [hfull]; rfl
              have HN : Hid (left acc j (s.data.toList.drop j) = none) := by
                show _ = _
                rw [HD.out, HQ.out, HQ2.out, left_ff_full (by omega)]
              clear hfull
              go_wp2
              go_quiet (fail)
              go_wp2
              go_quiet (fail)
              go_wp2
              refine bodyPost_ret (v := .tuple #[valV 0 0 ⟨#[]⟩, .int .i64 0]) (by simp [results, Tryz.results133, go_sem, valV, v0, v1, v2]) rfl ⟨?_, ?_⟩
              · rw [T.read, HN.out]
                rfl
              · exact below_store3 (below_drewN T.below _) _ _ _
            · have hff : ((acc.length : Int) == 24) = false := by rw [beq_eq_false_iff_ne]; omega
              have hl2 : acc.length < 24 := by omega
              have hc := T.text.cell hl2
              have hf := T.text.frozen acc.length
              have N : ∀ m, TInv w s (j + 2) (acc ++ [s[j]]) ((wr.drewN m).setCell ⟨w.heap.size + 1, acc.length, none⟩ (.int .u8 (s[j].toNat : Int))) := fun m =>
                (T.drewN m).store hl2 s[j] (j + 2) (by rw [HD.out, HQ.out, HQ2.out, left_ff])
              have HN : Hid _ := N
              clear N hfull v0 v1 v2 vf
              go_wp2
              go_quiet (fail)
              go_wp2
              go_quiet (fail)
              go_wp2
              refine ⟨⟨j + 2, acc ++ [s[j]], by omega, by omega, ?_, by go_num, HN.out _⟩, by simp [intOf]; omega⟩
              rw [List.length_append]; go_num
        · have he1 := byte_eq 1 rfl hc1
          have HN : Hid (left acc j (s.data.toList.drop j) = some (acc, j + 2)) := by
            show _ = _
            rw [HD.out, HQ.out, he1, left_one hl]
          clear he1
          have hcv : ∀ m, (convert 119 9 (.slice (some ⟨w.heap.size + 1, 0, none⟩) acc.length 24)).run Tryz.prog (wr.drewN m) = .ok (.string (strB acc)) (wr.drewN m) := fun m => (T.drewN m).conv
          go_wp2
          go_quiet (fail)
          go_wp2
          refine bodyPost_ret (v := .tuple #[valV 3 0 (strB acc), .int .i64 ((j : Int) + 1 + 1)]) (by simp [results, Tryz.results133, go_sem, valV, v0, v1, v2]) rfl ⟨?_, ?_⟩
          · rw [T.read, HN.out]
            have : (j : Int) + 1 + 1 = ((j + 2 : Nat) : Int) := by omega
            rw [this]
            rfl
          · exact below_store3 (below_drewN T.below _) _ _ _
    · have HN : Hid (left acc j (s.data.toList.drop j) = none) := left_end _ _ _ (by rw [List.length_drop]; show s.size - j ≤ 1; omega)
      go_wp2
      refine bodyPost_ret (v := .tuple #[valV 0 0 ⟨#[]⟩, .int .i64 0]) (by simp [results, Tryz.results133, go_sem, valV, v0, v1, v2]) rfl ⟨?_, below_store3 T.below _ _ _⟩
      rw [T.read, HN.out]
      rfl
end Go.Proofs.YtjocopclgehciaaGreatDoor.L3
/-
  The value with whose key some bytes begin: begin and Read of package code.
-/
namespace Go.Proofs.YtjocopclgehciaaGreatDoor.L3
open Go.RowKit

/-- The value that is read, as the model has it. -/
def rdV (l : List UInt8) : Value := valV (readV l).1 (readV l).2.1 (strB (readV l).2.2)

theorem rd_some {l : List UInt8} {k n : Int} {t : List UInt8} {m : Nat} (h : readL l = some ((k, n, t), m)) : rdV l = valV k n (strB t) ∧ readN l = m := by
  unfold rdV readV readN
  rw [h]
  exact ⟨rfl, rfl⟩

theorem rd_none {l : List UInt8} (h : readL l = none) : rdV l = valV 0 0 ⟨#[]⟩ ∧ readN l = 0 := by
  unfold rdV readV readN
  rw [h]
  exact ⟨rfl, rfl⟩

theorem cons_of (s : ByteArray) (h : 0 < s.size) : s.data.toList = s[0] :: s.data.toList.drop 1 := by
  have := drop_one s 0 h
  simpa using this

theorem read_0 {s : ByteArray} (h : 0 < s.size) (h0 : s[0] = 0) : readL s.data.toList = some ((0, 0, []), 1) := by
  rw [cons_of s h, h0]; rfl

theorem read_1 {s : ByteArray} (h : 1 < s.size) (h0 : s[0] = 1) (h1 : s[1].toNat ≤ 1) : readL s.data.toList = some (((1 : Int), (s[1].toNat : Int), []), 2) := by
  have e : (s.data.toList.drop 1).getD 0 0 = s[1] := by rw [drop_one s 1 h]; rfl
  have hl : 1 ≤ (s.data.toList.drop 1).length := by rw [List.length_drop]; show 1 ≤ s.size - 1; omega
  rw [cons_of s (by omega), h0]
  show (if 1 ≤ (s.data.toList.drop 1).length ∧ ((s.data.toList.drop 1).getD 0 0).toNat < 2 then _ else _) = _
  rw [e, if_pos ⟨hl, by omega⟩]

theorem read_1no {s : ByteArray} (h : 0 < s.size) (h0 : s[0] = 1) (h1 : ¬ 1 < s.size ∨ ∃ h : 1 < s.size, 1 < s[1].toNat) : readL s.data.toList = none := by
  rw [cons_of s h, h0]
  show (if 1 ≤ (s.data.toList.drop 1).length ∧ ((s.data.toList.drop 1).getD 0 0).toNat < 2 then _ else _) = _
  rw [if_neg]
  rintro ⟨a, b⟩
  rw [List.length_drop] at a
  have a' : 1 ≤ s.size - 1 := a
  rcases h1 with h1 | ⟨h1, h2⟩
  · omega
  · rw [drop_one s 1 h1] at b
    have : s[1].toNat < 2 := b
    omega

theorem extract_eight (s : ByteArray) (h : 9 ≤ s.size) : (s.extract 1 9).size = 8 ∧ (s.extract 1 9).data.toList = (s.data.toList.drop 1).take 8 := by
  constructor
  · rw [ByteArray.size_extract]; omega
  · rw [ByteArray.data_extract, Array.toList_extract]

theorem read_2 {s : ByteArray} (h : 9 ≤ s.size) (h0 : s[0] = 2) : readL s.data.toList = some ((2, (number (s.extract 1 9).data.toList : Int) - 9223372036854775808, []), 9) := by
  have hl : 8 ≤ (s.data.toList.drop 1).length := by rw [List.length_drop]; show 8 ≤ s.size - 1; omega
  rw [cons_of s (by omega), h0, (extract_eight s h).2]
  show (if 8 ≤ (s.data.toList.drop 1).length then _ else _) = _
  rw [if_pos hl]

theorem read_2no {s : ByteArray} (h : 0 < s.size) (h9 : ¬ 9 ≤ s.size) (h0 : s[0] = 2) : readL s.data.toList = none := by
  have hl : ¬ 8 ≤ (s.data.toList.drop 1).length := by rw [List.length_drop]; show ¬ 8 ≤ s.size - 1; omega
  rw [cons_of s h, h0]
  show (if 8 ≤ (s.data.toList.drop 1).length then _ else _) = _
  rw [if_neg hl]

theorem read_3 {s : ByteArray} (h : 0 < s.size) (h0 : s[0] = 3) : readL s.data.toList = (left [] 1 (s.data.toList.drop 1)).map fun p => ((3, 0, p.1), p.2) := by
  rw [cons_of s h, h0, read_text]
  simp

theorem read_3v {s : ByteArray} (h : 0 < s.size) (h0 : s[0] = 3) : rdV s.data.toList = optV (left [] 1 (s.data.toList.drop 1)) ∧ (readN s.data.toList : Int) = optN (left [] 1 (s.data.toList.drop 1)) := by
  have hr := read_3 h h0
  cases e : left [] 1 (s.data.toList.drop 1) with
  | none =>
    rw [e] at hr
    obtain ⟨a, b⟩ := rd_none hr
    rw [a, b]; exact ⟨rfl, rfl⟩
  | some p =>
    rw [e] at hr
    obtain ⟨a, b⟩ := rd_some hr
    rw [a, b]; exact ⟨rfl, rfl⟩

theorem read_no {s : ByteArray} (h : 0 < s.size) (h0 : ¬ s[0] = 0) (h1 : ¬ s[0] = 1) (h2 : ¬ s[0] = 2) (h3 : ¬ s[0] = 3) : readL s.data.toList = none := by
  rw [cons_of s h, readL]
  simp [h0, h1, h2, h3]

theorem read_empty {s : ByteArray} (h : s.size = 0) : readL s.data.toList = none := by
  have : s.data.toList = [] := List.length_eq_zero_iff.1 h
  rw [this]; rfl

theorem byte_bool {c d : UInt8} (h : c = d) (x : Int) (hd : x = (d.toNat : Int)) : ((c.toNat : Int) == x) = true := by rw [h, hd]; exact beq_self_eq_true _
theorem byte_bool' {c d : UInt8} (h : ¬ c = d) (x : Int) (hd : x = (d.toNat : Int)) : ((c.toNat : Int) == x) = false := by
  rw [beq_eq_false_iff_ne, hd]
  intro e
  exact h (UInt8.toNat_inj.1 (by omega))

theorem turn_back64 (u : Nat) (h : u < 18446744073709551616) : wrap64 (bits .xor .u64 (u : Int) 9223372036854775808) = (u : Int) - 9223372036854775808 := by
  have h2 : (9223372036854775808 : Int) = ((9223372036854775808 : Nat) : Int) := by omega
  rw [h2, bits_xor_u64_nat _ _ h (by omega), xor_top _ h]
  unfold wrap64
  omega

theorem bcell2 {W w1 : World} (hb : Below W.heap.size W w1) : (∀ b o, b < W.heap.size → w1.cell? ⟨b, o, none⟩ = W.cell? ⟨b, o, none⟩) ∧ (∀ b o, b < W.heap.size → w1.frozen? ⟨b, o, none⟩ = W.frozen? ⟨b, o, none⟩) :=
  ⟨fun b o h => hb.cell (p := ⟨b, o, none⟩) h, fun b o h => hb.frozen (p := ⟨b, o, none⟩) h⟩

set_option maxRecDepth 100000 in
set_option maxHeartbeats 4000000 in
theorem begin_walk (s : ByteArray) (hs : s.size ≤ 1000000) (w : World) :
    Calls Tryz.prog 110 #[.string s] w fun e w' => e = .returned (.tuple #[rdV s.data.toList, .int .i64 (readN s.data.toList : Int)]) ∧ Below w.heap.size w w' := by
  go_enter Tryz.func110, Tryz.ntmps110
  by_cases hz : s.size = 0
  · obtain ⟨e1, e2⟩ := rd_none (read_empty hz)
    have he : s.toList.isEmpty = true := by rw [toList_isEmpty, hz]; rfl
    go_wp2
    refine bodyPost_ret (v := .tuple #[valV 0 0 ⟨#[]⟩, .int .i64 0]) (by simp [results, Tryz.results110, go_sem, valV]) rfl ⟨?_, ?_⟩
    · first | rfl | (rw [e1, e2]; rfl)
    · exact below_alloc _ _
  · have hp : 0 < s.size := by omega
    have he : s.toList.isEmpty = false := by rw [toList_isEmpty]; simpa using hz
    clear hz
    by_cases h0 : s[0] = 0
    · obtain ⟨e1, e2⟩ := rd_some (read_0 hp h0)
      have b0 := byte_bool h0 0 rfl
      clear h0
      go_wp2
      refine bodyPost_ret (v := .tuple #[valV 0 0 ⟨#[]⟩, .int .i64 1]) (by simp [results, Tryz.results110, go_sem, valV]) rfl ⟨?_, below_alloc _ _⟩
      first | rfl | (rw [e1, e2]; rfl)
    have b0 := byte_bool' h0 0 rfl
    by_cases h1 : s[0] = 1
    · have b1 := byte_bool h1 1 rfl
      have b2 := byte_bool' (c := s[0]) (d := 2) (by rw [h1]; decide) 2 rfl
      have b3 := byte_bool' (c := s[0]) (d := 3) (by rw [h1]; decide) 3 rfl
      by_cases h2 : 1 < s.size
      · by_cases h3 : s[1].toNat ≤ 1
        · obtain ⟨e1, e2⟩ := rd_some (read_1 h2 h1 h3)
          clear h0 h1
          have h2' : 2 ≤ s.size := h2
          have h3' := s[1].toNat_lt
          go_wp2
          refine bodyPost_ret (v := .tuple #[valV 1 (s[1].toNat : Int) ⟨#[]⟩, .int .i64 2]) (by simp [results, Tryz.results110, go_sem, valV]) rfl ⟨?_, below_alloc _ _⟩
          first | rfl | (rw [e1, e2]; rfl)
        · obtain ⟨e1, e2⟩ := rd_none (read_1no hp h1 (Or.inr ⟨h2, by omega⟩))
          clear h0 h1
          have h2' : 2 ≤ s.size := h2
          have h3' : 1 < s[1].toNat := by omega
          go_wp2
          refine bodyPost_ret (v := .tuple #[valV 0 0 ⟨#[]⟩, .int .i64 0]) (by simp [results, Tryz.results110, go_sem, valV]) rfl ⟨?_, below_alloc _ _⟩
          first | rfl | (rw [e1, e2]; rfl)
      · obtain ⟨e1, e2⟩ := rd_none (read_1no hp h1 (Or.inl h2))
        clear h0 h1
        have h2' : ¬ 2 ≤ s.size := by omega
        go_wp2
        refine bodyPost_ret (v := .tuple #[valV 0 0 ⟨#[]⟩, .int .i64 0]) (by simp [results, Tryz.results110, go_sem, valV]) rfl ⟨?_, below_alloc _ _⟩
        first | rfl | (rw [e1, e2]; rfl)
    have b1 := byte_bool' h1 1 rfl
    by_cases h2 : s[0] = 2
    · have b2 := byte_bool h2 2 rfl
      have b3 := byte_bool' (c := s[0]) (d := 3) (by rw [h2]; decide) 3 rfl
      by_cases h9 : 9 ≤ s.size
      · obtain ⟨e1, e2⟩ := rd_some (read_2 h9 h2)
        obtain ⟨x1, _⟩ := extract_eight s h9
        have hlt := number_lt (s.extract 1 9).data.toList
        rw [show (s.extract 1 9).data.toList.length = 8 from x1, show (256 : Nat) ^ 8 = 18446744073709551616 by decide] at hlt
        have HT : Hid _ := turn_back64 _ hlt
        clear h0 h1 h2
        go_wp2_with fail
        refine (joined_walk (s.extract 1 9) x1 _).mono ?_
        rintro e w1 ⟨rfl, hb⟩
        generalize number (s.extract 1 9).data.toList = x at *
        have hB := below_on (below_alloc w _) hb
        obtain ⟨hc, hf⟩ := bcell2 hb
        go_wp2
        refine bodyPost_ret (v := .tuple #[valV 2 (wrap64 (bits BinOp.xor IntKind.u64 (x : Int) 9223372036854775808)) ⟨#[]⟩, .int .i64 9]) (by simp [results, Tryz.results110, go_sem, valV, hc]) rfl ⟨?_, below_store3 hB _ _ _⟩
        rw [e1, e2, ← HT.out]
        rfl
      · obtain ⟨e1, e2⟩ := rd_none (read_2no hp h9 h2)
        clear h0 h1 h2
        go_wp2
        refine bodyPost_ret (v := .tuple #[valV 0 0 ⟨#[]⟩, .int .i64 0]) (by simp [results, Tryz.results110, go_sem, valV]) rfl ⟨?_, below_alloc _ _⟩
        first | rfl | (rw [e1, e2]; rfl)
    have b2 := byte_bool' h2 2 rfl
    by_cases h3 : s[0] = 3
    · have b3 := byte_bool h3 3 rfl
      obtain ⟨e1, e2⟩ := read_3v hp h3
      clear h0 h1 h2 h3
      go_wp2_with fail
      refine (bt_walk s hs (by omega) _).mono ?_
      rintro e w1 ⟨rfl, hb⟩
      have hB := below_on (below_alloc w _) hb
      obtain ⟨hc, hf⟩ := bcell2 hb
      rw [← e1, ← e2]
      clear e1 e2
      unfold rdV valV
      go_wp2
      refine bodyPost_ret (v := .tuple #[valV (readV s.data.toList).1 (readV s.data.toList).2.1 (strB (readV s.data.toList).2.2), .int .i64 (readN s.data.toList : Int)]) (by simp [results, Tryz.results110, go_sem, valV, hc]) rfl ⟨rfl, below_store3 hB _ _ _⟩
    · have b3 := byte_bool' h3 3 rfl
      obtain ⟨e1, e2⟩ := rd_none (read_no hp h0 h1 h2 h3)
      clear h0 h1 h2 h3
      go_wp2
      refine bodyPost_ret (v := .tuple #[valV 0 0 ⟨#[]⟩, .int .i64 0]) (by simp [results, Tryz.results110, go_sem, valV]) rfl ⟨?_, below_alloc _ _⟩
      first | rfl | (rw [e1, e2]; rfl)

theorem frozen_new (w : World) (cs : Array Value) (t : TypeId) (o : Nat) : (w.alloc (.cells cs t)).frozen? ⟨w.heap.size, o, none⟩ = false := by
  rw [frozen?_alloc_cells]
  simp [World.frozen?]

/-- What Read answers behind the value: the rest, and the error. -/
def restS (s : ByteArray) : ByteArray := if readN s.data.toList = 0 then ⟨#[]⟩ else strB (s.data.toList.drop (readN s.data.toList))
def readE (s : ByteArray) : Int := if readN s.data.toList = 0 then 16 else 0

theorem readN_le (l : List UInt8) : readN l ≤ l.length := by
  unfold readN
  cases h : readL l with
  | none => exact Nat.zero_le _
  | some p =>
    obtain ⟨⟨k, n, t⟩, m⟩ := p
    obtain ⟨_, _, h1, more, h2⟩ := key_read h
    simp only
    rw [h1, h2, List.length_append]
    omega

theorem extract_drop (s : ByteArray) (j : Nat) : s.extract j s.size = strB (s.data.toList.drop j) := by
  apply ByteArray.ext
  apply Array.ext'
  rw [ByteArray.data_extract, Array.toList_extract]
  show _ = (s.data.toList.drop j)
  rw [List.extract_eq_take_drop]
  exact List.take_of_length_le (by rw [List.length_drop]; exact Nat.le_refl _)

theorem rdV_none {s : ByteArray} (h : readN s.data.toList = 0) : rdV s.data.toList = valV 0 0 ⟨#[]⟩ := by
  cases hr : readL s.data.toList with
  | none => exact (rd_none hr).1
  | some p =>
    exfalso
    obtain ⟨⟨k, n, t⟩, m⟩ := p
    obtain ⟨_, _, h1, _, _⟩ := key_read hr
    rw [(rd_some hr).2] at h
    rw [h] at h1
    have : keyL k n ⟨t.toArray⟩ ≠ [] := by
      unfold keyL
      split
      · simp
      split
      · simp
      split <;> simp
    exact this (List.length_eq_zero_iff.1 h1.symm)

set_option maxRecDepth 100000 in
set_option maxHeartbeats 4000000 in
theorem read_walk (s : ByteArray) (hs : s.size ≤ 1000000) (w : World) :
    Calls Tryz.prog 85 #[.string s] w fun e w' => e = .returned (.tuple #[rdV s.data.toList, .string (restS s), .int .i64 (readE s)]) ∧ Below w.heap.size w w' := by
  go_enter Tryz.func85, Tryz.ntmps85
  go_wp2_with fail
  refine (begin_walk s hs _).mono ?_
  rintro e w1 ⟨rfl, hb⟩
  have hB := below_on (below_alloc w _) hb
  obtain ⟨hz, c0, c1, c2⟩ := (boxed_new w 0 0 ⟨#[]⟩ 37).below hb
  have hf : ∀ o, w1.frozen? ⟨w.heap.size, o, none⟩ = false := fun o => by rw [hb.frozen (by simp)]; exact frozen_new w _ _ o
  clear hb
  by_cases h0 : readN s.data.toList = 0
  · have e1 := rdV_none h0
    have e2 : restS s = ⟨#[]⟩ := by unfold restS; rw [if_pos h0]
    have e3 : readE s = 16 := by unfold readE; rw [if_pos h0]
    rw [h0, e1]
    unfold valV
    go_wp2
    refine bodyPost_ret (v := .tuple #[valV 0 0 ⟨#[]⟩, .string ⟨#[]⟩, .int .i64 16]) (by simp [results, Tryz.results85, go_sem, valV, hz, c0, c1, c2]) rfl ⟨?_, (below_store3 hB _ _ _).alloc (Nat.le_of_lt (by simpa [World.setCell] using hz)) _⟩
    rw [e1, e2, e3]
  · have hle := readN_le s.data.toList
    have hle' : readN s.data.toList ≤ s.size := hle
    have e2 : restS s = s.extract (readN s.data.toList) s.size := by unfold restS; rw [if_neg h0, extract_drop]
    have e3 : readE s = 0 := by unfold readE; rw [if_neg h0]
    have hi : ((readN s.data.toList : Int) == 0) = false := by rw [beq_eq_false_iff_ne]; omega
    have E2 : Hid _ := e2
    have E3 : Hid _ := e3
    clear h0 hle e2 e3
    unfold rdV valV
    go_wp2
    go_region
    go_wp2
    refine bodyPost_ret (v := .tuple #[valV (readV s.data.toList).1 (readV s.data.toList).2.1 (strB (readV s.data.toList).2.2), .string (s.extract (readN s.data.toList) s.size), .int .i64 0]) (by simp [results, Tryz.results85, go_sem, valV, hz, c0, c1, c2]) rfl ⟨?_, ((below_store3 hB _ _ _).alloc (Nat.le_of_lt (by simpa [World.setCell] using hz)) _).drew⟩
    rw [E2.out, E3.out]
    rfl
end Go.Proofs.YtjocopclgehciaaGreatDoor.L3
/-
  What the proofs of this seat's tied cards share: the wrap that hands on both the listed variables' condition and the world's shape; the witness's world; that internal/bytealg.MaxLen holds some number.
-/
namespace Go.Proofs.YtjocopclgehciaaGreatDoor
open Go.RowKit Go.ChangeShapes Go.WideShapes Go.ChangeAt
open L3 (fits valV)

theorem own : ownKnob Tryz.prog.godebug = none := by kernel_rfl

/-- The wrap: the contract is handed the condition X, the reach and the world's shape. -/
theorem returns_tied {H : Type} {enc : TypeId × Value → H} {C : Checked} {os : Os} {f : FuncId} {fn : Func} {s : ChangeSpec} {apart fresh handsOn again : Bool} {X : World → Array Value → Prop}
    (hX : ∀ (w w' : World) (args : Array Value), w.heap = w'.heap → X w args → X w' args)
    (own : ownKnob C.prog.godebug = none) (started : os.Started) (noInit : C.prog.inits.idxOf? f = none) (hfn : C.prog.funcs[f]? = some fn)
    (witness : ∃ (w : World) (tape : Tape) (i : Input), w.os = os ∧ (w.forCall tape i).Shaped C.prog ∧ i.vars = [] ∧ Input.okWide C.prog (w.forCall tape i) .any w.heap.size f i ∧
      ((s.pre enc C.prog fn [] apart (w.forCall tape i).memory i.args ∧ X (w.forCall tape i).memory i.args) ∧ sizedMet enc C.prog fn (OpenSpec.ofChange s) apart (w.forCall tape i).memory i.args) ∧ Assume.holds {} C.prog (lone (Frame.enter C.prog f i.args .normal) [] (w.forCall tape i)))
    (contract : ∀ (W : World) (base : Nat) (args : Array Value) (ds gs : List (DataW H)) (before : List MemPlace),
      (∀ (j : Nat) t v, fn.params[j]? = some t → args[j]? = some v → Value.okWide C.prog W .any base t v) →
      DataW.Whole enc C.prog fn.params.toList s.vars apart W args.toList ds gs before →
      X W args → W.ShapedOpen C.prog →
      Calls C.prog f args W fun e W' => ∃ v, e = .returned v ∧ s.post enc C.prog fn apart fresh handsOn again W args v W') :
    ReturnsInHanded {} C os f .any (fun w args => (s.pre enc C.prog fn [] apart w args ∧ X w args) ∧ sizedMet enc C.prog fn (OpenSpec.ofChange s) apart w args) (s.post enc C.prog fn apart fresh handsOn again) := by
  refine returnsInHanded_of_calls own started noInit witness ?_
  intro w tape i _ hsh _ hok hpre _
  obtain ⟨_, _, _, fn', hfn', _, _, _, _, hval⟩ := hok
  obtain rfl : fn' = fn := Option.some.inj (hfn'.symm.trans hfn)
  obtain ⟨⟨⟨ds, gs, before, hw, _⟩, hx⟩, _⟩ := hpre
  refine (contract (w.forCall tape i) w.heap.size i.args ds gs before hval (DataW.Whole.of_heap (w' := w.forCall tape i) (by rfl) hw) (hX (w.forCall tape i).memory _ _ rfl hx) hsh).mono fun e W' ⟨v, he, hp⟩ => ?_
  subst he
  exact ChangeSpec.post_blind hp

theorem maxLen_some {W : World} (h : W.ShapedOpen Tryz.prog) : ∃ m, W.cell? ⟨0, 0, none⟩ = some (.int .i64 m) :=
  cell_of_shapedOpen_int (P := Tryz.prog) (g := 0) (t := 3) (zero := #[.int .i64 0]) h (of_decide_eq_true (by kernel_rfl)) (by kernel_rfl) rfl (by kernel_rfl) (by kernel_rfl) Tryz.underlying3

theorem maxLen_lt {W : World} {m : Int} (h : W.cell? ⟨0, 0, none⟩ = some (.int .i64 m)) : 0 < W.heap.size := World.block_lt_of_cell? _ _ h

theorem laidOut : laidOutB Tryz.prog = true := by kernel_rfl

theorem fits_of_wf {n : Int} (h : (Lit.int .i64 n).wf = true) : fits n = true := by
  simpa [Lit.wf, IntKind.min, IntKind.max, IntKind.signed, IntKind.bits, fits] using h

set_option maxRecDepth 100000 in
/-- A value that came in, opened. -/
theorem open_val {H : Type} {enc : TypeId × Value → H} {W : World} {base : Nat} {v : Value} {d : DataW H} {p : List MemPlace} (hv : Value.okWide Tryz.prog W .any base 37 v) (h : DataW.Trod enc Tryz.prog W 0 (fun _ => true) true 37 v d p) :
    ∃ k n s, v = valV k n s ∧ fits k = true ∧ fits n = true ∧ s.size ≤ maxLen := by
  obtain ⟨v0, v1, v2, y0, y1, y2, m, rfl, _, _, h0, h1, h2⟩ := Go.Joins.open_agg3 Tryz.underlying37 (by kernel_rfl) (by kernel_rfl) hv h
  obtain ⟨k, e0, _, hk⟩ := DataW.trod_int Tryz.underlying3 h0
  obtain ⟨n, e1, _, hn⟩ := DataW.trod_int Tryz.underlying3 h1
  obtain ⟨s, e2, _, hs⟩ := DataW.trod_string Tryz.underlying9 h2
  cases e0; cases e1; cases e2
  exact ⟨k, n, s, rfl, fits_of_wf hk, fits_of_wf hn, hs⟩
end Go.Proofs.YtjocopclgehciaaGreatDoor
