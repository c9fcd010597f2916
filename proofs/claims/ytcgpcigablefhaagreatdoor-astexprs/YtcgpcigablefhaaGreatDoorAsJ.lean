/-
  Ast: an expression's text, written by package ast.
-/
import Derived.Lib.BufferKept
import Derived.Test.YtcgpcigablefhaaGreatDoorAsW
import Derived.Test.YtcgpcigablefhaaGreatDoorAsB
import Derived.Test.YtcgpcigablefhaaGreatDoorAsE
namespace Go.Proofs.YtcgpcigablefhaaGreatDoor
open Go.RowKit

/-- What the library's variables hold. -/
structure LibV (w : World) : Prop where
  tab : Tab w
  mx : ∃ m, w.cell? ⟨5, 0, none⟩ = some (.int .i64 m)
theorem LibV.on {w W : World} (h : LibV w) (hb : Below w.heap.size w W) : LibV W := ⟨h.tab.below hb, by
  obtain ⟨m, hm⟩ := h.mx
  exact ⟨m, by rw [hb.cell (World.block_lt_of_cell? _ _ hm)]; exact hm⟩⟩

/-- A builder in which a text stands, in a world above a base. -/
structure Bl (w0 : World) (b : Nat) (acc : List UInt8) (w : World) : Prop where
  at' : Lib.IsBuilderF 106 5 w0.heap.size b (Lib.byteCells acc) w
  bel : Below w0.heap.size w0 w
  lt : b < w.heap.size

/-- What else is kept when it is written into. -/
def Kp (b : Nat) (w W : World) : Prop := Lib.OthersKept 5 (some b) w W

theorem bldF_on {T e B b : Nat} {p : Value} {bs : List Value} {w W : World} (h : Lib.BuilderAtF T e B b p bs w) (hb : Below w.heap.size w W) : Lib.BuilderAtF T e B b p bs W := by
  have hlt := h.lt
  obtain ⟨h1, v, h2, h3, h4⟩ := h
  have hg : w.grownBy W none := ⟨hb.os, hb.tape, hb.output, hb.size, fun k hk _ => hb.block k hk⟩
  refine ⟨h1, v, by rw [hb.block b hlt]; exact h2, h3.kept hg ?_, h4⟩
  cases v.ownBlock with
  | none => exact Or.inl rfl
  | some q => exact Or.inr (fun e => by cases e)
theorem isbF_on {T e B b : Nat} {bs : List Value} {w W : World} (h : Lib.IsBuilderF T e B b bs w) (hb : Below w.heap.size w W) : Lib.IsBuilderF T e B b bs W := h.imp (fun h => bldF_on h hb) (fun h => bldF_on h hb)
theorem Bl.on {w0 w W : World} {b : Nat} {acc : List UInt8} (h : Bl w0 b acc w) (hb : Below w.heap.size w W) : Bl w0 b acc W := ⟨isbF_on h.at' hb, h.bel.trans (hb.mono h.bel.size), Nat.lt_of_lt_of_le h.lt hb.size⟩

theorem bytes_app (a : List UInt8) (s : ByteArray) : Lib.byteCells a ++ Lib.strCells s = Lib.byteCells (a ++ s.toList) := by
  simp [Lib.byteCells, Lib.strCells, ByteArray.toList_eq]

theorem ws_bl {w0 w : World} {b : Nat} {acc : List UInt8} (h : Bl w0 b acc w) (s : ByteArray) (hl : acc.length + s.size ≤ 140737488355328) :
    Calls Tryz.prog 84 #[.pointer (some ⟨b, 0, none⟩), .string s] w fun e W => e = .returned (.tuple #[.int .i64 s.size, .nilIface]) ∧ Bl w0 b (acc ++ s.toList) W ∧ Kp b w W := by
  refine (Any.Builder_WriteString_k Tryz.lays166 Tryz.Builder_Extra_166 _ b _ s w h.at' (by rw [Lib.byteCells_length]; exact hl) h.bel.size).mono ?_
  rintro e W ⟨rfl, h1, h2, h3⟩
  rw [bytes_app] at h1
  exact ⟨rfl, ⟨Or.inr h1, h.bel.trans h2, h1.lt⟩, h3⟩

theorem wb_bl {w0 w : World} {b : Nat} {acc : List UInt8} (h : Bl w0 b acc w) (c : UInt8) (hl : acc.length + 1 ≤ 140737488355328) :
    Calls Tryz.prog 105 #[.pointer (some ⟨b, 0, none⟩), .int .u8 (c.toNat : Int)] w fun e W => e = .returned .nilIface ∧ Bl w0 b (acc ++ [c]) W ∧ Kp b w W := by
  refine (Any.Builder_WriteByte_k Tryz.lays167 Tryz.Builder_Extra_167 _ b _ (c.toNat : Int) w h.at' (by rw [Lib.byteCells_length]; exact hl) h.bel.size).mono ?_
  rintro e W ⟨rfl, h1, h2, h3⟩
  have e1 : Lib.byteCells acc ++ [.int .u8 (c.toNat : Int)] = Lib.byteCells (acc ++ [c]) := by simp [Lib.byteCells]
  rw [e1] at h1
  exact ⟨rfl, ⟨Or.inr h1, h.bel.trans h2, h1.lt⟩, h3⟩

/-- A variable that holds an expression is kept. -/
theorem kp_at {b k : Nat} {w W : World} {cs : Array Value} {T : TypeId} (hT : T ≠ 5) (h : w.heap[k]? = some (.cells cs T (0, 0))) (hk : k ≠ b) (hK : Kp b w W) : W.heap[k]? = some (.cells cs T (0, 0)) :=
  hK k _ h (fun e => hk (Option.some.inj e)) (fun c fz e => hT (by cases e; rfl))

theorem Kp.refl (b : Nat) (w : World) : Kp b w w := Lib.OthersKept.refl _ _ _
theorem Kp.trans {b : Nat} {u v w : World} (h : Kp b u v) (k : Kp b v w) : Kp b u w := Lib.OthersKept.trans h k
theorem Kp.below {b : Nat} {u v w : World} (h : Kp b u v) (k : Below v.heap.size v w) : Kp b u w := Lib.OthersKept.below h k
theorem kp_alloc (b : Nat) (w : World) (o : Obj) : Kp b w (w.alloc o) := (Kp.refl b w).below (Rw.below_alloc _ _)

set_option maxRecDepth 100000 in
set_option maxHeartbeats 1000000 in
theorem wc_walk {w0 w : World} {b : Nat} {acc : List UInt8} (h : Bl w0 b acc w) {xo xs xv xc : ByteArray} {xk xn : Int} {xa : Option Addr} {xp : Nat} {l : List XL} (h1 : xv.size ≤ 16) (h2 : xc.size ≤ 16) (hl : acc.length + 40 ≤ 140737488355328) :
    Calls Tryz.prog 92 #[.pointer (some ⟨b, 0, none⟩), .agg #[.string xo, .int .i64 xk, .int .i64 xn, .string xs, .string xv, .string xc, .slice xa l.length xp]] w fun e W => e = .returned (.tuple #[]) ∧ Bl w0 b (acc ++ (if xv.toList == [] then xc.toList else xv.toList ++ 46 :: xc.toList)) W ∧ Kp b w W := by
  have HB := Rw.dh h
  clear h
  have HV : Hid (xv.toList.length = xv.size) := by show _ = _; rw [ByteArray.toList_eq]; rfl
  obtain ⟨R, HR⟩ : ∃ R, Hid (acc ++ (if xv.toList == [] then xc.toList else xv.toList ++ 46 :: xc.toList) = R) := ⟨_, rfl⟩
  rw [HR.out]
  cases hv : (xv.toList == [])
  · have HE : Hid (acc ++ xv.toList ++ [46] ++ xc.toList = R) := by show _ = _; rw [← HR.out, hv]; simp
    clear HR
    go_enter Tryz.func92, Tryz.ntmps92
    go_wp2_with fail
    refine (ws_bl (HB.out.on (Rw.below_alloc _ _)) xv (by omega)).mono ?_
    rintro e w1 ⟨rfl, hb1, hk1⟩
    have hl1 : (acc ++ xv.toList).length = acc.length + xv.size := by rw [List.length_append, HV.out]
    have p1 := kp_at (by decide) (Rw.heap_new w (.cells #[.string xo, .int .i64 xk, .int .i64 xn, .string xs, .string xv, .string xc, .slice xa l.length xp] 44)) (Nat.ne_of_gt HB.out.lt) hk1
    have HK1 := Rw.dh hk1
    clear hk1
    go_wp2_with fail
    refine (wb_bl hb1 46 (by omega)).mono ?_
    rintro e w2 ⟨rfl, hb2, hk2⟩
    have p2 := kp_at (by decide) p1 (Nat.ne_of_gt HB.out.lt) hk2
    have c5 : w2.cell? ⟨w.heap.size, 5, none⟩ = some (.string xc) := by rw [cell_of_row _ _ _ _ _ _ p2]; rfl
    have HK2 := Rw.dh hk2
    clear hk2 hb1 p1
    go_wp2_with fail
    refine (ws_bl hb2 xc (by rw [List.length_append, hl1]; simp; omega)).mono ?_
    rintro e w3 ⟨rfl, hb3, hk3⟩
    rw [HE.out] at hb3
    have HZ := Rw.dh (And.intro hb3 ((((kp_alloc b w _).trans HK1.out).trans HK2.out).trans hk3))
    clear hb3 hk3 hb2 p2 c5
    go_wp2
    go_end0
    exact ⟨rfl, HZ.out⟩
  · have HE : Hid (acc ++ xc.toList = R) := by show _ = _; rw [← HR.out, hv]; simp
    clear HR
    go_enter Tryz.func92, Tryz.ntmps92
    go_wp2_with fail
    refine (ws_bl (HB.out.on (Rw.below_alloc _ _)) xc (by omega)).mono ?_
    rintro e w3 ⟨rfl, hb3, hk3⟩
    rw [HE.out] at hb3
    have HZ := Rw.dh (And.intro hb3 ((kp_alloc b w _).trans hk3))
    clear hb3 hk3
    go_wp2
    go_end0
    exact ⟨rfl, HZ.out⟩
end Go.Proofs.YtcgpcigablefhaaGreatDoor
