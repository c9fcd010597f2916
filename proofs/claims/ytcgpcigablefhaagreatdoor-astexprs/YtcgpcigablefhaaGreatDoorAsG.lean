/-
  Ast: whether all of a list of expressions are such: slices.IndexFunc, slices.ContainsFunc, all.
-/
import Derived.Laws.EntriesVeiled
import Derived.Test.YtcgpcigablefhaaGreatDoorAsB
import Derived.Test.YtcgpcigablefhaaGreatDoorAsE
namespace Go.Proofs.YtcgpcigablefhaaGreatDoor
open Go.RowKit

/-- What a function that is asked of each of a list answers. -/
def AskX (g : FuncId) (caps : Array Value) (l : List XL) (f : XL → Bool) (w : World) : Prop := ∀ k ∈ l, ∀ W, Below w.heap.size w W → Calls Tryz.prog g (#[xV k] ++ caps) W fun e W' => e = .returned (.bool (f k)) ∧ Below W.heap.size W W'

def IdxP {α : Type} (l : List α) (f : α → Bool) (w : World) (e : Ending) (W : World) : Prop := ∃ v : Int, e = .returned (.int .i64 v) ∧ decide (0 ≤ v) = l.any f ∧ -1 ≤ v ∧ v ≤ 1353245080300 ∧ Below w.heap.size w W

set_option maxRecDepth 100000 in
set_option maxHeartbeats 400000 in
theorem idxX_walk {l : List XL} {f : XL → Bool} {a : Option Addr} {c r : Nat} {w : World} (hS : Rw.SlG xC 7 w a l) (hl : l.length ≤ 1353245080300) (hA : AskX 81 #[.pointer (some ⟨r, 0, none⟩)] l f w) :
    Calls Tryz.prog 99 #[.slice a l.length c, .func (.func 81) #[] #[.pointer (some ⟨r, 0, none⟩)]] w (IdxP l f w) := by
  have HS := Rw.dh hS
  have HA := Rw.dh hA
  clear hS hA
  go_enter Tryz.func99, Tryz.ntmps99
  go_wp2_with fail
  go_loopw [8] (fun i wr => ∃ j : Nat, j ≤ l.length ∧ i = .int .i64 (j : Int) ∧ Hid (Below w.heap.size w wr ∧ (l.take j).any f = false)) (fun i _ => l.length - (intOf i).toNat)
  case atStart => exact ⟨0, Nat.zero_le _, rfl, Below.refl _ _, rfl⟩
  case round =>
    obtain ⟨j, hj, rfl, HR⟩ := hrel
    by_cases hlt : j < l.length
    · obtain ⟨b, o, k, rfl, hb, hx, hc⟩ := (HS.out.below HR.out.1).at hlt
      have HX := Rw.dh hx
      have C1 := Rw.dh (HA.out k (List.mem_of_getElem? hx) wr HR.out.1)
      have c0 : wr.cell? ⟨b, o + j * 7, none⟩ = some (.string k.op) := hc 0 _ rfl
      have c1 : wr.cell? ⟨b, o + j * 7 + 1, none⟩ = some (.int .i64 k.vk) := hc 1 _ rfl
      have c2 : wr.cell? ⟨b, o + j * 7 + 2, none⟩ = some (.int .i64 k.vn) := hc 2 _ rfl
      have c3 : wr.cell? ⟨b, o + j * 7 + 3, none⟩ = some (.string k.vs) := hc 3 _ rfl
      have c4 : wr.cell? ⟨b, o + j * 7 + 4, none⟩ = some (.string k.var) := hc 4 _ rfl
      have c5 : wr.cell? ⟨b, o + j * 7 + 5, none⟩ = some (.string k.col) := hc 5 _ rfl
      have c6 : wr.cell? ⟨b, o + j * 7 + 6, none⟩ = some (.slice k.a k.kids.length k.c) := hc 6 _ rfl
      clear hc hx
      go_wp2_with fail
      refine C1.out.mono ?_
      rintro e w1 ⟨rfl, hb1⟩
      have HB1 := Rw.dh (dig_below_on HR.out.1 hb1)
      clear hb1 c0 c1 c2 c3 c4 c5 c6
      cases hd : f k
      · go_wp2
        go_roundw
        case rel => exact ⟨j + 1, hlt, by go_num, HB1.out, any_take_false HX.out HR.out.2 hd⟩
        case measure => simp [intOf]; omega
      · go_wp2
        go_ret
        refine ⟨j, rfl, ?_, by omega, by omega, HB1.out⟩
        rw [List.any_eq_true.2 ⟨k, List.mem_of_getElem? HX.out, hd⟩]
        simp
    · have hjs : j = l.length := by omega
      subst hjs
      go_wp2
      go_ret
      refine ⟨-1, rfl, ?_, by omega, by omega, HR.out.1⟩
      have := HR.out.2
      rw [List.take_length] at this
      rw [this]
      simp

set_option maxRecDepth 100000 in
theorem conX_walk {l : List XL} {f : XL → Bool} {a : Option Addr} {c r : Nat} {w : World} (hS : Rw.SlG xC 7 w a l) (hl : l.length ≤ 1353245080300) (hA : AskX 81 #[.pointer (some ⟨r, 0, none⟩)] l f w) :
    Calls Tryz.prog 80 #[.slice a l.length c, .func (.func 81) #[] #[.pointer (some ⟨r, 0, none⟩)]] w fun e W => e = .returned (.bool (l.any f)) ∧ Below w.heap.size w W := by
  have HC := Rw.dh (idxX_walk (c := c) hS hl hA)
  clear hS hA
  go_enter Tryz.func80, Tryz.ntmps80
  go_wp2_with fail
  refine HC.out.mono ?_
  rintro e w1 ⟨v, rfl, hv, h1, h2, hb⟩
  have HV := Rw.dh hv
  clear hv HC
  go_wp2
  all_goals
    go_ret
    exact ⟨Rw.ret_bool (by rw [← HV.out]), hb⟩

set_option maxRecDepth 100000 in
theorem allX1_rw {q : Nat} {l : List XL} {f : XL → Bool} {r : Nat} {w : World} (hr : w.cell? ⟨r, 0, none⟩ = some (.func (.func 73) #[] #[.pointer (some ⟨q, 0, none⟩)])) (hA : AskX 73 #[.pointer (some ⟨q, 0, none⟩)] l f w) : AskX 81 #[.pointer (some ⟨r, 0, none⟩)] l (fun x => !f x) w := by
  intro k hk W hb
  have HA := Rw.dh (fun W' (hb' : Below W.heap.size W W') => hA k hk W' (dig_below_on hb hb'))
  have hrl := World.block_lt_of_cell? _ _ hr
  have hr' : W.cell? ⟨r, 0, none⟩ = some (.func (.func 73) #[] #[.pointer (some ⟨q, 0, none⟩)]) := by rw [hb.cell hrl]; exact hr
  have hrl' : r < W.heap.size := Nat.lt_of_lt_of_le hrl hb.size
  clear hA hr
  show Calls Tryz.prog 81 #[.agg #[.string k.op, .int .i64 k.vk, .int .i64 k.vn, .string k.vs, .string k.var, .string k.col, .slice k.a k.kids.length k.c], .pointer (some ⟨r, 0, none⟩)] W _
  go_enter Tryz.func81, Tryz.ntmps81
  go_wp2_with fail
  refine (HA.out _ (Rw.below_alloc _ _)).mono ?_
  rintro e w1 ⟨rfl, hb1⟩
  have HB := Rw.dh (dig_below_on (Rw.below_alloc W _) hb1)
  clear hb1
  go_wp2
  go_ret
  exact ⟨rfl, HB.out⟩

set_option maxRecDepth 100000 in
theorem allX1_rx {l : List XL} {f : XL → Bool} {r : Nat} {w : World} (hr : w.cell? ⟨r, 0, none⟩ = some (.func (.func 17) #[] #[])) (hA : AskX 17 #[] l f w) : AskX 81 #[.pointer (some ⟨r, 0, none⟩)] l (fun x => !f x) w := by
  intro k hk W hb
  have HA := Rw.dh (fun W' (hb' : Below W.heap.size W W') => hA k hk W' (dig_below_on hb hb'))
  have hrl := World.block_lt_of_cell? _ _ hr
  have hr' : W.cell? ⟨r, 0, none⟩ = some (.func (.func 17) #[] #[]) := by rw [hb.cell hrl]; exact hr
  have hrl' : r < W.heap.size := Nat.lt_of_lt_of_le hrl hb.size
  clear hA hr
  show Calls Tryz.prog 81 #[.agg #[.string k.op, .int .i64 k.vk, .int .i64 k.vn, .string k.vs, .string k.var, .string k.col, .slice k.a k.kids.length k.c], .pointer (some ⟨r, 0, none⟩)] W _
  go_enter Tryz.func81, Tryz.ntmps81
  go_wp2_with fail
  refine (HA.out _ (Rw.below_alloc _ _)).mono ?_
  rintro e w1 ⟨rfl, hb1⟩
  have HB := Rw.dh (dig_below_on (Rw.below_alloc W _) hb1)
  clear hb1
  go_wp2
  go_ret
  exact ⟨rfl, HB.out⟩

theorem any_not_all (l : List XL) (f : XL → Bool) : (!l.any (fun x => !f x)) = l.all f := by
  induction l with
  | nil => rfl
  | cons x l ih => rw [List.any_cons, List.all_cons, Bool.not_or, ih, Bool.not_not]

set_option maxRecDepth 100000 in
theorem allX_rw {q : Nat} {l : List XL} {f : XL → Bool} {a : Option Addr} {c : Nat} {w : World} (hS : Rw.SlG xC 7 w a l) (hl : l.length ≤ 1353245080300) (hA : AskX 73 #[.pointer (some ⟨q, 0, none⟩)] l f w) :
    Calls Tryz.prog 60 #[.slice a l.length c, .func (.func 73) #[] #[.pointer (some ⟨q, 0, none⟩)]] w fun e W => e = .returned (.bool (l.all f)) ∧ Below w.heap.size w W := by
  have HC := Rw.dh (fun (W : World) (hb : Below w.heap.size w W) (hr : W.cell? ⟨w.heap.size, 0, none⟩ = some (.func (.func 73) #[] #[.pointer (some ⟨q, 0, none⟩)])) => conX_walk (c := c) (hS.below hb) hl (allX1_rw hr fun k hk W' hb' => hA k hk W' (dig_below_on hb hb')))
  clear hS hA
  go_enter Tryz.func60, Tryz.ntmps60
  go_wp2_with fail
  refine (HC.out _ (Rw.below_alloc _ _) (by simp [go_sem])).mono ?_
  rintro e w1 ⟨rfl, hb1⟩
  have HB := Rw.dh (dig_below_on (Rw.below_alloc w _) hb1)
  have HN := Rw.dh (any_not_all l f)
  clear hb1 HC
  generalize l.any (fun x => !f x) = y at *
  go_wp2
  go_ret
  exact ⟨Rw.ret_bool HN.out, HB.out⟩

set_option maxRecDepth 100000 in
theorem allX_rx {l : List XL} {f : XL → Bool} {a : Option Addr} {c : Nat} {w : World} (hS : Rw.SlG xC 7 w a l) (hl : l.length ≤ 1353245080300) (hA : AskX 17 #[] l f w) :
    Calls Tryz.prog 60 #[.slice a l.length c, .func (.func 17) #[] #[]] w fun e W => e = .returned (.bool (l.all f)) ∧ Below w.heap.size w W := by
  have HC := Rw.dh (fun (W : World) (hb : Below w.heap.size w W) (hr : W.cell? ⟨w.heap.size, 0, none⟩ = some (.func (.func 17) #[] #[])) => conX_walk (c := c) (hS.below hb) hl (allX1_rx hr fun k hk W' hb' => hA k hk W' (dig_below_on hb hb')))
  clear hS hA
  go_enter Tryz.func60, Tryz.ntmps60
  go_wp2_with fail
  refine (HC.out _ (Rw.below_alloc _ _) (by simp [go_sem])).mono ?_
  rintro e w1 ⟨rfl, hb1⟩
  have HB := Rw.dh (dig_below_on (Rw.below_alloc w _) hb1)
  have HN := Rw.dh (any_not_all l f)
  clear hb1 HC
  generalize l.any (fun x => !f x) = y at *
  go_wp2
  go_ret
  exact ⟨Rw.ret_bool HN.out, HB.out⟩
end Go.Proofs.YtcgpcigablefhaaGreatDoor
