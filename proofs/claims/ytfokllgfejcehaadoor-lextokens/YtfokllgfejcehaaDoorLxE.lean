/-
  Lex: symbol, quoted and first of package lex.
-/
import Derived.Test.YtfokllgfejcehaaDoorLxD
namespace Go.Proofs.YtfokllgfejcehaaDoor
open Go.RowKit

theorem thid {p : Prop} (h : p) : Hid p := h

/-- The symbols lie where the program lays them. -/
def SymV (w : World) : Prop := ∀ (j : Nat) (x : List UInt8), symsL[j]? = some x → w.cell? ⟨0, j, none⟩ = some (.string (mkB x))

theorem SymV.on {w W : World} (h : SymV w) (hb : Below w.heap.size w W) : SymV W := fun j x hj => by
  rw [hb.cell (World.block_lt_of_cell? _ _ (h j x hj))]
  exact h j x hj

def symQ (q : List (List UInt8)) (l : List UInt8) : Tk × Nat :=
  match q.find? (fun p => p.isPrefixOf l) with
  | some p => (⟨5, 0, 0, mkB p⟩, p.length)
  | none => (zTk, 0)

theorem symQ_hit {q : List (List UInt8)} {l x : List UInt8} (h : Lib.hasPrefix l x = true) : symQ (x :: q) l = (⟨5, 0, 0, mkB x⟩, x.length) := by
  have h' : x.isPrefixOf l = true := h
  simp [symQ, h']

theorem symQ_miss {q : List (List UInt8)} {l x : List UInt8} (h : Lib.hasPrefix l x = false) : symQ (x :: q) l = symQ q l := by
  have h' : x.isPrefixOf l = false := h
  simp [symQ, h']

set_option maxRecDepth 100000 in
theorem idxS (cs : Array Value) (k : Nat) (hk : k < 14) (v : Value) (hv : cs[k]? = some v) (W : World) : (Instr.index 71 (.agg cs) (.int .i64 (k : Int))).run Tryd.prog W = .ok v W := by
  have hn : (0 : Int) ≤ (k : Int) ∧ (k : Int) < 14 := by omega
  simp [Instr.index, run_underlying Tryd.underlying71, asIntOf, hn, go_sem]
  rw [if_pos hk, hv]
  rfl

def symsV : Array Value := #[.string (mkB [60, 62]), .string (mkB [60, 61]), .string (mkB [62, 61]), .string (mkB [60]), .string (mkB [62]), .string (mkB [61]), .string (mkB [43]), .string (mkB [45]), .string (mkB [42]), .string (mkB [40]), .string (mkB [41]), .string (mkB [44]), .string (mkB [46]), .string (mkB [59])]

theorem symsV_at {k : Nat} {x : List UInt8} (h : symsL[k]? = some x) : symsV[k]? = some (.string (mkB x)) := by
  have e : symsV.toList = symsL.map fun x => Value.string (mkB x) := rfl
  rw [← Array.getElem?_toList, e, List.getElem?_map, h]
  rfl

set_option maxRecDepth 100000 in
set_option maxHeartbeats 4000000 in
theorem symbol_walk (s : ByteArray) (w : World) (hV : SymV w) :
    Calls Tryd.prog 30 #[.string s] w fun e w' => e = .returned (.tuple #[tkV (symP s.data.toList).1, .int .i64 (symP s.data.toList).2]) ∧ Below w.heap.size w w' := by
  have hB := lxbelow w (.cells #[.int .i64 0, .int .i64 0, .int .i64 0, .string ⟨#[]⟩] 36)
  have hV1 := hV.on hB
  have g0 := hV1 0 _ rfl
  have g1 := hV1 1 _ rfl
  have g2 := hV1 2 _ rfl
  have g3 := hV1 3 _ rfl
  have g4 := hV1 4 _ rfl
  have g5 := hV1 5 _ rfl
  have g6 := hV1 6 _ rfl
  have g7 := hV1 7 _ rfl
  have g8 := hV1 8 _ rfl
  have g9 := hV1 9 _ rfl
  have g10 := hV1 10 _ rfl
  have g11 := hV1 11 _ rfl
  have g12 := hV1 12 _ rfl
  have g13 := hV1 13 _ rfl
  clear hV hV1
  have HP := fun (x : List UInt8) (W : World) => Tryd.strings_HasPrefix s (mkB x) W
  simp only [mkB_list] at HP
  have HS := fun x => mkB_size x
  have HHP := thid HP
  clear HP
  generalize s.data.toList = l at *
  go_enter Tryd.func30, Tryd.ntmps30
  go_wp2_with fail
  go_loop [7] (fun i => ∃ k : Nat, k ≤ 14 ∧ i = .int .i64 k ∧ Hid (symQ (symsL.drop k) l = symP l)) (fun i => 14 - (intOf i).toNat)
  case atStart => exact ⟨0, Nat.zero_le _, rfl, rfl⟩
  case round =>
    obtain ⟨k, hk, rfl, HI⟩ := hrel
    by_cases hlt' : k < 14
    · have hx : symsL[k]? = some symsL[k] := List.getElem?_eq_getElem hlt'
      have hdr : symsL.drop k = symsL[k] :: symsL.drop (k + 1) := List.drop_eq_getElem_cons hlt'
      have hidx := idxS symsV k hlt' _ (symsV_at hx)
      unfold symsV at hidx
      generalize symsL[k] = x at *
      cases hp : Lib.hasPrefix l x
      · have HQ : Hid (symQ (symsL.drop (k + 1)) l = symP l) := by
          show _ = _
          rw [← HI.out, hdr, symQ_miss hp]
        have HF := fun W => HHP.out x W
        rw [hp] at HF
        clear hx hdr hp HI
        go_wp2_with (go_at_call 43; refine (HF _).mono ?_; rintro e w' ⟨rfl, rfl⟩)
        exact ⟨⟨k + 1, by omega, by go_num, HQ⟩, by simp [intOf]; omega⟩
      · have HQ : Hid (symP l = (⟨5, 0, 0, mkB x⟩, x.length)) := by
          show _ = _
          rw [← HI.out, hdr, symQ_hit hp]
        have HF := fun W => HHP.out x W
        rw [hp] at HF
        have hsz := HS x
        clear hx hdr hp HI
        go_wp2_with (go_at_call 43; refine (HF _).mono ?_; rintro e w' ⟨rfl, rfl⟩)
        refine bodyPost_ret (v := .tuple #[tkV ⟨5, 0, 0, mkB x⟩, .int .i64 (x.length : Int)]) (by simp [results, Tryd.results30, go_sem, tkV]) rfl ⟨by rw [HQ.out], ?_⟩
        exact lxbelow _ _
    · have hk14 : k = 14 := by omega
      subst hk14
      have HQ : Hid (symP l = (zTk, 0)) := by
        show _ = _
        rw [← HI.out]
        rfl
      go_wp2_with fail
      refine bodyPost_ret (v := .tuple #[tkV zTk, .int .i64 0]) (by simp [results, Tryd.results30, go_sem, tkV, zTk, mkB]) rfl ⟨by rw [HQ.out]; rfl, hB⟩
end Go.Proofs.YtfokllgfejcehaaDoor
