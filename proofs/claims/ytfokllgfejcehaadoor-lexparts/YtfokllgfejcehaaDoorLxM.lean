/-
  Lex: the law's Plain, the document's Same of tokens, and 'awake', the document's example.
-/
import Derived.Test.YtfokllgfejcehaaDoorLxK
namespace Go.Proofs.YtfokllgfejcehaaDoor
open Go.RowKit Rw

theorem take_snocT {l : List Tk} {j : Nat} {x : Tk} (h : l[j]? = some x) : l.take (j + 1) = l.take j ++ [x] := by
  obtain ⟨hj, rfl⟩ := List.getElem?_eq_some_iff.1 h
  rw [List.take_succ_eq_append_getElem hj]

set_option maxRecDepth 100000 in
set_option maxHeartbeats 1000000 in
theorem plain_walk {l : List Tk} {a : Option Addr} {n c : Nat} {w : World} (h : SlG tkC 4 w a l) (hl : l.length = n) (hn : n ≤ 200000) :
    Calls Tryd.prog 11 #[.slice a n c] w fun e w' => ∃ v', e = .returned v' ∧ w'.ownsRow w.heap.size 46 4 v' n (flat tkC l) ∧ Below w.heap.size w w' := by
  have HH := thid h
  have HL := thid hl
  have HT : Hid (l.take n = l) := by show _ = _; rw [← hl]; exact List.take_length
  clear h hl
  go_enter Tryd.func11, Tryd.ntmps11
  go_wp2
  go_loopw [3, 8] (fun s i wr => ∃ j : Nat, j ≤ n ∧ i = .int .i64 (j : Int) ∧ Hid (wr.ownsRow w.heap.size 46 4 s j (flat tkC (l.take j)) ∧ Below w.heap.size w wr)) (fun _ i _ => n - (intOf i).toNat)
  case atStart => exact ⟨0, Nat.zero_le _, rfl, World.ownsRow_nil _ _ _ _, Below.refl _ _⟩
  case round =>
    obtain ⟨j, hj, rfl, HI⟩ := hrel
    by_cases hlt : j < n
    · obtain ⟨b, o, x, rfl, hb, hx, hc⟩ := (HH.out.below HI.out.2).at (j := j) (by rw [HL.out]; exact hlt)
      have c0 : wr.cell? ⟨b, o + j * 4, none⟩ = some (.int .i64 x.kind) := hc 0 _ rfl
      have c1 := hc 1 _ rfl
      have c2 := hc 2 _ rfl
      have c3 := hc 3 _ rfl
      have HX := thid hx
      clear hx hc
      go_wp2_with (first | (at_builtin; revert HI) | go_in)
      intro HI
      refine to_letter (F := fun W => Below wr.heap.size wr W ∧ Src W (some ⟨wr.heap.size + 1, 0, none⟩) 1 1 (tkC x)) ⟨(lxbelow wr _).alloc (by simp) _, src_new _ (tkC x) _ 1 1 (by simp)⟩ ?_
      rintro U ⟨bU, sU⟩
      have o1 := owns_on HI.out.1 bU
      have b1 := below_on HI.out.2 bU HI.out.2.size
      refine append_src Tryd.underlying29 infoRTok rfl (by decide) (by decide) rfl _ _ rfl w.heap.size b1.size _ j (flat tkC (l.take j)) rfl o1 _ 1 1 (tkC x) rfl sU rfl (tkC_one x) (by omega) ?_
      intro v2 W2 O2 G2 _
      have e2 : flat tkC (l.take j) ++ tkC x = flat tkC (l.take (j + 1)) := by rw [take_snocT HX.out, flat_append]; simp [flat]
      rw [e2] at O2
      have HI2 := thid (And.intro O2 (b1.grown G2 b1.size fun p hp => (o1.lt p hp).1))
      clear O2 G2 e2 o1 b1 bU sU HI c0 c1 c2 c3
      go_wp2
      exact ⟨⟨j + 1, hlt, by go_num, HI2⟩, by simp [intOf]; omega⟩
    · have hjn : j = n := by omega
      subst hjn
      rw [HT.out] at HI
      go_wp2
      go_ret
      exact ⟨_, rfl, HI.out.1, HI.out.2⟩
end Go.Proofs.YtfokllgfejcehaaDoor
