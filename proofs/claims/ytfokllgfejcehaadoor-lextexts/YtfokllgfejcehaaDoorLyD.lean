/-
  Lex: the walk of LexTexts.
-/
import Derived.Test.YtfokllgfejcehaaDoorLyC
import Derived.Test.YtfokllgfejcehaaDoorLxM
import Derived.Test.YtfokllgfejcehaaDoorLxO
namespace Go.Proofs.YtfokllgfejcehaaDoor
open Go.RowKit

set_option maxRecDepth 100000 in
set_option maxHeartbeats 2000000 in
theorem lexTexts_walk {l : List Tk} {a : Option Addr} {n c : Nat} {w : World} (h : Rw.SlG tkC 4 w a l) (hl : l.length = n) (hf : ∀ t ∈ l, fits t.n = true) (hV : LexV w) (hT : TxtV w) :
    Calls Tryd.prog 4 #[.slice a n c] w fun e w' => e = .returned (.bool true) ∧ Below w.heap.size w w' := by
  have HAW := thid (awake_walk w hV)
  have HH := thid h
  have HL := thid hl
  have HF := thid hf
  have HT := thid hT
  clear hV h hl hf hT
  by_cases hbig : 300 < n
  · have hbig' : (300 : Int) < n := by omega
    go_enter Tryd.func4, Tryd.ntmps4
    go_wp2_with (go_at_call 7; refine HAW.out.mono ?_; rintro e W1 ⟨rfl, hb⟩; have HB := thid hb; clear hb)
    go_ret
    exact ⟨rfl, HB.out⟩
  · have hbig' : ¬ (300 : Int) < n := by omega
    go_enter Tryd.func4, Tryd.ntmps4
    go_wp2_with (go_at_call 7; refine HAW.out.mono ?_; rintro e W1 ⟨rfl, hb⟩; have HB := thid hb; clear hb)
    go_loopw [12] (fun i wr => ∃ j : Nat, j ≤ n ∧ i = .int .i64 (j : Int) ∧ Hid ((∀ t ∈ l.take j, t.s.size ≤ 1000) ∧ Below w.heap.size w wr)) (fun i _ => n - (intOf i).toNat)
    case atStart => exact ⟨0, Nat.zero_le _, rfl, fun t ht => (by simp at ht), HB.out⟩
    case round =>
      obtain ⟨j, hj, rfl, HI⟩ := hrel
      by_cases hlt : j < n
      · obtain ⟨b, o, x, rfl, hb, hx, hc⟩ := (HH.out.below HI.out.2).at (j := j) (by rw [HL.out]; exact hlt)
        have HNX : Hid (x.s.size ≤ 1000 → ∀ t ∈ l.take (j + 1), t.s.size ≤ 1000) := fun hxs t ht => by
          obtain ⟨hjl, rfl⟩ := List.getElem?_eq_some_iff.1 hx
          rw [List.take_succ_eq_append_getElem hjl] at ht
          rcases List.mem_append.1 ht with h | h
          · exact HI.out.1 t h
          · rw [List.mem_singleton.1 h]; exact hxs
        obtain ⟨xk, xn, xp, xs⟩ := x
        have c0 : wr.cell? ⟨b, o + j * 4, none⟩ = some (.int .i64 xk) := hc 0 _ rfl
        have c1 : wr.cell? ⟨b, o + j * 4 + 1, none⟩ = some (.int .i64 xn) := hc 1 _ rfl
        have c2 : wr.cell? ⟨b, o + j * 4 + 2, none⟩ = some (.int .i64 xp) := hc 2 _ rfl
        have c3 : wr.cell? ⟨b, o + j * 4 + 3, none⟩ = some (.string xs) := hc 3 _ rfl
        clear hx hc
        by_cases hxs : 1000 < xs.size
        · have hxs' : (1000 : Int) < xs.size := by omega
          go_wp2_with fail
          go_ret
          exact ⟨rfl, HI.out.2.alloc HI.out.2.size _⟩
        · have hxs' : ¬ (1000 : Int) < xs.size := by omega
          go_wp2_with fail
          exact ⟨⟨j + 1, hlt, by go_num, HNX.out (by show xs.size ≤ 1000; omega), HI.out.2.alloc HI.out.2.size _⟩, by simp [intOf]; omega⟩
      · have hjn : l.take j = l := List.take_of_length_le (by have := HL.out; omega)
        rw [hjn] at HI
        have HOK : Hid (∀ t ∈ l, TkOk 3000 t) := fun t ht => ⟨HF.out t ht, by have := HI.out.1 t ht; omega⟩
        have HTX := thid (text_walk (c := c) (HH.out.below HI.out.2) HL.out (by omega) HOK.out (HT.out.on HI.out.2))
        clear hjn
        go_wp2_with fail
        refine HTX.out.mono ?_
        rintro e W2 ⟨rfl, hb2⟩
        have HB2 := thid (lxon HI.out.2 hb2)
        clear hb2
        have HPL := thid (plain_walk (c := c) (HH.out.below HB2.out) HL.out (by omega))
        go_wp2_with fail
        refine HPL.out.mono ?_
        rintro e W3 ⟨v, rfl, hO3, hb3⟩
        obtain ⟨va, vc, rfl⟩ := Rw.owns_slice hO3
        have HRT := thid (rtext_walk (c := vc) (Rw.owns_slg tkC_len (by decide) hO3).2.1 HL.out (by omega) HOK.out)
        have HB3 := thid (lxon HB2.out hb3)
        clear hb3 hO3
        go_wp2_with fail
        refine HRT.out.mono ?_
        rintro e W4 ⟨rfl, hb4⟩
        have HB4 := thid (lxon HB3.out hb4)
        have hss : ((joinB (textsL l)).toList == (joinB (textsL l)).toList) = true := beq_self_eq_true _
        clear hb4
        go_wp2_with fail
        go_ret
        exact ⟨rfl, HB4.out⟩
end Go.Proofs.YtfokllgfejcehaaDoor
