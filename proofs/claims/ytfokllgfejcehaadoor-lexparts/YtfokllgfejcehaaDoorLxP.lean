/-
  Lex: the walk of LexTokens.
-/
import Derived.Test.YtfokllgfejcehaaDoorLxO
import Derived.Test.YtfokllgfejcehaaDoorLxN
import Derived.Test.YtfokllgfejcehaaDoorLxL
namespace Go.Proofs.YtfokllgfejcehaaDoor
open Go.RowKit Rw

theorem cut_none {x : List Tk × Option Nat} (h : x.2 = none) : x = (x.1, none) := by rw [← h]
theorem cut_some {x : List Tk × Option Nat} {p : Nat} (h : x.2 = some p) : x = (x.1, some p) := by rw [← h]

theorem cutF_len : ∀ (f p : Nat) (r : List UInt8), (cutF f p r).1.length ≤ r.length + 1
  | 0, _, _ => Nat.zero_le _
  | f + 1, p, r => by
    by_cases h : r = []
    · subst h; rw [cutF_end]; exact Nat.le_refl _
    by_cases h0 : (firstP r).2 = 0
    · rw [cutF_bad h h0]; exact Nat.zero_le _
    · rw [cutF_step h h0]
      have := cutF_len f (p + (firstP r).2 + spanN blkB (r.drop (firstP r).2)) ((r.drop (firstP r).2).drop (spanN blkB (r.drop (firstP r).2)))
      have h2 := firstP_size r
      simp only [List.length_cons, List.length_drop] at this ⊢
      have : r.length ≠ 0 := fun e => h (List.length_eq_zero_iff.1 e)
      omega

theorem cutT_len (l : List UInt8) : (cutT l).1.length ≤ l.length + 1 := by
  have := cutF_len (l.length + 1) (spanN blkB l) (l.drop (spanN blkB l))
  rw [List.length_drop] at this
  unfold cutT
  omega

set_option maxRecDepth 100000 in
set_option maxHeartbeats 2000000 in
theorem lexTokens_walk (s : ByteArray) (w : World) (hV : LexV w) : Calls Tryd.prog 3 #[.string s] w fun e w' => e = .returned (.bool true) ∧ Below w.heap.size w w' := by
  have HAW := thid (awake_walk w hV)
  have HV := thid hV
  clear hV
  by_cases hbig : 3000 < s.size
  · have hbig' : (3000 : Int) < s.size := by omega
    go_enter Tryd.func3, Tryd.ntmps3
    go_wp2_with (go_at_call 7; refine HAW.out.mono ?_; rintro e W1 ⟨rfl, hb⟩; have HB := thid hb; clear hb)
    go_ret
    exact ⟨rfl, HB.out⟩
  · have hbig' : ¬ (3000 : Int) < s.size := by omega
    have HT := thid (fun W (hW : LexV W) => tokens_walk s W (by omega) hW)
    have HU := thid (fun W => rtokens_walk s W (by omega))
    have hln := cutT_len s.data.toList
    rw [bsz] at hln
    cases hc : (cutT s.data.toList).2 with
    | some p =>
      rw [cut_some hc] at HT HU
      clear hc
      go_enter Tryd.func3, Tryd.ntmps3
      go_wp2_with (go_at_call 7; refine HAW.out.mono ?_; rintro e W1 ⟨rfl, hb⟩; have HB := thid hb; clear hb)
      refine (HT.out _ (HV.out.on HB.out)).mono ?_
      rintro e W2 ⟨v, rfl, hR, hb2⟩
      cases (show v = .tuple #[.slice none 0 0, fltV 1 p] from hR)
      have HB2 := thid (lxon HB.out hb2)
      clear hb2
      unfold fltV
      go_wp2_with fail
      refine (HU.out _).mono ?_
      rintro e W3 ⟨v, rfl, hR3, hb3⟩
      cases (show v = .tuple #[.slice none 0 0, .int .i64 p] from hR3)
      have hsz2 : W2.heap.size < W3.heap.size := Nat.lt_of_lt_of_le (by simp) hb3.size
      have k0 : W3.cell? ⟨W2.heap.size, 0, none⟩ = some (.int .i64 1) := by rw [hb3.cell (by simp)]; simp [go_sem]
      have k1 : W3.cell? ⟨W2.heap.size, 1, none⟩ = some (.int .i64 p) := by rw [hb3.cell (by simp)]; simp [go_sem]
      have HB3 := thid (lxon (HB2.out.alloc HB2.out.size _) hb3)
      have hpp : ((p : Int) == (p : Int)) = true := beq_self_eq_true _
      clear hb3
      go_wp2_with fail
      go_ret
      exact ⟨rfl, HB3.out⟩
    | none =>
      rw [cut_none hc] at HT HU
      clear hc
      generalize (cutT s.data.toList).1 = ts at HT HU hln
      go_enter Tryd.func3, Tryd.ntmps3
      go_wp2_with (go_at_call 7; refine HAW.out.mono ?_; rintro e W1 ⟨rfl, hb⟩; have HB := thid hb; clear hb)
      refine (HT.out _ (HV.out.on HB.out)).mono ?_
      rintro e W2 ⟨v, rfl, hR, hb2⟩
      obtain ⟨r, rfl, hO⟩ : ∃ r, v = .tuple #[r, fltV 0 0] ∧ W2.ownsRow W1.heap.size 36 4 r ts.length (flat tkC ts) := hR
      obtain ⟨ra, rc, rfl⟩ := owns_slice hO
      have HB2 := thid (lxon HB.out hb2)
      have HO := thid hO
      clear hb2 hO
      unfold fltV
      go_wp2_with fail
      refine (HU.out _).mono ?_
      rintro e W3 ⟨v, rfl, hR3, hb3⟩
      obtain ⟨q, rfl, hO3⟩ : ∃ r, v = .tuple #[r, .int .i64 (-1)] ∧ W3.ownsRow _ 46 4 r ts.length (flat tkC ts) := hR3
      obtain ⟨qa, qc, rfl⟩ := owns_slice hO3
      have hsz2 : W2.heap.size < W3.heap.size := Nat.lt_of_lt_of_le (by simp) hb3.size
      have k0 : W3.cell? ⟨W2.heap.size, 0, none⟩ = some (.int .i64 0) := by rw [hb3.cell (by simp)]; simp [go_sem]
      have k1 : W3.cell? ⟨W2.heap.size, 1, none⟩ = some (.int .i64 0) := by rw [hb3.cell (by simp)]; simp [go_sem]
      have HB3 := thid (lxon (HB2.out.alloc HB2.out.size _) hb3)
      have HS := thid (owns_slg tkC_len (by decide) (owns_on (owns_on HO.out (lxbelow _ _)) hb3)).2.1
      have HO3 := thid hO3
      clear hb3 hO3 HO
      go_wp2_with fail
      refine (plain_walk HS.out rfl (by omega)).mono ?_
      rintro e W4 ⟨v, rfl, hO4, hb4⟩
      obtain ⟨va, vc, rfl⟩ := owns_slice hO4
      have HS4 := thid (same_true (c := vc) (d := qc) true (owns_slg tkC_len (by decide) hO4).2.1 (owns_slg tkC_len (by decide) (owns_on HO3.out hb4)).2.1 (fun j x y hx hy => by rw [hx] at hy; cases hy; exact ⟨rfl, rfl, rfl, fun _ => rfl⟩) rfl rfl (by omega))
      have HB4 := thid (lxon HB3.out hb4)
      clear hO4 hb4
      go_wp2_with fail
      refine HS4.out.mono ?_
      rintro e W5 ⟨rfl, hb5⟩
      have HB5 := thid (lxon HB4.out hb5)
      clear hb5
      go_wp2_with fail
      go_ret
      exact ⟨rfl, HB5.out⟩
end Go.Proofs.YtfokllgfejcehaaDoor
