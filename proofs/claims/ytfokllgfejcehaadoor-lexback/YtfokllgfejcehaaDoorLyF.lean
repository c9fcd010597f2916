/-
  Lex: the walk of LexBack.
-/
import Derived.Test.YtfokllgfejcehaaDoorLyE
import Derived.Test.YtfokllgfejcehaaDoorLyB
import Derived.Test.YtfokllgfejcehaaDoorLxN
namespace Go.Proofs.YtfokllgfejcehaaDoor
open Go.RowKit

theorem texts_like : ∀ (A B : List Tk), Likes A B → textsL A = textsL B
  | [], [], _ => rfl
  | [], _ :: _, h => by have := h.1; simp at this
  | _ :: _, [], h => by have := h.1; simp at this
  | x :: A, y :: B, h => by
    have h1 : Likes A B := ⟨by simpa using h.1, fun j a b ha hb => h.2 (j + 1) a b (by simpa using ha) (by simpa using hb)⟩
    obtain ⟨e1, e2, e3⟩ := h.2 0 x y rfl rfl
    have e : tkT x = tkT y := by unfold tkT; rw [e1, e2, e3]
    unfold textsL
    rw [List.filterMap_cons, List.filterMap_cons, e]
    have ih := texts_like A B h1
    unfold textsL at ih
    rw [ih]

theorem texts_good {n : Nat} : ∀ (G : List Tk), (∀ t ∈ G, Good n t) → (textsL G).map (·.data.toList) = G.map txtL
  | [], _ => rfl
  | t :: G, h => by
    obtain ⟨⟨x, g1, -⟩, -⟩ := h t List.mem_cons_self
    have ih := texts_good G fun y hy => h y (List.mem_cons_of_mem _ hy)
    unfold textsL at ih ⊢
    rw [List.filterMap_cons, g1]
    simp only [List.map_cons]
    rw [ih]
    simp [txtL, g1]

/-- What LexBack stands on. -/
theorem back_law {s : ByteArray} {A : List Tk} (hs : s.size ≤ 1000) (h : cutT s.data.toList = (A, none)) :
    ∃ B, cutT ((⟨#[10, 32]⟩ : ByteArray) ++ joinB (textsL A) ++ ⟨#[9]⟩).data.toList = (B, none) ∧ Likes A B ∧ (∀ t ∈ A, TkOk 3000 t) ∧ (joinB (textsL A)).size ≤ 60000 ∧ A.length ≤ 1001 := by
  have hb := bsz s
  have hr : (s.data.toList.drop (spanN blkB s.data.toList)).length ≤ 1000 := by rw [List.length_drop]; omega
  obtain ⟨G, e, rfl, h2, h3, h4⟩ := cut_good (s.data.toList.length + 1) (spanN blkB s.data.toList) _ A (by rw [List.length_drop]; omega) h
  generalize (s.data.toList.drop (spanN blkB s.data.toList)).length = n at *
  obtain ⟨B, h5, h6⟩ := cut_again h2
  have ht : (textsL (G ++ [⟨0, 0, e, mkB []⟩])).map (·.data.toList) = G.map txtL := by
    have : textsL (G ++ [⟨0, 0, e, mkB []⟩]) = textsL G := by
      rw [texts_snoc]
      show textsL G ++ [] = _
      rw [List.append_nil]
    rw [this, texts_good G h2]
  have hj : joinB (textsL (G ++ [⟨0, 0, e, mkB []⟩])) = mkB (Lib.join (G.map txtL) [32]) := by rw [joinB, ht]
  refine ⟨B, ?_, ?_, ?_, ?_, by simp; omega⟩
  · rw [hj]
    have : ((⟨#[10, 32]⟩ : ByteArray) ++ mkB (Lib.join (G.map txtL) [32]) ++ ⟨#[9]⟩).data.toList = 10 :: 32 :: (Lib.join (G.map txtL) [32] ++ [9]) := by simp [mkB]
    rw [this, h5]
  · refine ⟨by have := h6.1; simpa using this, fun j x y hx hy => ?_⟩
    by_cases hjl : j < G.length
    · exact h6.2 j x y (by rw [List.getElem?_append_left hjl] at hx ⊢; exact hx) hy
    · have hje : j = G.length := by have := (List.getElem?_eq_some_iff.1 hx).1; simp at this; omega
      subst hje
      rw [List.getElem?_append_right (Nat.le_refl _)] at hx
      simp at hx
      have := h6.2 G.length ⟨0, 0, 0, mkB []⟩ y (by rw [List.getElem?_append_right (Nat.le_refl _)]; simp) hy
      subst hx
      exact this
  · intro t ht
    rcases List.mem_append.1 ht with h | h
    · have := (h2 t h).ok
      exact ⟨this.1, by omega⟩
    · rw [List.mem_singleton.1 h]
      exact ⟨by simp [fits], by simp [mkB_size]⟩
  · rw [hj, mkB_size]
    cases G with
    | nil => simp [Lib.join_nil]
    | cons t G =>
      rw [List.map_cons, Lib.join_length]
      have e1 : Lib.lens (txtL t :: G.map txtL) = ((t :: G).map fun t => (txtL t).length).sum := by
        unfold Lib.lens
        rw [← List.map_cons, List.map_map]
        rfl
      rw [e1]
      simp only [List.length_cons, List.length_map, List.length_nil] at *
      omega

theorem like_ok {A B : List Tk} {N : Nat} (h : Likes A B) (hA : ∀ t ∈ A, TkOk N t) : ∀ t ∈ B, TkOk N t := by
  intro t ht
  obtain ⟨j, hj, rfl⟩ := List.mem_iff_getElem.1 ht
  have hjA : j < A.length := by rw [h.1]; exact hj
  obtain ⟨-, e2, e3⟩ := h.2 j A[j] B[j] (List.getElem?_eq_getElem hjA) (List.getElem?_eq_getElem hj)
  have := hA A[j] (List.getElem_mem _)
  exact ⟨by rw [← e2]; exact this.1, by rw [← e3]; exact this.2⟩

set_option maxRecDepth 100000 in
set_option maxHeartbeats 2000000 in
theorem lexBack_walk (s : ByteArray) (w : World) (hV : LexV w) (hT : TxtV w) : Calls Tryd.prog 5 #[.string s] w fun e w' => e = .returned (.bool true) ∧ Below w.heap.size w w' := by
  have HAW := thid (awake_walk w hV)
  have HV := thid hV
  have HT := thid hT
  clear hV hT
  by_cases hbig : 1000 < s.size
  · have hbig' : (1000 : Int) < s.size := by omega
    go_enter Tryd.func5, Tryd.ntmps5
    go_wp2_with (go_at_call 7; refine HAW.out.mono ?_; rintro e W1 ⟨rfl, hb⟩; have HB := thid hb; clear hb)
    go_ret
    exact ⟨rfl, HB.out⟩
  · have hbig' : ¬ (1000 : Int) < s.size := by omega
    have HTK := thid (fun W (hW : LexV W) => tokens_walk s W (by omega) hW)
    cases hc : (cutT s.data.toList).2 with
    | some p =>
      rw [cut_some hc] at HTK
      clear hc
      go_enter Tryd.func5, Tryd.ntmps5
      go_wp2_with (go_at_call 7; refine HAW.out.mono ?_; rintro e W1 ⟨rfl, hb⟩; have HB := thid hb; clear hb)
      refine (HTK.out _ (HV.out.on HB.out)).mono ?_
      rintro e W2 ⟨v, rfl, hR, hb2⟩
      cases (show v = .tuple #[.slice none 0 0, fltV 1 p] from hR)
      have HB2 := thid (lxon HB.out hb2)
      clear hb2
      unfold fltV
      go_wp2_with fail
      go_ret
      exact ⟨rfl, HB2.out.alloc HB2.out.size _⟩
    | none =>
      obtain ⟨B, hB1, hB2, hB3, hB4, hB5⟩ := back_law (by omega) (cut_none hc)
      rw [cut_none hc] at HTK
      clear hc
      generalize (cutT s.data.toList).1 = A at HTK hB1 hB2 hB3 hB4 hB5
      have HBL := thid hB2.1
      have HTL := thid (texts_like A B hB2)
      have HOA := thid hB3
      have HOB := thid (like_ok hB2 hB3)
      have HLK := thid hB2
      have HTJ := thid (fun W (hW : LexV W) => tokens_walk ((⟨#[10, 32]⟩ : ByteArray) ++ joinB (textsL A) ++ ⟨#[9]⟩) W (by
        rw [ByteArray.size_append, ByteArray.size_append]
        have e1 : (⟨#[10, 32]⟩ : ByteArray).size = 2 := rfl
        have e2 : (⟨#[9]⟩ : ByteArray).size = 1 := rfl
        omega) hW)
      rw [hB1] at HTJ
      clear hB1 hB2 hB3
      go_enter Tryd.func5, Tryd.ntmps5
      go_wp2_with (go_at_call 7; refine HAW.out.mono ?_; rintro e W1 ⟨rfl, hb⟩; have HB := thid hb; clear hb)
      refine (HTK.out _ (HV.out.on HB.out)).mono ?_
      rintro e W2 ⟨v, rfl, hR, hb2⟩
      obtain ⟨r, rfl, hO⟩ : ∃ r, v = .tuple #[r, fltV 0 0] ∧ W2.ownsRow W1.heap.size 36 4 r A.length (Rw.flat tkC A) := hR
      obtain ⟨ra, rc, rfl⟩ := Rw.owns_slice hO
      have HB2 := thid (lxon HB.out hb2)
      have HSA := thid (Rw.owns_slg tkC_len (by decide) hO).2.1
      clear hb2 hO
      unfold fltV
      have HTX := thid (text_walk (c := rc) (HSA.out.below (lxbelow _ (.cells #[.int .i64 0, .int .i64 0] 26))) rfl (by omega) HOA.out ((HT.out.on HB2.out).on (lxbelow _ _)))
      go_wp2_with fail
      refine HTX.out.mono ?_
      rintro e W3 ⟨rfl, hb3⟩
      have HB23 := thid (lxon (lxbelow W2 (.cells #[.int .i64 0, .int .i64 0] 26)) hb3)
      clear hb3
      have HB3 := thid (lxon HB2.out HB23.out)
      go_wp2_with fail
      refine (HTJ.out _ (HV.out.on HB3.out)).mono ?_
      rintro e W4 ⟨v, rfl, hR4, hb4⟩
      obtain ⟨r4, rfl, hO4⟩ : ∃ r, v = .tuple #[r, fltV 0 0] ∧ W4.ownsRow W3.heap.size 36 4 r B.length (Rw.flat tkC B) := hR4
      obtain ⟨ba, bc, rfl⟩ := Rw.owns_slice hO4
      have HB34 := thid hb4
      have HB4 := thid (lxon HB3.out hb4)
      have HSB := thid (Rw.owns_slg tkC_len (by decide) hO4).2.1
      clear hb4 hO4
      unfold fltV
      have HSA4 := thid ((HSA.out.below HB23.out).below HB34.out)
      have HPA := thid (plain_walk (c := rc) (HSA4.out.below (lxbelow _ (.cells #[.int .i64 0, .int .i64 0] 26))) rfl (by omega))
      go_wp2_with fail
      refine HPA.out.mono ?_
      rintro e W5 ⟨v5, rfl, hO5, hb5⟩
      obtain ⟨pa, pc, rfl⟩ := Rw.owns_slice hO5
      have HB45 := thid (lxon (lxbelow W4 (.cells #[.int .i64 0, .int .i64 0] 26)) hb5)
      have HO5 := thid hO5
      clear hb5 hO5
      have HPB := thid (plain_walk (c := bc) (HSB.out.below HB45.out) rfl (by have := HBL.out; omega))
      go_wp2_with fail
      refine HPB.out.mono ?_
      rintro e W6 ⟨v6, rfl, hO6, hb6⟩
      obtain ⟨qa, qc, rfl⟩ := Rw.owns_slice hO6
      have HB56 := thid hb6
      have HSM : Hid (Calls Tryd.prog 10 #[.slice pa A.length pc, .slice qa B.length qc, .bool false] W6 fun e w' => e = .returned (.bool true) ∧ Below W6.heap.size W6 w') := by
        have h := same_true (c := pc) (d := qc) false (Rw.owns_slg tkC_len (by decide) (Rw.owns_on HO5.out hb6)).2.1 (Rw.owns_slg tkC_len (by decide) hO6).2.1 (fun j x y hx hy => by
          obtain ⟨e1, e2, e3⟩ := HLK.out.2 j x y hx hy
          exact ⟨e1, e2, e3, fun h => by cases h⟩) rfl HBL.out.symm (by omega)
        rw [HBL.out] at h ⊢
        exact h
      clear hb6 hO6
      go_wp2_with fail
      refine HSM.out.mono ?_
      rintro e W7 ⟨rfl, hb7⟩
      have HB47 := thid (lxon (lxon HB45.out HB56.out) hb7)
      clear hb7
      have HT7 := thid (HT.out.on (lxon HB4.out HB47.out))
      have HTB := thid (text_walk (c := bc) (HSB.out.below HB47.out) rfl (by have := HBL.out; omega) HOB.out HT7.out)
      go_wp2_with fail
      refine HTB.out.mono ?_
      rintro e W8 ⟨rfl, hb8⟩
      have HB48 := thid (lxon HB47.out hb8)
      clear hb8
      have HTA := thid (text_walk (c := rc) (HSA4.out.below HB48.out) rfl (by omega) HOA.out (HT.out.on (lxon HB4.out HB48.out)))
      rw [HTL.out] at HTA
      go_wp2_with fail
      refine HTA.out.mono ?_
      rintro e W9 ⟨rfl, hb9⟩
      have HB9 := thid (lxon (lxon HB4.out HB48.out) hb9)
      have hss : ((joinB (textsL B)).toList == (joinB (textsL B)).toList) = true := beq_self_eq_true _
      clear hb9
      go_wp2_with fail
      go_ret
      exact ⟨rfl, HB9.out⟩
end Go.Proofs.YtfokllgfejcehaaDoor
