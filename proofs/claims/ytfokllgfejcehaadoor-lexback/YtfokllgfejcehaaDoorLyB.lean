/-
  Lex: Text of package lex.
-/
import Derived.Test.YtfokllgfejcehaaDoorLyA
namespace Go.Proofs.YtfokllgfejcehaaDoor
open Go.RowKit

def stC (x : ByteArray) : List Value := [.string x]
theorem stC_len (x : ByteArray) : (stC x).length = 1 := rfl
theorem stC_one (x : ByteArray) : ∀ u ∈ stC x, u.oneCell' = true := by
  intro u hu
  simp [stC] at hu
  rw [hu]; rfl
theorem infoStrL : (Tryd.prog.info? 9).map (fun i => (i.zero, i.size, i.bytes)) = some (some (.string ⟨#[]⟩), 1, 16) := by kernel_rfl

/-- What the package's variables hold, for texts. -/
structure TxtV (w : World) : Prop where
  tab : LTab w
  mx : ∃ m, w.cell? ⟨2, 0, none⟩ = some (.int .i64 m)
theorem TxtV.on {w W : World} (h : TxtV w) (hb : Below w.heap.size w W) : TxtV W := ⟨h.tab.on hb, by
  obtain ⟨m, hm⟩ := h.mx
  exact ⟨m, by rw [hb.cell (World.block_lt_of_cell? _ _ hm)]; exact hm⟩⟩

set_option maxRecDepth 100000 in
set_option maxHeartbeats 2000000 in
theorem text_walk {l : List Tk} {a : Option Addr} {n c : Nat} {w : World} (h : Rw.SlG tkC 4 w a l) (hl : l.length = n) (hn : n ≤ 4000) (hok : ∀ t ∈ l, TkOk 3000 t) (hV : TxtV w) :
    Calls Tryd.prog 12 #[.slice a n c] w fun e w' => e = .returned (.string (joinB (textsL l))) ∧ Below w.heap.size w w' := by
  have HH := thid h
  have HL := thid hl
  have HT : Hid (l.take n = l) := by show _ = _; rw [← hl]; exact List.take_length
  have HOK := thid hok
  have HV := thid hV
  clear h hl hok hV
  go_enter Tryd.func12, Tryd.ntmps12
  go_wp2_with fail
  go_loopw [3, 8] (fun v i wr => ∃ j : Nat, j ≤ n ∧ i = .int .i64 (j : Int) ∧ Hid (wr.ownsRow w.heap.size 9 1 v (textsL (l.take j)).length (Rw.flat stC (textsL (l.take j))) ∧ Below w.heap.size w wr)) (fun _ i _ => n - (intOf i).toNat)
  case atStart => exact ⟨0, Nat.zero_le _, rfl, World.ownsRow_nil _ _ _ _, Below.refl _ _⟩
  case round =>
    obtain ⟨j, hj, rfl, HI⟩ := hrel
    by_cases hlt : j < n
    · obtain ⟨b, o, x, rfl, hb, hx, hc⟩ := (HH.out.below HI.out.2).at (j := j) (by rw [HL.out]; exact hlt)
      have HSN : Hid (textsL (l.take (j + 1)) = textsL (l.take j) ++ (match tkT x with | some y => [y] | none => [])) := by
        show _ = _
        obtain ⟨hjl, rfl⟩ := List.getElem?_eq_some_iff.1 hx
        rw [List.take_succ_eq_append_getElem hjl]
        exact texts_snoc _ _
      have HXO := thid (HOK.out x (List.mem_of_getElem? hx))
      have HLj : Hid ((textsL (l.take j)).length ≤ j) := Nat.le_trans (List.length_filterMap_le _ _) (List.length_take_le _ _)
      have HVw := thid (HV.out.on HI.out.2)
      obtain ⟨xk, xn, xp, xs⟩ := x
      have c0 : wr.cell? ⟨b, o + j * 4, none⟩ = some (.int .i64 xk) := hc 0 _ rfl
      have c1 : wr.cell? ⟨b, o + j * 4 + 1, none⟩ = some (.int .i64 xn) := hc 1 _ rfl
      have c2 : wr.cell? ⟨b, o + j * 4 + 2, none⟩ = some (.int .i64 xp) := hc 2 _ rfl
      have c3 : wr.cell? ⟨b, o + j * 4 + 3, none⟩ = some (.string xs) := hc 3 _ rfl
      clear hx hc
      by_cases k1 : xk = 1
      · subst k1
        have HNX : Hid (textsL (l.take (j + 1)) = textsL (l.take j) ++ [xs]) := by show _ = _; rw [HSN.out]; rfl
        go_wp2_with (at_builtin; revert HI)
        intro HI
        refine Rw.to_letter (F := fun W => Below wr.heap.size wr W ∧ Rw.Src W (some ⟨wr.heap.size + 1, 0, none⟩) 1 1 (stC xs)) ⟨(lxbelow wr _).alloc (by simp) _, Rw.src_new _ (stC xs) _ 1 1 (by simp)⟩ ?_
        rintro U ⟨bU, sU⟩
        have o1 := Rw.owns_on HI.out.1 bU
        have b1 := Rw.below_on HI.out.2 bU HI.out.2.size
        have hj2 := HLj.out
        refine Rw.append_src Tryd.underlying52 infoStrL rfl (by decide) (by decide) rfl _ _ rfl w.heap.size b1.size _ (textsL (l.take j)).length (Rw.flat stC (textsL (l.take j))) rfl o1 _ 1 1 (stC xs) rfl sU rfl (stC_one _) (by omega) ?_
        intro v2 W2 O2 G2 _
        have e2 : Rw.flat stC (textsL (l.take j)) ++ stC xs = Rw.flat stC (textsL (l.take (j + 1))) := by rw [HNX.out, Rw.flat_append]; simp [Rw.flat]
        rw [e2] at O2
        have HI2 : Hid (W2.ownsRow w.heap.size 9 1 v2 (textsL (l.take (j + 1))).length (Rw.flat stC (textsL (l.take (j + 1)))) ∧ Below w.heap.size w W2) := ⟨by rw [HNX.out] at O2 ⊢; simpa using O2, b1.grown G2 b1.size fun p hp => (o1.lt p hp).1⟩
        clear O2 G2 e2 o1 b1 bU sU HI c0 c1 c2 c3
        go_wp2_with fail
        exact ⟨⟨j + 1, hlt, by go_num, HI2⟩, by simp [intOf]; omega⟩
      by_cases k2 : xk = 2
      · subst k2
        have HNX : Hid (textsL (l.take (j + 1)) = textsL (l.take j) ++ [xs]) := by show _ = _; rw [HSN.out]; rfl
        go_wp2_with (at_builtin; revert HI)
        intro HI
        refine Rw.to_letter (F := fun W => Below wr.heap.size wr W ∧ Rw.Src W (some ⟨wr.heap.size + 1, 0, none⟩) 1 1 (stC xs)) ⟨(lxbelow wr _).alloc (by simp) _, Rw.src_new _ (stC xs) _ 1 1 (by simp)⟩ ?_
        rintro U ⟨bU, sU⟩
        have o1 := Rw.owns_on HI.out.1 bU
        have b1 := Rw.below_on HI.out.2 bU HI.out.2.size
        have hj2 := HLj.out
        refine Rw.append_src Tryd.underlying52 infoStrL rfl (by decide) (by decide) rfl _ _ rfl w.heap.size b1.size _ (textsL (l.take j)).length (Rw.flat stC (textsL (l.take j))) rfl o1 _ 1 1 (stC xs) rfl sU rfl (stC_one _) (by omega) ?_
        intro v2 W2 O2 G2 _
        have e2 : Rw.flat stC (textsL (l.take j)) ++ stC xs = Rw.flat stC (textsL (l.take (j + 1))) := by rw [HNX.out, Rw.flat_append]; simp [Rw.flat]
        rw [e2] at O2
        have HI2 : Hid (W2.ownsRow w.heap.size 9 1 v2 (textsL (l.take (j + 1))).length (Rw.flat stC (textsL (l.take (j + 1)))) ∧ Below w.heap.size w W2) := ⟨by rw [HNX.out] at O2 ⊢; simpa using O2, b1.grown G2 b1.size fun p hp => (o1.lt p hp).1⟩
        clear O2 G2 e2 o1 b1 bU sU HI c0 c1 c2 c3
        go_wp2_with fail
        exact ⟨⟨j + 1, hlt, by go_num, HI2⟩, by simp [intOf]; omega⟩
      by_cases k5 : xk = 5
      · subst k5
        have HNX : Hid (textsL (l.take (j + 1)) = textsL (l.take j) ++ [xs]) := by show _ = _; rw [HSN.out]; rfl
        go_wp2_with (at_builtin; revert HI)
        intro HI
        refine Rw.to_letter (F := fun W => Below wr.heap.size wr W ∧ Rw.Src W (some ⟨wr.heap.size + 1, 0, none⟩) 1 1 (stC xs)) ⟨(lxbelow wr _).alloc (by simp) _, Rw.src_new _ (stC xs) _ 1 1 (by simp)⟩ ?_
        rintro U ⟨bU, sU⟩
        have o1 := Rw.owns_on HI.out.1 bU
        have b1 := Rw.below_on HI.out.2 bU HI.out.2.size
        have hj2 := HLj.out
        refine Rw.append_src Tryd.underlying52 infoStrL rfl (by decide) (by decide) rfl _ _ rfl w.heap.size b1.size _ (textsL (l.take j)).length (Rw.flat stC (textsL (l.take j))) rfl o1 _ 1 1 (stC xs) rfl sU rfl (stC_one _) (by omega) ?_
        intro v2 W2 O2 G2 _
        have e2 : Rw.flat stC (textsL (l.take j)) ++ stC xs = Rw.flat stC (textsL (l.take (j + 1))) := by rw [HNX.out, Rw.flat_append]; simp [Rw.flat]
        rw [e2] at O2
        have HI2 : Hid (W2.ownsRow w.heap.size 9 1 v2 (textsL (l.take (j + 1))).length (Rw.flat stC (textsL (l.take (j + 1)))) ∧ Below w.heap.size w W2) := ⟨by rw [HNX.out] at O2 ⊢; simpa using O2, b1.grown G2 b1.size fun p hp => (o1.lt p hp).1⟩
        clear O2 G2 e2 o1 b1 bU sU HI c0 c1 c2 c3
        go_wp2_with fail
        exact ⟨⟨j + 1, hlt, by go_num, HI2⟩, by simp [intOf]; omega⟩
      have b1' : (xk == 1) = false := beq_eq_false_iff_ne.2 k1
      have b2' : (xk == 2) = false := beq_eq_false_iff_ne.2 k2
      have b5' : (xk == 5) = false := beq_eq_false_iff_ne.2 k5
      by_cases k3 : xk = 3
      · subst k3
        have HNX : Hid (textsL (l.take (j + 1)) = textsL (l.take j) ++ [mkB (Lib.itoa xn)]) := by show _ = _; rw [HSN.out]; rfl
        have hf := (fits_iff xn).1 HXO.out.1
        have HTB := thid (HVw.out.tab.on (lxbelow wr (.cells #[.int .i64 3, .int .i64 xn, .int .i64 xp, .string xs] 36)))
        have HIT := thid (Tryd.strconv_Itoa xn hf.1 hf.2 _ HTB.out)
        clear hf HTB
        go_wp2_with (first | (go_at_call 22; refine HIT.out.mono ?_; rintro e W1 ⟨rfl, q, os, hw⟩; have HB1 : Hid (Below wr.heap.size wr W1) := (lxon (lxbelow wr (.cells #[.int .i64 3, .int .i64 xn, .int .i64 xp, .string xs] 36)) (by rw [hw]; exact Lib.below_grow _ _ (Nat.le_refl _) q os)); clear hw) | (at_builtin; revert HI))
        intro HI
        refine Rw.to_letter (F := fun W => Below wr.heap.size wr W ∧ Rw.Src W (some ⟨W1.heap.size, 0, none⟩) 1 1 (stC (mkB (Lib.itoa xn)))) ⟨HB1.out.alloc HB1.out.size _, Rw.src_new _ (stC (mkB (Lib.itoa xn))) _ 1 1 (by simp)⟩ ?_
        rintro U ⟨bU, sU⟩
        have o1 := Rw.owns_on HI.out.1 bU
        have b1 := Rw.below_on HI.out.2 bU HI.out.2.size
        have hj2 := HLj.out
        refine Rw.append_src Tryd.underlying52 infoStrL rfl (by decide) (by decide) rfl _ _ rfl w.heap.size b1.size _ (textsL (l.take j)).length (Rw.flat stC (textsL (l.take j))) rfl o1 _ 1 1 (stC (mkB (Lib.itoa xn))) rfl sU rfl (stC_one _) (by omega) ?_
        intro v2 W2 O2 G2 _
        have e2 : Rw.flat stC (textsL (l.take j)) ++ stC (mkB (Lib.itoa xn)) = Rw.flat stC (textsL (l.take (j + 1))) := by rw [HNX.out, Rw.flat_append]; simp [Rw.flat]
        rw [e2] at O2
        have HI2 : Hid (W2.ownsRow w.heap.size 9 1 v2 (textsL (l.take (j + 1))).length (Rw.flat stC (textsL (l.take (j + 1)))) ∧ Below w.heap.size w W2) := ⟨by rw [HNX.out] at O2 ⊢; simpa using O2, b1.grown G2 b1.size fun p hp => (o1.lt p hp).1⟩
        clear O2 G2 e2 o1 b1 bU sU HI c0 c1 c2 c3
        go_wp2_with fail
        exact ⟨⟨j + 1, hlt, by go_num, HI2⟩, by simp [intOf]; omega⟩
      have b3' : (xk == 3) = false := beq_eq_false_iff_ne.2 k3
      by_cases k4 : xk = 4
      · subst k4
        have HNX : Hid (textsL (l.take (j + 1)) = textsL (l.take j) ++ [quoteB xs]) := by show _ = _; rw [HSN.out]; rfl
        obtain ⟨m, HM⟩ : ∃ m, Hid ((wr.alloc (.cells #[.int .i64 4, .int .i64 xn, .int .i64 xp, .string xs] 36)).cell? ⟨2, 0, none⟩ = some (.int .i64 m)) := (HVw.out.on (lxbelow wr _)).mx
        have HSH := thid (lshow_text xs (by have h2 : xs.size ≤ 3000 := HXO.out.2; omega) m _ (World.block_lt_of_cell? _ _ HM.out) HM.out)
        go_wp2_with (first | (go_at_call 23; refine HSH.out.mono ?_; rintro e W1 ⟨rfl, hw⟩; have HB1 : Hid (Below wr.heap.size wr W1) := lxon (lxbelow wr _) hw; clear hw) | (at_builtin; revert HI))
        intro HI
        refine Rw.to_letter (F := fun W => Below wr.heap.size wr W ∧ Rw.Src W (some ⟨W1.heap.size, 0, none⟩) 1 1 (stC (quoteB xs))) ⟨HB1.out.alloc HB1.out.size _, Rw.src_new _ (stC (quoteB xs)) _ 1 1 (by simp)⟩ ?_
        rintro U ⟨bU, sU⟩
        have o1 := Rw.owns_on HI.out.1 bU
        have b1 := Rw.below_on HI.out.2 bU HI.out.2.size
        have hj2 := HLj.out
        refine Rw.append_src Tryd.underlying52 infoStrL rfl (by decide) (by decide) rfl _ _ rfl w.heap.size b1.size _ (textsL (l.take j)).length (Rw.flat stC (textsL (l.take j))) rfl o1 _ 1 1 (stC (quoteB xs)) rfl sU rfl (stC_one _) (by omega) ?_
        intro v2 W2 O2 G2 _
        have e2 : Rw.flat stC (textsL (l.take j)) ++ stC (quoteB xs) = Rw.flat stC (textsL (l.take (j + 1))) := by rw [HNX.out, Rw.flat_append]; simp [Rw.flat]
        rw [e2] at O2
        have HI2 : Hid (W2.ownsRow w.heap.size 9 1 v2 (textsL (l.take (j + 1))).length (Rw.flat stC (textsL (l.take (j + 1)))) ∧ Below w.heap.size w W2) := ⟨by rw [HNX.out] at O2 ⊢; simpa using O2, b1.grown G2 b1.size fun p hp => (o1.lt p hp).1⟩
        clear O2 G2 e2 o1 b1 bU sU HI c0 c1 c2 c3
        go_wp2_with fail
        exact ⟨⟨j + 1, hlt, by go_num, HI2⟩, by simp [intOf]; omega⟩
      have b4' : (xk == 4) = false := beq_eq_false_iff_ne.2 k4
      have HNX : Hid (textsL (l.take (j + 1)) = textsL (l.take j)) := by
        show _ = _
        rw [HSN.out]
        have : tkT ⟨xk, xn, xp, xs⟩ = none := by simp [tkT, k1, k2, k3, k4, k5]
        rw [this]
        simp
      have HI2 : Hid ((wr.alloc (.cells #[.int .i64 xk, .int .i64 xn, .int .i64 xp, .string xs] 36)).ownsRow w.heap.size 9 1 u3 (textsL (l.take (j + 1))).length (Rw.flat stC (textsL (l.take (j + 1)))) ∧ Below w.heap.size w (wr.alloc (.cells #[.int .i64 xk, .int .i64 xn, .int .i64 xp, .string xs] 36))) := by
        rw [HNX.out]
        exact ⟨Rw.owns_on HI.out.1 (lxbelow _ _), HI.out.2.alloc HI.out.2.size _⟩
      clear HI HSN
      go_wp2_with fail
      exact ⟨⟨j + 1, hlt, by go_num, HI2⟩, by simp [intOf]; omega⟩
    · have hjn : j = n := by omega
      subst hjn
      rw [HT.out] at HI
      have hst := texts_size HOK.out
      have hlen : (textsL l).length ≤ 4000 := by have := hst.2; have := HL.out; omega
      have hjs := joinB_size (textsL l) 6030 hst.1
      have hjl : (Lib.join ((textsL l).map (·.data.toList)) [32]).length ≤ 140737488355328 := by
        have : (joinB (textsL l)).size = (Lib.join ((textsL l).map (·.data.toList)) [32]).length := by rw [joinB, mkB_size]
        have h4 : (textsL l).length * (6030 + 1) ≤ 4000 * 6031 := Nat.mul_le_mul_right _ hlen
        omega
      obtain ⟨va, vc, rfl⟩ := Rw.owns_slice HI.out.1
      have HCP : Hid ((textsL l).length ≤ vc) := (Rw.owns_cap HI.out.1).1
      have HSl := thid (Rw.owns_slg stC_len (by decide) HI.out.1).2.1
      have HJ : Hid (Calls Tryd.prog 24 #[.slice va (textsL l).length vc, .string ⟨#[32]⟩] wr fun e w' => e = .returned (.string (joinB (textsL l))) ∧ Below wr.heap.size wr w') := by
        rcases Rw.owns_addr HI.out.1 with ⟨rfl, h0, -⟩ | ⟨g, rfl⟩
        · have h0' : textsL l = [] := List.length_eq_zero_iff.1 h0
          have hx := Tryd.strings_Join_none none vc ⟨#[32]⟩ wr
          rw [h0']
          exact hx.mono fun e w' ⟨he, hw⟩ => ⟨he, hw ▸ Below.refl _ _⟩
        · exact Tryd.strings_Join g 0 vc (textsL l) ⟨#[32]⟩ wr (fun k x hk => by
            have := Rw.own_at stC_len HI.out.1 hk (i := 0) rfl
            simpa using this) ((HI.out.1.lt g rfl).2) (by omega) HCP.out hjl
      clear hst hlen hjs hjl
      go_wp2_with (go_at_call 24; refine HJ.out.mono ?_; rintro e W1 ⟨rfl, hb⟩; have HB := thid (lxon HI.out.2 hb); clear hb)
      go_ret
      exact ⟨rfl, HB.out⟩
end Go.Proofs.YtfokllgfejcehaaDoor
