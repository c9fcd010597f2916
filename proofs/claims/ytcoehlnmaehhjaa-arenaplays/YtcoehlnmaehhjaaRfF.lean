/-
  The document's arena: Drop.
-/
import Derived.Deep.RegionLaw
import Derived.Test.YtcoehlnmaehhjaaRfE
namespace Go.Proofs.Ytcoehlnmaehhjaa
open Go.RowKit

theorem rdrop_no {r : Rf} {w : World} (h : RfP r w) (hl : r.L.length ≤ 1000000) {n : Int} (hn : ∀ x ∈ r.L, (x.1 : Int) ≠ n) : Calls Try.prog 15 #[arV r.p, .int .i64 n] w fun e w' => e = .returned (.int .i64 2) ∧ w' = w := by
  have HA := at_none h hl hn
  clear h
  unfold arV at *
  go_enter Try.func15, Try.ntmps15
  go_wp2_with (go_at_call 11; refine HA.mono ?_; rintro e w1 ⟨rfl, rfl⟩)
  go_ret
  exact ⟨rfl, rfl⟩

/-- A slice's elements onto a row of pages, as a step of a region that draws. -/
theorem step_pages {ops : Array Oper} {o : Oper} {a : Act} {K : Act → World → Prop} {Q : Exit → Act → World → Prop} {E : Prop} {W1 : World} (base : Nat) (hbase : base ≤ W1.heap.size) (hgd : o.guard = none) (s x : Operand) (ho : o.op = .call { callee := .builtin .append, args := #[s, x], argTypes := #[44, 44] })
    (v : Value) (l : List (Nat × List UInt8)) (hs : a.eval s = v) (h : W1.ownsRow base 43 2 v l.length (lcs l)) (hl : l.length ≤ 100000) (ad : Addr) (news : List (Nat × List UInt8)) (m cap : Nat) (hx : a.eval x = .slice (some ad) m cap) (hm : news.length = m) (hml : m ≤ 100000) (hc : ∀ j u, (lcs news)[j]? = some u → W1.cell? (ad.add j) = some u)
    (hK : ∀ v' W', W'.ownsRow base 43 2 v' (l ++ news).length (lcs (l ++ news)) → W1.grownBy W' v.ownBlock → K (a.put o.dst v') W') :
    if Region.wanted o (yielded ops a.tmps) = true then Oper.wp Try.prog o a W1 K Q else E := by
  have hw : Region.wanted o (yielded ops a.tmps) = true := by simp [Region.wanted, hgd]
  rw [if_pos hw]
  obtain ⟨i, hi, hz⟩ : ∃ i, Try.prog.info? 43 = some i ∧ (i.zero, i.size, i.bytes) = (some (.agg #[.int .i64 0, .string ⟨#[]⟩]), 2, 24) :=
    Option.map_eq_some_iff.1 (show (Try.prog.info? 43).map (fun i => (i.zero, i.size, i.bytes)) = some (some (.agg #[.int .i64 0, .string ⟨#[]⟩]), 2, 24) by kernel_rfl)
  simp only [Prod.mk.injEq] at hz
  obtain ⟨h1, h2, h3⟩ := hz
  refine wp_append_own (P := Try.prog) W1 s x 44 ho base 43 i _ 2 24 Try.underlying44 hi h1 h2 h3 rfl (by decide) v l.length (lcs l) hs h ad m cap (lcs news) hx (by rw [lcs_length, hm]) hc (one_lcs news) (by unfold maxLen; omega) (by omega) hbase ?_
  intro v' W' hown hg _
  refine hK v' W' ?_ hg
  rw [lcs_append, List.length_append, hm]
  exact hown

theorem drop_src1 {w w' : World} {g cap : Nat} {LL : List (Nat × List UInt8)} (h : w.ownsRow 0 43 2 (.slice (some ⟨g, 0, none⟩) LL.length cap) LL.length (lcs LL)) (hb : Below w.heap.size w w') (j : Nat) : ∀ i u, (lcs (LL.take j))[i]? = some u → w'.cell? ((⟨g, 0, none⟩ : Addr).add i) = some u := by
  intro i u hi
  have h' : w'.ownsRow 0 43 2 (.slice (some ⟨g, 0, none⟩) LL.length cap) LL.length (lcs LL) := owns_of_block h fun k hk => hb.block k (h.lt k hk).2
  refine h'.cells rfl i u ?_
  rw [← lcs_take] at hi
  rw [List.getElem?_take] at hi
  split at hi
  · exact hi
  · cases hi

theorem drop_src2 {w : World} {g cap : Nat} {LL : List (Nat × List UInt8)} (h : w.ownsRow 0 43 2 (.slice (some ⟨g, 0, none⟩) LL.length cap) LL.length (lcs LL)) (_hg : g < w.heap.size) (j : Nat) (hj : j < LL.length) :
    ∃ A, (if cap = j + 1 then some (⟨g, 0, none⟩ : Addr) else some ⟨g, (j + 1) * 2, none⟩) = some A ∧ ∀ w' : World, Below w.heap.size w w' → ∀ i u, (lcs (LL.drop (j + 1)))[i]? = some u → w'.cell? (A.add i) = some u := by
  have hcap : LL.length ≤ cap := by
    obtain ⟨_, cap', e, _, hc⟩ := owns_slice h
    cases e
    exact hc
  by_cases hc : cap = j + 1
  · refine ⟨⟨g, 0, none⟩, by rw [if_pos hc], fun w' hb i u hi => ?_⟩
    rw [List.drop_eq_nil_of_le (by omega)] at hi
    simp [lcs] at hi
  · refine ⟨⟨g, (j + 1) * 2, none⟩, by rw [if_neg hc], fun w' hb i u hi => ?_⟩
    have h' : w'.ownsRow 0 43 2 (.slice (some ⟨g, 0, none⟩) LL.length cap) LL.length (lcs LL) := owns_of_block h fun k hk => hb.block k (h.lt k hk).2
    rw [← lcs_drop _ _ (by omega), List.getElem?_drop] at hi
    have := h'.cells rfl _ u hi
    rw [show (⟨g, 0, none⟩ : Addr).add ((j + 1) * 2 + i) = ⟨g, (j + 1) * 2 + i, none⟩ by unfold Addr.add; split <;> simp_all] at this
    rw [show (⟨g, (j + 1) * 2, none⟩ : Addr).add i = ⟨g, (j + 1) * 2 + i, none⟩ by unfold Addr.add; split <;> simp_all]
    exact this

set_option maxRecDepth 100000 in
set_option maxHeartbeats 8000000 in
theorem rdrop_nil {r : Rf} {w : World} (h : RfP r w) (hl : r.L.length ≤ 4096) (hfl : r.fr.length ≤ 10000) (hd : (r.L.map Prod.fst).Nodup) {j m : Nat} {c : List UInt8} (hj : r.L[j]? = some (m, c)) (hvf : r.vf = .slice none 0 0) : Calls Try.prog 15 #[arV r.p, .int .i64 (m : Int)] w fun e w' => e = .returned (.int .i64 0) ∧ RGoes r w (r.abs.drop j m) w' := by
  have HA := at_some h (by omega) hd hj
  obtain ⟨g, cap, hv, hg, hjl, hc, _⟩ := h.page hj
  obtain ⟨LL, hLL⟩ : ∃ LL, Hid (LL = r.L) := ⟨_, rfl⟩
  obtain ⟨FF, hFF⟩ : ∃ FF, Hid (FF = r.fr) := ⟨_, rfl⟩
  rw [← hLL.out] at hl hjl hc hv
  rw [← hFF.out] at hfl
  have hFn : Hid (FF = []) := by
    show FF = []
    rw [hFF.out]
    rcases h.rf.2 with ⟨_, h3⟩ | ⟨_, _, _, h3, _⟩
    · exact List.eq_nil_of_length_eq_zero h3
    · rw [hvf] at h3; cases h3
  obtain ⟨c0, _, _, _, hp, hfz⟩ := h.cell
  rw [hv] at c0
  have HH : Hid (RfP r w) := h
  have HV : Hid (r.vl = .slice (some ⟨g, 0, none⟩) LL.length cap) := hv
  have HVF : Hid (r.vf = .slice none 0 0) := hvf
  have XL : Hid (w.ownsRow 0 43 2 (.slice (some ⟨g, 0, none⟩) LL.length cap) LL.length (lcs LL)) := by
    have x := h.rl
    rw [hv, ← hLL.out] at x
    exact x
  clear h hj hd hv hvf
  unfold arV at *
  go_enter Try.func15, Try.ntmps15
  go_wp2_with fail
  refine HA.mono ?_
  rintro e w1 ⟨rfl, rfl⟩
  clear HA
  go_wp2_with fail
  have i1 : (0 : Int) ≤ (j : Int) := by omega
  have i2 : (j : Int) ≤ (cap : Int) := by omega
  have i4 : IntKind.i64.wrap ((j : Int) + 1) = (j : Int) + 1 := by rw [IntKind.wrap_i64]; omega
  have i5 : (j : Int) + 1 ≤ (LL.length : Int) := by omega
  have i6 : (0 : Int) ≤ (j : Int) + 1 := by omega
  have i7 : (LL.length : Int) ≤ (cap : Int) := by omega
  have i8 : ((j : Int) + 1).toNat = j + 1 := by omega
  have O1 : Hid (World.ownsRow (w1.alloc (.cells #[] 43)).drew w1.heap.size 43 2 (.slice (some ⟨w1.heap.size, 0, none⟩) 0 0) ([] : List (Nat × List UInt8)).length (lcs [])) := owns_new2 w1
  have BB : Hid (Below w1.heap.size w1 (w1.alloc (.cells #[] 43)).drew) := (below_alloc _ _).drew
  have S1 : Hid (∀ i u, (lcs (LL.take j))[i]? = some u → (w1.alloc (.cells #[] 43)).drew.cell? ((⟨g, 0, none⟩ : Addr).add i) = some u) := drop_src1 XL.out BB.out j
  obtain ⟨A, hA, hS2⟩ := drop_src2 XL.out hg j (by omega)
  have S2 : Hid (∀ w' : World, Below w1.heap.size w1 w' → ∀ i u, (lcs (LL.drop (j + 1)))[i]? = some u → w'.cell? (A.add i) = some u) := hS2
  have l1 : Hid ((LL.take j).length = j) := by show (LL.take j).length = j; rw [List.length_take]; omega
  have l2 : Hid ((LL.drop (j + 1)).length = LL.length - (j + 1)) := by show (LL.drop (j + 1)).length = _; rw [List.length_drop]
  clear hS2
  go_region_law (first
    | (refine step_pages w1.heap.size BB.out.size rfl (.tmp 12) (.tmp 18) rfl (.slice (some ⟨w1.heap.size, 0, none⟩) 0 0) [] rfl O1.out (Nat.zero_le _) ⟨g, 0, none⟩ (LL.take j) j cap ?_ l1.out (by omega) S1.out ?_
       · simp [Act.eval, Act.put]
       intro v2 w2 hown hgr
       have B2 : Hid (Below w1.heap.size w1 w2) := BB.out.grown hgr BB.out.size (row_lt O1.out)
       have O2 : Hid (w2.ownsRow w1.heap.size 43 2 v2 (LL.take j).length (lcs (LL.take j))) := hown
       have e0 : w2.cell? ⟨r.p, 0, none⟩ = some (.slice (some ⟨g, 0, none⟩) LL.length cap) := (by rw [B2.out.cell hp]; exact c0)
       clear hown hgr)
    | (refine step_pages w1.heap.size B2.out.size rfl (.tmp 19) (.tmp 26) rfl v2 (LL.take j) ?_ O2.out (by rw [l1.out]; omega) A (LL.drop (j + 1)) (LL.length - (j + 1)) (cap - (j + 1)) ?_ l2.out (by omega) (S2.out w2 B2.out) ?_
       · simp [Act.eval, Act.put]
       · simp [Act.eval, Act.put]
       intro v3 w3 hown hgr
       have B3 : Hid (Below w1.heap.size w1 w3) := B2.out.grown hgr B2.out.size (row_lt O2.out)
       obtain ⟨NL, hNL⟩ : ∃ NL, Hid (NL = LL.take j ++ LL.drop (j + 1)) := ⟨_, rfl⟩
       rw [← hNL.out] at hown
       obtain ⟨a3, k3, rfl, _⟩ := owns_slice hown
       obtain ⟨x0, _, _, _, hp3, hf3⟩ := (rfSt.below HH.out B3.out : RfP r w3).cell
       obtain ⟨kk1, kk2⟩ := HH.out.newl B3.out hown
       have HR0 : Hid (RfP { r with vl := .slice a3 NL.length k3, L := NL } (w3.setCell ⟨r.p, 0, none⟩ (.slice a3 NL.length k3))) := kk1
       have MR0 : Hid (Moves rfSt r { r with vl := .slice a3 NL.length k3, L := NL } w1 (w3.setCell ⟨r.p, 0, none⟩ (.slice a3 NL.length k3))) := kk2
       clear hown hgr kk1 kk2))
  all_goals
    obtain ⟨w4, hw4⟩ : ∃ w4, Hid (w4 = w3.setCell ⟨r.p, 0, none⟩ (.slice a3 NL.length k3)) := ⟨_, rfl⟩
    rw [← hw4.out] at HR0 MR0
    rw [← hw4.out]
    obtain ⟨_, y1, _, _, hp4, hf4⟩ := HR0.out.cell
    have y1' : w4.cell? ⟨r.p, 1, none⟩ = some (.slice none 0 0) := by rw [← HVF.out]; exact y1
    have hp4' : r.p < w4.heap.size := hp4
    have hf4' : ∀ j, w4.frozen? ⟨r.p, j, none⟩ = false := hf4
    have OI : Hid (World.ownsRow (w4.alloc (.cells #[] 3)) w4.heap.size 3 1 (.slice (some ⟨w4.heap.size, 0, none⟩) 0 0) 0 []) := owns_newi w4
    have hz4 : Hid (w4.heap.size ≤ (w4.alloc (.cells #[] 3)).heap.size) := by show w4.heap.size ≤ _; simp
    clear hA S1 S2 l1 l2 O1 BB c0 hp hfz x0 hp3 hf3 i1 i2 i4 i5 i6 i7 i8 y1 hp4 hf4 O2 B2 B3 e0 XL hg
    go_wp2_with (first
      | (at_builtin
         refine append_none rfl _ _ rfl (.slice (some ⟨w4.heap.size, 0, none⟩) 0 0) [] rfl (owns_base OI.out (Nat.zero_le _)) rfl ?_
         obtain ⟨w5, hw5⟩ : ∃ w5, Hid (w5 = w4.alloc (.cells #[] 3)) := ⟨_, rfl⟩
         rw [← hw5.out]
         obtain ⟨v5, hv5⟩ : ∃ v5, Hid (v5 = (.slice (some ⟨w4.heap.size, 0, none⟩) 0 0 : Value)) := ⟨_, rfl⟩
         rw [← hv5.out]
         have O5 : Hid (World.ownsRow (w5.alloc (.cells #[.int .i64 (m : Int)] 3)) w4.heap.size 3 1 v5 FF.length (FF.map nv)) := (by rw [hw5.out, hv5.out, hFn.out]; exact OI.out.alloc _)
         have B5 : Hid (Below w4.heap.size w4 (w5.alloc (.cells #[.int .i64 (m : Int)] 3))) := (by rw [hw5.out]; exact below_on (below_alloc _ _) (below_alloc _ _))
         clear OI)
      | (at_builtin
         refine append_int w4.heap.size B5.out.size rfl _ _ rfl v5 FF.length (FF.map nv) rfl O5.out (by omega) w5.heap.size (.int .i64 (m : Int)) rfl 1 rfl (by simp [go_sem]) ?_
         intro g6 c6 w6 hown hgr _
         have B6 : Hid (Below w4.heap.size w4 w6) := B5.out.grown hgr B5.out.size (row_lt O5.out)
         have O6 : Hid (w6.ownsRow w4.heap.size 3 1 (.slice (some ⟨g6, 0, none⟩) (FF.length + 1) c6) (FF ++ [m]).length ((FF ++ [m]).map nv)) := (by have x : (FF ++ [m]).length = FF.length + 1 := (by simp); rw [x, List.map_append]; exact hown)
         obtain ⟨kk1, kk2⟩ := HR0.out.newf B6.out O6.out
         have K1 : Hid _ := kk1
         have K2 : Hid _ := kk2
         obtain ⟨_, z1, _, _, hp6, hf6⟩ := (rfSt.below HR0.out B6.out : RfP _ w6).cell
         have z1' : w6.cell? ⟨r.p, 1, none⟩ = some r.vf := z1
         have hp6' : r.p < w6.heap.size := hp6
         have hf6' : ∀ j, w6.frozen? ⟨r.p, j, none⟩ = false := hf6
         clear hown hgr kk1 kk2 z1 hp6 hf6)
      | go_in)
    go_ret
    refine ⟨rfl, _, K1.out, rfl, ?_, MR0.out.trans K2.out⟩
    unfold RAbs.drop Rf.abs
    rw [hNL.out, hFF.out, hLL.out, List.eraseIdx_eq_take_drop_succ]

set_option maxRecDepth 100000 in
set_option maxHeartbeats 8000000 in
theorem rdrop_some {r : Rf} {w : World} (h : RfP r w) (hl : r.L.length ≤ 4096) (hfl : r.fr.length ≤ 10000) (hd : (r.L.map Prod.fst).Nodup) {j m : Nat} {c : List UInt8} (hj : r.L[j]? = some (m, c)) (hvf : ∃ gf cf, r.vf = .slice (some ⟨gf, 0, none⟩) r.fr.length cf) : Calls Try.prog 15 #[arV r.p, .int .i64 (m : Int)] w fun e w' => e = .returned (.int .i64 0) ∧ RGoes r w (r.abs.drop j m) w' := by
  have HA := at_some h (by omega) hd hj
  obtain ⟨g, cap, hv, hg, hjl, hc, _⟩ := h.page hj
  obtain ⟨LL, hLL⟩ : ∃ LL, Hid (LL = r.L) := ⟨_, rfl⟩
  obtain ⟨FF, hFF⟩ : ∃ FF, Hid (FF = r.fr) := ⟨_, rfl⟩
  rw [← hLL.out] at hl hjl hc hv
  rw [← hFF.out] at hfl
  obtain ⟨gf, cf, hvf⟩ := hvf
  rw [← hFF.out] at hvf
  obtain ⟨c0, _, _, _, hp, hfz⟩ := h.cell
  rw [hv] at c0
  have HH : Hid (RfP r w) := h
  have HV : Hid (r.vl = .slice (some ⟨g, 0, none⟩) LL.length cap) := hv
  have HVF : Hid (r.vf = .slice (some ⟨gf, 0, none⟩) FF.length cf) := hvf
  have XL : Hid (w.ownsRow 0 43 2 (.slice (some ⟨g, 0, none⟩) LL.length cap) LL.length (lcs LL)) := by
    have x := h.rl
    rw [hv, ← hLL.out] at x
    exact x
  clear h hj hd hv hvf
  unfold arV at *
  go_enter Try.func15, Try.ntmps15
  go_wp2_with fail
  refine HA.mono ?_
  rintro e w1 ⟨rfl, rfl⟩
  clear HA
  go_wp2_with fail
  have i1 : (0 : Int) ≤ (j : Int) := by omega
  have i2 : (j : Int) ≤ (cap : Int) := by omega
  have i4 : IntKind.i64.wrap ((j : Int) + 1) = (j : Int) + 1 := by rw [IntKind.wrap_i64]; omega
  have i5 : (j : Int) + 1 ≤ (LL.length : Int) := by omega
  have i6 : (0 : Int) ≤ (j : Int) + 1 := by omega
  have i7 : (LL.length : Int) ≤ (cap : Int) := by omega
  have i8 : ((j : Int) + 1).toNat = j + 1 := by omega
  have O1 : Hid (World.ownsRow (w1.alloc (.cells #[] 43)).drew w1.heap.size 43 2 (.slice (some ⟨w1.heap.size, 0, none⟩) 0 0) ([] : List (Nat × List UInt8)).length (lcs [])) := owns_new2 w1
  have BB : Hid (Below w1.heap.size w1 (w1.alloc (.cells #[] 43)).drew) := (below_alloc _ _).drew
  have S1 : Hid (∀ i u, (lcs (LL.take j))[i]? = some u → (w1.alloc (.cells #[] 43)).drew.cell? ((⟨g, 0, none⟩ : Addr).add i) = some u) := drop_src1 XL.out BB.out j
  obtain ⟨A, hA, hS2⟩ := drop_src2 XL.out hg j (by omega)
  have S2 : Hid (∀ w' : World, Below w1.heap.size w1 w' → ∀ i u, (lcs (LL.drop (j + 1)))[i]? = some u → w'.cell? (A.add i) = some u) := hS2
  have l1 : Hid ((LL.take j).length = j) := by show (LL.take j).length = j; rw [List.length_take]; omega
  have l2 : Hid ((LL.drop (j + 1)).length = LL.length - (j + 1)) := by show (LL.drop (j + 1)).length = _; rw [List.length_drop]
  clear hS2
  go_region_law (first
    | (refine step_pages w1.heap.size BB.out.size rfl (.tmp 12) (.tmp 18) rfl (.slice (some ⟨w1.heap.size, 0, none⟩) 0 0) [] rfl O1.out (Nat.zero_le _) ⟨g, 0, none⟩ (LL.take j) j cap ?_ l1.out (by omega) S1.out ?_
       · simp [Act.eval, Act.put]
       intro v2 w2 hown hgr
       have B2 : Hid (Below w1.heap.size w1 w2) := BB.out.grown hgr BB.out.size (row_lt O1.out)
       have O2 : Hid (w2.ownsRow w1.heap.size 43 2 v2 (LL.take j).length (lcs (LL.take j))) := hown
       have e0 : w2.cell? ⟨r.p, 0, none⟩ = some (.slice (some ⟨g, 0, none⟩) LL.length cap) := (by rw [B2.out.cell hp]; exact c0)
       clear hown hgr)
    | (refine step_pages w1.heap.size B2.out.size rfl (.tmp 19) (.tmp 26) rfl v2 (LL.take j) ?_ O2.out (by rw [l1.out]; omega) A (LL.drop (j + 1)) (LL.length - (j + 1)) (cap - (j + 1)) ?_ l2.out (by omega) (S2.out w2 B2.out) ?_
       · simp [Act.eval, Act.put]
       · simp [Act.eval, Act.put]
       intro v3 w3 hown hgr
       have B3 : Hid (Below w1.heap.size w1 w3) := B2.out.grown hgr B2.out.size (row_lt O2.out)
       obtain ⟨NL, hNL⟩ : ∃ NL, Hid (NL = LL.take j ++ LL.drop (j + 1)) := ⟨_, rfl⟩
       rw [← hNL.out] at hown
       obtain ⟨a3, k3, rfl, _⟩ := owns_slice hown
       obtain ⟨x0, _, _, _, hp3, hf3⟩ := (rfSt.below HH.out B3.out : RfP r w3).cell
       obtain ⟨kk1, kk2⟩ := HH.out.newl B3.out hown
       have HR0 : Hid (RfP { r with vl := .slice a3 NL.length k3, L := NL } (w3.setCell ⟨r.p, 0, none⟩ (.slice a3 NL.length k3))) := kk1
       have MR0 : Hid (Moves rfSt r { r with vl := .slice a3 NL.length k3, L := NL } w1 (w3.setCell ⟨r.p, 0, none⟩ (.slice a3 NL.length k3))) := kk2
       clear hown hgr kk1 kk2))
  all_goals
    obtain ⟨w4, hw4⟩ : ∃ w4, Hid (w4 = w3.setCell ⟨r.p, 0, none⟩ (.slice a3 NL.length k3)) := ⟨_, rfl⟩
    rw [← hw4.out] at HR0 MR0
    rw [← hw4.out]
    obtain ⟨_, y1, _, _, hp4, hf4⟩ := HR0.out.cell
    have y1' : w4.cell? ⟨r.p, 1, none⟩ = some (.slice (some ⟨gf, 0, none⟩) FF.length cf) := by rw [← HVF.out]; exact y1
    have hp4' : r.p < w4.heap.size := hp4
    have hf4' : ∀ j, w4.frozen? ⟨r.p, j, none⟩ = false := hf4
    have OI : Hid (World.ownsRow (w4.alloc (.cells #[] 3)) w4.heap.size 3 1 (.slice (some ⟨w4.heap.size, 0, none⟩) 0 0) 0 []) := owns_newi w4
    have hz4 : Hid (w4.heap.size ≤ (w4.alloc (.cells #[] 3)).heap.size) := by show w4.heap.size ≤ _; simp
    have SRCF : Hid (∀ j u, (FF.map nv)[j]? = some u → (w4.alloc (.cells #[] 3)).cell? ((⟨gf, 0, none⟩ : Addr).add j) = some u) := by
      have x1 := HR0.out.rf
      have x2 : w4.ownsRow 0 3 1 (.slice (some ⟨gf, 0, none⟩) FF.length cf) FF.length (FF.map nv) := by rw [← HVF.out, hFF.out]; exact x1
      exact (x2.alloc _).cells rfl
    clear hA S1 S2 l1 l2 O1 BB c0 hp hfz x0 hp3 hf3 i1 i2 i4 i5 i6 i7 i8 y1 hp4 hf4 O2 B2 B3 e0 XL hg
    go_wp2_with (first
      | (at_builtin
         refine append_row (z := .int .i64 0) Try.underlying45 (by kernel_rfl) rfl w4.heap.size hz4.out rfl _ _ rfl (.slice (some ⟨w4.heap.size, 0, none⟩) 0 0) (FF.map nv) rfl OI.out FF.length (by omega) ⟨gf, 0, none⟩ cf rfl (by simp) SRCF.out (one_nv FF) ?_
         intro v5 w5 hown hgr
         have O5 : Hid (World.ownsRow (w5.alloc (.cells #[.int .i64 (m : Int)] 3)) w4.heap.size 3 1 v5 FF.length (FF.map nv)) := hown.alloc _
         have B5 : Hid (Below w4.heap.size w4 (w5.alloc (.cells #[.int .i64 (m : Int)] 3))) := below_on ((below_alloc w4 _).grown hgr hz4.out (row_lt OI.out)) (below_alloc _ _)
         clear hown hgr OI)
      | (at_builtin
         refine append_int w4.heap.size B5.out.size rfl _ _ rfl v5 FF.length (FF.map nv) rfl O5.out (by omega) w5.heap.size (.int .i64 (m : Int)) rfl 1 rfl (by simp [go_sem]) ?_
         intro g6 c6 w6 hown hgr _
         have B6 : Hid (Below w4.heap.size w4 w6) := B5.out.grown hgr B5.out.size (row_lt O5.out)
         have O6 : Hid (w6.ownsRow w4.heap.size 3 1 (.slice (some ⟨g6, 0, none⟩) (FF.length + 1) c6) (FF ++ [m]).length ((FF ++ [m]).map nv)) := (by have x : (FF ++ [m]).length = FF.length + 1 := (by simp); rw [x, List.map_append]; exact hown)
         obtain ⟨kk1, kk2⟩ := HR0.out.newf B6.out O6.out
         have K1 : Hid _ := kk1
         have K2 : Hid _ := kk2
         obtain ⟨_, z1, _, _, hp6, hf6⟩ := (rfSt.below HR0.out B6.out : RfP _ w6).cell
         have z1' : w6.cell? ⟨r.p, 1, none⟩ = some r.vf := z1
         have hp6' : r.p < w6.heap.size := hp6
         have hf6' : ∀ j, w6.frozen? ⟨r.p, j, none⟩ = false := hf6
         clear hown hgr kk1 kk2 z1 hp6 hf6)
      | go_in)
    go_ret
    refine ⟨rfl, _, K1.out, rfl, ?_, MR0.out.trans K2.out⟩
    unfold RAbs.drop Rf.abs
    rw [hNL.out, hFF.out, hLL.out, List.eraseIdx_eq_take_drop_succ]
end Go.Proofs.Ytcoehlnmaehhjaa
