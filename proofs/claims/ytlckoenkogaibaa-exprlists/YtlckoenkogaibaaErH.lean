/-
  Expr: Row of package expr.
-/
import Derived.Test.YtlckoenkogaibaaErG
import Derived.Test.YtlckoenkogaibaaEvN
namespace Go.Proofs.Ytlckoenkogaibaa
open Go.RowKit

/-- What is known of the six values of the step row = append(row, own(s.eval(n))). -/
def roF (V0 : Value) (ra : Option Addr) (m rc : Nat) (k : NL) (r : VE) : Nat → Value → World → Prop
  | 0, v, _ => v = V0
  | 1, v, _ => v = scV ra m rc 65536
  | 2, v, _ => v = nV k
  | 3, v, _ => v = vvV r.1 ∧ r.2 = 0
  | 4, v, _ => v = vvV r.1 ∧ r.2 = 0
  | 5, v, w => ∃ q, v = .slice (some ⟨q, 0, none⟩) 1 1 ∧ w.heap[q]? = some (.cells (vvC r.1).toArray 23 (0, 0)) ∧ r.2 = 0
  | _, _, _ => True
theorem roF_mono {V0 : Value} {ra : Option Addr} {m rc : Nat} {k : NL} {r : VE} : ∀ (i : Nat) (v : Value) (w w' : World), roF V0 ra m rc k r i v w → Below w.heap.size w w' → roF V0 ra m rc k r i v w'
  | 0, _, _, _, h, _ => h
  | 1, _, _, _, h, _ => h
  | 2, _, _, _, h, _ => h
  | 3, _, _, _, h, _ => h
  | 4, _, _, _, h, _ => h
  | 5, _, _, _, ⟨q, h, h1, h2⟩, hb => ⟨q, h, (hb.block _ (Array.getElem?_eq_some_iff.1 h1).1).trans h1, h2⟩
  | _ + 6, _, _, _, _, _ => trivial

section
variable {Q : Exit → Act → World → Prop} {K : Act → World → Prop} {o : Oper} {a : Act} {w : World}
theorem rop_vals {s p : Nat} {V : Value} (ho : o.op = .load 45 (.tmp s)) (hs : a.eval (.tmp s) = .pointer (some ⟨p, 0, none⟩)) (hc : w.heap[p]? = some (.cells #[V] 45 (0, 0))) (hK : K (a.put o.dst V) w) : Oper.wp Try.prog o a w K Q := by
  have hs' := slot_of hs
  have c0 : w.cell? ⟨p, 0, none⟩ = some V := by rw [cell_of_row _ _ _ _ _ _ hc]; rfl
  unfold Oper.wp
  simp [execOp, ho, go_sem, hs', c0]
  exact hK
theorem rop_scope {s p : Nat} {x y : Value} (ho : o.op = .load 59 (.tmp s)) (hs : a.eval (.tmp s) = .pointer (some ⟨p, 0, none⟩)) (hc : w.heap[p]? = some (.cells #[x, y] 59 (0, 0))) (hK : K (a.put o.dst (.agg #[x, y])) w) : Oper.wp Try.prog o a w K Q := by
  have hs' := slot_of hs
  have c0 : w.cell? ⟨p, 0, none⟩ = some x := by rw [cell_of_row _ _ _ _ _ _ hc]; rfl
  have c1 : w.cell? ⟨p, 1, none⟩ = some y := by rw [cell_of_row _ _ _ _ _ _ hc]; rfl
  unfold Oper.wp
  simp [execOp, ho, go_sem, hs', c0, c1]
  exact hK
theorem rop_eval {s t : Nat} {T U : TypeId} {x y : Value} {P : Ending → World → Prop} (ho : o.op = .call { callee := .value (.func 23), args := #[.tmp s, .tmp t], argTypes := #[T, U] }) (hs : a.eval (.tmp s) = x) (ht : a.eval (.tmp t) = y) (hC : Calls Try.prog 23 #[x, y] w P)
    (hK : ∀ e w', P e w' → (∃ v, e = .returned v ∧ K (a.put o.dst v) w') ∨ (∃ c, e = .panicked c ∧ Q (.panic c) a w')) : Oper.wp Try.prog o a w K Q := by
  have hs' := slot_of hs
  have ht' := slot_of ht
  unfold Oper.wp
  simp [execOp, ho, resolve, invoke, go_sem, hs', ht']
  refine hC.mono ?_
  intro e w' h
  rcases hK e w' h with ⟨v, rfl, hk⟩ | ⟨c, rfl, hq⟩
  · exact hk
  · exact hq
theorem rop_own {s : Nat} {T : TypeId} {x : Value} {P : Ending → World → Prop} (ho : o.op = .call { callee := .value (.func 21), args := #[.tmp s], argTypes := #[T] }) (hs : a.eval (.tmp s) = x) (hC : Calls Try.prog 21 #[x] w P)
    (hK : ∀ e w', P e w' → ∃ v, e = .returned v ∧ K (a.put o.dst v) w') : Oper.wp Try.prog o a w K Q := by
  have hs' := slot_of hs
  unfold Oper.wp
  simp [execOp, ho, resolve, invoke, go_sem, hs']
  refine hC.mono ?_
  intro e w' h
  obtain ⟨v, rfl, hk⟩ := hK e w' h
  exact hk
theorem rop_slice {s : Nat} {x : Vv} (ho : o.op = .buildSlice 45 1 #[(0, .tmp s)]) (hs : a.eval (.tmp s) = vvV x) (hK : K (a.put o.dst (.slice (some ⟨w.heap.size, 0, none⟩) 1 1)) (w.alloc (.cells (vvC x).toArray 23))) : Oper.wp Try.prog o a w K Q := by
  have hs' := slot_of hs
  unfold vvV valV at hs'
  unfold Oper.wp
  simp [execOp, ho, go_sem, hs', run_underlying Try.underlying45]
  exact hK
end

/-- What the loop of Row keeps. -/
structure RoI (n : Nat) (rs : List RowL) (l : List NL) (pv : Nat) (w wr : World) (j : Nat) (V : Value) : Prop where
  var : wr.heap[pv]? = some (.cells #[V] 45 (0, 0))
  own : wr.ownsRow w.heap.size 23 3 V j (Rw.flat vvC ((l.take j).map fun x => (evN n rs x).1))
  only : Only (fun k => k = pv) w wr
  err : errN n rs l = errN n rs (l.drop j)

/-- What the closure of Row does to its variable. -/
def Row1P (vs : List Vv) (c : Int) (pv : Nat) (w : World) (e : Ending) (W : World) : Prop :=
  ((c = 0 ∧ e = .returned (.tuple #[]) ∧ ∃ V, W.heap[pv]? = some (.cells #[V] 45 (0, 0)) ∧ W.ownsRow w.heap.size 23 3 V vs.length (Rw.flat vvC vs)) ∨ ((c != 0) = true ∧ e = .panicked (stopped c 0))) ∧ Only (fun k => k = pv) w W

set_option maxRecDepth 100000 in
set_option maxHeartbeats 2000000 in
theorem row1_walk {n : Nat} (hn : n ≤ 65536) {ra : Option Addr} {rs : List RowL} {rc : Nat} (hF : RowsFit rs) {l : List NL} {a : Option Addr} {c : Nat} {w : World} (hI : ∀ k ∈ l, InN n w k) (hd : ∀ k ∈ l, deepN n k = false) (hl : l.length ≤ 50) {pl pv ps : Nat}
    (h0 : w.heap[pl]? = some (.cells #[.slice a l.length c] 24 (0, 0))) (h1 : w.heap[ps]? = some (.cells #[.slice ra rs.length rc, .int .i64 65536] 59 (0, 0))) (h2 : w.heap[pv]? = some (.cells #[.slice none 0 0] 45 (0, 0)))
    (hoff : ∀ W : World, Only (fun k => k = pv) w W → Rw.SlG nC 7 W a l ∧ (∀ k ∈ l, InN n W k) ∧ RowsIn W ra rs) :
    Calls Try.prog 36 #[.pointer (some ⟨pl, 0, none⟩), .pointer (some ⟨pv, 0, none⟩), .pointer (some ⟨ps, 0, none⟩)] w (Row1P (l.map fun x => (evN n rs x).1) (errN n rs l) pv w) := by
  have hlv := (Array.getElem?_eq_some_iff.1 h2).1
  have hls := (Array.getElem?_eq_some_iff.1 h1).1
  have hne : ps ≠ pv := fun e => by rw [e, h2] at h1; injection h1 with h1; injection h1 with _ h1 _; exact absurd h1 (by decide)
  have HOff := Rw.dh hoff
  have HSc : Hid (∀ W : World, Only (fun k => k = pv) w W → W.heap[ps]? = some (.cells #[.slice ra rs.length rc, .int .i64 65536] 59 (0, 0))) := fun W ho => (ho.block _ hls hne).trans h1
  have HV := Rw.dh (fun k (hk : k ∈ l) W (hi : InN n W k) (hr : RowsIn W ra rs) => eval_walk (ra := ra) (rc := rc) hF n k W 65536 hi (hd k hk) (by omega) (by omega) hr)
  have HFit := Rw.dh (fun k (hk : k ∈ l) => (evN_fit (n := n) (hI k hk) hF))
  have d0 : w.cell? ⟨pl, 0, none⟩ = some (.slice a l.length c) := by rw [cell_of_row _ _ _ _ _ _ h0]; rfl
  have hpl := (Array.getElem?_eq_some_iff.1 h0).1
  have H2 := Rw.dh h2
  clear hI hd h0 h1 h2 hF hoff hls hne
  go_enter Try.func36, Try.ntmps36
  go_wp2_with fail
  go_loopw [7] (fun i wr => ∃ (j : Nat) (V : Value), j ≤ l.length ∧ i = .int .i64 (j : Int) ∧ Hid (RoI n rs l pv w wr j V)) (fun i _ => l.length - (intOf i).toNat)
  case atStart => exact ⟨0, .slice none 0 0, Nat.zero_le _, rfl, H2.out, World.ownsRow_nil _ _ _ _, Only.refl _ _, rfl⟩
  case round =>
    obtain ⟨j, V, hj, rfl, HR⟩ := hrel
    clear d0 H2
    have hwr : w.heap.size ≤ wr.heap.size := HR.out.only.size
    by_cases hlt : j < l.length
    · obtain ⟨b, o, k, rfl, hb, hx, hc⟩ := (HOff.out wr HR.out.only).1.at hlt
      have hkm := List.mem_of_getElem? hx
      have hv0 := HV.out k hkm
      have hfit := HFit.out k hkm
      have hin := fun W ho => (HOff.out W ho).2.1 k hkm
      have HA1 : Hid (errN n rs l = errStep (evN n rs k).2 (errN n rs (l.drop (j + 1)))) := HR.out.err.trans (errN_at hx)
      have HM : Hid (((l.take (j + 1)).map fun x => (evN n rs x).1) = ((l.take j).map fun x => (evN n rs x).1) ++ [(evN n rs k).1]) := by
        rw [Hid, List.take_add_one, hx]; simp
      generalize evN n rs k = r at HA1 HM hv0 hfit
      have c0 : wr.cell? ⟨b, o + j * 7, none⟩ = some (.string k.op) := hc 0 _ rfl
      have c1 : wr.cell? ⟨b, o + j * 7 + 1, none⟩ = some (.int .i64 k.vk) := hc 1 _ rfl
      have c2 : wr.cell? ⟨b, o + j * 7 + 2, none⟩ = some (.int .i64 k.vn) := hc 2 _ rfl
      have c3 : wr.cell? ⟨b, o + j * 7 + 3, none⟩ = some (.string k.vs) := hc 3 _ rfl
      have c4 : wr.cell? ⟨b, o + j * 7 + 4, none⟩ = some (.int .i64 k.var) := hc 4 _ rfl
      have c5 : wr.cell? ⟨b, o + j * 7 + 5, none⟩ = some (.int .i64 k.col) := hc 5 _ rfl
      have c6 : wr.cell? ⟨b, o + j * 7 + 6, none⟩ = some (.slice k.a k.kids.length k.c) := hc 6 _ rfl
      clear hc hx
      go_wp2_with fail
      clear c0 c1 c2 c3 c4 c5 c6 hb
      refine Rw.to_letter (F := fun U => Below wr.heap.size wr U ∧ U.heap[wr.heap.size]? = some (.cells (nC k).toArray 26 (0, 0))) ⟨Rw.below_alloc _ _, Rw.heap_new _ _⟩ ?_
      rintro U ⟨hbU, hnU⟩
      have hUv : U.heap[pv]? = some (.cells #[V] 45 (0, 0)) := (hbU.block _ (Array.getElem?_eq_some_iff.1 HR.out.var).1).trans HR.out.var
      have hUo : Only (fun k => k = pv) w U := HR.out.only.trans (Only.of_below hbU)
      have hUs := HSc.out U hUo
      refine Rw.wp_region_facts (U := U) 6 (fun i => 11 + i) [11, 12, 13, 14, 15, 16] (roF V ra rs.length rc k r) roF_mono (by intro i j _ _ h; omega) (by intro i hi; have : i = 0 ∨ i = 1 ∨ i = 2 ∨ i = 3 ∨ i = 4 ∨ i = 5 := (by omega); rcases this with rfl | rfl | rfl | rfl | rfl | rfl <;> decide) (by intro i hi; show 11 + i < 19; omega) (by kernel_rfl) (by kernel_rfl) (by kernel_rfl) (by simp) (Rw.lowO_of (by kernel_rfl)) (by kernel_rfl) ?_ ?_
      · intro i o a w2 hi hi6 hfr hbw hdep
        have e0 : a.eval (.tmp 1) = .pointer (some ⟨pv, 0, none⟩) := hfr.eval (by decide)
        have e1 : a.eval (.tmp 2) = .pointer (some ⟨ps, 0, none⟩) := hfr.eval (by decide)
        have e2 : a.eval (.tmp 4) = .pointer (some ⟨wr.heap.size, 0, none⟩) := hfr.eval (by decide)
        have hv2 := (hbw.block _ (Array.getElem?_eq_some_iff.1 hUv).1).trans hUv
        have hs2 := (hbw.block _ (Array.getElem?_eq_some_iff.1 hUs).1).trans hUs
        have hn2 := (hbw.block _ (Array.getElem?_eq_some_iff.1 hnU).1).trans hnU
        have ho2 : Only (fun k => k = pv) w w2 := hUo.trans (Only.of_below hbw)
        have dep : ∀ q, (o.after.any fun e => Region.binds .any e && e.on == q) = true → roF V ra rs.length rc k r q (a.eval (.tmp (11 + q))) w2 := fun q h => Rw.depO (F := fun q => roF V ra rs.length rc k r q (a.eval (.tmp (11 + q))) w2) q h hdep
        have hcs : i = 0 ∨ i = 1 ∨ i = 2 ∨ i = 3 ∨ i = 4 ∨ i = 5 := by omega
        rcases hcs with rfl | rfl | rfl | rfl | rfl | rfl
        · obtain rfl := Option.some.inj hi
          exact ⟨rfl, fun K hK => rop_vals rfl e0 hv2 (hK _ _ (Below.refl _ _) rfl)⟩
        · obtain rfl := Option.some.inj hi
          exact ⟨rfl, fun K hK => rop_scope rfl e1 hs2 (hK _ _ (Below.refl _ _) rfl)⟩
        · obtain rfl := Option.some.inj hi
          exact ⟨rfl, fun K hK => aop_load rfl e2 hn2 (hK _ _ (Below.refl _ _) rfl)⟩
        · obtain rfl := Option.some.inj hi
          have d1 : a.eval (.tmp 12) = scV ra rs.length rc 65536 := dep 1 (by kernel_rfl)
          have d2 : a.eval (.tmp 13) = nV k := dep 2 (by kernel_rfl)
          refine ⟨rfl, fun K hK => rop_eval rfl d1 d2 (hv0 w2 (hin w2 ho2) (HOff.out w2 ho2).2.2) ?_⟩
          rintro e w3 ⟨hW, hb3⟩
          cases hW with
          | ok v => exact Or.inl ⟨_, rfl, hK _ _ hb3 ⟨rfl, rfl⟩⟩
          | no v c h =>
            refine Or.inr ⟨_, rfl, ?_⟩
            exact ⟨hfr.defers, Or.inr ⟨by rw [HA1.out, errStep_no h]; exact h, by rw [HA1.out, errStep_no h]⟩, ho2.trans (Only.of_below hb3)⟩
        · obtain rfl := Option.some.inj hi
          have d1 : a.eval (.tmp 14) = vvV r.1 ∧ r.2 = 0 := dep 3 (by kernel_rfl)
          refine ⟨rfl, fun K hK => rop_own rfl d1.1 (own_walk r.1 hfit.2.2 w2) ?_⟩
          rintro e w3 ⟨rfl, hb3⟩
          exact ⟨_, rfl, hK _ _ hb3 ⟨rfl, d1.2⟩⟩
        · obtain rfl := Option.some.inj hi
          have d1 : a.eval (.tmp 15) = vvV r.1 ∧ r.2 = 0 := dep 4 (by kernel_rfl)
          exact ⟨rfl, fun K hK => rop_slice rfl d1.1 (hK _ _ (Rw.below_alloc _ _) ⟨_, rfl, Rw.heap_new _ _, d1.2⟩)⟩
      · intro a w2 hfr hbw hk
        have k0 : a.eval (.tmp 11) = V := hk 0 (by decide)
        obtain ⟨q, k5, hq, hr0⟩ : ∃ q, a.eval (.tmp 16) = .slice (some ⟨q, 0, none⟩) 1 1 ∧ w2.heap[q]? = some (.cells (vvC r.1).toArray 23 (0, 0)) ∧ r.2 = 0 := hk 5 (by decide)
        have ha := hfr.all (by intro t ht; simp at ht; show t < 19; omega)
        rw [ha]
        simp only [Rw.putAll]
        rw [k0, k5]
        generalize a.eval (.tmp 12) = u12, a.eval (.tmp 13) = u13, a.eval (.tmp 14) = u14, a.eval (.tmp 15) = u15
        simp only [Act.put, List.setIfInBounds_toArray, List.set_cons_succ, List.set_cons_zero]
        have bA := below_on hbU hbw
        have o1 := Rw.owns_on HR.out.own bA
        have sU : Rw.Src w2 (some ⟨q, 0, none⟩) 1 1 (vvC r.1) := Or.inr ⟨_, rfl, fun i u hu => by
          rw [Rw.add_none, Nat.zero_add, cell_of_row _ _ _ _ _ _ hq]
          simpa using hu⟩
        have oA : Only (fun k => k = pv) w w2 := hUo.trans (Only.of_below hbw)
        have hv2 := (hbw.block _ (Array.getElem?_eq_some_iff.1 hUv).1).trans hUv
        have HA2 : Hid (errN n rs l = errN n rs (l.drop (j + 1))) := by
          rw [Hid, HA1.out]; unfold errStep; rw [hr0]; rfl
        have HV2 := Rw.dh hv2
        have HO2 := Rw.dh oA
        clear k0 k5 ha hk hfr hbw hbU hnU hUv hUo hUs hin hv0 hfit hkm hr0 HA1 hq hv2 oA bA
        simp only [List.drop_succ_cons, List.drop_zero]
        refine append_bigN Try.underlying45 infoVal rfl (by decide) rfl _ _ rfl w.heap.size HO2.out.size _ j _ rfl o1 _ 1 1 (vvC r.1) rfl sU rfl (vvC_one _) (by unfold maxLen; omega) (by omega) ?_
        intro V2 W2 O2 G2 hV2
        obtain ⟨a2, c2, rfl⟩ := Rw.owns_slice O2
        have hne : V.ownBlock ≠ some pv := fun e => by have := (o1.lt pv e).1; omega
        have hv3 : W2.heap[pv]? = some (.cells #[V] 45 (0, 0)) := (G2.block _ (Array.getElem?_eq_some_iff.1 HV2.out).1 (fun e => hne e.symm)).trans HV2.out
        have y0 : W2.cell? ⟨pv, 0, none⟩ = some V := by rw [cell_of_row _ _ _ _ _ _ hv3]; rfl
        have y1 : W2.frozen? ⟨pv, 0, none⟩ = false := frozen_of_row _ _ _ _ _ hv3
        have y2 := (Array.getElem?_eq_some_iff.1 hv3).1
        have HR2 : Hid (RoI n rs l pv w (W2.setCell ⟨pv, 0, none⟩ (.slice a2 (j + 1) c2)) (j + 1) (.slice a2 (j + 1) c2)) := by
          refine ⟨?_, ?_, ?_, HA2.out⟩
          · have := heap_setCell_same W2 pv 0 #[V] 45 (.slice a2 (j + 1) c2) hv3
            simpa using this
          · rw [HM.out, Rw.flat_append]
            refine Rw.owns_below (by simpa [Rw.flat] using O2) fun q hq => heap_setCell_other _ _ _ _ ?_
            have := (O2.lt q hq).1
            show q ≠ pv
            omega
          · exact Only.setCell (S := fun k => k = pv) (HO2.out.grown G2 fun k hk => Or.inl (o1.lt k hk).1) (p := ⟨pv, 0, none⟩) (Or.inr rfl) _
        clear O2 G2 hV2 o1 sU HR HM HA2 HV2 HO2 hne hv3
        go_wp2_with fail
        exact ⟨⟨j + 1, _, hlt, by go_num, HR2⟩, by simp [intOf]; omega⟩
    · have hjs : j = l.length := by omega
      subst hjs
      have hA := HR.out.err
      rw [List.drop_length] at hA
      have HE0 : Hid (errN n rs l = 0) := hA
      have ho := HR.out.own
      rw [List.take_length] at ho
      have HE : Hid (Row1P (l.map fun x => (evN n rs x).1) 0 pv w (.returned (.tuple #[])) wr) := ⟨Or.inl ⟨rfl, rfl, V, HR.out.var, by rw [List.length_map]; exact ho⟩, HR.out.only⟩
      clear hA ho
      go_wp2
      go_end0
      rw [HE0.out]
      exact HE.out

theorem calls_row1 (args : Array Value) (w : World) : (callFunc 36 args).run Try.prog w = .ok (.enter 36 args) w := by
  simp [go_sem]

/-- What the catch of Row leaves. -/
def RowCP (vs : List Vv) (c : Int) (pv : Nat) (w : World) (e : Ending) (W : World) : Prop :=
  e = .returned (faultV c 0) ∧ Only (fun k => k = pv) w W ∧ (c = 0 → ∃ V, W.heap[pv]? = some (.cells #[V] 45 (0, 0)) ∧ W.ownsRow w.heap.size 23 3 V vs.length (Rw.flat vvC vs))

theorem rowCatch_walk {n : Nat} (hn : n ≤ 65536) {ra : Option Addr} {rs : List RowL} {rc : Nat} (hF : RowsFit rs) {l : List NL} {a : Option Addr} {c : Nat} {w : World} (hI : ∀ k ∈ l, InN n w k) (hd : ∀ k ∈ l, deepN n k = false) (hl : l.length ≤ 50) {pl pv ps : Nat}
    (h0 : w.heap[pl]? = some (.cells #[.slice a l.length c] 24 (0, 0))) (h1 : w.heap[ps]? = some (.cells #[.slice ra rs.length rc, .int .i64 65536] 59 (0, 0))) (h2 : w.heap[pv]? = some (.cells #[.slice none 0 0] 45 (0, 0)))
    (hoff : ∀ W : World, Only (fun k => k = pv) w W → Rw.SlG nC 7 W a l ∧ (∀ k ∈ l, InN n W k) ∧ RowsIn W ra rs) :
    Calls Try.prog 19 #[.func (.func 36) #[] #[.pointer (some ⟨pl, 0, none⟩), .pointer (some ⟨pv, 0, none⟩), .pointer (some ⟨ps, 0, none⟩)]] w (RowCP (l.map fun x => (evN n rs x).1) (errN n rs l) pv w) := by
  have hb := below_catchW w
  have l2 := (Array.getElem?_eq_some_iff.1 h2).1
  have H := row1_walk (rc := rc) (c := c) (a := a) hn hF (fun k hk => (hI k hk).on hb) hd hl ((hb.block _ (Array.getElem?_eq_some_iff.1 h0).1).trans h0) ((hb.block _ (Array.getElem?_eq_some_iff.1 h1).1).trans h1) ((hb.block _ l2).trans h2) (fun W ho => hoff W ((Only.of_below hb).trans ho))
  generalize errN n rs l = c at *
  generalize (l.map fun x => (evN n rs x).1) = vs at *
  refine (catch_any 36 calls_row1 _ w (fun k => k = pv) (fun k hk e => by omega) (Row1P vs c pv (catchW w)) (H.mono ?_)).mono ?_
  · rintro e w1 ⟨hE, ho⟩
    refine ⟨⟨hE, ho⟩, ho, ?_⟩
    rcases hE with ⟨_, rfl, _⟩ | ⟨_, rfl⟩
    · exact ⟨_, _, _, .done⟩
    · exact ⟨_, _, _, .stop _ _⟩
  · rintro e w' ⟨e1, w1, c', a, t, ⟨hE, _⟩, hc, rfl, ho, hat⟩
    have hs := hb.size
    have hs1 := ho.size
    have hp : w'.heap[pv]? = w1.heap[pv]? := hat.block _ (by omega) (by omega)
    rcases hE with ⟨h, he, V, hV, hO⟩ | ⟨h, he⟩
    · obtain ⟨rfl, rfl⟩ := came_ret hc he
      subst h
      refine ⟨rfl, Only.through hb ho hat, fun _ => ⟨V, by rw [hp]; exact hV, ?_⟩⟩
      have h3 : (catchW w).heap.size = w.heap.size + 3 := by simp [catchW, caughtW]
      have hO' : w'.ownsRow (catchW w).heap.size 23 3 V vs.length (Rw.flat vvC vs) := Rw.owns_below hO fun q hq => hat.block q (hO.lt q hq).2 (by have := (hO.lt q hq).1; omega)
      exact Rw.owns_mono hO' fun q hq => by have := (hO'.lt q hq).1; omega
    · obtain ⟨rfl, rfl⟩ := came_pan hc he
      exact ⟨rfl, Only.through hb ho hat, fun h0 => by rw [h0] at h; cases h⟩

set_option maxRecDepth 100000 in
set_option maxHeartbeats 400000 in
theorem row_walk {n : Nat} (hn : n ≤ 65536) {ra : Option Addr} {rs : List RowL} {rc : Nat} (hF : RowsFit rs) {l : List NL} {a : Option Addr} {c : Nat} {w : World} (hS : Rw.SlG nC 7 w a l) (hI : ∀ k ∈ l, InN n w k) (hd : ∀ k ∈ l, deepN n k = false) (hl : l.length ≤ 50) (hR : RowsIn w ra rs) :
    Calls Try.prog 13 #[.slice a l.length c, .slice ra rs.length rc] w (RowP (l.map fun x => (evN n rs x).1) (errN n rs l) w) := by
  have hmf : ∀ (fn : Fn) (first cap : Array Value) (w : World), (Instr.makeFunc fn first cap).run Try.prog w = .ok (.func fn first cap) w := fun _ _ _ _ => rfl
  have HO := Rw.dh (fun W => over_walk ra rs.length rc W)
  have HC := Rw.dh (fun W (hb : Below w.heap.size w W) pl pv ps h0 h1 h2 (hpv : w.heap.size ≤ pv) => rowCatch_walk (w := W) (rc := rc) (c := c) (a := a) (ra := ra) (pl := pl) (ps := ps) (pv := pv) hn hF (fun k hk => (hI k hk).on hb) hd hl h0 h1 h2 (fun W' ho => by
    have hb' : Below w.heap.size w W' := hb.trans (ho.below hb.size fun k hk e => by omega)
    exact ⟨hS.below hb', fun k hk => (hI k hk).on hb', hR.on hb'⟩))
  clear hS hI hd hR hF
  generalize errN n rs l = r at *
  generalize (l.map fun x => (evN n rs x).1) = vs at *
  unfold scV at HO
  go_enter Try.func13, Try.ntmps13
  go_wp2_with fail
  refine (HO.out _).mono ?_
  rintro e w1 ⟨rfl, hb⟩
  have hp := (hb.block w.heap.size (by simp)).trans (Rw.heap_new w (.cells #[.slice a l.length c] 24))
  have HP := Rw.dh hp
  have HB := Rw.dh (below_on (Rw.below_alloc w _) hb)
  clear hb hp
  go_wp2_with fail
  have hlp := (Array.getElem?_eq_some_iff.1 HP.out).1
  have hC := HC.out ((w1.alloc (.cells #[.slice ra rs.length rc, .int .i64 65536] 59)).alloc (.cells #[.slice none 0 0] 45)) ((HB.out.alloc HB.out.size _).alloc (by have := HB.out.size; simp; omega) _) w.heap.size (w1.heap.size + 1) w1.heap.size ((Below.heap_alloc _ _ _ (by simp; omega)).trans ((Below.heap_alloc _ _ _ hlp).trans HP.out)) ((Below.heap_alloc _ _ _ (by simp)).trans (Rw.heap_new _ _)) (heap_two _ _ _) (by have := HB.out.size; omega)
  refine hC.mono ?_
  clear hC HC
  rintro e w2 ⟨rfl, ho, hv⟩
  have HV := Rw.dh hv
  have HB2 : Hid (Below w.heap.size w w2) := ((HB.out.alloc HB.out.size _).alloc (by have := HB.out.size; simp; omega) _).trans (ho.below (by have := HB.out.size; simp; omega) fun k hk e => by have := HB.out.size; omega)
  clear hv ho
  unfold faultV
  have HB3 := Rw.dh (HB2.out.alloc HB2.out.size (.cells #[.int .i64 r, .int .i64 0] 55))
  cases hr : (r != 0)
  · obtain rfl : r = 0 := by simpa using hr
    obtain ⟨V, hV, hO⟩ := HV.out rfl
    obtain ⟨a2, c2, rfl⟩ := Rw.owns_slice hO
    have hs := Rw.owns_slg vvC_len (by decide) hO
    have hV3 := (Below.heap_alloc w2 (.cells #[.int .i64 0, .int .i64 0] 55) _ (Array.getElem?_eq_some_iff.1 hV).1).trans hV
    have y0 : (w2.alloc (.cells #[.int .i64 0, .int .i64 0] 55)).cell? ⟨w1.heap.size + 1, 0, none⟩ = some (.slice a2 vs.length c2) := by rw [cell_of_row _ _ _ _ _ _ hV3]; rfl
    have HE : Hid (RowP vs 0 w (.returned (.tuple #[.slice a2 vs.length c2, .int .i64 0])) (w2.alloc (.cells #[.int .i64 0, .int .i64 0] 55))) := ⟨HB3.out, Or.inr ⟨rfl, a2, c2, rfl, hs.2.1.below (Rw.below_alloc _ _)⟩⟩
    clear hV hO hs hV3 HV
    go_wp2
    go_ret2
    exact HE.out
  · go_wp2_with fail
    go_quiet (fail)
    go_wp2
    go_ret2
    exact ⟨below_drewN HB3.out _, Or.inl ⟨hr, rfl⟩⟩
end Go.Proofs.Ytlckoenkogaibaa
