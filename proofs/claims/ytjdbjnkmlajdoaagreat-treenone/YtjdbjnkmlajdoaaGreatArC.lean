/-
  The program's arena: take, Alloc, Free.
-/
import Derived.Test.YtjdbjnkmlajdoaaGreatArB
namespace Go.Proofs.YtjdbjnkmlajdoaaGreat.L4
open Go.RowKit

/-- A row cut short. -/
theorem owns_cut {W : World} {b : Nat} {e : TypeId} {g n cap : Nat} {xs : List Value} (h : W.ownsRow b e 1 (.slice (some ⟨g, 0, none⟩) n cap) n xs) (m : Nat) (hm : m ≤ n) : W.ownsRow b e 1 (.slice (some ⟨g, 0, none⟩) m cap) m (xs.take m) := by
  have hl := h.1
  rcases h.2 with ⟨h', _⟩ | ⟨g', cap', cur, h', hb, hg, hnc, hcm, hcs, htake⟩
  · simp at h'
  · simp only [Value.slice.injEq, Option.some.injEq, Addr.mk.injEq, and_true, true_and] at h'
    obtain ⟨rfl, rfl⟩ := h'
    refine ⟨by simp; omega, .inr ⟨g, cap, cur, rfl, hb, hg, by omega, hcm, hcs, ?_⟩⟩
    rw [← htake, List.take_take]
    congr 1
    omega

/-- One more in a slice of pointers of pages. -/
theorem append_pp {ops : Array Oper} {rest : List Oper} {o : Oper} {a : Act} {Q : Exit → Act → World → Prop} {W1 : World} (hgd : o.guard = none) (s x : Operand) (ho : o.op = .call { callee := .builtin .append, args := #[s, x], argTypes := #[77, 77] })
    (v : Value) (n : Nat) (xs : List Value) (hs : a.eval s = v) (h : W1.ownsRow 0 118 1 v n xs) (hl : n ≤ 1000000) (ad : Nat) (u : Value) (hu : u.oneCell' = true) (cap : Nat) (hx : a.eval x = .slice (some ⟨ad, 0, none⟩) 1 cap) (hc : W1.cell? ⟨ad, 0, none⟩ = some u)
    (hK : ∀ g cap W', W'.ownsRow 0 118 1 (.slice (some ⟨g, 0, none⟩) (n + 1) cap) (n + 1) (xs ++ [u]) → W1.grownBy W' v.ownBlock → (v.ownBlock = some g ∨ g = W1.heap.size) → wpList Tryz.prog ops Q rest (a.put o.dst (.slice (some ⟨g, 0, none⟩) (n + 1) cap)) W') : wpList Tryz.prog ops Q (o :: rest) a W1 := by
  obtain ⟨i, hi, hz⟩ : ∃ i, Tryz.prog.info? 118 = some i ∧ (i.zero, i.size, i.bytes) = (some (.pointer none), 1, 8) :=
    Option.map_eq_some_iff.1 (show (Tryz.prog.info? 118).map (fun i => (i.zero, i.size, i.bytes)) = some (some (.pointer none), 1, 8) by kernel_rfl)
  simp only [Prod.mk.injEq] at hz
  obtain ⟨h1, h2, h3⟩ := hz
  refine wpList_append_lies W1 hgd s x 77 ho 0 118 i _ 1 8 Tryz.underlying77 hi h1 h2 h3 rfl (by decide) v n xs hs h ⟨ad, 0, none⟩ 1 cap [u] hx rfl (fun j y hj => ?_) (fun y hy => ?_) (by decide) (by unfold maxLen; omega) (by omega) (Nat.zero_le _) _ rfl (fun g cap W' h4 h5 h6 _ => hK g cap W' h4 h5 h6)
  · cases j with
    | zero => simp at hj; subst hj; exact hc
    | succ j => simp at hj
  · simp at hy; subst hy; exact hu

/-- One more in a slice of numbers. -/
theorem append_int {ops : Array Oper} {rest : List Oper} {o : Oper} {a : Act} {Q : Exit → Act → World → Prop} {W1 : World} (base : Nat) (hbase : base ≤ W1.heap.size) (hgd : o.guard = none) (s x : Operand) (ho : o.op = .call { callee := .builtin .append, args := #[s, x], argTypes := #[49, 49] })
    (v : Value) (n : Nat) (xs : List Value) (hs : a.eval s = v) (h : W1.ownsRow base 3 1 v n xs) (hl : n ≤ 1000000) (ad : Nat) (u : Value) (hu : u.oneCell' = true) (cap : Nat) (hx : a.eval x = .slice (some ⟨ad, 0, none⟩) 1 cap) (hc : W1.cell? ⟨ad, 0, none⟩ = some u)
    (hK : ∀ g cap W', W'.ownsRow base 3 1 (.slice (some ⟨g, 0, none⟩) (n + 1) cap) (n + 1) (xs ++ [u]) → W1.grownBy W' v.ownBlock → (v.ownBlock = some g ∨ g = W1.heap.size) → wpList Tryz.prog ops Q rest (a.put o.dst (.slice (some ⟨g, 0, none⟩) (n + 1) cap)) W') : wpList Tryz.prog ops Q (o :: rest) a W1 := by
  obtain ⟨i, hi, hz⟩ : ∃ i, Tryz.prog.info? 3 = some i ∧ (i.zero, i.size, i.bytes) = (some (.int .i64 0), 1, 8) :=
    Option.map_eq_some_iff.1 (show (Tryz.prog.info? 3).map (fun i => (i.zero, i.size, i.bytes)) = some (some (.int .i64 0), 1, 8) by kernel_rfl)
  simp only [Prod.mk.injEq] at hz
  obtain ⟨h1, h2, h3⟩ := hz
  refine wpList_append_lies W1 hgd s x 49 ho base 3 i _ 1 8 Tryz.underlying49 hi h1 h2 h3 rfl (by decide) v n xs hs h ⟨ad, 0, none⟩ 1 cap [u] hx rfl (fun j y hj => ?_) (fun y hy => ?_) (by decide) (by unfold maxLen; omega) (by omega) hbase _ rfl (fun g cap W' h4 h5 h6 _ => hK g cap W' h4 h5 h6)
  · cases j with
    | zero => simp at hj; subst hj; exact hc
    | succ j => simp at hj
  · simp at hy; subst hy; exact hu

theorem ArP.rows {s : Ar} {w w' : World} {r : Option Nat} (h : ArP s w) (hg : w.grownBy w' r) (hr : r ≠ some s.p) : w'.cell? ⟨s.p, 0, none⟩ = some s.vp ∧ w'.cell? ⟨s.p, 1, none⟩ = some s.vf ∧ s.p < w'.heap.size ∧ ∀ j, w'.frozen? ⟨s.p, j, none⟩ = false := by
  obtain ⟨c0, c1, c2, hp, hfz⟩ := h.cell
  refine ⟨?_, ?_, Nat.lt_of_lt_of_le hp hg.size, fun j => ?_⟩
  · rw [hg.cell_far _ hp (fun e => hr e.symm)]; exact c0
  · rw [hg.cell_far _ hp (fun e => hr e.symm)]; exact c1
  · rw [hg.frozen_far _ hp (fun e => hr e.symm)]; exact hfz j

set_option maxRecDepth 100000 in
theorem take_new {s : Ar} {w : World} (h : ArP s w) (hf : s.fr = []) (hl : s.pg.length ≤ 4096) : Calls Tryz.prog 98 #[arV s.p] w fun e w' => e = .returned (nv (s.pg.length + 1)) ∧ ∃ s', ArP s' w' ∧ s'.p = s.p ∧ s'.pg = s.pg ++ [none] ∧ s'.fr = s.fr ∧ s'.q = s.q ∧ Moves arSt s s' w w' := by
  obtain ⟨⟨ap, cp, e1⟩, af, cf, e2⟩ := owns_ints h
  obtain ⟨c0, c1, c2, hp, hfz⟩ := h.cell
  have h1 : ArP s (w.alloc (.cells #[.pointer none] 118)) := arSt.below h (below_alloc _ _)
  have HM : Hid (Moves arSt s s w (w.alloc (.cells #[.pointer none] 118))) := Moves.below (below_alloc _ _)
  have HP : Hid (ArP s (w.alloc (.cells #[.pointer none] 118))) := h1
  have HR : Hid (World.ownsRow (w.alloc (.cells #[.pointer none] 118)) 0 118 1 (.slice ap s.pg.length cp) s.pg.length (s.pg.map pgv)) := by rw [← e1]; exact h1.rp
  rw [e1] at c0
  rw [hf] at e2
  rw [e2] at c1
  have E1 : Hid (s.vp = .slice ap s.pg.length cp) := e1
  clear e1 e2 h h1
  have hne : s.vp.ownBlock ≠ some s.p := fun e => (HP.out.rp_ne e).1 rfl
  have hn : (.slice ap s.pg.length cp : Value).ownBlock ≠ some s.p := by rw [← E1.out]; exact hne
  unfold arV
  go_enter Tryz.func98, Tryz.ntmps98
  go_wp2_with (first
    | (at_builtin
       refine append_pp rfl _ _ rfl (.slice ap s.pg.length cp) s.pg.length (s.pg.map pgv) rfl HR.out (by omega) w.heap.size (.pointer none) rfl _ rfl (by simp [go_sem]) ?_
       intro g cap W' hown hg hat
       have HG : Hid (World.grownBy (w.alloc (.cells #[.pointer none] 118)) W' s.vp.ownBlock) := by rw [E1.out]; exact hg
       obtain ⟨d0, d1, hp', hfz'⟩ := HP.out.rows HG.out hne
       have HA : Hid (s.vp.ownBlock = some g ∨ g = (w.alloc (.cells #[.pointer none] 118)).heap.size) := by rw [E1.out]; exact hat
       have HO : Hid (W'.ownsRow 0 118 1 (.slice (some ⟨g, 0, none⟩) (s.pg.length + 1) cap) (s.pg.length + 1) (s.pg.map pgv ++ [.pointer none])) := hown
       clear hown hg hat c0 c1 c2 hfz HR)
    | go_in)
  go_ret
  have K := HP.out.newp (pg' := s.pg ++ [none]) (v' := .slice (some ⟨g, 0, none⟩) (s.pg.length + 1) cap) HG.out (by simpa [pgv] using HO.out) (fun k hk => by
    have e : g = k := by simpa [Value.ownBlock] using hk
    subst e
    exact HA.out.imp id (fun x => Nat.le_of_eq x.symm)) (by simp)
  exact ⟨rfl, _, K.1, rfl, rfl, rfl, rfl, HM.out.trans K.2⟩

set_option maxRecDepth 100000 in
theorem take_old {s : Ar} {w : World} (h : ArP s w) {ys : List Nat} {n : Nat} (hf : s.fr = ys ++ [n]) (hl : s.fr.length ≤ 4096) : Calls Tryz.prog 98 #[arV s.p] w fun e w' => e = .returned (nv n) ∧ ∃ s', ArP s' w' ∧ s'.p = s.p ∧ s'.pg = s.pg ∧ s'.fr = ys ∧ s'.q = s.q ∧ Moves arSt s s' w w' := by
  obtain ⟨c0, c1, c2, hp, hfz⟩ := h.cell
  have hlen : s.fr.length = ys.length + 1 := by rw [hf]; simp
  have hr := h.rf
  obtain ⟨g, cap, hv, _, hg⟩ := hr.form (by omega)
  obtain ⟨_, cap', hv', _, hc⟩ := owns_slice hr
  rw [hv] at hr
  rw [hv] at hv'
  cases hv'
  have hcell : w.cell? ⟨g, ys.length, none⟩ = some (.int .i64 (n : Int)) := by
    rw [hr.cellAt _ (by omega), hf]; simp [nv]
  have hfr := hr.frozenAt ys.length
  have K := h.newf (fr' := ys) (v' := .slice (some ⟨g, 0, none⟩) ys.length cap) (w' := w) ⟨rfl, rfl, rfl, Nat.le_refl _, fun _ _ _ => rfl⟩ (by
    have := owns_cut hr ys.length (by omega)
    rwa [hf, ← List.map_take, List.take_left] at this) (fun k hk => Or.inl (by rw [hv]; exact hk))
  have HK : Hid (ArP { s with vf := .slice (some ⟨g, 0, none⟩) ys.length cap, fr := ys } (w.setCell ⟨s.p, 1, none⟩ (.slice (some ⟨g, 0, none⟩) ys.length cap))) := K.1
  have HM : Hid (Moves arSt s { s with vf := .slice (some ⟨g, 0, none⟩) ys.length cap, fr := ys } w (w.setCell ⟨s.p, 1, none⟩ (.slice (some ⟨g, 0, none⟩) ys.length cap))) := K.2
  rw [hv, hlen] at c1
  have hb : ys.length + 1 ≤ cap := by omega
  have hs : ys.length < 4096 := by omega
  have hw : wrap64 (ys.length : Int) = ys.length := by unfold wrap64; omega
  clear hr hv hlen K h hf hl hc
  generalize ys.length = len at *
  unfold arV
  go_enter Tryz.func98, Tryz.ntmps98
  go_wp2
  go_ret
  exact ⟨rfl, _, HK.out, rfl, rfl, rfl, rfl, HM.out⟩

theorem map_at {l : List (Option (Nat × List UInt8))} {m : Nat} (h : (l.map (Option.map Prod.snd))[m]? = some none) : l[m]? = some none := by
  rw [List.getElem?_map] at h
  cases hx : l[m]? with
  | none => simp [hx] at h
  | some y =>
    cases y with
    | none => rfl
    | some z => simp [hx] at h

theorem take_walk {s : Ar} {w : World} (h : ArP s w) (ho : s.abs.Ok) : Calls Tryz.prog 98 #[arV s.p] w fun e w' => ∃ m : Nat, s.abs.next = m + 1 ∧ e = .returned (.int .i64 ((m : Int) + 1)) ∧ ∃ s', ArP s' w' ∧ s'.p = s.p ∧ s'.abs = s.abs.take ∧ s'.pg[m]? = some none ∧ Moves arSt s s' w w' := by
  have hs : s.pg.length ≤ 4096 := by simpa [Ar.abs] using ho.small
  have hle : s.fr.length ≤ s.pg.length := by simpa [Ar.abs] using ho.le
  cases hg : s.fr.getLast? with
  | none =>
    have hf : s.fr = [] := by simpa using hg
    refine (take_new h hf hs).mono ?_
    rintro e w' ⟨rfl, s', h1, h2, h3, h4, h5, h6⟩
    refine ⟨s.pg.length, ?_, rfl, s', h1, h2, ?_, ?_, h6⟩
    · unfold Abs.next Ar.abs; simp [hg]
    · unfold Abs.take Ar.abs; simp [hg, h3, h4, h5]
    · rw [h3]; simp
  | some n =>
    obtain ⟨ys, hy⟩ := List.getLast?_eq_some_iff.1 hg
    have hlow := ho.low n (show n ∈ s.fr by rw [hy]; simp)
    refine (take_old h hy (by omega)).mono ?_
    rintro e w' ⟨rfl, s', h1, h2, h3, h4, h5, h6⟩
    refine ⟨n - 1, ?_, ?_, s', h1, h2, ?_, ?_, h6⟩
    · unfold Abs.next Ar.abs; simp [hg]; omega
    · have := hlow.1
      unfold nv
      rw [show ((n - 1 : Nat) : Int) + 1 = (n : Int) by omega]
    · unfold Abs.take Ar.abs; simp [h3, h4, h5, hy]
    · rw [h3]; exact map_at hlow.2

theorem zero_page : (∀ w, (zeroValue 131).run Tryz.prog w = .ok (.agg (bcs zeroP).toArray) w) ∧ (Tryz.prog.info? 131).map (·.size) = some 1024 :=
  zero_of_info (by kernel_rfl)

theorem alloc_nil (w : World) : Calls Tryz.prog 75 #[.pointer none] w fun e w' => e = .returned (.tuple #[.int .i64 0, .int .i64 15]) ∧ w' = w := by
  go_enter Tryz.func75, Tryz.ntmps75
  go_wp2
  go_ret2
  exact ⟨rfl, rfl⟩

theorem alloc_full {s : Ar} {w : World} (h : ArP s w) (ho : s.abs.Ok) (hl : s.abs.left = 0) : Calls Tryz.prog 75 #[arV s.p] w fun e w' => e = .returned (.tuple #[.int .i64 0, .int .i64 9]) ∧ Below w.heap.size w w' := by
  have HL := left_walk h ho
  rw [hl] at HL
  unfold arV nv at *
  go_enter Tryz.func75, Tryz.ntmps75
  go_wp2_with (go_at_call 47; refine HL.mono ?_; rintro e w1 ⟨rfl, hb⟩)
  go_ret2
  exact ⟨rfl, hb⟩

set_option maxRecDepth 100000 in
theorem alloc_ok {s : Ar} {w : World} (h : ArP s w) (ho : s.abs.Ok) (hl : 0 < s.abs.left) : Calls Tryz.prog 75 #[arV s.p] w fun e w' => e = .returned (.tuple #[nv s.abs.next, .int .i64 0]) ∧ Goes s w s.abs.alloc w' := by
  have HL := left_walk h ho
  have hz : ((s.abs.left : Int) == 0) = false := by rw [beq_eq_false_iff_ne]; omega
  have HH : Hid (ArP s w) := h
  have HO : Hid s.abs.Ok := ho
  clear h ho hl
  go_enter Tryz.func75, Tryz.ntmps75
  unfold arV nv at *
  generalize s.abs.left = left at *
  go_wp2_with (go_at_call 47; refine HL.mono ?_; rintro e w1 ⟨rfl, hb⟩)
  have H1 : ArP s w1 := arSt.below HH.out hb
  have HT := take_walk H1 HO.out
  unfold arV at HT
  have HB : Hid (Below w.heap.size w w1) := hb
  clear hb HL H1
  go_wp2_with fail
  refine HT.mono ?_
  rintro e w2 ⟨m, hm, rfl, s2, H2, hp2, ha2, hx, HM⟩
  clear HT
  obtain ⟨g, cap, hv, hg, hml, hc, hcell, hfz⟩ := H2.page hx
  obtain ⟨c0, _, _, hp, hf⟩ := H2.cell
  rw [hv, hp2] at c0
  rw [hp2] at hp hf
  have HN : Hid (s.abs.next = m + 1) := hm
  have HA : Hid (s2.abs = s.abs.take) := ha2
  have HV : Hid (s2.vp = .slice (some ⟨g, 0, none⟩) s2.pg.length cap) := hv
  have HX : Hid (s2.pg[m]? = some none) := hx
  have HMM : Hid (Moves arSt s s2 w1 w2) := HM
  have HP2 : Hid (s2.p = s.p) := hp2
  have HA2 : Hid (ArP s2 w2) := H2
  have hz := zero_page.1
  have hsm : s2.pg.length ≤ 4097 := by
    have h1 := HO.out.small
    have h2 : s2.abs.pg.length ≤ s.abs.pg.length + 1 := by
      rw [ha2]; unfold Abs.take; split <;> simp
    have h3 : s2.abs.pg.length = s2.pg.length := by simp [Ar.abs]
    omega
  have hw : wrap64 (m : Int) = m := by unfold wrap64; omega
  clear hm ha2 hv hx HM hp2 H2
  obtain ⟨Z, hZ⟩ : ∃ Z, Hid (Z = (bcs zeroP).toArray) := ⟨_, rfl⟩
  rw [← hZ.out] at hz
  go_wp2
  go_ret2
  have K := (arSt.below HA2.out (below_alloc w2 (.cells Z 131)) : ArP s2 _).setp HV.out m (some (w2.heap.size, zeroP)) (fun b c e => by
    cases e
    rw [← hZ.out]
    exact heap_alloc_new _ _)
  rw [show (w2.alloc (.cells Z 131)).setCell ⟨g, m, none⟩ (pgv (some (w2.heap.size, zeroP))) = (w2.setCell ⟨g, m, none⟩ (.pointer (some ⟨w2.heap.size, 0, none⟩))).alloc (.cells Z 131) by
    show (w2.alloc (.cells Z 131)).setCell ⟨g, m, none⟩ (.pointer (some ⟨w2.heap.size, 0, none⟩)) = _
    exact World.setCell_alloc_past _ _ _ _ hg] at K
  refine ⟨by rw [HN.out]; rfl, _, K.1, HP2.out, ?_, (((Moves.below HB.out).trans HMM.out).trans (Moves.below (below_alloc _ _))).trans K.2⟩
  have e1 : s2.abs.lay (m + 1) (some zeroP) = s.abs.alloc := by unfold Abs.alloc; rw [HA.out, HN.out]
  rw [← e1]
  unfold Abs.lay Ar.abs
  simp

theorem free_nil (n : Int) (w : World) : Calls Tryz.prog 66 #[.pointer none, .int .i64 n] w fun e w' => e = .returned (.int .i64 15) ∧ w' = w := by
  go_enter Tryz.func66, Tryz.ntmps66
  go_wp2_with (go_at_call 80; refine (find_nil _ _).mono ?_; rintro e w1 ⟨rfl, rfl⟩)
  go_ret
  exact ⟨rfl, rfl⟩

theorem free_no {s : Ar} {w : World} (h : ArP s w) (hl : s.pg.length ≤ 4096) {n : Int} (hn : s.abs.at n = none) : Calls Tryz.prog 66 #[arV s.p, .int .i64 n] w fun e w' => e = .returned (.int .i64 2) ∧ w' = w := by
  have HF := find_walk h hl n
  rw [hn] at HF
  have HF' : Calls Tryz.prog 80 #[arV s.p, .int .i64 n] w fun e w' => e = .returned (.int .i64 2) ∧ w' = w := HF
  clear HF
  unfold arV at *
  go_enter Tryz.func66, Tryz.ntmps66
  go_wp2_with (go_at_call 80; refine HF'.mono ?_; rintro e w1 ⟨rfl, rfl⟩)
  go_ret
  exact ⟨rfl, rfl⟩

theorem at_pg {s : Ar} {n : Int} {c : List UInt8} (h : s.abs.at n = some c) : ∃ (m b : Nat), n = (m : Int) + 1 ∧ s.pg[m]? = some (some (b, c)) := by
  obtain ⟨h1, h2, h3⟩ := Abs.at_some h
  refine ⟨n.toNat - 1, ?_⟩
  unfold Ar.abs at h3
  rw [List.getElem?_map] at h3
  cases hx : s.pg[n.toNat - 1]? with
  | none => simp [hx] at h3
  | some y =>
    cases y with
    | none => simp [hx] at h3
    | some z =>
      obtain ⟨b, c'⟩ := z
      simp [hx] at h3
      subst h3
      exact ⟨b, by omega, rfl⟩

theorem abs_set (s : Ar) (m : Nat) (x : Option (Nat × List UInt8)) : Ar.abs { s with pg := s.pg.set m x } = s.abs.lay (m + 1) (x.map Prod.snd) := by
  unfold Ar.abs Abs.lay
  simp

set_option maxRecDepth 100000 in
theorem free_ok {s : Ar} {w : World} (h : ArP s w) (ho : s.abs.Ok) {n : Int} {c : List UInt8} (hn : s.abs.at n = some c) : Calls Tryz.prog 66 #[arV s.p, .int .i64 n] w fun e w' => e = .returned (.int .i64 0) ∧ Goes s w (s.abs.free n.toNat) w' := by
  have hl : s.pg.length ≤ 4096 := by simpa [Ar.abs] using ho.small
  have hle : s.fr.length ≤ s.pg.length := by simpa [Ar.abs] using ho.le
  have HF := find_walk h hl n
  rw [hn] at HF
  have HF' : Calls Tryz.prog 80 #[arV s.p, .int .i64 n] w fun e w' => e = .returned (.int .i64 0) ∧ w' = w := HF
  clear HF
  obtain ⟨m, b, rfl, hx⟩ := at_pg hn
  obtain ⟨g, cap, hv, hg, hml, hc, hcell, hfz⟩ := h.page hx
  obtain ⟨c0, _, _, hp, hf⟩ := h.cell
  obtain ⟨K1, K2⟩ := h.setp hv m none (by simp)
  have hgp : g ≠ s.p := (h.rp_ne (by rw [hv]; rfl)).1
  generalize hW : w.setCell ⟨g, m, none⟩ (pgv none) = W at K1 K2
  have hW' : w.setCell ⟨g, m, none⟩ (.pointer none) = W := hW
  obtain ⟨d0, d1, _, hp', hf'⟩ := K1.cell
  have h1 : ArP { s with pg := s.pg.set m none } (W.alloc (.cells #[.int .i64 ((m : Int) + 1)] 3)) := arSt.below K1 (below_alloc _ _)
  have HP : Hid (ArP { s with pg := s.pg.set m none } (W.alloc (.cells #[.int .i64 ((m : Int) + 1)] 3))) := h1
  have HM : Hid (Moves arSt s { s with pg := s.pg.set m none } w (W.alloc (.cells #[.int .i64 ((m : Int) + 1)] 3))) := K2.trans (Moves.below (below_alloc _ _))
  obtain ⟨_, af, cf, e2⟩ := owns_ints K1
  have HR : Hid (World.ownsRow (W.alloc (.cells #[.int .i64 ((m : Int) + 1)] 3)) 0 3 1 (.slice af s.fr.length cf) s.fr.length (s.fr.map nv)) := by
    have := h1.rf
    have e3 : s.vf = .slice af s.fr.length cf := e2
    have t : World.ownsRow (W.alloc (.cells #[.int .i64 ((m : Int) + 1)] 3)) 0 3 1 s.vf s.fr.length (s.fr.map nv) := this
    rwa [e3] at t
  have E2 : Hid (s.vf = .slice af s.fr.length cf) := e2
  rw [hv] at c0
  have d1' : W.cell? ⟨s.p, 1, none⟩ = some (.slice af s.fr.length cf) := by rw [← E2.out]; exact d1
  have hpw : s.p < W.heap.size := hp'
  have hfw : ∀ j, W.frozen? ⟨s.p, j, none⟩ = false := hf'
  have hne : s.vf.ownBlock ≠ some s.p := fun e => (h.rf_ne e).1 rfl
  have hw : wrap64 (m : Int) = m := by unfold wrap64; omega
  have hcell' : w.cell? ⟨g, m, none⟩ = some (.pointer (some ⟨b, 0, none⟩)) := hcell
  clear d0 d1 hp' hf' h1 K1 K2 e2 hn hx hv hcell hW ho h
  unfold arV at *
  go_enter Tryz.func66, Tryz.ntmps66
  go_wp2_with (first
    | (go_at_call 80; refine HF'.mono ?_; rintro e w1 ⟨rfl, rfl⟩)
    | (at_builtin
       refine append_int 0 (Nat.zero_le _) rfl _ _ rfl (.slice af s.fr.length cf) s.fr.length (s.fr.map nv) rfl HR.out (by omega) W.heap.size (.int .i64 ((m : Int) + 1)) rfl _ rfl (by simp [go_sem]) ?_
       intro g' cap' W' hown hgr hat
       have HG : Hid (World.grownBy (W.alloc (.cells #[.int .i64 ((m : Int) + 1)] 3)) W' s.vf.ownBlock) := by rw [E2.out]; exact hgr
       obtain ⟨d0, d1, hp', hfz'⟩ := HP.out.rows HG.out hne
       have d1'' : W'.cell? ⟨s.p, 1, none⟩ = some s.vf := d1
       have hp'' : s.p < W'.heap.size := hp'
       have hfz'' : ∀ j, W'.frozen? ⟨s.p, j, none⟩ = false := hfz'
       have HA : Hid (s.vf.ownBlock = some g' ∨ g' = (W.alloc (.cells #[.int .i64 ((m : Int) + 1)] 3)).heap.size) := by rw [E2.out]; exact hat
       have HO : Hid (W'.ownsRow 0 3 1 (.slice (some ⟨g', 0, none⟩) (s.fr.length + 1) cap') (s.fr.length + 1) (s.fr.map nv ++ [.int .i64 ((m : Int) + 1)])) := hown
       clear hown hgr hat hW' HR d0 d1 hp' hfz')
    | go_in)
  go_ret
  have K := HP.out.newf (fr' := s.fr ++ [m + 1]) (v' := .slice (some ⟨g', 0, none⟩) (s.fr.length + 1) cap') HG.out (by simpa [nv] using HO.out) (fun k hk => by
    have e : g' = k := by simpa [Value.ownBlock] using hk
    subst e
    exact HA.out.imp id (fun x => Nat.le_of_eq x.symm))
  refine ⟨rfl, _, K.1, rfl, ?_, HM.out.trans K.2⟩
  unfold Abs.free Abs.lay Ar.abs
  simp
end Go.Proofs.YtjdbjnkmlajdoaaGreat.L4
