/-
  Delta: the document's Net.
-/
import Derived.Deep.RegionHeldLaw
import Derived.Test.YtmcbpopeinabcaaDlS
namespace Go.Proofs.Ytmcbpopeinabcaa
open Go.RowKit

/-- What stands behind the first i changes. -/
structure NetI (L : List Chg) (i : Nat) (N : List Chg) : Prop where
  rise : N.Pairwise (fun a b => keyLt a.key b.key)
  mem : ∀ c, c ∈ N ↔ firstO (L.take i) c.key = some c.o ∧ lastN L c.key = some c.n ∧ c.o ≠ c.n
  len : N.length ≤ i

theorem netI_nil (L : List Chg) : NetI L 0 [] := ⟨.nil, fun c => by simp [firstO], Nat.zero_le _⟩

theorem NetI.done {L N : List Chg} (h : NetI L L.length N) : IsNet L N := ⟨h.rise, fun c => by rw [h.mem, List.take_length], h.len⟩

theorem NetI.again {L N : List Chg} {i : Nat} {x : Chg} (h : NetI L i N) (hx : L[i]? = some x) (hf : (L.take i).any (·.isK x.key) = true) : NetI L (i + 1) N := by
  refine ⟨h.rise, fun c => ?_, by have := h.len; omega⟩
  rw [h.mem, (take_mem hx).2, firstO_append, firstO_one]
  split
  · rename_i e
    obtain ⟨y, hy, hk⟩ := List.any_eq_true.1 hf
    cases h1 : firstO (L.take i) c.key with
    | some o => simp
    | none =>
      unfold firstO at h1
      rw [Option.map_eq_none_iff, List.find?_eq_none] at h1
      rw [e] at hk
      exact absurd hk (h1 y hy)
  · simp

theorem first_none {l : List Chg} {k : ByteArray × Int} (hf : l.any (·.isK k) = false) : firstO l k = none := by
  unfold firstO
  rw [Option.map_eq_none_iff, List.find?_eq_none]
  intro y hy hk
  rw [List.any_eq_false] at hf
  exact hf y hy hk

theorem NetI.same {L N : List Chg} {i : Nat} {x : Chg} {n : List Va} (h : NetI L i N) (hx : L[i]? = some x) (hf : (L.take i).any (·.isK x.key) = false) (hn : lastN L x.key = some n) (he : x.o = n) : NetI L (i + 1) N := by
  refine ⟨h.rise, fun c => ?_, by have := h.len; omega⟩
  rw [h.mem, (take_mem hx).2, firstO_append, firstO_one]
  split
  · rename_i e
    rw [← e, first_none hf, hn]
    simp only [Option.none_or, reduceCtorEq, false_and, false_iff]
    rintro ⟨h1, h2, h3⟩
    exact h3 ((Option.some.inj h1).symm.trans (he.trans (Option.some.inj h2)))
  · simp

theorem NetI.ins {L N : List Chg} {i at_ : Nat} {x : Chg} {n : List Va} (h : NetI L i N) (hx : L[i]? = some x) (hf : (L.take i).any (·.isK x.key) = false) (hn : lastN L x.key = some n) (hne : x.o ≠ n)
    (hlt : ∀ y ∈ N.take at_, keyLt y.key x.key) (hge : ∀ y, N[at_]? = some y → ¬ keyLt y.key x.key) : NetI L (i + 1) (N.take at_ ++ ⟨x.t, x.id, x.o, n⟩ :: N.drop at_) := by
  have hfn := first_none hf
  have hkn : ∀ y ∈ N, y.key ≠ x.key := fun y hy e => by
    have := ((h.mem y).1 hy).1
    rw [e, hfn] at this; cases this
  have hgt : ∀ y ∈ N.drop at_, keyLt x.key y.key := by
    intro y hy
    obtain ⟨j, hj, ej⟩ := List.getElem_of_mem hy
    rw [List.getElem_drop] at ej
    rw [List.length_drop] at hj
    have h0 : at_ < N.length := by omega
    have hz : keyLt x.key N[at_].key := by
      rcases keyLt_tri N[at_].key x.key with g | g | g
      · exact absurd g (hge _ (List.getElem?_eq_getElem h0))
      · exact absurd g (hkn _ (List.getElem_mem h0))
      · exact g
    by_cases hj0 : j = 0
    · subst hj0; simp only [Nat.add_zero] at ej; rw [← ej]; exact hz
    · have := List.pairwise_iff_getElem.1 h.rise at_ (at_ + j) h0 (by omega) (by omega)
      rw [ej] at this
      exact keyLt_trans hz this
  refine ⟨?_, fun c => ?_, ?_⟩
  · rw [List.pairwise_append, List.pairwise_cons]
    refine ⟨h.rise.sublist (List.take_sublist _ _), ⟨fun y hy => hgt y hy, h.rise.sublist (List.drop_sublist _ _)⟩, fun a ha b hb => ?_⟩
    rcases List.mem_cons.1 hb with rfl | hb
    · exact hlt a ha
    · exact keyLt_trans (hlt a ha) (hgt b hb)
  · have hm : c ∈ N.take at_ ++ ⟨x.t, x.id, x.o, n⟩ :: N.drop at_ ↔ c = ⟨x.t, x.id, x.o, n⟩ ∨ c ∈ N := by
      rw [List.mem_append, List.mem_cons]
      conv => rhs; rw [← List.take_append_drop at_ N, List.mem_append]
      constructor
      · rintro (h | h | h)
        · exact Or.inr (Or.inl h)
        · exact Or.inl h
        · exact Or.inr (Or.inr h)
      · rintro (h | h | h)
        · exact Or.inr (Or.inl h)
        · exact Or.inl h
        · exact Or.inr (Or.inr h)
    rw [hm, h.mem, (take_mem hx).2, firstO_append, firstO_one]
    by_cases e : x.key = c.key
    · rw [if_pos e, ← e, hfn, hn]
      simp only [Option.none_or, reduceCtorEq, false_and, or_false, Option.some.injEq]
      constructor
      · rintro rfl; exact ⟨rfl, rfl, hne⟩
      · rintro ⟨e1, e2, _⟩
        obtain ⟨t, id, o, n'⟩ := c
        simp only [Chg.key, Prod.mk.injEq] at e
        obtain ⟨rfl, rfl⟩ := e
        simp only at e1 e2
        subst e1; subst e2; rfl
    · rw [if_neg e]
      simp only [Option.or_none, or_iff_right_iff_imp]
      rintro rfl
      exact absurd rfl e
  · have := h.len
    simp
    omega

theorem fb_false {a b : Bool} (h : false = !a) : false = !(a || b) := by cases a <;> simp at h ⊢
theorem fb_true {a b c r : Bool} (h : true = !a) (hr : r = !(b && c)) : r = !(a || b && c) := by subst hr; cases a <;> simp at h ⊢

theorem last_step {L : List Chg} {k q : Nat} {x z : Chg} {n : List Va} (hx : L[k]? = some x) (hz : L[q]? = some z) (hkq : k ≤ q) (h : lastN (L.take (max q (k + 1))) x.key = some n) :
    (z.isK x.key = true → lastN (L.take (max (q + 1) (k + 1))) x.key = some z.n) ∧ (z.isK x.key = false → lastN (L.take (max (q + 1) (k + 1))) x.key = some n) := by
  have e : L.take (max (q + 1) (k + 1)) = L.take q ++ [z] := by rw [Nat.max_eq_left (by omega)]; exact (take_mem hz).2
  rw [e, lastN_append, lastN_one]
  constructor
  · intro hk
    rw [if_pos (isK_iff.1 hk)]; rfl
  · intro hk
    have hne : z.key ≠ x.key := fun e => by rw [isK_iff.2 e] at hk; cases hk
    rw [if_neg hne, Option.none_or]
    by_cases hq : q = k
    · subst hq; rw [hx] at hz; cases hz; exact absurd rfl hne
    · rw [Nat.max_eq_left (by omega)] at h; exact h

theorem PlW.set {w W : World} {v : Value} {N : List PC} {A i : Nat} {u : Value} (h : PlW w v N W) (hv : ∀ g, v.ownBlock = some g → g < A) (hA : w.heap.size ≤ A) : PlW w v N (W.setCell ⟨A, i, none⟩ u) :=
  ⟨h.below.setCell hA _, owns_below h.own fun q hq => heap_setCell_other _ _ _ _ (by have := hv q hq; show q ≠ A; omega)⟩

theorem rcs_split (N : List PC) (p : Nat) : rcs (N.take p) = (rcs N).take (p * 4) ∧ rcs (N.drop p) = (rcs N).drop (p * 4) := by
  induction N generalizing p with
  | nil => simp [rcs]
  | cons x N ih =>
    cases p with
    | zero => simp [rcs]
    | succ p =>
      obtain ⟨h1, h2⟩ := ih p
      have e : rcs (x :: N) = .string x.1.t :: .int .i64 x.1.id :: .slice x.1.oa x.1.ol x.1.oc :: .slice x.1.na x.1.nl x.1.nc :: rcs N := rfl
      have e' : ∀ M, rcs (x :: M) = .string x.1.t :: .int .i64 x.1.id :: .slice x.1.oa x.1.ol x.1.oc :: .slice x.1.na x.1.nl x.1.nc :: rcs M := fun _ => rfl
      rw [List.take_succ_cons, List.drop_succ_cons, e', e, h1, h2, show (p + 1) * 4 = p * 4 + 1 + 1 + 1 + 1 by omega]
      exact ⟨rfl, rfl⟩

theorem src_take {W : World} {b e : Nat} {a : Option Addr} {n c p : Nat} {N : List PC} (h : W.ownsRow b e 4 (.slice a n c) n (rcs N)) (hp : p ≤ n) : Src W a p c (rcs (N.take p)) := by
  rw [(rcs_split N p).1]
  rcases owns_src h with ⟨rfl, h1, h2, h3⟩ | ⟨ad, rfl, hc⟩
  · exact Or.inl ⟨rfl, by omega, h2, by rw [h3]; simp⟩
  · refine Or.inr ⟨ad, rfl, fun j u hu => hc j u ?_⟩
    rw [List.getElem?_take] at hu
    split at hu
    · exact hu
    · cases hu

theorem src_drop {W : World} {b e : Nat} {g n c cc p : Nat} {N : List PC} (h : W.ownsRow b e 4 (.slice (some ⟨g, 0, none⟩) n c) n (rcs N)) : Src W (some ⟨g, p * 4, none⟩) (n - p) cc (rcs (N.drop p)) := by
  rw [(rcs_split N p).2]
  rcases owns_src h with ⟨e, _⟩ | ⟨ad, e, hc⟩
  · cases e
  · cases e
    refine Or.inr ⟨_, rfl, fun j u hu => ?_⟩
    rw [List.getElem?_drop] at hu
    have := hc _ u hu
    rw [add_none] at this ⊢
    rw [Nat.zero_add] at this
    exact this

/-- A change under way: a block of four cells of the document's. -/
def Box4R (W : World) (b : Nat) (r : RC) : Prop := W.heap[b]? = some (.cells #[.string r.t, .int .i64 r.id, .slice r.oa r.ol r.oc, .slice r.na r.nl r.nc] 30 (0, 0))

theorem Box4R.facts {W : World} {b : Nat} {r : RC} (h : Box4R W b r) : W.cell? ⟨b, 0, none⟩ = some (.string r.t) ∧ W.cell? ⟨b, 1, none⟩ = some (.int .i64 r.id) ∧ W.cell? ⟨b, 2, none⟩ = some (.slice r.oa r.ol r.oc) ∧ W.cell? ⟨b, 3, none⟩ = some (.slice r.na r.nl r.nc) ∧
    W.frozen? ⟨b, 3, none⟩ = false ∧ b < W.heap.size :=
  ⟨cell_of_row _ _ _ _ _ _ h, cell_of_row _ _ _ _ _ _ h, cell_of_row _ _ _ _ _ _ h, cell_of_row _ _ _ _ _ _ h, frozen_of_row _ _ _ _ _ h, (Array.getElem?_eq_some_iff.1 h).1⟩

theorem Box4R.set {W : World} {b : Nat} {r : RC} (h : Box4R W b r) (na : Option Addr) (nl nc : Nat) : Box4R (W.setCell ⟨b, 3, none⟩ (.slice na nl nc)) b { r with na := na, nl := nl, nc := nc } := by
  unfold Box4R; rw [heap_setCell_same _ _ _ _ _ _ h]; rfl

theorem own_new {W : World} {base q : Nat} (hq : W.heap[q]? = some (.cells #[] 30 (0, 0))) (hw : base ≤ q) : W.ownsRow base 30 4 (.slice (some ⟨q, 0, none⟩) 0 0) 0 [] :=
  ⟨by simp, Or.inr ⟨q, 0, #[], rfl, hw, hq, Nat.le_refl _, by unfold maxLen; omega, by simp, by simp⟩⟩

theorem heap_n0 (U : World) (o : Obj) : (U.alloc o).drew.heap[U.heap.size]? = some o := go_heap_new _ _
theorem heap_n1 (U : World) (o o' : Obj) : ((U.alloc o).alloc o').drew.heap[U.heap.size]? = some o := by
  show ((U.alloc o).alloc o').heap[U.heap.size]? = _
  rw [Below.heap_alloc _ _ _ (by simp), go_heap_new]
theorem heap_n2 (U : World) (o o' : Obj) : ((U.alloc o).alloc o').drew.heap[U.heap.size + 1]? = some o' := by
  show ((U.alloc o).alloc o').heap[U.heap.size + 1]? = _
  exact go_heap_new' _ _ (by simp)

/-- Behind the first of three appends. -/
theorem ins_first {U Wx W' : World} {v' : Value} {q n : Nat} {M : List PC} (hB : Below U.heap.size U Wx) (hM : M.length = n) (hq : U.heap.size ≤ q) (O : W'.ownsRow U.heap.size 30 4 v' (0 + n) ([] ++ rcs M)) (G : Wx.grownBy W' (Value.slice (some ⟨q, 0, none⟩) 0 0).ownBlock) : PlW U v' M W' :=
  ⟨hB.grown G hB.size fun k hk => by cases hk; exact hq, by rw [hM]; simpa using O⟩

theorem ins_next {U Wx W' : World} {v v' : Value} {n m : Nat} {M K : List PC} (h : PlW U v M Wx) (hM : M.length = n) (hK : K.length = m) (O : W'.ownsRow U.heap.size 30 4 v' (n + m) (rcs M ++ rcs K)) (G : Wx.grownBy W' v.ownBlock) : PlW U v' (M ++ K) W' :=
  ⟨h.below.grown G h.below.size fun k hk => (h.own.lt k hk).1, by rw [List.length_append, rcs_append, hM, hK]; exact O⟩

theorem own_at {U W : World} {v : Value} {M : List PC} {n : Nat} (h : PlW U v M W) (hn : M.length = n) : W.ownsRow U.heap.size 30 4 v n (rcs M) := by subst hn; exact h.own

theorem box_src {W : World} {q : Nat} {r : RC} (h : Box4R W q r) : Src W (some ⟨q, 0, none⟩) 1 1 (rcC r) := by
  refine Or.inr ⟨_, rfl, fun j u hu => ?_⟩
  rw [add_none, Nat.zero_add, cell_of_row _ _ _ _ _ _ h]
  simpa [rcC] using hu

set_option maxRecDepth 100000 in
set_option linter.unusedSimpArgs false in
set_option maxHeartbeats 4000000 in
theorem rnet_walk {l : List PC} {a : Option Addr} {n c : Nat} {w : World} (hs : SlC w a l) (hm : AllM w l) (hl : l.length = n) (hn : n ≤ 1000) :
    Calls Try.prog 15 #[.slice a n c] w fun e w' => ∃ v, e = .returned v ∧ ∃ N, PlW w v N w' ∧ AllM w N ∧ IsNet (l.map (·.2)) (N.map (·.2)) := by
  have HS := dhid hs
  have HM := dhid hm
  have HL := dhid hl
  clear hs hm hl
  have HNEW := dhid (World.ownsRow_lit (base := w.heap.size) (e := 30) (size := 4) w #[] 0 (Nat.le_refl _) (by unfold maxLen; omega) (by simp))
  go_enter Try.func15, Try.ntmps15
  go_wp2
  go_loopw [3, 4] (fun s i wr => ∃ (j : Nat) (N : List PC), j ≤ n ∧ i = .int .i64 (j : Int) ∧ Hid (PlW w s N wr ∧ AllM w N ∧ NetI (l.map (·.2)) j (N.map (·.2)))) (fun _ i _ => n - (intOf i).toNat)
  case atStart => exact ⟨0, [], Nat.zero_le _, rfl, ⟨below_alloc _ _, HNEW.out⟩, fun _ h => (by cases h), netI_nil _⟩
  case round =>
    obtain ⟨j, N, hj, rfl, HW⟩ := hrel
    by_cases hlt : j < n
    · obtain ⟨b, o, x, rfl, hb, hx, c0, c1, c2, c3⟩ := (HS.out.below HW.out.1.below).at (j := j) (by rw [HL.out]; exact hlt)
      have HX := dhid hx
      clear hx c0 c1 c2 c3 hb
      go_wp2
      refine to_letter (F := fun W => PlW w u3 N W) HW.out.1 ?_
      intro V1 hV1
      have HV1 := dhid hV1
      clear hV1
      go_loopw [5, 6] (fun f i wr => ∃ (k : Nat) (fb : Bool), k ≤ j ∧ i = .int .i64 (k : Int) ∧ f = .bool fb ∧ Hid (fb = !((l.map (·.2)).take k).any (·.isK x.2.key)) ∧ Hid (Below V1.heap.size V1 wr)) (fun _ i _ => j - (intOf i).toNat)
      case atStart => exact ⟨0, true, Nat.zero_le _, rfl, rfl, rfl, Below.refl _ _⟩
      case round =>
        obtain ⟨k, fb, hk, rfl, rfl, HFB, HB⟩ := hrel
        have HBW := dhid (below_on HV1.out.below HB.out HV1.out.below.size)
        obtain ⟨bx, ox, x', ex, hbx, hx', c0, c1, c2, c3⟩ := (HS.out.below HBW.out).at (j := j) (by rw [HL.out]; exact hlt)
        cases ex
        rw [HX.out] at hx'
        cases hx'
        by_cases hkj : k < j
        · obtain ⟨by_, oy, y, ey, hby, hy, d0, d1, d2, d3⟩ := (HS.out.below HBW.out).at (j := k) (by rw [HL.out]; omega)
          cases ey
          have mx := HM.out x (List.mem_of_getElem? HX.out)
          have my := HM.out y (List.mem_of_getElem? hy)
          have HST : Hid (((l.map (·.2)).take (k + 1)).any (·.isK x.2.key) = (((l.map (·.2)).take k).any (·.isK x.2.key) || (y.1.t.toList == x.1.t.toList && y.1.id == x.1.id))) := by
            have hy2 : (l.map (·.2))[k]? = some y.2 := by rw [List.getElem?_map, hy]; rfl
            show _ = _
            rw [(take_mem hy2).2, List.any_append]
            simp only [List.any_cons, List.any_nil, Bool.or_false, Chg.isK, Chg.key]
            rw [my.t, my.id, mx.t, mx.id]
          clear hy mx my c2 c3 d2 d3
          cases fb
          · go_wp2_with fail
            go_quiet (rfl)
            go_wp2
            exact ⟨⟨k + 1, false, by omega, by go_num, rfl, by
              show _ = _
              rw [HST.out]
              exact fb_false HFB.out, below_drewN HB.out _⟩, by simp [intOf]; omega⟩
          · cases htb : (y.1.t.toList == x.1.t.toList) <;> cases hib : (y.1.id == x.1.id)
            all_goals
              go_wp2_with fail
              go_quiet (rfl)
              go_wp2
              exact ⟨⟨k + 1, _, by omega, by go_num, rfl, by
                show _ = _
                rw [HST.out, htb, hib]
                exact fb_true HFB.out rfl, below_drewN HB.out _⟩, by simp [intOf]; omega⟩
        · have hkj' : k = j := by omega
          subst hkj'
          cases fb
          · clear c0 c1 c2 c3
            go_wp2
            refine ⟨⟨k + 1, N, by omega, by go_num, HV1.out.on HB.out, HW.out.2.1, HW.out.2.2.again (x := x.2) (by rw [List.getElem?_map, HX.out]; rfl) (by have := HFB.out; simpa using this)⟩, by simp [intOf]; omega⟩
          · have HF0 : Hid (((l.map (·.2)).take k).any (·.isK x.2.key) = false) := by have := HFB.out; show _ = _; simpa using this
            clear HFB
            have HBX : Hid (Below w.heap.size w (wr.alloc (.cells #[.string x.1.t, .int .i64 x.1.id, .slice x.1.oa x.1.ol x.1.oc, .slice x.1.na x.1.nl x.1.nc] 30))) := HBW.out.alloc HBW.out.size _
            have HPX := dhid ((HV1.out.on HB.out).on (below_alloc wr (.cells #[.string x.1.t, .int .i64 x.1.id, .slice x.1.oa x.1.ol x.1.oc, .slice x.1.na x.1.nl x.1.nc] 30)))
            go_wp2_with fail
            refine to_letter (F := fun W => PlW w u3 N W ∧ Box4R W wr.heap.size x.1) ⟨HPX.out, go_heap_new _ _⟩ ?_
            rintro V2 ⟨hP2, hbx2⟩
            have HV2 := dhid (And.intro hP2 hbx2)
            have hA : V1.heap.size ≤ wr.heap.size := HB.out.size
            have hAw : w.heap.size ≤ wr.heap.size := Nat.le_trans HV1.out.below.size hA
            have HAR : Hid (∀ g, u3.ownBlock = some g → g < wr.heap.size) := fun g hg => ((HV1.out.on HB.out).own.lt g hg).2
            clear HPX HBX hP2 hbx2 HB HBW hbx c0 c1 c2 c3 HV1
            generalize wr.heap.size = A at *
            go_loopw [8] (fun i wr => ∃ (q : Nat) (y : PC), k ≤ q ∧ q ≤ n ∧ i = .int .i64 (q : Int) ∧ Hid (PlW w u3 N wr ∧ Box4R wr A y.1 ∧ Means w y.1 y.2 ∧ y.2 = ⟨x.2.t, x.2.id, x.2.o, y.2.n⟩ ∧ y.1.t = x.1.t ∧ y.1.id = x.1.id ∧ lastN ((l.map (·.2)).take (max q (k + 1))) x.2.key = some y.2.n)) (fun i _ => n - (intOf i).toNat)
            case atStart =>
              refine ⟨k, x, Nat.le_refl _, hj, rfl, HV2.out.1, HV2.out.2, HM.out x (List.mem_of_getElem? HX.out), rfl, rfl, rfl, ?_⟩
              have hx2 : (l.map (·.2))[k]? = some x.2 := by rw [List.getElem?_map, HX.out]; rfl
              rw [Nat.max_eq_right (by omega), (take_mem hx2).2, lastN_append, lastN_one, if_pos rfl]; rfl
            case round =>
              obtain ⟨q, y, hkq, hqn, rfl, HY⟩ := hrel
              by_cases hqn' : q < n
              · obtain ⟨bz, oz, z, ez, hbz, hz, d0, d1, d2, d3⟩ := (HS.out.below HY.out.1.below).at (j := q) (by rw [HL.out]; omega)
                cases ez
                obtain ⟨e0, e1, e2, e3, ef, el⟩ := HY.out.2.1.facts
                have mz := HM.out z (List.mem_of_getElem? hz)
                have mx := HM.out x (List.mem_of_getElem? HX.out)
                have HLS := dhid (last_step (L := l.map (·.2)) (x := x.2) (z := z.2) (by rw [List.getElem?_map, HX.out]; rfl) (by rw [List.getElem?_map, hz]; rfl) hkq HY.out.2.2.2.2.2.2)
                have HIK : Hid (z.2.isK x.2.key = (z.1.t.toList == y.1.t.toList && z.1.id == y.1.id)) := by
                  show _ = _
                  unfold Chg.isK Chg.key
                  rw [HY.out.2.2.2.2.1, HY.out.2.2.2.2.2.1, mz.t, mz.id, mx.t, mx.id]
                have HMZ := dhid mz
                have HSET := dhid (fun W (h : PlW w u3 N W) (u : Value) => h.set (i := 3) (u := u) HAR.out hAw)
                clear hz mz mx d2
                cases htb : (z.1.t.toList == y.1.t.toList) <;> cases hib : (z.1.id == y.1.id)
                all_goals rw [htb, hib] at HIK
                iterate 3
                  · go_wp2_with fail
                    go_quiet (rfl)
                    go_wp2
                    exact ⟨⟨q + 1, y, by omega, by omega, by go_num, HY.out.1.on (below_drews _ _), HY.out.2.1, HY.out.2.2.1, HY.out.2.2.2.1, HY.out.2.2.2.2.1, HY.out.2.2.2.2.2.1, HLS.out.2 HIK.out⟩, by simp [intOf]; omega⟩
                · go_wp2_with fail
                  go_quiet (rfl)
                  go_wp2
                  refine ⟨⟨q + 1, ({ y.1 with na := z.1.na, nl := z.1.nl, nc := z.1.nc }, ⟨x.2.t, x.2.id, x.2.o, z.2.n⟩), by omega, by omega, by go_num, HSET.out _ (HY.out.1.on (below_drews _ _)) _, Box4R.set (show Box4R _ A y.1 from HY.out.2.1) _ _ _, ?_, rfl, HY.out.2.2.2.2.1, HY.out.2.2.2.2.2.1, HLS.out.1 HIK.out⟩, by simp [intOf]; omega⟩
                  have m := HY.out.2.2.1
                  have em := HY.out.2.2.2.1
                  have m' : Means w y.1 ⟨x.2.t, x.2.id, x.2.o, y.2.n⟩ := em ▸ m
                  exact ⟨m'.t, m'.id, m'.ol, HMZ.out.nl, m'.ob, HMZ.out.nb, m'.o, HMZ.out.n, m'.oc, HMZ.out.nc, m'.tb, m'.ib⟩
              · have hqn2 : q = n := by omega
                subst hqn2
                have hmk1 : max q (k + 1) = q := by omega
                have HLN : Hid (lastN (l.map (·.2)) x.2.key = some y.2.n) := by
                  have h := HY.out.2.2.2.2.2.2
                  rw [hmk1, List.take_of_length_le (by rw [List.length_map, HL.out]; exact Nat.le_refl _)] at h
                  exact h
                have HRK := dhid (rkind_walk (HY.out.2.2.1.below HY.out.1.below))
                obtain ⟨e0, e1, e2, e3, ef, el⟩ := HY.out.2.1.facts
                have HKZ : Hid (y.2.kind = 0 ↔ x.2.o = y.2.n) := by
                  have e : y.2.o = x.2.o := (congrArg (fun c : Chg => c.o) HY.out.2.2.2.1 : _)
                  show _ ↔ _
                  unfold Chg.kind
                  rw [kindL_zero, e]
                generalize y.2.kind = kk at HRK HKZ
                go_wp2_with fail
                refine HRK.out.mono ?_
                rintro e V3 ⟨rfl, B3⟩
                have HV3 := dhid (And.intro (HY.out.1.on B3) (show Box4R V3 A y.1 from (B3.block A el).trans HY.out.2.1))
                have HME := dhid HY.out.2.2
                clear B3 HRK HY e0 e1 e2 e3 ef el
                cases hk0 : (kk == 0)
                · have hkk : kk ≠ 0 := beq_eq_false_iff_ne.1 hk0
                  have HNE : Hid (x.2.o ≠ y.2.n) := fun e => hkk (HKZ.out.2 e)
                  obtain ⟨a3, c3, e3⟩ := owns_slice HV3.out.1.own
                  subst e3
                  have hNl : N.length ≤ 1000 := by have h := HW.out.2.2.len; rw [List.length_map] at h; omega
                  have hcap := owns_cap HV3.out.1.own rfl
                  obtain ⟨hnc, hcm⟩ := hcap
                  unfold maxLen at hcm
                  clear hkk HV2 hA HKZ
                  obtain ⟨M, HNM⟩ : ∃ m, Hid (N.length = m) := ⟨_, rfl⟩
                  rw [HNM.out] at hNl hnc HV3 HW HAR ⊢
                  go_wp2_with fail
                  go_loopw [9] (fun i wr => ∃ p : Nat, p ≤ M ∧ i = .int .i64 (p : Int) ∧ Hid ((∀ z ∈ (N.map (·.2)).take p, keyLt z.key x.2.key) ∧ Below V3.heap.size V3 wr)) (fun i _ => M - (intOf i).toNat)
                  case atStart => exact ⟨0, Nat.zero_le _, rfl, fun z hz => (by simp at hz), Below.refl _ _⟩
                  case round =>
                    obtain ⟨p, hpM, rfl, HP⟩ := hrel
                    have HBW := dhid (below_on HV3.out.1.below HP.out.2 HV3.out.1.below.size)
                    have hbx := (HP.out.2.block A (Array.getElem?_eq_some_iff.1 HV3.out.2).1).trans HV3.out.2
                    obtain ⟨e0, e1, e2, e3, ef, el⟩ := Box4R.facts (W := wr) (b := A) (r := y.1) hbx
                    have own := owns_below HV3.out.1.own fun q hq => HP.out.2.block q (HV3.out.1.own.lt q hq).2
                    rw [HNM.out] at own
                    have HOWN := dhid own
                    have hcase : (p < M ∧ ∃ z : PC, N[p]? = some z ∧ keyLt z.2.key x.2.key) ∨ (∀ z : Chg, (N.map (·.2))[p]? = some z → ¬ keyLt z.key x.2.key) := by
                      by_cases hpm : p < M
                      · have hp' : p < N.length := by rw [HNM.out]; exact hpm
                        by_cases hkl : keyLt N[p].2.key x.2.key
                        · exact Or.inl ⟨hpm, N[p], List.getElem?_eq_getElem hp', hkl⟩
                        · refine Or.inr fun z hz => ?_
                          rw [List.getElem?_map, List.getElem?_eq_getElem hp'] at hz
                          cases hz
                          exact hkl
                      · refine Or.inr fun z hz => ?_
                        rw [List.getElem?_eq_none (by rw [List.length_map, HNM.out]; omega)] at hz
                        cases hz
                    rcases hcase with ⟨hpm, z, hz, hkl⟩ | hge
                    · obtain ⟨bz, oz, z', ez, hbz, hz', d0, d1, d2, d3⟩ := (owns_slc own).2.1.at (j := p) (by rw [HNM.out]; exact hpm)
                      cases ez
                      rw [hz] at hz'
                      cases hz'
                      have mz := HW.out.2.1 z (List.mem_of_getElem? hz)
                      have mx := HM.out x (List.mem_of_getElem? HX.out)
                      have HNX : Hid (∀ z' ∈ (N.map (·.2)).take (p + 1), keyLt z'.key x.2.key) := fun z' hz' => by
                        have hz2 : (N.map (·.2))[p]? = some z.2 := by rw [List.getElem?_map, hz]; rfl
                        rw [(take_mem hz2).2] at hz'
                        rcases List.mem_append.1 hz' with h | h
                        · exact HP.out.1 z' h
                        · simp at h; subst h; exact hkl
                      have hyt := HME.out.2.2.1
                      have hyi := HME.out.2.2.2.1
                      unfold keyLt Chg.key at hkl
                      rw [← mz.t, ← mz.id, ← mx.t, ← mx.id, ← hyt, ← hyi] at hkl
                      clear mz mx hyt hyi hz d2 d3 own
                      rcases hkl with h1 | ⟨h1, h2⟩
                      · have hl0 : Op.bytesLess z.1.t.toList y.1.t.toList = true := by rw [bytesLess_lt]; exact decide_eq_true h1
                        clear h1
                        go_wp2_with fail
                        go_quiet (rfl)
                        go_wp2
                        exact ⟨⟨p + 1, by omega, by go_num, HNX.out, below_drewN HP.out.2 _⟩, by simp [intOf]; omega⟩
                      · have hzy : z.1.t = y.1.t := bytes_ext h1
                        rw [hzy] at d0
                        have hl1 := less_irrefl y.1.t.toList
                        have hl2 : (y.1.t.toList == y.1.t.toList) = true := beq_self_eq_true _
                        have hl3 : decide (z.1.id < y.1.id) = true := decide_eq_true h2
                        clear h1 hzy
                        go_wp2_with fail
                        go_quiet (rfl)
                        go_wp2
                        exact ⟨⟨p + 1, by omega, by go_num, HNX.out, below_drewN HP.out.2 _⟩, by simp [intOf]; omega⟩
                    · have HGE := dhid hge
                      clear hge
                      have HKSg : Hid (∀ W, Below V3.heap.size V3 W → W.cell? ⟨A, 0, none⟩ = some (.string y.1.t) ∧ W.cell? ⟨A, 1, none⟩ = some (.int .i64 y.1.id) ∧ W.cell? ⟨A, 2, none⟩ = some (.slice y.1.oa y.1.ol y.1.oc) ∧ W.cell? ⟨A, 3, none⟩ = some (.slice y.1.na y.1.nl y.1.nc)) := fun W h => by
                        obtain ⟨f0, f1, f2, f3, _, _⟩ := Box4R.facts (W := W) (b := A) (r := y.1) ((h.block A (Array.getElem?_eq_some_iff.1 HV3.out.2).1).trans HV3.out.2)
                        exact ⟨f0, f1, f2, f3⟩
                      have HOWg : Hid (∀ W, Below V3.heap.size V3 W → W.ownsRow w.heap.size 30 4 (.slice a3 M c3) M (rcs N)) := fun W h => by
                        have hh := owns_below HV3.out.1.own fun q hq => h.block q (HV3.out.1.own.lt q hq).2
                        rwa [HNM.out] at hh
                      have HTL : Hid ((N.take p).length = p) := by show _ = _; rw [List.length_take, HNM.out]; omega
                      have HTL7 : Hid ((N.take p ++ [(y.1, y.2)]).length = p + 1) := by show _ = _; rw [List.length_append, HTL.out]; rfl
                      have HDL : Hid ((N.drop p).length = M - p) := by show _ = _; rw [List.length_drop, HNM.out]
                      have HRT : Hid ((rcs (N.take p)).length = p * 4) := by show _ = _; rw [rcs_length, HTL.out]
                      have HRD : Hid ((rcs (N.drop p)).length = (M - p) * 4) := by show _ = _; rw [rcs_length, HDL.out]
                      have HFINg : Hid (∀ U, Below V3.heap.size V3 U → ∀ v9 W9, PlW U v9 (N.take p ++ [(y.1, y.2)] ++ N.drop p) W9 → PlW w v9 (N.take p ++ [(y.1, y.2)] ++ N.drop p) W9 ∧ AllM w (N.take p ++ [(y.1, y.2)] ++ N.drop p) ∧ NetI (l.map (·.2)) (k + 1) ((N.take p ++ [(y.1, y.2)] ++ N.drop p).map (·.2))) := fun U hU v9 W9 h9 => by
                        have hbU : Below w.heap.size w U := below_on HV3.out.1.below hU HV3.out.1.below.size
                        refine ⟨⟨below_on hbU h9.below hbU.size, owns_mono h9.own fun g hg => by have h1 := (h9.own.lt g hg).1; have h2 := hbU.size; omega⟩, fun z hz => ?_, ?_⟩
                        · rcases List.mem_append.1 hz with hz | hz
                          · rcases List.mem_append.1 hz with hz | hz
                            · exact HW.out.2.1 z (List.mem_of_mem_take hz)
                            · simp at hz; subst hz; exact HME.out.1
                          · exact HW.out.2.1 z (List.mem_of_mem_drop hz)
                        · have h := HW.out.2.2.ins (at_ := p) (x := x.2) (by rw [List.getElem?_map, HX.out]; rfl) HF0.out HLN.out HNE.out HP.out.1 HGE.out
                          rw [← HME.out.2.1, ← List.map_take, ← List.map_drop] at h
                          simpa using h
                      rcases part_cases HOWN.out rfl hpM with ⟨rfl, h0, h1⟩ | ⟨g, rfl, h1⟩ | ⟨g, rfl, h1⟩
                      · subst h0
                        subst h1
                        have hp0 : p = 0 := by omega
                        subst hp0
                        clear own
                        go_wp2_with fail
                        go_quiet (rfl)
                        go_wp2_with fail
                        refine to_letter (F := fun W => Below V3.heap.size V3 W) (below_drewN HP.out.2 _) ?_
                        intro U hU
                        have KS : Hid (∀ W, Below U.heap.size U W → W.cell? ⟨A, 0, none⟩ = some (.string y.1.t) ∧ W.cell? ⟨A, 1, none⟩ = some (.int .i64 y.1.id) ∧ W.cell? ⟨A, 2, none⟩ = some (.slice y.1.oa y.1.ol y.1.oc) ∧ W.cell? ⟨A, 3, none⟩ = some (.slice y.1.na y.1.nl y.1.nc)) := fun W hW => HKSg.out W (below_on hU hW hU.size)
                        have HOW : Hid (∀ W, Below U.heap.size U W → W.ownsRow w.heap.size 30 4 (.slice none 0 0) 0 (rcs N)) := fun W hW => HOWg.out W (below_on hU hW hU.size)
                        have HST : Hid (∀ W, Below U.heap.size U W → Src W none 0 0 (rcs (N.take 0))) := fun W hW => src_take (HOW.out W hW) (by omega)
                        have HFIN : Hid (∀ v9 W9, PlW U v9 (N.take 0 ++ [(y.1, y.2)] ++ N.drop 0) W9 → PlW w v9 (N.take 0 ++ [(y.1, y.2)] ++ N.drop 0) W9 ∧ AllM w (N.take 0 ++ [(y.1, y.2)] ++ N.drop 0) ∧ NetI (l.map (·.2)) (k + 1) ((N.take 0 ++ [(y.1, y.2)] ++ N.drop 0).map (·.2))) := fun v9 W9 h9 => HFINg.out U hU v9 W9 h9
                        have HSD : Hid (∀ W, Below U.heap.size U W → Src W none 0 0 (rcs (N.drop 0))) := fun W hW => Or.inl ⟨rfl, rfl, rfl, by have h := HRD.out; exact List.eq_nil_of_length_eq_zero (by simpa using h)⟩
                        go_region_held_law (fun w' => w'.cell? ⟨A, 0, none⟩ = some (.string y.1.t) ∧ w'.cell? ⟨A, 1, none⟩ = some (.int .i64 y.1.id) ∧ w'.cell? ⟨A, 2, none⟩ = some (.slice y.1.oa y.1.ol y.1.oc) ∧ w'.cell? ⟨A, 3, none⟩ = some (.slice y.1.na y.1.nl y.1.nc)) (first | assumption | exact KS.out _ (by repeat (first | exact Below.refl _ _ | exact HP5.out.below | refine Below.drew ?_ | refine Below.alloc ?_ (by first | (simp; done) | (exact HP5.out.below.size)) _)))
                          (first
                            | (refine step_appS Try.underlying31 infoRChg rfl (by decide) (by decide) rfl (.tmp 126) (.tmp 129) rfl U.heap.size ?_ (.slice (some ⟨U.heap.size, 0, none⟩) 0 0) 0 [] ?_ (own_new (q := U.heap.size) ?_ (Nat.le_refl _)) _ 0 _ (rcs (N.take 0)) ?_ (HST.out _ ?_) HRT.out rcs_one (by omega) ?_
                               · first | omega | (simp; omega) | (simp; done)
                               · first | (simp [Act.eval]; done) | (simp [Act.eval, Act.put]; done)
                               · first | exact heap_n0 _ _ | exact heap_n1 _ _ _
                               · first | (simp [Act.eval]; done) | (simp [Act.eval, Act.put]; done)
                               · repeat (first | exact Below.refl _ _ | refine Below.drew ?_ | refine Below.alloc ?_ (by simp) _)
                               intro v5 W5 O5 G5
                               have HP5 := dhid (ins_first (by repeat (first | exact Below.refl _ _ | refine Below.drew ?_ | refine Below.alloc ?_ (by simp) _)) HTL.out (Nat.le_refl _) O5 G5)
                               have KS5 := KS.out W5 HP5.out.below
                               first | (have HE5 := dhid (show Box4R W5 (U.heap.size + 1) y.1 from (G5.block (U.heap.size + 1) (by simp) (by simp [Value.ownBlock])).trans (heap_n2 _ _ _))) | skip
                               clear O5 G5)
                            | (refine step_appS Try.underlying31 infoRChg rfl (by decide) (by decide) rfl (.tmp 126) (.tmp 129) rfl U.heap.size ?_ (.slice (some ⟨U.heap.size + 1, 0, none⟩) 0 0) 0 [] ?_ (own_new (q := U.heap.size + 1) ?_ (by omega)) _ 0 _ (rcs (N.take 0)) ?_ (HST.out _ ?_) HRT.out rcs_one (by omega) ?_
                               · first | omega | (simp; omega) | (simp; done)
                               · first | (simp [Act.eval]; done) | (simp [Act.eval, Act.put]; done)
                               · first | exact heap_n2 _ _ _
                               · first | (simp [Act.eval]; done) | (simp [Act.eval, Act.put]; done)
                               · repeat (first | exact Below.refl _ _ | refine Below.drew ?_ | refine Below.alloc ?_ (by simp) _)
                               intro v5 W5 O5 G5
                               have HP5 := dhid (ins_first (by repeat (first | exact Below.refl _ _ | refine Below.drew ?_ | refine Below.alloc ?_ (by simp) _)) HTL.out (by omega) O5 G5)
                               have KS5 := KS.out W5 HP5.out.below
                               have HE5' := dhid (show Box4R W5 U.heap.size y.1 from (G5.block U.heap.size (by simp; omega) (by simp [Value.ownBlock])).trans (heap_n1 _ _ _))
                               clear O5 G5)
                            | (refine step_appS Try.underlying31 infoRChg rfl (by decide) (by decide) rfl (.tmp 130) (.tmp 132) rfl U.heap.size HP5.out.below.size v5 0 (rcs (N.take 0)) ?_ (own_at HP5.out HTL.out) _ 1 1 (rcC y.1) ?_ (box_src HE5.out) rfl rcC_one (by omega) ?_
                               · first | (simp [Act.eval]; done) | (simp [Act.eval, Act.put]; done)
                               · first | (simp [Act.eval]; done) | (simp [Act.eval, Act.put]; done)
                               intro v7 W7 O7 G7
                               have HP7 := dhid (ins_next (K := [(y.1, y.2)]) HP5.out HTL.out rfl (by simpa [rcs] using O7) G7)
                               have KS7 := KS.out W7 HP7.out.below
                               clear O7 G7 HP5 KS5)
                            | (refine step_appS Try.underlying31 infoRChg rfl (by decide) (by decide) rfl (.tmp 130) (.tmp 132) rfl U.heap.size HP5.out.below.size v5 0 (rcs (N.take 0)) ?_ (own_at HP5.out HTL.out) _ 1 1 (rcC y.1) ?_ (box_src HE5'.out) rfl rcC_one (by omega) ?_
                               · first | (simp [Act.eval]; done) | (simp [Act.eval, Act.put]; done)
                               · first | (simp [Act.eval]; done) | (simp [Act.eval, Act.put]; done)
                               intro v7 W7 O7 G7
                               have HP7 := dhid (ins_next (K := [(y.1, y.2)]) HP5.out HTL.out rfl (by simpa [rcs] using O7) G7)
                               have KS7 := KS.out W7 HP7.out.below
                               clear O7 G7 HP5 KS5)
                            | (refine step_appS Try.underlying31 infoRChg rfl (by decide) (by decide) rfl (.tmp 130) (.tmp 132) rfl U.heap.size (by have := HP5.out.below.size; simp; omega) v5 0 (rcs (N.take 0)) ?_ (own_at (HP5.out.on (below_alloc W5 _)) HTL.out) _ 1 1 (rcC y.1) ?_ (box_src (show Box4R (W5.alloc _) W5.heap.size y.1 from go_heap_new _ _)) rfl rcC_one (by omega) ?_
                               · first | (simp [Act.eval]; done) | (simp [Act.eval, Act.put]; done)
                               · first | (simp [Act.eval]; done) | (simp [Act.eval, Act.put]; done)
                               intro v7 W7 O7 G7
                               have HP7 := dhid (ins_next (K := [(y.1, y.2)]) (HP5.out.on (below_alloc W5 _)) HTL.out rfl (by simpa [rcs] using O7) G7)
                               have KS7 := KS.out W7 HP7.out.below
                               clear O7 G7 HP5 KS5)
                            | (refine step_appS Try.underlying31 infoRChg rfl (by decide) (by decide) rfl (.tmp 133) (.tmp 136) rfl U.heap.size HP7.out.below.size v7 (0 + 1) (rcs (N.take 0 ++ [(y.1, y.2)])) ?_ (own_at HP7.out HTL7.out) _ (0 - 0) _ (rcs (N.drop 0)) ?_ (HSD.out _ HP7.out.below) HRD.out rcs_one (by omega) ?_
                               · first | (simp [Act.eval]; done) | (simp [Act.eval, Act.put]; done)
                               · first | (simp [Act.eval]; done) | (simp [Act.eval, Act.put]; done)
                               intro v9 W9 O9 G9
                               have HP9 := dhid (ins_next HP7.out HTL7.out HDL.out O9 G9)
                               have KS9 := KS.out W9 HP9.out.below
                               clear O9 G9 HP7 KS7))
                        all_goals
                          clear KS9
                          go_wp2
                          exact ⟨⟨k + 1, _, by omega, by go_num, HFIN.out v9 W9 HP9.out⟩, by simp [intOf]; omega⟩
                      · have hMp : M = p := by omega
                        subst hMp
                        subst h1
                        clear own
                        have i1 : (c3 : Int) ≤ (c3 : Int) := Int.le_refl _
                        go_wp2_with fail
                        go_quiet (rfl)
                        go_wp2_with fail
                        refine to_letter (F := fun W => Below V3.heap.size V3 W) (below_drewN HP.out.2 _) ?_
                        intro U hU
                        have KS : Hid (∀ W, Below U.heap.size U W → W.cell? ⟨A, 0, none⟩ = some (.string y.1.t) ∧ W.cell? ⟨A, 1, none⟩ = some (.int .i64 y.1.id) ∧ W.cell? ⟨A, 2, none⟩ = some (.slice y.1.oa y.1.ol y.1.oc) ∧ W.cell? ⟨A, 3, none⟩ = some (.slice y.1.na y.1.nl y.1.nc)) := fun W hW => HKSg.out W (below_on hU hW hU.size)
                        have HOW : Hid (∀ W, Below U.heap.size U W → W.ownsRow w.heap.size 30 4 (.slice (some ⟨g, 0, none⟩) c3 c3) c3 (rcs N)) := fun W hW => HOWg.out W (below_on hU hW hU.size)
                        have HST : Hid (∀ W, Below U.heap.size U W → Src W (some ⟨g, 0, none⟩) c3 c3 (rcs (N.take c3))) := fun W hW => src_take (HOW.out W hW) (by omega)
                        have HFIN : Hid (∀ v9 W9, PlW U v9 (N.take c3 ++ [(y.1, y.2)] ++ N.drop c3) W9 → PlW w v9 (N.take c3 ++ [(y.1, y.2)] ++ N.drop c3) W9 ∧ AllM w (N.take c3 ++ [(y.1, y.2)] ++ N.drop c3) ∧ NetI (l.map (·.2)) (k + 1) ((N.take c3 ++ [(y.1, y.2)] ++ N.drop c3).map (·.2))) := fun v9 W9 h9 => HFINg.out U hU v9 W9 h9
                        have HSD : Hid (∀ W, Below U.heap.size U W → Src W (some ⟨g, 0, none⟩) (c3 - c3) 0 (rcs (N.drop c3))) := fun W hW => Or.inr ⟨_, rfl, fun j u hu => by
                          have h := HRD.out
                          rw [Nat.sub_self, Nat.zero_mul] at h
                          rw [List.eq_nil_of_length_eq_zero h] at hu
                          simp at hu⟩
                        go_region_held_law (fun w' => w'.cell? ⟨A, 0, none⟩ = some (.string y.1.t) ∧ w'.cell? ⟨A, 1, none⟩ = some (.int .i64 y.1.id) ∧ w'.cell? ⟨A, 2, none⟩ = some (.slice y.1.oa y.1.ol y.1.oc) ∧ w'.cell? ⟨A, 3, none⟩ = some (.slice y.1.na y.1.nl y.1.nc)) (first | assumption | exact KS.out _ (by repeat (first | exact Below.refl _ _ | exact HP5.out.below | refine Below.drew ?_ | refine Below.alloc ?_ (by first | (simp; done) | (exact HP5.out.below.size)) _)))
                          (first
                            | (refine step_appS Try.underlying31 infoRChg rfl (by decide) (by decide) rfl (.tmp 126) (.tmp 129) rfl U.heap.size ?_ (.slice (some ⟨U.heap.size, 0, none⟩) 0 0) 0 [] ?_ (own_new (q := U.heap.size) ?_ (Nat.le_refl _)) _ c3 _ (rcs (N.take c3)) ?_ (HST.out _ ?_) HRT.out rcs_one (by omega) ?_
                               · first | omega | (simp; omega) | (simp; done)
                               · first | (simp [Act.eval]; done) | (simp [Act.eval, Act.put]; done)
                               · first | exact heap_n0 _ _ | exact heap_n1 _ _ _
                               · first | (simp [Act.eval]; done) | (simp [Act.eval, Act.put]; done)
                               · repeat (first | exact Below.refl _ _ | refine Below.drew ?_ | refine Below.alloc ?_ (by simp) _)
                               intro v5 W5 O5 G5
                               have HP5 := dhid (ins_first (by repeat (first | exact Below.refl _ _ | refine Below.drew ?_ | refine Below.alloc ?_ (by simp) _)) HTL.out (Nat.le_refl _) O5 G5)
                               have KS5 := KS.out W5 HP5.out.below
                               first | (have HE5 := dhid (show Box4R W5 (U.heap.size + 1) y.1 from (G5.block (U.heap.size + 1) (by simp) (by simp [Value.ownBlock])).trans (heap_n2 _ _ _))) | skip
                               clear O5 G5)
                            | (refine step_appS Try.underlying31 infoRChg rfl (by decide) (by decide) rfl (.tmp 126) (.tmp 129) rfl U.heap.size ?_ (.slice (some ⟨U.heap.size + 1, 0, none⟩) 0 0) 0 [] ?_ (own_new (q := U.heap.size + 1) ?_ (by omega)) _ c3 _ (rcs (N.take c3)) ?_ (HST.out _ ?_) HRT.out rcs_one (by omega) ?_
                               · first | omega | (simp; omega) | (simp; done)
                               · first | (simp [Act.eval]; done) | (simp [Act.eval, Act.put]; done)
                               · first | exact heap_n2 _ _ _
                               · first | (simp [Act.eval]; done) | (simp [Act.eval, Act.put]; done)
                               · repeat (first | exact Below.refl _ _ | refine Below.drew ?_ | refine Below.alloc ?_ (by simp) _)
                               intro v5 W5 O5 G5
                               have HP5 := dhid (ins_first (by repeat (first | exact Below.refl _ _ | refine Below.drew ?_ | refine Below.alloc ?_ (by simp) _)) HTL.out (by omega) O5 G5)
                               have KS5 := KS.out W5 HP5.out.below
                               have HE5' := dhid (show Box4R W5 U.heap.size y.1 from (G5.block U.heap.size (by simp; omega) (by simp [Value.ownBlock])).trans (heap_n1 _ _ _))
                               clear O5 G5)
                            | (refine step_appS Try.underlying31 infoRChg rfl (by decide) (by decide) rfl (.tmp 130) (.tmp 132) rfl U.heap.size HP5.out.below.size v5 c3 (rcs (N.take c3)) ?_ (own_at HP5.out HTL.out) _ 1 1 (rcC y.1) ?_ (box_src HE5.out) rfl rcC_one (by omega) ?_
                               · first | (simp [Act.eval]; done) | (simp [Act.eval, Act.put]; done)
                               · first | (simp [Act.eval]; done) | (simp [Act.eval, Act.put]; done)
                               intro v7 W7 O7 G7
                               have HP7 := dhid (ins_next (K := [(y.1, y.2)]) HP5.out HTL.out rfl (by simpa [rcs] using O7) G7)
                               have KS7 := KS.out W7 HP7.out.below
                               clear O7 G7 HP5 KS5)
                            | (refine step_appS Try.underlying31 infoRChg rfl (by decide) (by decide) rfl (.tmp 130) (.tmp 132) rfl U.heap.size HP5.out.below.size v5 c3 (rcs (N.take c3)) ?_ (own_at HP5.out HTL.out) _ 1 1 (rcC y.1) ?_ (box_src HE5'.out) rfl rcC_one (by omega) ?_
                               · first | (simp [Act.eval]; done) | (simp [Act.eval, Act.put]; done)
                               · first | (simp [Act.eval]; done) | (simp [Act.eval, Act.put]; done)
                               intro v7 W7 O7 G7
                               have HP7 := dhid (ins_next (K := [(y.1, y.2)]) HP5.out HTL.out rfl (by simpa [rcs] using O7) G7)
                               have KS7 := KS.out W7 HP7.out.below
                               clear O7 G7 HP5 KS5)
                            | (refine step_appS Try.underlying31 infoRChg rfl (by decide) (by decide) rfl (.tmp 130) (.tmp 132) rfl U.heap.size (by have := HP5.out.below.size; simp; omega) v5 c3 (rcs (N.take c3)) ?_ (own_at (HP5.out.on (below_alloc W5 _)) HTL.out) _ 1 1 (rcC y.1) ?_ (box_src (show Box4R (W5.alloc _) W5.heap.size y.1 from go_heap_new _ _)) rfl rcC_one (by omega) ?_
                               · first | (simp [Act.eval]; done) | (simp [Act.eval, Act.put]; done)
                               · first | (simp [Act.eval]; done) | (simp [Act.eval, Act.put]; done)
                               intro v7 W7 O7 G7
                               have HP7 := dhid (ins_next (K := [(y.1, y.2)]) (HP5.out.on (below_alloc W5 _)) HTL.out rfl (by simpa [rcs] using O7) G7)
                               have KS7 := KS.out W7 HP7.out.below
                               clear O7 G7 HP5 KS5)
                            | (refine step_appS Try.underlying31 infoRChg rfl (by decide) (by decide) rfl (.tmp 133) (.tmp 136) rfl U.heap.size HP7.out.below.size v7 (c3 + 1) (rcs (N.take c3 ++ [(y.1, y.2)])) ?_ (own_at HP7.out HTL7.out) _ (c3 - c3) _ (rcs (N.drop c3)) ?_ (HSD.out _ HP7.out.below) HRD.out rcs_one (by omega) ?_
                               · first | (simp [Act.eval]; done) | (simp [Act.eval, Act.put]; done)
                               · first | (simp [Act.eval]; done) | (simp [Act.eval, Act.put]; done)
                               intro v9 W9 O9 G9
                               have HP9 := dhid (ins_next HP7.out HTL7.out HDL.out O9 G9)
                               have KS9 := KS.out W9 HP9.out.below
                               clear O9 G9 HP7 KS7))
                        all_goals
                          clear KS9
                          go_wp2
                          exact ⟨⟨k + 1, _, by omega, by go_num, HFIN.out v9 W9 HP9.out⟩, by simp [intOf]; omega⟩
                      · have i1 : (p : Int) ≤ (c3 : Int) := by omega
                        have i2 : (p : Int) ≤ (M : Int) := by omega
                        have i3 : (M : Int) ≤ (c3 : Int) := by omega
                        have i4 : ¬ c3 - p = 0 := by omega
                        have i5 : ¬ c3 = p := h1
                        by_cases hpm : p < M
                        · obtain ⟨bz, oz, z, ez, hbz, hz, d0, d1, d2, d3⟩ := (owns_slc own).2.1.at (j := p) (by rw [HNM.out]; exact hpm)
                          cases ez
                          simp only [Nat.zero_add] at d0 d1
                          have mz := HW.out.2.1 z (List.mem_of_getElem? hz)
                          have mx := HM.out x (List.mem_of_getElem? HX.out)
                          have hkl := HGE.out z.2 (by rw [List.getElem?_map, hz]; rfl)
                          have hyt := HME.out.2.2.1
                          have hyi := HME.out.2.2.2.1
                          unfold keyLt Chg.key at hkl
                          rw [← mz.t, ← mz.id, ← mx.t, ← mx.id, ← hyt, ← hyi] at hkl
                          clear mz mx hyt hyi hz d2 d3 own
                          have hl0 : Op.bytesLess z.1.t.toList y.1.t.toList = false := by rw [bytesLess_lt]; exact decide_eq_false fun h => hkl (Or.inl h)
                          cases htb : (z.1.t.toList == y.1.t.toList)
                          · clear hkl
                            go_wp2_with fail
                            go_quiet (rfl)
                            go_wp2_with fail
                            refine to_letter (F := fun W => Below V3.heap.size V3 W) (below_drewN HP.out.2 _) ?_
                            intro U hU
                            have KS : Hid (∀ W, Below U.heap.size U W → W.cell? ⟨A, 0, none⟩ = some (.string y.1.t) ∧ W.cell? ⟨A, 1, none⟩ = some (.int .i64 y.1.id) ∧ W.cell? ⟨A, 2, none⟩ = some (.slice y.1.oa y.1.ol y.1.oc) ∧ W.cell? ⟨A, 3, none⟩ = some (.slice y.1.na y.1.nl y.1.nc)) := fun W hW => HKSg.out W (below_on hU hW hU.size)
                            have HOW : Hid (∀ W, Below U.heap.size U W → W.ownsRow w.heap.size 30 4 (.slice (some ⟨g, 0, none⟩) M c3) M (rcs N)) := fun W hW => HOWg.out W (below_on hU hW hU.size)
                            have HST : Hid (∀ W, Below U.heap.size U W → Src W (some ⟨g, 0, none⟩) p c3 (rcs (N.take p))) := fun W hW => src_take (HOW.out W hW) (by omega)
                            have HFIN : Hid (∀ v9 W9, PlW U v9 (N.take p ++ [(y.1, y.2)] ++ N.drop p) W9 → PlW w v9 (N.take p ++ [(y.1, y.2)] ++ N.drop p) W9 ∧ AllM w (N.take p ++ [(y.1, y.2)] ++ N.drop p) ∧ NetI (l.map (·.2)) (k + 1) ((N.take p ++ [(y.1, y.2)] ++ N.drop p).map (·.2))) := fun v9 W9 h9 => HFINg.out U hU v9 W9 h9
                            have HSD : Hid (∀ W, Below U.heap.size U W → Src W (some ⟨g, p * 4, none⟩) (M - p) (c3 - p) (rcs (N.drop p))) := fun W hW => src_drop (HOW.out W hW)
                            go_region_held_law (fun w' => w'.cell? ⟨A, 0, none⟩ = some (.string y.1.t) ∧ w'.cell? ⟨A, 1, none⟩ = some (.int .i64 y.1.id) ∧ w'.cell? ⟨A, 2, none⟩ = some (.slice y.1.oa y.1.ol y.1.oc) ∧ w'.cell? ⟨A, 3, none⟩ = some (.slice y.1.na y.1.nl y.1.nc)) (first | assumption | exact KS.out _ (by repeat (first | exact Below.refl _ _ | exact HP5.out.below | refine Below.drew ?_ | refine Below.alloc ?_ (by first | (simp; done) | (exact HP5.out.below.size)) _)))
                              (first
                                | (refine step_appS Try.underlying31 infoRChg rfl (by decide) (by decide) rfl (.tmp 126) (.tmp 129) rfl U.heap.size ?_ (.slice (some ⟨U.heap.size, 0, none⟩) 0 0) 0 [] ?_ (own_new (q := U.heap.size) ?_ (Nat.le_refl _)) _ p _ (rcs (N.take p)) ?_ (HST.out _ ?_) HRT.out rcs_one (by omega) ?_
                                   · first | omega | (simp; omega) | (simp; done)
                                   · first | (simp [Act.eval]; done) | (simp [Act.eval, Act.put]; done)
                                   · first | exact heap_n0 _ _ | exact heap_n1 _ _ _
                                   · first | (simp [Act.eval]; done) | (simp [Act.eval, Act.put]; done)
                                   · repeat (first | exact Below.refl _ _ | refine Below.drew ?_ | refine Below.alloc ?_ (by simp) _)
                                   intro v5 W5 O5 G5
                                   have HP5 := dhid (ins_first (by repeat (first | exact Below.refl _ _ | refine Below.drew ?_ | refine Below.alloc ?_ (by simp) _)) HTL.out (Nat.le_refl _) O5 G5)
                                   have KS5 := KS.out W5 HP5.out.below
                                   first | (have HE5 := dhid (show Box4R W5 (U.heap.size + 1) y.1 from (G5.block (U.heap.size + 1) (by simp) (by simp [Value.ownBlock])).trans (heap_n2 _ _ _))) | skip
                                   clear O5 G5)
                                | (refine step_appS Try.underlying31 infoRChg rfl (by decide) (by decide) rfl (.tmp 126) (.tmp 129) rfl U.heap.size ?_ (.slice (some ⟨U.heap.size + 1, 0, none⟩) 0 0) 0 [] ?_ (own_new (q := U.heap.size + 1) ?_ (by omega)) _ p _ (rcs (N.take p)) ?_ (HST.out _ ?_) HRT.out rcs_one (by omega) ?_
                                   · first | omega | (simp; omega) | (simp; done)
                                   · first | (simp [Act.eval]; done) | (simp [Act.eval, Act.put]; done)
                                   · first | exact heap_n2 _ _ _
                                   · first | (simp [Act.eval]; done) | (simp [Act.eval, Act.put]; done)
                                   · repeat (first | exact Below.refl _ _ | refine Below.drew ?_ | refine Below.alloc ?_ (by simp) _)
                                   intro v5 W5 O5 G5
                                   have HP5 := dhid (ins_first (by repeat (first | exact Below.refl _ _ | refine Below.drew ?_ | refine Below.alloc ?_ (by simp) _)) HTL.out (by omega) O5 G5)
                                   have KS5 := KS.out W5 HP5.out.below
                                   have HE5' := dhid (show Box4R W5 U.heap.size y.1 from (G5.block U.heap.size (by simp; omega) (by simp [Value.ownBlock])).trans (heap_n1 _ _ _))
                                   clear O5 G5)
                                | (refine step_appS Try.underlying31 infoRChg rfl (by decide) (by decide) rfl (.tmp 130) (.tmp 132) rfl U.heap.size HP5.out.below.size v5 p (rcs (N.take p)) ?_ (own_at HP5.out HTL.out) _ 1 1 (rcC y.1) ?_ (box_src HE5.out) rfl rcC_one (by omega) ?_
                                   · first | (simp [Act.eval]; done) | (simp [Act.eval, Act.put]; done)
                                   · first | (simp [Act.eval]; done) | (simp [Act.eval, Act.put]; done)
                                   intro v7 W7 O7 G7
                                   have HP7 := dhid (ins_next (K := [(y.1, y.2)]) HP5.out HTL.out rfl (by simpa [rcs] using O7) G7)
                                   have KS7 := KS.out W7 HP7.out.below
                                   clear O7 G7 HP5 KS5)
                                | (refine step_appS Try.underlying31 infoRChg rfl (by decide) (by decide) rfl (.tmp 130) (.tmp 132) rfl U.heap.size HP5.out.below.size v5 p (rcs (N.take p)) ?_ (own_at HP5.out HTL.out) _ 1 1 (rcC y.1) ?_ (box_src HE5'.out) rfl rcC_one (by omega) ?_
                                   · first | (simp [Act.eval]; done) | (simp [Act.eval, Act.put]; done)
                                   · first | (simp [Act.eval]; done) | (simp [Act.eval, Act.put]; done)
                                   intro v7 W7 O7 G7
                                   have HP7 := dhid (ins_next (K := [(y.1, y.2)]) HP5.out HTL.out rfl (by simpa [rcs] using O7) G7)
                                   have KS7 := KS.out W7 HP7.out.below
                                   clear O7 G7 HP5 KS5)
                                | (refine step_appS Try.underlying31 infoRChg rfl (by decide) (by decide) rfl (.tmp 130) (.tmp 132) rfl U.heap.size (by have := HP5.out.below.size; simp; omega) v5 p (rcs (N.take p)) ?_ (own_at (HP5.out.on (below_alloc W5 _)) HTL.out) _ 1 1 (rcC y.1) ?_ (box_src (show Box4R (W5.alloc _) W5.heap.size y.1 from go_heap_new _ _)) rfl rcC_one (by omega) ?_
                                   · first | (simp [Act.eval]; done) | (simp [Act.eval, Act.put]; done)
                                   · first | (simp [Act.eval]; done) | (simp [Act.eval, Act.put]; done)
                                   intro v7 W7 O7 G7
                                   have HP7 := dhid (ins_next (K := [(y.1, y.2)]) (HP5.out.on (below_alloc W5 _)) HTL.out rfl (by simpa [rcs] using O7) G7)
                                   have KS7 := KS.out W7 HP7.out.below
                                   clear O7 G7 HP5 KS5)
                                | (refine step_appS Try.underlying31 infoRChg rfl (by decide) (by decide) rfl (.tmp 133) (.tmp 136) rfl U.heap.size HP7.out.below.size v7 (p + 1) (rcs (N.take p ++ [(y.1, y.2)])) ?_ (own_at HP7.out HTL7.out) _ (M - p) _ (rcs (N.drop p)) ?_ (HSD.out _ HP7.out.below) HRD.out rcs_one (by omega) ?_
                                   · first | (simp [Act.eval]; done) | (simp [Act.eval, Act.put]; done)
                                   · first | (simp [Act.eval]; done) | (simp [Act.eval, Act.put]; done)
                                   intro v9 W9 O9 G9
                                   have HP9 := dhid (ins_next HP7.out HTL7.out HDL.out O9 G9)
                                   have KS9 := KS.out W9 HP9.out.below
                                   clear O9 G9 HP7 KS7))
                            all_goals
                              clear KS9
                              go_wp2
                              exact ⟨⟨k + 1, _, by omega, by go_num, HFIN.out v9 W9 HP9.out⟩, by simp [intOf]; omega⟩
                          · have hl3 : decide (z.1.id < y.1.id) = false := decide_eq_false fun h => hkl (Or.inr ⟨beq_iff_eq.1 htb, h⟩)
                            clear hkl
                            go_wp2_with fail
                            go_quiet (rfl)
                            go_wp2_with fail
                            refine to_letter (F := fun W => Below V3.heap.size V3 W) (below_drewN HP.out.2 _) ?_
                            intro U hU
                            have KS : Hid (∀ W, Below U.heap.size U W → W.cell? ⟨A, 0, none⟩ = some (.string y.1.t) ∧ W.cell? ⟨A, 1, none⟩ = some (.int .i64 y.1.id) ∧ W.cell? ⟨A, 2, none⟩ = some (.slice y.1.oa y.1.ol y.1.oc) ∧ W.cell? ⟨A, 3, none⟩ = some (.slice y.1.na y.1.nl y.1.nc)) := fun W hW => HKSg.out W (below_on hU hW hU.size)
                            have HOW : Hid (∀ W, Below U.heap.size U W → W.ownsRow w.heap.size 30 4 (.slice (some ⟨g, 0, none⟩) M c3) M (rcs N)) := fun W hW => HOWg.out W (below_on hU hW hU.size)
                            have HST : Hid (∀ W, Below U.heap.size U W → Src W (some ⟨g, 0, none⟩) p c3 (rcs (N.take p))) := fun W hW => src_take (HOW.out W hW) (by omega)
                            have HFIN : Hid (∀ v9 W9, PlW U v9 (N.take p ++ [(y.1, y.2)] ++ N.drop p) W9 → PlW w v9 (N.take p ++ [(y.1, y.2)] ++ N.drop p) W9 ∧ AllM w (N.take p ++ [(y.1, y.2)] ++ N.drop p) ∧ NetI (l.map (·.2)) (k + 1) ((N.take p ++ [(y.1, y.2)] ++ N.drop p).map (·.2))) := fun v9 W9 h9 => HFINg.out U hU v9 W9 h9
                            have HSD : Hid (∀ W, Below U.heap.size U W → Src W (some ⟨g, p * 4, none⟩) (M - p) (c3 - p) (rcs (N.drop p))) := fun W hW => src_drop (HOW.out W hW)
                            go_region_held_law (fun w' => w'.cell? ⟨A, 0, none⟩ = some (.string y.1.t) ∧ w'.cell? ⟨A, 1, none⟩ = some (.int .i64 y.1.id) ∧ w'.cell? ⟨A, 2, none⟩ = some (.slice y.1.oa y.1.ol y.1.oc) ∧ w'.cell? ⟨A, 3, none⟩ = some (.slice y.1.na y.1.nl y.1.nc)) (first | assumption | exact KS.out _ (by repeat (first | exact Below.refl _ _ | exact HP5.out.below | refine Below.drew ?_ | refine Below.alloc ?_ (by first | (simp; done) | (exact HP5.out.below.size)) _)))
                              (first
                                | (refine step_appS Try.underlying31 infoRChg rfl (by decide) (by decide) rfl (.tmp 126) (.tmp 129) rfl U.heap.size ?_ (.slice (some ⟨U.heap.size, 0, none⟩) 0 0) 0 [] ?_ (own_new (q := U.heap.size) ?_ (Nat.le_refl _)) _ p _ (rcs (N.take p)) ?_ (HST.out _ ?_) HRT.out rcs_one (by omega) ?_
                                   · first | omega | (simp; omega) | (simp; done)
                                   · first | (simp [Act.eval]; done) | (simp [Act.eval, Act.put]; done)
                                   · first | exact heap_n0 _ _ | exact heap_n1 _ _ _
                                   · first | (simp [Act.eval]; done) | (simp [Act.eval, Act.put]; done)
                                   · repeat (first | exact Below.refl _ _ | refine Below.drew ?_ | refine Below.alloc ?_ (by simp) _)
                                   intro v5 W5 O5 G5
                                   have HP5 := dhid (ins_first (by repeat (first | exact Below.refl _ _ | refine Below.drew ?_ | refine Below.alloc ?_ (by simp) _)) HTL.out (Nat.le_refl _) O5 G5)
                                   have KS5 := KS.out W5 HP5.out.below
                                   first | (have HE5 := dhid (show Box4R W5 (U.heap.size + 1) y.1 from (G5.block (U.heap.size + 1) (by simp) (by simp [Value.ownBlock])).trans (heap_n2 _ _ _))) | skip
                                   clear O5 G5)
                                | (refine step_appS Try.underlying31 infoRChg rfl (by decide) (by decide) rfl (.tmp 126) (.tmp 129) rfl U.heap.size ?_ (.slice (some ⟨U.heap.size + 1, 0, none⟩) 0 0) 0 [] ?_ (own_new (q := U.heap.size + 1) ?_ (by omega)) _ p _ (rcs (N.take p)) ?_ (HST.out _ ?_) HRT.out rcs_one (by omega) ?_
                                   · first | omega | (simp; omega) | (simp; done)
                                   · first | (simp [Act.eval]; done) | (simp [Act.eval, Act.put]; done)
                                   · first | exact heap_n2 _ _ _
                                   · first | (simp [Act.eval]; done) | (simp [Act.eval, Act.put]; done)
                                   · repeat (first | exact Below.refl _ _ | refine Below.drew ?_ | refine Below.alloc ?_ (by simp) _)
                                   intro v5 W5 O5 G5
                                   have HP5 := dhid (ins_first (by repeat (first | exact Below.refl _ _ | refine Below.drew ?_ | refine Below.alloc ?_ (by simp) _)) HTL.out (by omega) O5 G5)
                                   have KS5 := KS.out W5 HP5.out.below
                                   have HE5' := dhid (show Box4R W5 U.heap.size y.1 from (G5.block U.heap.size (by simp; omega) (by simp [Value.ownBlock])).trans (heap_n1 _ _ _))
                                   clear O5 G5)
                                | (refine step_appS Try.underlying31 infoRChg rfl (by decide) (by decide) rfl (.tmp 130) (.tmp 132) rfl U.heap.size HP5.out.below.size v5 p (rcs (N.take p)) ?_ (own_at HP5.out HTL.out) _ 1 1 (rcC y.1) ?_ (box_src HE5.out) rfl rcC_one (by omega) ?_
                                   · first | (simp [Act.eval]; done) | (simp [Act.eval, Act.put]; done)
                                   · first | (simp [Act.eval]; done) | (simp [Act.eval, Act.put]; done)
                                   intro v7 W7 O7 G7
                                   have HP7 := dhid (ins_next (K := [(y.1, y.2)]) HP5.out HTL.out rfl (by simpa [rcs] using O7) G7)
                                   have KS7 := KS.out W7 HP7.out.below
                                   clear O7 G7 HP5 KS5)
                                | (refine step_appS Try.underlying31 infoRChg rfl (by decide) (by decide) rfl (.tmp 130) (.tmp 132) rfl U.heap.size HP5.out.below.size v5 p (rcs (N.take p)) ?_ (own_at HP5.out HTL.out) _ 1 1 (rcC y.1) ?_ (box_src HE5'.out) rfl rcC_one (by omega) ?_
                                   · first | (simp [Act.eval]; done) | (simp [Act.eval, Act.put]; done)
                                   · first | (simp [Act.eval]; done) | (simp [Act.eval, Act.put]; done)
                                   intro v7 W7 O7 G7
                                   have HP7 := dhid (ins_next (K := [(y.1, y.2)]) HP5.out HTL.out rfl (by simpa [rcs] using O7) G7)
                                   have KS7 := KS.out W7 HP7.out.below
                                   clear O7 G7 HP5 KS5)
                                | (refine step_appS Try.underlying31 infoRChg rfl (by decide) (by decide) rfl (.tmp 130) (.tmp 132) rfl U.heap.size (by have := HP5.out.below.size; simp; omega) v5 p (rcs (N.take p)) ?_ (own_at (HP5.out.on (below_alloc W5 _)) HTL.out) _ 1 1 (rcC y.1) ?_ (box_src (show Box4R (W5.alloc _) W5.heap.size y.1 from go_heap_new _ _)) rfl rcC_one (by omega) ?_
                                   · first | (simp [Act.eval]; done) | (simp [Act.eval, Act.put]; done)
                                   · first | (simp [Act.eval]; done) | (simp [Act.eval, Act.put]; done)
                                   intro v7 W7 O7 G7
                                   have HP7 := dhid (ins_next (K := [(y.1, y.2)]) (HP5.out.on (below_alloc W5 _)) HTL.out rfl (by simpa [rcs] using O7) G7)
                                   have KS7 := KS.out W7 HP7.out.below
                                   clear O7 G7 HP5 KS5)
                                | (refine step_appS Try.underlying31 infoRChg rfl (by decide) (by decide) rfl (.tmp 133) (.tmp 136) rfl U.heap.size HP7.out.below.size v7 (p + 1) (rcs (N.take p ++ [(y.1, y.2)])) ?_ (own_at HP7.out HTL7.out) _ (M - p) _ (rcs (N.drop p)) ?_ (HSD.out _ HP7.out.below) HRD.out rcs_one (by omega) ?_
                                   · first | (simp [Act.eval]; done) | (simp [Act.eval, Act.put]; done)
                                   · first | (simp [Act.eval]; done) | (simp [Act.eval, Act.put]; done)
                                   intro v9 W9 O9 G9
                                   have HP9 := dhid (ins_next HP7.out HTL7.out HDL.out O9 G9)
                                   have KS9 := KS.out W9 HP9.out.below
                                   clear O9 G9 HP7 KS7))
                            all_goals
                              clear KS9
                              go_wp2
                              exact ⟨⟨k + 1, _, by omega, by go_num, HFIN.out v9 W9 HP9.out⟩, by simp [intOf]; omega⟩
                        · have hMp : M = p := by omega
                          subst hMp
                          clear own
                          go_wp2_with fail
                          go_quiet (rfl)
                          go_wp2_with fail
                          refine to_letter (F := fun W => Below V3.heap.size V3 W) (below_drewN HP.out.2 _) ?_
                          intro U hU
                          have KS : Hid (∀ W, Below U.heap.size U W → W.cell? ⟨A, 0, none⟩ = some (.string y.1.t) ∧ W.cell? ⟨A, 1, none⟩ = some (.int .i64 y.1.id) ∧ W.cell? ⟨A, 2, none⟩ = some (.slice y.1.oa y.1.ol y.1.oc) ∧ W.cell? ⟨A, 3, none⟩ = some (.slice y.1.na y.1.nl y.1.nc)) := fun W hW => HKSg.out W (below_on hU hW hU.size)
                          have HOW : Hid (∀ W, Below U.heap.size U W → W.ownsRow w.heap.size 30 4 (.slice (some ⟨g, 0, none⟩) M c3) M (rcs N)) := fun W hW => HOWg.out W (below_on hU hW hU.size)
                          have HST : Hid (∀ W, Below U.heap.size U W → Src W (some ⟨g, 0, none⟩) M c3 (rcs (N.take M))) := fun W hW => src_take (HOW.out W hW) (by omega)
                          have HFIN : Hid (∀ v9 W9, PlW U v9 (N.take M ++ [(y.1, y.2)] ++ N.drop M) W9 → PlW w v9 (N.take M ++ [(y.1, y.2)] ++ N.drop M) W9 ∧ AllM w (N.take M ++ [(y.1, y.2)] ++ N.drop M) ∧ NetI (l.map (·.2)) (k + 1) ((N.take M ++ [(y.1, y.2)] ++ N.drop M).map (·.2))) := fun v9 W9 h9 => HFINg.out U hU v9 W9 h9
                          have HSD : Hid (∀ W, Below U.heap.size U W → Src W (some ⟨g, M * 4, none⟩) (M - M) (c3 - M) (rcs (N.drop M))) := fun W hW => src_drop (HOW.out W hW)
                          go_region_held_law (fun w' => w'.cell? ⟨A, 0, none⟩ = some (.string y.1.t) ∧ w'.cell? ⟨A, 1, none⟩ = some (.int .i64 y.1.id) ∧ w'.cell? ⟨A, 2, none⟩ = some (.slice y.1.oa y.1.ol y.1.oc) ∧ w'.cell? ⟨A, 3, none⟩ = some (.slice y.1.na y.1.nl y.1.nc)) (first | assumption | exact KS.out _ (by repeat (first | exact Below.refl _ _ | exact HP5.out.below | refine Below.drew ?_ | refine Below.alloc ?_ (by first | (simp; done) | (exact HP5.out.below.size)) _)))
                            (first
                              | (refine step_appS Try.underlying31 infoRChg rfl (by decide) (by decide) rfl (.tmp 126) (.tmp 129) rfl U.heap.size ?_ (.slice (some ⟨U.heap.size, 0, none⟩) 0 0) 0 [] ?_ (own_new (q := U.heap.size) ?_ (Nat.le_refl _)) _ M _ (rcs (N.take M)) ?_ (HST.out _ ?_) HRT.out rcs_one (by omega) ?_
                                 · first | omega | (simp; omega) | (simp; done)
                                 · first | (simp [Act.eval]; done) | (simp [Act.eval, Act.put]; done)
                                 · first | exact heap_n0 _ _ | exact heap_n1 _ _ _
                                 · first | (simp [Act.eval]; done) | (simp [Act.eval, Act.put]; done)
                                 · repeat (first | exact Below.refl _ _ | refine Below.drew ?_ | refine Below.alloc ?_ (by simp) _)
                                 intro v5 W5 O5 G5
                                 have HP5 := dhid (ins_first (by repeat (first | exact Below.refl _ _ | refine Below.drew ?_ | refine Below.alloc ?_ (by simp) _)) HTL.out (Nat.le_refl _) O5 G5)
                                 have KS5 := KS.out W5 HP5.out.below
                                 first | (have HE5 := dhid (show Box4R W5 (U.heap.size + 1) y.1 from (G5.block (U.heap.size + 1) (by simp) (by simp [Value.ownBlock])).trans (heap_n2 _ _ _))) | skip
                                 clear O5 G5)
                              | (refine step_appS Try.underlying31 infoRChg rfl (by decide) (by decide) rfl (.tmp 126) (.tmp 129) rfl U.heap.size ?_ (.slice (some ⟨U.heap.size + 1, 0, none⟩) 0 0) 0 [] ?_ (own_new (q := U.heap.size + 1) ?_ (by omega)) _ M _ (rcs (N.take M)) ?_ (HST.out _ ?_) HRT.out rcs_one (by omega) ?_
                                 · first | omega | (simp; omega) | (simp; done)
                                 · first | (simp [Act.eval]; done) | (simp [Act.eval, Act.put]; done)
                                 · first | exact heap_n2 _ _ _
                                 · first | (simp [Act.eval]; done) | (simp [Act.eval, Act.put]; done)
                                 · repeat (first | exact Below.refl _ _ | refine Below.drew ?_ | refine Below.alloc ?_ (by simp) _)
                                 intro v5 W5 O5 G5
                                 have HP5 := dhid (ins_first (by repeat (first | exact Below.refl _ _ | refine Below.drew ?_ | refine Below.alloc ?_ (by simp) _)) HTL.out (by omega) O5 G5)
                                 have KS5 := KS.out W5 HP5.out.below
                                 have HE5' := dhid (show Box4R W5 U.heap.size y.1 from (G5.block U.heap.size (by simp; omega) (by simp [Value.ownBlock])).trans (heap_n1 _ _ _))
                                 clear O5 G5)
                              | (refine step_appS Try.underlying31 infoRChg rfl (by decide) (by decide) rfl (.tmp 130) (.tmp 132) rfl U.heap.size HP5.out.below.size v5 M (rcs (N.take M)) ?_ (own_at HP5.out HTL.out) _ 1 1 (rcC y.1) ?_ (box_src HE5.out) rfl rcC_one (by omega) ?_
                                 · first | (simp [Act.eval]; done) | (simp [Act.eval, Act.put]; done)
                                 · first | (simp [Act.eval]; done) | (simp [Act.eval, Act.put]; done)
                                 intro v7 W7 O7 G7
                                 have HP7 := dhid (ins_next (K := [(y.1, y.2)]) HP5.out HTL.out rfl (by simpa [rcs] using O7) G7)
                                 have KS7 := KS.out W7 HP7.out.below
                                 clear O7 G7 HP5 KS5)
                              | (refine step_appS Try.underlying31 infoRChg rfl (by decide) (by decide) rfl (.tmp 130) (.tmp 132) rfl U.heap.size HP5.out.below.size v5 M (rcs (N.take M)) ?_ (own_at HP5.out HTL.out) _ 1 1 (rcC y.1) ?_ (box_src HE5'.out) rfl rcC_one (by omega) ?_
                                 · first | (simp [Act.eval]; done) | (simp [Act.eval, Act.put]; done)
                                 · first | (simp [Act.eval]; done) | (simp [Act.eval, Act.put]; done)
                                 intro v7 W7 O7 G7
                                 have HP7 := dhid (ins_next (K := [(y.1, y.2)]) HP5.out HTL.out rfl (by simpa [rcs] using O7) G7)
                                 have KS7 := KS.out W7 HP7.out.below
                                 clear O7 G7 HP5 KS5)
                              | (refine step_appS Try.underlying31 infoRChg rfl (by decide) (by decide) rfl (.tmp 130) (.tmp 132) rfl U.heap.size (by have := HP5.out.below.size; simp; omega) v5 M (rcs (N.take M)) ?_ (own_at (HP5.out.on (below_alloc W5 _)) HTL.out) _ 1 1 (rcC y.1) ?_ (box_src (show Box4R (W5.alloc _) W5.heap.size y.1 from go_heap_new _ _)) rfl rcC_one (by omega) ?_
                                 · first | (simp [Act.eval]; done) | (simp [Act.eval, Act.put]; done)
                                 · first | (simp [Act.eval]; done) | (simp [Act.eval, Act.put]; done)
                                 intro v7 W7 O7 G7
                                 have HP7 := dhid (ins_next (K := [(y.1, y.2)]) (HP5.out.on (below_alloc W5 _)) HTL.out rfl (by simpa [rcs] using O7) G7)
                                 have KS7 := KS.out W7 HP7.out.below
                                 clear O7 G7 HP5 KS5)
                              | (refine step_appS Try.underlying31 infoRChg rfl (by decide) (by decide) rfl (.tmp 133) (.tmp 136) rfl U.heap.size HP7.out.below.size v7 (M + 1) (rcs (N.take M ++ [(y.1, y.2)])) ?_ (own_at HP7.out HTL7.out) _ (M - M) _ (rcs (N.drop M)) ?_ (HSD.out _ HP7.out.below) HRD.out rcs_one (by omega) ?_
                                 · first | (simp [Act.eval]; done) | (simp [Act.eval, Act.put]; done)
                                 · first | (simp [Act.eval]; done) | (simp [Act.eval, Act.put]; done)
                                 intro v9 W9 O9 G9
                                 have HP9 := dhid (ins_next HP7.out HTL7.out HDL.out O9 G9)
                                 have KS9 := KS.out W9 HP9.out.below
                                 clear O9 G9 HP7 KS7))
                          all_goals
                            clear KS9
                            go_wp2
                            exact ⟨⟨k + 1, _, by omega, by go_num, HFIN.out v9 W9 HP9.out⟩, by simp [intOf]; omega⟩
                · have hkk : kk = 0 := beq_iff_eq.1 hk0
                  subst hkk
                  go_wp2
                  refine ⟨⟨k + 1, N, by omega, by go_num, HV3.out.1, HW.out.2.1, HW.out.2.2.same (x := x.2) (by rw [List.getElem?_map, HX.out]; rfl) HF0.out HLN.out (HKZ.out.1 (by first | rfl | trivial))⟩, by simp [intOf]; omega⟩
    · have hjn : j = n := by omega
      subst hjn
      obtain ⟨a3, k3, rfl⟩ := owns_slice HW.out.1.own
      go_wp2
      go_ret
      refine ⟨_, rfl, N, HW.out.1, HW.out.2.1, ?_⟩
      have h := HW.out.2.2
      rw [← HL.out, ← List.length_map (f := fun x : PC => x.2)] at h
      exact h.done
end Go.Proofs.Ytmcbpopeinabcaa
