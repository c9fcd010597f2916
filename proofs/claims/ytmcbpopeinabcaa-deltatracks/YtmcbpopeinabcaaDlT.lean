/-
  DeltaTurns: its walk.
-/
import Derived.Laws.OwnMore
import Derived.Test.YtmcbpopeinabcaaDlO
namespace Go.Proofs.Ytmcbpopeinabcaa
open Go.RowKit

theorem bytesLess_lt (x : List UInt8) : ∀ y, Op.bytesLess x y = decide (x < y) := by
  induction x with
  | nil => intro y; cases y <;> simp [Op.bytesLess]
  | cons a x ih =>
    intro y
    cases y with
    | nil => simp [Op.bytesLess]
    | cons b y =>
      rw [Op.bytesLess, ih, Bool.eq_iff_iff]
      simp [List.cons_lt_cons_iff]

theorem less_asymm {x y : List UInt8} (h : x < y) : Op.bytesLess y x = false := by
  rw [bytesLess_lt]; exact decide_eq_false fun k => List.lt_irrefl x (List.lt_trans h k)

theorem less_irrefl (x : List UInt8) : Op.bytesLess x x = false := by
  rw [bytesLess_lt]; exact decide_eq_false (List.lt_irrefl x)

def turnP (x : PC) : PC := (⟨x.1.t, x.1.id, x.1.na, x.1.nl, x.1.nc, x.1.oa, x.1.ol, x.1.oc⟩, x.2.turn)

theorem turn_means {W : World} {x : PC} (h : Means W x.1 x.2) : Means W (turnP x).1 (turnP x).2 := ⟨h.t, h.id, h.nl, h.ol, h.nb, h.ob, h.n, h.o, h.nc, h.oc, h.tb, h.ib⟩

/-- The changes and those turned round so far. -/
structure BothW (w : World) (L : List PC) (j : Nat) (v : Value) (W : World) : Prop where
  below : Below w.heap.size w W
  own : W.ownsRow w.heap.size 27 4 v (L.length + j) (rcs (L ++ ((L.drop (L.length - j)).map turnP).reverse))

theorem both_step {L : List PC} {j : Nat} {x : PC} (hj : j < L.length) (hx : L[L.length - 1 - j]? = some x) : L ++ ((L.drop (L.length - (j + 1))).map turnP).reverse = (L ++ ((L.drop (L.length - j)).map turnP).reverse) ++ [turnP x] := by
  have e : L.drop (L.length - (j + 1)) = x :: L.drop (L.length - j) := by
    obtain ⟨hi, rfl⟩ := List.getElem?_eq_some_iff.1 hx
    have e1 : L.length - (j + 1) = L.length - 1 - j := by omega
    have e2 : L.length - j = L.length - 1 - j + 1 := by omega
    rw [e1, e2]
    exact List.drop_eq_getElem_cons hi
  rw [e, List.map_cons, List.reverse_cons, List.append_assoc]

theorem both_len (L : List PC) {j : Nat} (hj : j ≤ L.length) : (L ++ ((L.drop (L.length - j)).map turnP).reverse).length = L.length + j := by
  simp; omega

theorem owns_src {W : World} {base e size : Nat} {a : Option Addr} {n c : Nat} {xs : List Value} (h : W.ownsRow base e size (.slice a n c) n xs) : Src W a n c xs := by
  rcases h.2 with ⟨e, h0⟩ | ⟨g, cap, cur, e, hg, hb, _⟩
  · injection e with e1 e2 e3
    subst e1; subst e3; subst h0
    exact Or.inl ⟨rfl, rfl, rfl, List.eq_nil_of_length_eq_zero (by simpa using h.1)⟩
  · injection e with e1 e2 e3
    subst e1; subst e3
    exact Or.inr ⟨_, rfl, fun j u hu => World.ownsRow.cells h rfl j u hu⟩

theorem both_first {w W W5 : World} {L : List PC} {v5 : Value} {n : Nat} (hn : L.length = n) (hb : Below w.heap.size w W) (O : W5.ownsRow w.heap.size 27 4 v5 n (rcs L)) (G : W.grownBy W5 (some w.heap.size)) : BothW w L 0 v5 W5 := by
  refine ⟨hb.grown G hb.size fun k hk => ?_, ?_⟩
  · cases hk; exact Nat.le_refl _
  · subst hn
    simpa using O

theorem BothW.next {w W1 Wx W' : World} {L : List PC} {j : Nat} {v v' : Value} {x : PC} (h : BothW w L j v W1) (hB : Below W1.heap.size W1 Wx) (hj : j < L.length) (hx : L[L.length - 1 - j]? = some x)
    (O : W'.ownsRow w.heap.size 27 4 v' (L.length + j + 1) (rcs (L ++ ((L.drop (L.length - j)).map turnP).reverse) ++ rcC ⟨x.1.t, x.1.id, x.1.na, x.1.nl, x.1.nc, x.1.oa, x.1.ol, x.1.oc⟩)) (G : Wx.grownBy W' v.ownBlock) : BothW w L (j + 1) v' W' := by
  refine ⟨(below_on h.below hB h.below.size).grown G (Nat.le_trans h.below.size hB.size) fun k hk => (h.own.lt k hk).1, ?_⟩
  rw [both_step hj hx, rcs_append]
  simpa [rcs, Nat.add_assoc, turnP] using O

theorem both_map (L : List PC) : (L ++ ((L.drop (L.length - L.length)).map turnP).reverse).map (·.2) = L.map (·.2) ++ (L.map (·.2.turn)).reverse := by
  rw [Nat.sub_self, List.drop_zero, List.map_append, List.map_reverse, List.map_map]; rfl

set_option maxRecDepth 100000 in
set_option maxHeartbeats 2000000 in
theorem turns_walk {l : List OpD} {a : Option Addr} {n c : Nat} {w : World} (h : OpsIn w a l) (hl : l.length = n) :
    Calls Try.prog 7 #[.slice a n c] w fun e w' => e = .returned (.bool true) ∧ Below w.heap.size w w' := by
  have HH := dhid h
  have HL := dhid hl
  clear h hl
  have hmk := fun W => run_makeMap (P := Try.prog) 42 W
  go_enter Try.func7, Try.ntmps7
  go_wp2_with fail
  refine (awake_walk w).mono ?_
  rintro e W1 ⟨rfl, B1⟩
  have HB1 := dhid B1
  have HFW := dhid (few_walk (c := c) (HH.out.below B1) HL.out)
  clear B1
  go_wp2_with fail
  refine HFW.out.mono ?_
  rintro e W2 ⟨bf, rfl, hf, B2⟩
  have HB2 := dhid (below_on HB1.out B2 HB1.out.size)
  clear B2 HFW HB1
  cases bf
  · go_wp2
    go_ret
    exact ⟨rfl, HB2.out⟩
  · have HF := dhid (hf rfl)
    have HC := dhid (made_changes (c := c) (HH.out.below HB2.out) HL.out HF.out)
    clear hf
    go_wp2_with fail
    refine HC.out.mono ?_
    rintro e W3 ⟨v3, rfl, M3⟩
    have HM3 := dhid M3
    have hll : (chgL [] l).length = n := by rw [chgL_length, HL.out]
    have hn : n ≤ 60 := by rw [← HL.out]; exact HF.out.1
    have HCH := dhid (chg_chain l [])
    have HTC := dhid (turns_chain l [])
    generalize hLe : chgL [] l = L at *
    clear hLe
    obtain ⟨a3, c3, e3⟩ := owns_slice M3.own
    rw [hll] at e3
    subst e3
    have HN := dhid (net_walk (c := c3) (M3.slc hll) M3.all hll (by omega))
    have HB3 := dhid (below_on HB2.out M3.below HB2.out.size)
    have HLL := dhid hll
    clear M3 HC HB2 hmk hll
    go_wp2_with fail
    refine HN.out.mono ?_
    rintro e W4 ⟨v4, rfl, N, hN, hi⟩
    have HNW := dhid hN
    have HD := dhid (HCH.out.net hi)
    have HM4 := dhid (HM3.out.on hN.below)
    have HB4 := dhid (below_on HB3.out hN.below HB3.out.size)
    have hNl : N.length ≤ 60 := by
      have h1 := hi.len
      simp [HLL.out] at h1
      omega
    clear hi hN HN HM3 HB3
    obtain ⟨a4, c4, rfl⟩ := owns_slice HNW.out.own
    obtain ⟨m, Hm⟩ : ∃ m, Hid (N.length = m) := ⟨_, rfl⟩
    rw [Hm.out] at hNl ⊢
    go_wp2_with fail
    go_loopw [20] (fun i wr => ∃ j : Nat, j ≤ m ∧ i = .int .i64 (j : Int) ∧ Hid (Below W4.heap.size W4 wr)) (fun i _ => m - (intOf i).toNat)
    case atStart => exact ⟨0, Nat.zero_le _, rfl, Below.refl _ _⟩
    case round =>
      obtain ⟨j, hj, rfl, HB⟩ := hrel
      by_cases hlt : j < m
      · obtain ⟨g, o, x, rfl, hb, hx, c0, c1, c2, c3⟩ := ((owns_slc HNW.out.own).2.1.below HB.out).at (j := j) (by rw [Hm.out]; exact hlt)
        have mx := HNW.out.all x (List.mem_of_getElem? hx)
        have HK := dhid (fun (q : BelowW wr) => kind_walk ((mx.below HB.out).below q.below))
        have hk0 : (x.2.kind == 0) = false := by
          rw [beq_eq_false_iff_ne]
          intro e
          obtain ⟨k, _, e2, hne⟩ := (HD.out.mem x.2).1 (List.mem_map_of_mem (List.mem_of_getElem? hx))
          unfold Chg.kind at e
          rw [kindL_zero] at e
          rw [e2] at e
          exact hne e
        generalize x.2.kind = kk at HK hk0
        have cq0 : ∀ q : BelowW wr, q.w.cell? ⟨g, o + j * 4, none⟩ = some (.string x.1.t) := fun q => (q.below.cell (p := ⟨g, o + j * 4, none⟩) hb).trans c0
        have cq1 : ∀ q : BelowW wr, q.w.cell? ⟨g, o + j * 4 + 1, none⟩ = some (.int .i64 x.1.id) := fun q => (q.below.cell (p := ⟨g, o + j * 4 + 1, none⟩) hb).trans c1
        have cq2 : ∀ q : BelowW wr, q.w.cell? ⟨g, o + j * 4 + 2, none⟩ = some (.slice x.1.oa x.1.ol x.1.oc) := fun q => (q.below.cell (p := ⟨g, o + j * 4 + 2, none⟩) hb).trans c2
        have cq3 : ∀ q : BelowW wr, q.w.cell? ⟨g, o + j * 4 + 3, none⟩ = some (.slice x.1.na x.1.nl x.1.nc) := fun q => (q.below.cell (p := ⟨g, o + j * 4 + 3, none⟩) hb).trans c3
        by_cases hj0 : j = 0
        · subst hj0
          clear c0 c1 c2 c3 mx hx
          simp only [Nat.zero_mul, Nat.add_zero] at cq0 cq1 cq2 cq3
          go_wp2_with fail
          refine wp_region_below (by kernel_rfl) (by kernel_rfl) (fun _ => ?_)
          repeat (go_big_quiet_step (first | rfl | (go_at_call 10; exact quiet_of_below (HK.out _))))
          refine wpQuiet_nil ?_
          rintro _ ⟨q, rfl⟩
          go_wp2
          exact ⟨⟨1, by omega, rfl, below_on HB.out q.below HB.out.size⟩, by simp [intOf]; omega⟩
        · obtain ⟨i, rfl⟩ : ∃ i, j = i + 1 := ⟨j - 1, by omega⟩
          obtain ⟨g', o', y, e', hb', hy, d0, d1, d2, d3⟩ := ((owns_slc HNW.out.own).2.1.below HB.out).at (j := i) (by rw [Hm.out]; omega)
          cases e'
          have my := HNW.out.all y (List.mem_of_getElem? hy)
          have hlt2 : keyLt y.1.key x.1.key := by
            have hp := HD.out.rise
            rw [List.pairwise_map, List.pairwise_iff_getElem] at hp
            obtain ⟨gi, ei⟩ := List.getElem?_eq_some_iff.1 hy
            obtain ⟨gj, ej⟩ := List.getElem?_eq_some_iff.1 hx
            have := hp i (i + 1) gi gj (by omega)
            rw [ei, ej] at this
            unfold Chg.key at this
            unfold RC.key
            rw [my.t, my.id, mx.t, mx.id]
            exact this
          have dq0 : ∀ q : BelowW wr, q.w.cell? ⟨g, o + i * 4, none⟩ = some (.string y.1.t) := fun q => (q.below.cell (p := ⟨g, o + i * 4, none⟩) hb).trans d0
          have dq1 : ∀ q : BelowW wr, q.w.cell? ⟨g, o + i * 4 + 1, none⟩ = some (.int .i64 y.1.id) := fun q => (q.below.cell (p := ⟨g, o + i * 4 + 1, none⟩) hb).trans d1
          clear c0 c1 c2 c3 d0 d1 d2 d3 mx my hx hy
          have hw : IntKind.i64.wrap (((i + 1 : Nat) : Int) - 1) = (i : Int) := by rw [IntKind.wrap_i64]; omega
          rcases hlt2 with h1 | ⟨h1, h2⟩
          · have hl1 := less_asymm h1
            have hl2 : (y.1.t.toList == x.1.t.toList) = false := beq_eq_false_iff_ne.2 fun e => by
              unfold RC.key at h1
              dsimp only at h1
              rw [e] at h1
              exact List.lt_irrefl _ h1
            have hl0 : Op.bytesLess y.1.t.toList x.1.t.toList = true := by rw [bytesLess_lt]; exact decide_eq_true h1
            unfold RC.key at hl1
            dsimp only at hl1
            clear h1
            go_wp2_with fail
            refine wp_region_below (by kernel_rfl) (by kernel_rfl) (fun _ => ?_)
            repeat (go_big_quiet_step (first | rfl | (go_at_call 10; exact quiet_of_below (HK.out _))))
            refine wpQuiet_nil ?_
            rintro _ ⟨q, rfl⟩
            go_wp2
            exact ⟨⟨i + 1 + 1, by omega, by go_num, below_on HB.out q.below HB.out.size⟩, by simp [intOf]; omega⟩
          · unfold RC.key at h1 h2
            dsimp only at h1 h2
            have hyx : y.1.t = x.1.t := bytes_ext h1
            rw [hyx] at dq0
            have hl1 := less_irrefl x.1.t.toList
            have hl2 : (x.1.t.toList == x.1.t.toList) = true := beq_self_eq_true _
            have hl3 : ¬ x.1.id ≤ y.1.id := by omega
            have hl4 : decide (x.1.id ≤ y.1.id) = false := decide_eq_false hl3
            clear h1 h2 hyx
            go_wp2_with fail
            refine wp_region_below (by kernel_rfl) (by kernel_rfl) (fun _ => ?_)
            repeat (go_big_quiet_step (first | rfl | (go_at_call 10; exact quiet_of_below (HK.out _))))
            refine wpQuiet_nil ?_
            rintro _ ⟨q, rfl⟩
            go_wp2
            exact ⟨⟨i + 1 + 1, by omega, by go_num, below_on HB.out q.below HB.out.size⟩, by simp [intOf]; omega⟩
      · have hjm : j = m := by omega
        subst hjm
        refine to_letter (F := fun W => Below W4.heap.size W4 W) HB.out ?_
        clear HB
        intro V hV
        have HB := dhid hV
        clear hV
        have HM5 := dhid (HM4.out.on HB.out)
        have HB5 := dhid (below_on HB4.out HB.out HB4.out.size)
        clear HM4 HB4 HNW HD HB
        have HS5 : Hid (∀ o, Src (V.alloc o) a3 n c3 (rcs L)) := fun o => owns_src (base := W2.heap.size) (e := 27) (size := 4) (by have h := (HM5.out.on (below_alloc V o)).own; rwa [HLL.out] at h)
        have hrl : (rcs L).length = n * 4 := by rw [rcs_length, HLL.out]
        have HNEW := dhid (World.ownsRow_lit (base := V.heap.size) (e := 27) (size := 4) V #[] 0 (Nat.le_refl _) (by unfold maxLen; omega) (by simp))
        go_wp2_with (first | (at_builtin; refine append_src Try.underlying22 infoChg rfl (by decide) (by decide) rfl _ _ rfl V.heap.size (by simp) _ 0 [] rfl HNEW.out a3 n c3 (rcs L) rfl (HS5.out _) hrl rcs_one (by omega) ?_) | go_in)
        intro v6 W6 O6 G6 A6
        have HBW := dhid (both_first HLL.out (below_alloc V _) O6 G6)
        have HM6 := dhid (fun W (hW : Below V.heap.size V W) => HM5.out.on hW)
        clear O6 G6 A6 HS5 HNEW hrl
        go_wp2
        go_loopw [6, 7] (fun s i wr => ∃ (j : Nat) (z : Int), j ≤ n ∧ i = .int .i64 z ∧ Hid (z = (n : Int) - 1 - j) ∧ Hid (BothW V L j s wr)) (fun _ i _ => (intOf i + 1).toNat)
        case atStart => exact ⟨0, (n : Int) - 1, Nat.zero_le _, by go_num, by show _ = _; omega, HBW⟩
        case round =>
          obtain ⟨i, z, hin, rfl, HZ, HW⟩ := hrel
          by_cases hlt : i < n
          · obtain ⟨k, hk⟩ : ∃ k : Nat, k = n - 1 - i := ⟨_, rfl⟩
            have hz : z = (k : Int) := by have := HZ.out; omega
            subst hz
            have hkn : k < n := by omega
            obtain ⟨g, o, x, rfl, hb, hx, c0, c1, c2, c3⟩ := ((HM6.out _ HW.out.below).slc HLL.out).at (j := k) (by rw [HLL.out]; exact hkn)
            have HK : Hid (k = n - 1 - i) := hk
            have HX := dhid hx
            obtain ⟨a7, k7, e7⟩ := owns_slice HW.out.own
            rw [HLL.out] at e7
            subst e7
            clear hk hx
            have KS : Hid (∀ W, Below wr.heap.size wr W → W.cell? ⟨g, o + k * 4, none⟩ = some (.string x.1.t) ∧ W.cell? ⟨g, o + k * 4 + 1, none⟩ = some (.int .i64 x.1.id) ∧ W.cell? ⟨g, o + k * 4 + 2, none⟩ = some (.slice x.1.oa x.1.ol x.1.oc) ∧ W.cell? ⟨g, o + k * 4 + 3, none⟩ = some (.slice x.1.na x.1.nl x.1.nc)) := fun W hW =>
              ⟨(hW.cell (p := ⟨g, o + k * 4, none⟩) hb).trans c0, (hW.cell (p := ⟨g, o + k * 4 + 1, none⟩) hb).trans c1, (hW.cell (p := ⟨g, o + k * 4 + 2, none⟩) hb).trans c2, (hW.cell (p := ⟨g, o + k * 4 + 3, none⟩) hb).trans c3⟩
            have HOW : Hid (∀ W, Below wr.heap.size wr W → W.ownsRow V.heap.size 27 4 (.slice a7 (n + i) k7) (n + i) (rcs (L ++ ((L.drop (n - i)).map turnP).reverse))) := fun W hW => by
              have h := owns_below HW.out.own fun q hq => hW.block q (HW.out.own.lt q hq).2
              rwa [HLL.out] at h
            have HA := dhid (fun Wx W' v' hB O G => BothW.next (W' := W') (v' := v') HW.out (Wx := Wx) hB (by rw [HLL.out]; exact hlt) (by rw [HLL.out, ← HK.out]; exact HX.out) O G)
            rw [HLL.out] at HA
            have hzq : V.heap.size ≤ wr.heap.size := HW.out.below.size
            have HG : Hid (∀ Wx W', Below wr.heap.size wr Wx → Wx.grownBy W' (Value.slice a7 (n + i) k7).ownBlock → W'.cell? ⟨g, o + k * 4, none⟩ = some (.string x.1.t) ∧ W'.cell? ⟨g, o + k * 4 + 1, none⟩ = some (.int .i64 x.1.id) ∧ W'.cell? ⟨g, o + k * 4 + 2, none⟩ = some (.slice x.1.oa x.1.ol x.1.oc) ∧ W'.cell? ⟨g, o + k * 4 + 3, none⟩ = some (.slice x.1.na x.1.nl x.1.nc)) := fun Wx W' hB G => by
              have hgw : g < V.heap.size := (HM5.out.own.lt g rfl).2
              have e : W'.heap[g]? = Wx.heap[g]? := G.block g (Nat.lt_of_lt_of_le hb hB.size) fun e => by
                have := ((HOW.out Wx hB).lt g e.symm).1
                omega
              have ec := fun i => World.cell?_of_block (w := Wx) (w' := W') (a := ⟨g, i, none⟩) e
              obtain ⟨k0, k1, k2, k3⟩ := KS.out Wx hB
              exact ⟨(ec _).trans k0, (ec _).trans k1, (ec _).trans k2, (ec _).trans k3⟩
            clear HM6 HW
            go_wp2_with fail
            go_region_held_law (fun w' => w'.cell? ⟨g, o + k * 4, none⟩ = some (.string x.1.t) ∧ w'.cell? ⟨g, o + k * 4 + 1, none⟩ = some (.int .i64 x.1.id) ∧ w'.cell? ⟨g, o + k * 4 + 2, none⟩ = some (.slice x.1.oa x.1.ol x.1.oc) ∧ w'.cell? ⟨g, o + k * 4 + 3, none⟩ = some (.slice x.1.na x.1.nl x.1.nc)) (first | assumption | exact KS.out _ (by repeat (first | exact Below.refl _ _ | refine Below.drew ?_ | refine Below.alloc ?_ (by simp) _)))
              (first
                | (refine step_app Try.underlying22 infoChg rfl (by decide) (by decide) rfl (.tmp 86) (.tmp 108) rfl V.heap.size ?_ (.slice a7 (n + i) k7) (n + i) (rcs (L ++ ((L.drop (n - i)).map turnP).reverse)) ?_ (HOW.out _ ?_) ⟨wr.heap.size, 0, none⟩ 1 1 (rcC ⟨x.1.t, x.1.id, x.1.na, x.1.nl, x.1.nc, x.1.oa, x.1.ol, x.1.oc⟩) ?_ (new_cellsD _ _ ⟨x.1.t, x.1.id, x.1.na, x.1.nl, x.1.nc, x.1.oa, x.1.ol, x.1.oc⟩ ?_) rfl rcC_one (by omega) ?_
                   · first | omega | (simp; omega) | (simp; done)
                   · first | (simp [Act.eval]; done) | (simp [Act.eval, Act.put]; done)
                   · repeat (first | exact Below.refl _ _ | refine Below.drew ?_ | refine Below.alloc ?_ (by simp) _)
                   · first | (simp [Act.eval]; done) | (simp [Act.eval, Act.put]; done)
                   · first | (simp; done) | rfl
                   intro v8 W8 O8 G8
                   have HC8 := dhid (HA.out _ W8 v8 (by repeat (first | exact Below.refl _ _ | refine Below.drew ?_ | refine Below.alloc ?_ (by simp) _)) O8 G8)
                   have KS8 := HG.out _ W8 (by repeat (first | exact Below.refl _ _ | refine Below.drew ?_ | refine Below.alloc ?_ (by simp) _)) G8
                   clear O8 G8))
            clear KS8
            go_wp2
            refine ⟨⟨i + 1, (k : Int) - 1, by omega, by go_num, by show _ = _; have := HK.out; omega, HC8⟩, by simp [intOf]⟩
          · have hiz : i = n := by omega
            subst hiz
            have hz : z = -1 := by have := HZ.out; omega
            subst hz
            have HBL := HW.out.own
            rw [HLL.out, Nat.sub_self, List.drop_zero] at HBL
            obtain ⟨a7, k7, rfl⟩ := owns_slice HBL
            have hbl : (L ++ (L.map turnP).reverse).length = i + i := by simp [HLL.out]
            rw [← hbl] at HBL
            have hall : AllM wr (L ++ (L.map turnP).reverse) := fun y hy => by
              rcases List.mem_append.1 hy with hy | hy
              · exact (HM6.out _ HW.out.below).all y hy
              · rw [List.mem_reverse] at hy
                obtain ⟨y0, hy0, rfl⟩ := List.mem_map.1 hy
                exact turn_means ((HM6.out _ HW.out.below).all y0 hy0)
            have hsl := (owns_slc HBL).2.1
            have HNT := dhid (net_walk (c := k7) (w := wr) hsl hall rfl (by omega))
            rw [hbl] at HNT
            have HBT := dhid (below_on HB5.out HW.out.below HB5.out.size)
            have HCC := HCH.out.app HTC.out
            have HCD : Hid (∀ N : List PC, IsNet ((L ++ (L.map turnP).reverse).map (·.2)) (N.map (·.2)) → N = []) := fun N hN => by
              have e : (L ++ (L.map turnP).reverse).map (·.2) = L.map (·.2) ++ (L.map (·.2.turn)).reverse := by
                rw [List.map_append, List.map_reverse, List.map_map]; rfl
              rw [e] at hN
              exact List.map_eq_nil_iff.1 (HCC.net hN).none
            clear hall hsl HBL HM6 HW HCC HCH HTC
            go_wp2_with fail
            refine HNT.out.mono ?_
            rintro e W9 ⟨v9, rfl, N9, hN9, hi9⟩
            have h9 := HCD.out N9 hi9
            subst h9
            obtain ⟨a9, k9, rfl⟩ := owns_slice hN9.own
            have HB9 := dhid (below_on HBT.out hN9.below HBT.out.size)
            clear hN9 hi9
            go_wp2
            go_ret
            exact ⟨rfl, HB9.out⟩
end Go.Proofs.Ytmcbpopeinabcaa
