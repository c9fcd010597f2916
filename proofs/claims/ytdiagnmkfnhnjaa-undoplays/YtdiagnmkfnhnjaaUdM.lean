/-
  Undo: the document's log: To.
-/
import Derived.Deep.RegionHeldLaw
import Derived.Deep.CutRange
import Derived.Test.YtdiagnmkfnhnjaaUdL
namespace Go.Proofs.Ytdiagnmkfnhnjaa
open Go.RowKit Rw

/-- While To takes items off. -/
structure RtI (B d q n : Nat) (D : List DI) (j : Nat) (v s : Value) (w W : World) : Prop where
  dl : DLg B d q v (D.take j) W
  out : W.ownsRow w.heap.size 40 5 s (ens (D.drop j)).length (flat peC (ens (D.drop j)).reverse)
  below : Below B w W
  keeps : KeepsD d w W
  stop : j = D.length ∨ n < (ens (D.take (j + 1))).length
  le : j ≤ D.length

/-- The log's list is cut by one cell's store. -/
theorem dlg_cut {B d q i j c : Nat} {a : Option Addr} {D : List DI} {W : World} (h : DLg B d q (.slice a j c) D W) (hi : i ≤ D.length) : DLg B d q (.slice a i c) (D.take i) (W.setCell ⟨d, 1, none⟩ (.slice a i c)) := by
  have ho := h.own
  obtain ⟨a', c', e⟩ := owns_slice ho
  cases e
  refine ⟨?_, h.base, ?_⟩
  · rw [heap_setCell_same _ _ _ _ _ _ h.box]; rfl
  · rw [List.length_take, Nat.min_eq_left hi]
    refine owns_below (own_take diC_len ho hi) fun p hp => heap_setCell_other _ _ _ _ ?_
    rintro rfl
    exact owns_far (own_take diC_len ho hi) h.box (by decide) hp

theorem RtI.turn {B d q n : Nat} {D : List DI} {i c : Nat} {a : Option Addr} {s' : Value} {w W : World} (h : DLg B d q (.slice a (i + 1) c) (D.take (i + 1)) W) (o : W.ownsRow w.heap.size 40 5 s' (ens (D.drop i)).length (flat peC (ens (D.drop i)).reverse)) (b : Below B w W) (k : KeepsD d w W) (hi : i < D.length) (hm : n < (ens (D.take (i + 1))).length) (hd : d < w.heap.size) :
    RtI B d q n D i (.slice a i c) s' w (W.setCell ⟨d, 1, none⟩ (.slice a i c)) := by
  have e : (D.take (i + 1)).take i = D.take i := by rw [List.take_take, Nat.min_eq_left (by omega)]
  have h1 := dlg_cut h (i := i) (by rw [List.length_take]; omega)
  rw [e] at h1
  refine ⟨h1, owns_below o fun p hp => heap_setCell_other _ _ _ _ (fun e => ?_), b.setCell h.base _, fun p hp hpd => ?_, Or.inr hm, by omega⟩
  · have := (o.lt p hp).1
    have e' : p = d := e
    omega
  · rw [heap_setCell_other _ _ _ _ hpd, k p hp hpd]

theorem KeepsD.on {d : Nat} {w W W' : World} (h : KeepsD d w W) (hs : w.heap.size ≤ W.heap.size) (hb : Below W.heap.size W W') : KeepsD d w W' := fun b hlt hne => (hb.block b (by omega)).trans (h b hlt hne)

theorem RtI.drew {B d q n : Nat} {D : List DI} {j : Nat} {v s : Value} {w W : World} (h : RtI B d q n D j v s w W) : RtI B d q n D j v s w W.drew := ⟨h.dl.on (Below.refl _ _).drew, h.out, h.below.drew, h.keeps, h.stop, h.le⟩

theorem ens_drop {D : List DI} {i : Nat} {x : DI} (hx : D[i]? = some x) : (x.b = true → ens (D.drop i) = ens (D.drop (i + 1))) ∧ (x.b = false → ens (D.drop i) = x.p :: ens (D.drop (i + 1))) := by
  rw [drop_at hx]
  constructor
  · intro hb; simp only [ens, hb, if_true]
  · intro hb; simp only [ens, hb, Bool.false_eq_true, if_false]

set_option linter.unusedSimpArgs false in
set_option maxRecDepth 100000 in
set_option maxHeartbeats 2000000 in
theorem rto_walk {B d q n : Nat} {v : Value} {D : List DI} {m : Int} {w : World} (h : DLg B d q v D w) (hm : max m 0 = (n : Int)) (hn : D.length ≤ 100000) :
    Calls Try.prog 18 #[.pointer (some ⟨d, 0, none⟩), .int .i64 m] w fun e w' => ∃ vt, e = .returned vt ∧ ∃ j v', ToJ D n j ∧ w'.ownsRow w.heap.size 40 5 vt (ens (D.drop j)).length (flat peC (ens (D.drop j)).reverse) ∧ DocO B d q v' (D.take j) w w' := by
  have hd := h.lt
  have HH := dhid h
  have HT : Hid (D.take D.length = D) := List.take_length
  have HDR : Hid (D.drop D.length = []) := List.drop_length
  clear h
  go_enter Try.func18, Try.ntmps18
  go_upto_if 8 with fail
  go_cut [1] from 7 to 8 (fun s wx => s = .int .i64 (n : Int) ∧ wx = w)
  case first =>
    by_cases hm0 : m < 0
    · have e0 : (n : Int) = 0 := by omega
      go_wp2_with fail
      go_meet
      case rel => exact ⟨by rw [e0], rfl⟩
    · have e0 : (n : Int) = m := by omega
      go_wp2_with fail
      go_meet
      case rel => exact ⟨by rw [e0], rfl⟩
  case rest =>
  obtain ⟨hs1, rfl⟩ := hcut
  subst hs1
  clear hm
  have HL := dhid (rlen_walk HH.out hn)
  go_wp2_with fail
  refine HL.out.mono ?_
  rintro e w1 ⟨rfl, rfl⟩
  have hle : (ens D).length ≤ 100000 := Nat.le_trans (ens_len D) hn
  by_cases hbig : (ens D).length < n
  · have hbig' : ((ens D).length : Int) < (n : Int) := by omega
    have HF : Hid (∃ j v', ToJ D n j ∧ w1.ownsRow w1.heap.size 40 5 (.slice none 0 0) (ens (D.drop j)).length (flat peC (ens (D.drop j)).reverse) ∧ DocO B d q v' (D.take j) w1 w1) := by
      refine ⟨D.length, v, ⟨Nat.le_refl _, by rw [HT.out]; omega, Or.inl rfl⟩, ?_, ?_⟩
      · rw [HDR.out]; exact World.ownsRow_nil _ _ _ _
      · rw [HT.out]; exact ⟨HH.out, Below.refl _ _, fun _ _ _ => rfl⟩
    generalize (ens D).length = M at *
    go_wp2
    go_ret
    exact ⟨_, rfl, HF.out⟩
  · have hbig' : ¬ ((ens D).length : Int) < (n : Int) := by omega
    have HI0 : Hid (∀ o : Obj, o = .cells #[] 40 (0, 0) → RtI B d q n D D.length v (.slice (some ⟨w1.heap.size, 0, none⟩) 0 0) w1 (w1.alloc o)) := fun o ho => by
      subst ho
      refine ⟨by rw [HT.out]; exact HH.out.on (below_alloc _ _), ?_, (below_alloc w1 _).mono (Nat.le_trans HH.out.base (Nat.le_of_lt hd)), fun b hb _ => Below.heap_alloc _ _ _ hb, Or.inl rfl, Nat.le_refl _⟩
      rw [HDR.out]
      exact own_new (heap_new _ _) (Nat.le_refl _)
    generalize (ens D).length = M at *
    go_wp2
    go_loopg [5] D.length (fun k s wr => ∃ (j : Nat) (v' : Value), j ≤ k ∧ Hid (RtI B d q n D j v' s w1 wr))
    case atStart => exact ⟨D.length, v, Nat.le_refl _, HI0.out _ rfl⟩
    case round =>
      obtain ⟨j, v', hjk, HI⟩ := hrel
      have HL' := dhid (rlen_walk HI.out.dl (Nat.le_trans (by rw [List.length_take]; omega) hn))
      have hjn : j ≤ 100000 := Nat.le_trans HI.out.le hn
      by_cases hmore : n < (ens (D.take j)).length
      · obtain ⟨i, rfl⟩ : ∃ i, j = i + 1 := ⟨j - 1, by
          rcases j with _ | j
          · simp [ens] at hmore
          · omega⟩
        have hi : i < D.length := by have := HI.out.le; omega
        obtain ⟨x, hx⟩ : ∃ x, D[i]? = some x := ⟨D[i], List.getElem?_eq_getElem hi⟩
        obtain ⟨a, c, rfl⟩ := owns_slice HI.out.dl.own
        have hlt : (D.take (i + 1)).length = i + 1 := by rw [List.length_take]; omega
        have hxi : (D.take (i + 1))[i]? = some x := by rw [List.getElem?_take, if_pos (by omega)]; exact hx
        have hcap := (owns_cap HI.out.dl.own).1
        rw [hlt] at HI hcap
        obtain ⟨g, rfl, gl, c0, c1, c2, c3, c4, c5, c6⟩ := HI.out.dl.item hxi
        obtain ⟨-, x1, y1, xl⟩ := HI.out.dl.facts
        have HMO := dhid hmore
        have hmore' : (n : Int) < ((ens (D.take (i + 1))).length : Int) := by omega
        have HED := dhid (ens_drop hx)
        have KS : Hid (∀ W, Below wr.heap.size wr W → W.cell? ⟨d, 1, none⟩ = some (.slice (some ⟨g, 0, none⟩) (i + 1) c) ∧ W.cell? ⟨g, i * 7, none⟩ = some (.bool x.b) ∧ W.cell? ⟨g, i * 7 + 1, none⟩ = some (.string x.nm) ∧ W.cell? ⟨g, i * 7 + 2, none⟩ = some (.int .i64 x.p.1.k) ∧ W.cell? ⟨g, i * 7 + 3, none⟩ = some (.int .i64 x.p.1.id) ∧ W.cell? ⟨g, i * 7 + 4, none⟩ = some (.string x.p.1.t) ∧ W.cell? ⟨g, i * 7 + 5, none⟩ = some (.slice x.p.1.oa x.p.1.ol x.p.1.oc) ∧ W.cell? ⟨g, i * 7 + 6, none⟩ = some (.slice x.p.1.na x.p.1.nl x.p.1.nc)) := fun W hW => by
          have e := fun o => hW.cell (p := ⟨g, o, none⟩) gl
          rw [hW.cell (p := ⟨d, 1, none⟩) xl, e, e, e, e, e, e, e]
          exact ⟨x1, c0, c1, c2, c3, c4, c5, c6⟩
        clear hx hxi hlt hmore HI0 HH HT HDR
        have i1 : (i : Int) ≤ (c : Int) := by omega
        have i2 : (i : Int) ≤ (i : Int) + 1 := by omega
        have i3 : IntKind.i64.wrap (((i + 1 : Nat) : Int) - 1) = (i : Int) := by rw [IntKind.wrap_i64]; omega
        have i3' : IntKind.i64.wrap ((i : Int) + 1 - 1) = (i : Int) := by rw [IntKind.wrap_i64]; omega
        have i3'' : IntKind.i64.wrap (i : Int) = (i : Int) := by rw [IntKind.wrap_i64]; omega
        have i4 : (i : Int) < (i : Int) + 1 := by omega
        have i5 : ¬ (i : Int) < 0 := by omega
        have HST : Hid (∀ {s' : Value} {W : World}, Below wr.heap.size wr W → W.ownsRow w1.heap.size 40 5 s' (ens (D.drop i)).length (flat peC (ens (D.drop i)).reverse) → RtI B d q n D i (.slice (some ⟨g, 0, none⟩) i c) s' w1 (W.setCell ⟨d, 1, none⟩ (.slice (some ⟨g, 0, none⟩) i c))) := fun hW o => RtI.turn (HI.out.dl.on hW) o (below_on (B := B) HI.out.below hW (Nat.le_trans HI.out.dl.base (Nat.le_of_lt HI.out.dl.lt))) (HI.out.keeps.on HI.out.below.size hW) hi HMO.out hd
        have HSG : Hid (∀ {s' : Value} {U W : World}, Below wr.heap.size wr U → W.ownsRow w1.heap.size 40 5 s' (ens (D.drop i)).length (flat peC (ens (D.drop i)).reverse) → U.grownBy W u5.ownBlock → RtI B d q n D i (.slice (some ⟨g, 0, none⟩) i c) s' w1 (W.setCell ⟨d, 1, none⟩ (.slice (some ⟨g, 0, none⟩) i c)) ∧ W.cell? ⟨d, 1, none⟩ = some (.slice (some ⟨g, 0, none⟩) (i + 1) c) ∧ W.frozen? ⟨d, 1, none⟩ = false ∧ d < W.heap.size) := fun {s' U W} hU o G => by
          have oU := owns_on HI.out.out hU
          have dU := HI.out.dl.on hU
          have hk : ∀ {gg e : Nat} {cur : Array Value}, U.heap[gg]? = some (Obj.cells cur e (0, 0)) → e ≠ 40 → W.heap[gg]? = some (Obj.cells cur e (0, 0)) := fun hg he => by
            rw [G.block _ (Array.getElem?_eq_some_iff.1 hg).1 fun e => owns_far oU hg (Ne.symm he) e.symm]; exact hg
          have dW : DLg B d q (.slice (some ⟨g, 0, none⟩) (i + 1) c) (D.take (i + 1)) W := dU.kind fun gg e cur hg he => hk hg (by rcases he with rfl | rfl <;> decide)
          have hwU : w1.heap.size ≤ U.heap.size := Nat.le_trans HI.out.below.size hU.size
          have hBw : B ≤ w1.heap.size := Nat.le_trans (Nat.le_trans HI.out.dl.base (Nat.le_of_lt hd)) (Nat.le_refl _)
          refine ⟨RtI.turn dW o ((below_on (B := B) HI.out.below hU (Nat.le_trans hBw HI.out.below.size)).grown G (Nat.le_trans hBw hwU) fun p hp => Nat.le_trans hBw (oU.lt p hp).1) (fun b hb hne => ?_) hi HMO.out hd, dW.facts.2.1, dW.facts.2.2.1, dW.lt⟩
          rw [G.block b (by omega) fun e => ?_]
          · exact HI.out.keeps.on HI.out.below.size hU b hb hne
          · have := (oU.lt b e.symm).1
            omega
        have HOU := dhid HI.out.out
        have hws : w1.heap.size ≤ wr.heap.size := HI.out.below.size
        clear HI HMO
        generalize (ens (D.take (i + 1))).length = mm at *
        go_wp2_with fail
        refine HL'.out.mono ?_
        rintro e w2 ⟨rfl, rfl⟩
        clear HL'
        go_upto_region 7 with fail
        go_region_held (fun w' => w'.cell? ⟨d, 1, none⟩ = some (.slice (some ⟨g, 0, none⟩) (i + 1) c) ∧ w'.cell? ⟨g, i * 7, none⟩ = some (.bool x.b) ∧ w'.cell? ⟨g, i * 7 + 1, none⟩ = some (.string x.nm) ∧ w'.cell? ⟨g, i * 7 + 2, none⟩ = some (.int .i64 x.p.1.k) ∧ w'.cell? ⟨g, i * 7 + 3, none⟩ = some (.int .i64 x.p.1.id) ∧ w'.cell? ⟨g, i * 7 + 4, none⟩ = some (.string x.p.1.t) ∧ w'.cell? ⟨g, i * 7 + 5, none⟩ = some (.slice x.p.1.oa x.p.1.ol x.p.1.oc) ∧ w'.cell? ⟨g, i * 7 + 6, none⟩ = some (.slice x.p.1.na x.p.1.nl x.p.1.nc)) (exact KS.out _ (by repeat (first | exact Below.refl _ _ | refine Below.drew ?_ | refine Below.alloc ?_ (by simp) _ | refine Below.setCell ?_ (by simp) _))) (fail)
        refine to_letter (F := fun W => Below w2.heap.size w2 W ∧ W.heap[w2.heap.size]? = some (.cells #[.bool x.b, .string x.nm, .int .i64 x.p.1.k, .int .i64 x.p.1.id, .string x.p.1.t, .slice x.p.1.oa x.p.1.ol x.p.1.oc, .slice x.p.1.na x.p.1.nl x.p.1.nc] 67 (0, 0))) ⟨(below_alloc _ _).drew, heap_new _ _⟩ ?_
        rintro U ⟨bU, eU⟩
        have HBU := dhid bU
        have z0 : U.cell? ⟨w2.heap.size, 0, none⟩ = some (.bool x.b) := cell_of_row _ _ _ _ _ _ eU
        have z2 : U.cell? ⟨w2.heap.size, 2, none⟩ = some (.int .i64 x.p.1.k) := cell_of_row _ _ _ _ _ _ eU
        have z3 : U.cell? ⟨w2.heap.size, 3, none⟩ = some (.int .i64 x.p.1.id) := cell_of_row _ _ _ _ _ _ eU
        have z4 : U.cell? ⟨w2.heap.size, 4, none⟩ = some (.string x.p.1.t) := cell_of_row _ _ _ _ _ _ eU
        have z5 : U.cell? ⟨w2.heap.size, 5, none⟩ = some (.slice x.p.1.oa x.p.1.ol x.p.1.oc) := cell_of_row _ _ _ _ _ _ eU
        have z6 : U.cell? ⟨w2.heap.size, 6, none⟩ = some (.slice x.p.1.na x.p.1.nl x.p.1.nc) := cell_of_row _ _ _ _ _ _ eU
        have zl : w2.heap.size < U.heap.size := (Array.getElem?_eq_some_iff.1 eU).1
        have d1 : U.cell? ⟨d, 1, none⟩ = some (.slice (some ⟨g, 0, none⟩) (i + 1) c) := (KS.out U bU).1
        have df : U.frozen? ⟨d, 1, none⟩ = false := (bU.frozen (p := ⟨d, 1, none⟩) xl).trans y1
        have dl : d < U.heap.size := Nat.lt_of_lt_of_le xl bU.size
        clear c0 c1 c2 c3 c4 c5 c6 x1 y1 xl gl KS bU eU
        cases hb : x.b
        · have HEq := dhid (HED.out.2 hb)
          rw [hb] at z0
          clear HED HST
          obtain ⟨kk, HK⟩ : ∃ kk, Hid ((ens (D.drop (i + 1))).length = kk) := ⟨_, rfl⟩
          have hkk : kk ≤ 100000 := by rw [← HK.out]; exact Nat.le_trans (ens_len _) (by rw [List.length_drop]; omega)
          rw [HK.out] at HOU
          go_wp2_with (first | (at_builtin; revert HOU) | go_in)
          intro HOU
          refine to_letter (F := fun W => Below w2.heap.size w2 W ∧ Src W (some ⟨U.heap.size, 0, none⟩) 1 1 (peC x.p)) ⟨HBU.out.alloc HBU.out.size _, src_new _ (peC x.p) _ 1 1 rfl⟩ ?_
          rintro V ⟨bV, sV⟩
          have oV := owns_on HOU.out bV
          refine append_src Try.underlying47 infoREnt rfl (by decide) (by decide) rfl _ _ rfl w1.heap.size (Nat.le_trans hws bV.size) _ kk _ rfl oV _ 1 1 (peC x.p) rfl sV rfl (peC_one _) (by omega) ?_
          intro v5 W5 O5 G5 _
          have e5 : W5.ownsRow w1.heap.size 40 5 v5 (ens (D.drop i)).length (flat peC (ens (D.drop i)).reverse) := by
            rw [HEq.out, List.length_cons, HK.out, List.reverse_cons, flat_append]
            simpa [flat] using O5
          have HG5 := dhid (HSG.out bV e5 G5)
          obtain ⟨-, s1, s2, s3⟩ := HG5.out
          clear O5 G5 e5 oV bV sV HOU z0 z2 z3 z4 z5 z6 zl d1 df dl HSG
          go_wp2_with fail
          go_region
          go_wp2_with fail
          go_roundg i
          case measure => omega
          case rel => exact ⟨i, _, Nat.le_refl _, HG5.out.1.drew⟩
        · have HEq := dhid (HED.out.1 hb)
          rw [hb] at z0
          have HF5 := dhid (HST.out HBU.out (by rw [HEq.out]; exact owns_on HOU.out HBU.out))
          clear HED HSG HST HOU
          go_wp2_with fail
          go_region
          go_wp2_with fail
          go_roundg i
          case measure => omega
          case rel => exact ⟨i, _, Nat.le_refl _, HF5.out.drew⟩
      · have hmore' : ¬ (n : Int) < ((ens (D.take j)).length : Int) := by omega
        have HFI : Hid (∃ j v', ToJ D n j ∧ wr.ownsRow w1.heap.size 40 5 u5 (ens (D.drop j)).length (flat peC (ens (D.drop j)).reverse) ∧ DocO B d q v' (D.take j) w1 wr) :=
          ⟨j, v', ⟨HI.out.le, by omega, HI.out.stop⟩, HI.out.out, HI.out.dl, HI.out.below, HI.out.keeps⟩
        clear HI
        generalize (ens (D.take j)).length = mm at *
        go_wp2_with fail
        refine HL'.out.mono ?_
        rintro e w2 ⟨rfl, rfl⟩
        go_wp2
        go_ret
        exact ⟨_, rfl, HFI.out⟩
end Go.Proofs.Ytdiagnmkfnhnjaa
