/-
  Delta: Note, Since and Back of a tracker.
-/
import Derived.Test.YtmcbpopeinabcaaDlTk
namespace Go.Proofs.Ytmcbpopeinabcaa
open Go.RowKit

set_option maxRecDepth 100000 in
set_option maxHeartbeats 1000000 in
theorem note_walk {B : Nat} {F : Nat → Prop} {tr : Nat} {v : Value} {L : List PC} {r : RC} {c : Chg} {w : World} (h : Trk B F tr v L w) (hm : Means w r c) (hn : L.length ≤ 200) :
    Calls Try.prog 22 #[.pointer (some ⟨tr, 0, none⟩), rcV r] w fun e w' => e = .returned (.tuple #[]) ∧ ∃ r' v', Trk B (fun b => F b ∨ w.heap.size ≤ b) tr v' (L ++ [(r', c)]) w' ∧ Below B w w' ∧ ∀ b, b < w.heap.size → b ≠ tr → v.ownBlock ≠ some b → w'.heap[b]? = w.heap[b]? := by
  obtain ⟨x0, y0, xl⟩ := h.cell
  obtain ⟨a, k, rfl⟩ := owns_slice h.own
  have HH := dhid h
  have HMm := dhid hm
  have KS : Hid (∀ W, Below w.heap.size w W → W.cell? ⟨tr, 0, none⟩ = some (.slice a L.length k) ∧ W.frozen? ⟨tr, 0, none⟩ = false) := fun W hW => ⟨(h.on hW).cell.1, (h.on hW).cell.2.1⟩
  have HOW : Hid (∀ W, Below w.heap.size w W → W.ownsRow B 27 4 (.slice a L.length k) L.length (rcs L) ∧ B ≤ W.heap.size) := fun W hW => ⟨(h.on hW).own, Nat.le_trans h.base (Nat.le_of_lt (h.on hW).lt)⟩
  have HC : Hid (∀ W, Below w.heap.size w W → Calls Try.prog 32 #[rcV r] W fun e w' => ∃ r', e = .returned (rcV r') ∧ Copied W w' r r' c) := fun W hW => copied_walk (hm.below hW)
  have HE : Hid (∀ {r' : RC} {v5 : Value} {W3 W4 W5 : World} {o : Obj}, Below w.heap.size w W3 → Copied W3 W4 r r' c → W5.ownsRow B 27 4 v5 (L.length + 1) (rcs L ++ rcC r') → (W4.alloc o).grownBy W5 (Value.slice a L.length k).ownBlock →
    Trk B (fun b => F b ∨ w.heap.size ≤ b) tr v5 (L ++ [(r', c)]) (W5.setCell ⟨tr, 0, none⟩ v5) ∧ Below B w (W5.setCell ⟨tr, 0, none⟩ v5) ∧ (∀ b, b < w.heap.size → b ≠ tr → (Value.slice a L.length k).ownBlock ≠ some b → (W5.setCell ⟨tr, 0, none⟩ v5).heap[b]? = w.heap[b]?) ∧ (W5.cell? ⟨tr, 0, none⟩ = some (.slice a L.length k) ∧ W5.frozen? ⟨tr, 0, none⟩ = false) ∧ W5.heap[w.heap.size]? = (W4.alloc o).heap[w.heap.size]?) := fun {r' v5 W3 W4 W5 o} h1 h2 h3 h4 => by
    obtain ⟨e1, e2, e3⟩ := note_end h hm h1 h2 h3 h4
    have b4 : Below w.heap.size w (W4.alloc o) := (below_on h1 h2.below h1.size).alloc (below_on h1 h2.below h1.size).size o
    have h5 := h.on b4
    have htr : W5.heap[tr]? = some (.cells #[.slice a L.length k] 69 (0, 0)) := by
      rw [h4.block tr h5.lt fun e => h5.ne_tr h5.own (by decide) e.symm rfl]; exact h5.box
    refine ⟨e1, e2, e3, ⟨cell_of_row _ _ _ _ _ _ htr, frozen_of_row _ _ _ _ _ htr⟩, h4.block _ ?_ fun e => ?_⟩
    · have g1 := (below_on h1 h2.below h1.size).size
      simp
      omega
    · have g2 := (h.own.lt _ e.symm).2
      omega
  clear h hm
  obtain ⟨n, HN⟩ : ∃ m, Hid (L.length = m) := ⟨_, rfl⟩
  rw [HN.out] at hn x0 KS HOW HE ⊢
  unfold rcV at HC ⊢
  go_enter Try.func22, Try.ntmps22
  go_wp2_with fail
  refine to_letter (F := fun W => Below w.heap.size w W ∧ Box4 W w.heap.size (.string r.t) (.int .i64 r.id) (.slice r.oa r.ol r.oc) (.slice r.na r.nl r.nc)) ⟨below_alloc _ _, go_heap_new _ _⟩ ?_
  rintro U ⟨hU, CU⟩
  have HU := dhid hU
  have KS2 : Hid (∀ W, Below U.heap.size U W → (W.cell? ⟨tr, 0, none⟩ = some (.slice a n k) ∧ W.frozen? ⟨tr, 0, none⟩ = false) ∧ W.cell? ⟨w.heap.size, 0, none⟩ = some (.string r.t) ∧ W.cell? ⟨w.heap.size, 1, none⟩ = some (.int .i64 r.id) ∧ W.cell? ⟨w.heap.size, 2, none⟩ = some (.slice r.oa r.ol r.oc) ∧ W.cell? ⟨w.heap.size, 3, none⟩ = some (.slice r.na r.nl r.nc)) := fun W hW => by
    obtain ⟨z0, z1, z2, z3, _, _, _, _, zl⟩ := CU.facts
    refine ⟨KS.out W (below_on hU hW hU.size), ?_⟩
    rw [hW.cell (p := ⟨w.heap.size, 0, none⟩) zl, hW.cell (p := ⟨w.heap.size, 1, none⟩) zl, hW.cell (p := ⟨w.heap.size, 2, none⟩) zl, hW.cell (p := ⟨w.heap.size, 3, none⟩) zl]; exact ⟨z0, z1, z2, z3⟩
  have HCU : Hid (∀ W, Below U.heap.size U W → W.heap[w.heap.size]? = some (.cells #[.string r.t, .int .i64 r.id, .slice r.oa r.ol r.oc, .slice r.na r.nl r.nc] 27 (0, 0))) := fun W hW => (hW.block _ CU.facts.2.2.2.2.2.2.2.2).trans CU
  have KSF : Hid (∀ W : World, W.heap[w.heap.size]? = some (.cells #[.string r.t, .int .i64 r.id, .slice r.oa r.ol r.oc, .slice r.na r.nl r.nc] 27 (0, 0)) → (W.cell? ⟨tr, 0, none⟩ = some (.slice a n k) ∧ W.frozen? ⟨tr, 0, none⟩ = false) → (W.cell? ⟨tr, 0, none⟩ = some (.slice a n k) ∧ W.frozen? ⟨tr, 0, none⟩ = false) ∧ W.cell? ⟨w.heap.size, 0, none⟩ = some (.string r.t) ∧ W.cell? ⟨w.heap.size, 1, none⟩ = some (.int .i64 r.id) ∧ W.cell? ⟨w.heap.size, 2, none⟩ = some (.slice r.oa r.ol r.oc) ∧ W.cell? ⟨w.heap.size, 3, none⟩ = some (.slice r.na r.nl r.nc)) := fun W hW ht => by
    obtain ⟨z0, z1, z2, z3, _⟩ := Box4.facts (W := W) (b := w.heap.size) hW
    exact ⟨ht, z0, z1, z2, z3⟩
  have HXL : Hid (∀ W, Below U.heap.size U W → tr < W.heap.size) := fun W hW => Nat.lt_of_lt_of_le xl (Nat.le_trans hU.size hW.size)
  have HZL : Hid (w.heap.size < U.heap.size) := CU.facts.2.2.2.2.2.2.2.2
  clear hU CU x0 y0 xl KS
  obtain ⟨⟨x0, y0⟩, z0, z1, z2, z3⟩ := KS2.out U (Below.refl _ _)
  have xl : tr < U.heap.size := HXL.out U (Below.refl _ _)
  have zl : w.heap.size < U.heap.size := HZL.out
  go_region_law
    (first
      | (go_simp; go_at_call 32; with_reducible refine (HC.out _ ?_).mono ?_
         · exact below_on HU.out (by repeat (first | exact Below.refl _ _ | refine Below.drew ?_ | refine Below.alloc ?_ (by simp) _)) HU.out.size
         rintro e W4 ⟨r', rfl, C4⟩
         have HC4 := dhid C4
         have HB4 : Hid (Below U.heap.size U W4) := below_on (by repeat (first | exact Below.refl _ _ | refine Below.drew ?_)) C4.below (by simp)
         obtain ⟨⟨u0, v0⟩, u1, u2, u3, u4⟩ := KS2.out W4 HB4.out
         have ul : tr < W4.heap.size := HXL.out W4 HB4.out
         clear C4 HC
         try dsimp only)
      | (refine step_appS Try.underlying22 infoChg rfl (by decide) (by decide) rfl (.tmp 10) (.tmp 13) rfl B (HOW.out _ (below_on HU.out (HB4.out.alloc HB4.out.size _) HU.out.size)).2 (.slice a n k) n (rcs L) ?_ (HOW.out _ (below_on HU.out (HB4.out.alloc HB4.out.size _) HU.out.size)).1 _ 1 1 (rcC r') ?_ (src_new _ _) rfl rcC_one (by omega) ?_
         · first | (simp [Act.eval]; done) | (simp [Act.eval, Act.put]; done)
         · first | (simp [Act.eval]; done) | (simp [Act.eval, Act.put]; done)
         intro v5 W5 O5 G5
         obtain ⟨a5, k5, e5⟩ := owns_slice O5
         subst e5
         have HE5 := dhid (HE.out (below_on HU.out (by repeat (first | exact Below.refl _ _ | refine Below.drew ?_)) HU.out.size) HC4.out O5 G5)
         obtain ⟨t0, t1⟩ := HE5.out.2.2.2.1
         clear O5 G5 u0 v0 u1 u2 u3 u4 ul))
  all_goals
    go_wp2_with fail
    go_end0
    exact ⟨rfl, r', _, HE5.out.1, HE5.out.2.1, HE5.out.2.2.1⟩

theorem own_cap {W : World} {base e size : Nat} {a : Option Addr} {n c m : Nat} {xs : List Value} (h : W.ownsRow base e size (.slice a n c) m xs) : n ≤ c := by
  rcases h.2 with ⟨e, _⟩ | ⟨g, cap, cur, e, _, _, hc, _⟩
  · cases e; exact Nat.le_refl _
  · cases e; exact hc

set_option maxRecDepth 100000 in
set_option maxHeartbeats 1000000 in
theorem since_walk {B : Nat} {F : Nat → Prop} {tr : Nat} {v : Value} {L : List PC} {m : Int} {w : World} (h : Trk B F tr v L w) (hn : L.length ≤ 200) :
    Calls Try.prog 24 #[.pointer (some ⟨tr, 0, none⟩), .int .i64 m] w fun e w' => ∃ v, e = .returned v ∧ ∃ N, NetW w v N w' ∧ IsNet ((L.drop (nearN m L.length)).map (·.2)) (N.map (·.2)) := by
  obtain ⟨x0, y0, xl⟩ := h.cell
  obtain ⟨a, c, rfl⟩ := owns_slice h.own
  have hkn : nearN m L.length ≤ L.length := Nat.min_le_right _ _
  have HOWN := dhid h.own
  have HSDg : Hid (∀ k W, Below w.heap.size w W → ∀ b o, a = some ⟨b, o, none⟩ → SlC W (some ⟨b, o + k * 4, none⟩) (L.drop k)) := fun k W hW b o e => by
    have g := (owns_slc (h.on hW).own).2.1
    rw [e] at g
    exact slc_drop g k
  have KS : Hid (∀ W, Below w.heap.size w W → W.cell? ⟨tr, 0, none⟩ = some (.slice a L.length c)) := fun W hW => (h.on hW).cell.1
  have HWg : Hid (∀ W, Below w.heap.size w W → Calls Try.prog 33 #[.pointer (some ⟨tr, 0, none⟩), .int .i64 m] W fun e w' => e = .returned (.int .i64 (nearN m L.length : Int)) ∧ w' = W) := fun W hW => within_walk (h.on hW).cell.1
  have HNTg : Hid (∀ k W b cc, Below w.heap.size w W → SlC W b (L.drop k) → Calls Try.prog 14 #[.slice b (L.length - k) cc] W fun e w' => ∃ v, e = .returned v ∧ ∃ N, NetW w v N w' ∧ IsNet ((L.drop k).map (·.2)) (N.map (·.2))) := fun k W b cc hW hs => (net_walk (c := cc) hs (fun x hx => (h.on hW).lone.all x (List.mem_of_mem_drop hx)) (by rw [List.length_drop]) (by omega)).mono fun e w' ⟨v, he, N, hN, hi⟩ => ⟨v, he, N,
    ⟨below_on hW hN.below hW.size, owns_mono hN.own fun q hq => Nat.le_trans hW.size (hN.own.lt q hq).1, hN.all, fun x hx => owns_mono (hN.rows x hx) fun q hq => Nat.le_trans hW.size ((hN.rows x hx).lt q hq).1, fun x hx => owns_mono (hN.olds x hx) fun q hq => Nat.le_trans hW.size ((hN.olds x hx).lt q hq).1, hN.apart⟩, hi⟩
  clear h
  generalize hk : nearN m L.length = k at *
  have HW := dhid HWg.out
  have HNT := dhid (HNTg.out k)
  have HEMP : Hid (L.length = 0 → L = []) := List.length_eq_zero_iff.1
  obtain ⟨n, HN⟩ : ∃ m, Hid (L.length = m) := ⟨_, rfl⟩
  rw [HN.out] at hn x0 KS hkn HNT HEMP HOWN
  have hnc := own_cap HOWN.out
  clear HWg HNTg hk
  rcases part_cases HOWN.out rfl hkn with ⟨rfl, h0, h1⟩ | ⟨g, rfl, h1⟩ | ⟨g, rfl, h1⟩
  · subst h0
    subst h1
    have hk0 : k = 0 := by omega
    subst hk0
    have HSD : Hid (∀ W, Below w.heap.size w W → SlC W none (L.drop 0)) := fun W hW => Or.inl (by rw [HEMP.out rfl]; rfl)
    go_enter Try.func24, Try.ntmps24
    go_wp2_with fail
    go_region_held_law (fun w' => w'.cell? ⟨tr, 0, none⟩ = some (.slice none 0 0)) (first | assumption | exact KS.out _ (by repeat (first | exact Below.refl _ _ | refine Below.drew ?_)))
      (first
        | (go_at_call 33; with_reducible refine (HW.out _ ?_).mono ?_
           · repeat (first | exact Below.refl _ _ | refine Below.drew ?_)
           rintro e W4 ⟨rfl, e4⟩
           subst e4
           clear HW)
        | (go_at_call 14; with_reducible refine (HNT.out _ _ _ ?_ ?_).mono ?_
           · repeat (first | exact Below.refl _ _ | refine Below.drew ?_)
           · exact HSD.out _ (by repeat (first | exact Below.refl _ _ | refine Below.drew ?_))
           rintro e W6 ⟨v6, rfl, hN6⟩
           have HN6 := dhid hN6
           obtain ⟨N6, hN6, _⟩ := hN6
           have KS6 := KS.out W6 hN6.below
           clear hN6 HNT))
    all_goals
      go_simp
      go_wp2_with fail
      go_ret
      exact ⟨_, rfl, HN6.out⟩
  · subst h1
    have i1 : (c : Int) ≤ (n : Int) := by omega
    have i3 : (n : Int) ≤ (c : Int) := by omega
    have hcn : n = c := by omega
    subst hcn
    have HSD : Hid (∀ W, Below w.heap.size w W → SlC W (some ⟨g, 0, none⟩) (L.drop n)) := fun W hW => Or.inl (List.drop_eq_nil_of_le (by rw [HN.out]; omega))
    rw [Nat.sub_self] at HNT
    go_enter Try.func24, Try.ntmps24
    go_wp2_with fail
    go_region_held_law (fun w' => w'.cell? ⟨tr, 0, none⟩ = some (.slice (some ⟨g, 0, none⟩) n n)) (first | assumption | exact KS.out _ (by repeat (first | exact Below.refl _ _ | refine Below.drew ?_)))
      (first
        | (go_at_call 33; with_reducible refine (HW.out _ ?_).mono ?_
           · repeat (first | exact Below.refl _ _ | refine Below.drew ?_)
           rintro e W4 ⟨rfl, e4⟩
           subst e4
           clear HW)
        | (go_at_call 14; with_reducible refine (HNT.out _ _ _ ?_ ?_).mono ?_
           · repeat (first | exact Below.refl _ _ | refine Below.drew ?_)
           · exact HSD.out _ (by repeat (first | exact Below.refl _ _ | refine Below.drew ?_))
           rintro e W6 ⟨v6, rfl, hN6⟩
           have HN6 := dhid hN6
           obtain ⟨N6, hN6, _⟩ := hN6
           have KS6 := KS.out W6 hN6.below
           clear hN6 HNT))
    all_goals
      go_simp
      go_wp2_with fail
      go_ret
      exact ⟨_, rfl, HN6.out⟩
  · have i1 : (k : Int) ≤ (c : Int) := by omega
    have i2 : (k : Int) ≤ (n : Int) := by omega
    have i3 : (n : Int) ≤ (c : Int) := by omega
    have i4 : ¬ c - k = 0 := by omega
    have i5 : ¬ c = k := h1
    have HSD : Hid (∀ W, Below w.heap.size w W → SlC W (some ⟨g, k * 4, none⟩) (L.drop k)) := fun W hW => by have g1 := HSDg.out k W hW g 0 rfl; rwa [Nat.zero_add] at g1
    go_enter Try.func24, Try.ntmps24
    go_wp2_with fail
    go_region_held_law (fun w' => w'.cell? ⟨tr, 0, none⟩ = some (.slice (some ⟨g, 0, none⟩) n c)) (first | assumption | exact KS.out _ (by repeat (first | exact Below.refl _ _ | refine Below.drew ?_)))
      (first
        | (go_at_call 33; with_reducible refine (HW.out _ ?_).mono ?_
           · repeat (first | exact Below.refl _ _ | refine Below.drew ?_)
           rintro e W4 ⟨rfl, e4⟩
           subst e4
           clear HW)
        | (go_at_call 14; with_reducible refine (HNT.out _ _ _ ?_ ?_).mono ?_
           · repeat (first | exact Below.refl _ _ | refine Below.drew ?_)
           · exact HSD.out _ (by repeat (first | exact Below.refl _ _ | refine Below.drew ?_))
           rintro e W6 ⟨v6, rfl, hN6⟩
           have HN6 := dhid hN6
           obtain ⟨N6, hN6, _⟩ := hN6
           have KS6 := KS.out W6 hN6.below
           clear hN6 HNT))
    all_goals
      go_simp
      go_wp2_with fail
      go_ret
      exact ⟨_, rfl, HN6.out⟩
end Go.Proofs.Ytmcbpopeinabcaa
