/-
  The document's arena: Alloc, where a page is left.
-/
import Derived.Test.YtcoehlnmaehhjaaRfD
import Derived.Test.YtcoehlnmaehhjaaSnD
namespace Go.Proofs.Ytcoehlnmaehhjaa
open Go.RowKit

theorem owns_new2 (w : World) : (w.alloc (.cells #[] 43)).ownsRow w.heap.size 43 2 (.slice (some ⟨w.heap.size, 0, none⟩) 0 0) ([] : List (Nat × List UInt8)).length (lcs []) := by
  have := World.ownsRow_lit (base := w.heap.size) (e := 43) (size := 2) w #[] 0 (Nat.le_refl _) (by unfold maxLen; omega) (by simp)
  simpa [lcs] using this

theorem owns_newi (w : World) : (w.alloc (.cells #[] 3)).ownsRow w.heap.size 3 1 (.slice (some ⟨w.heap.size, 0, none⟩) 0 0) 0 [] := by
  have := World.ownsRow_lit (base := w.heap.size) (e := 3) (size := 1) w #[] 0 (Nat.le_refl _) (by unfold maxLen; omega) (by simp)
  simpa using this

theorem row_lt {base : Nat} {w : World} {e : TypeId} {size : Nat} {v : Value} {n : Nat} {xs : List Value} (h : w.ownsRow base e size v n xs) : ∀ k, v.ownBlock = some k → base ≤ k := fun k hk => (h.lt k hk).1

theorem page_news (w : World) (n : Nat) (c : List UInt8) : ∀ j u, (lcs [(n, c)])[j]? = some u → (w.alloc (.cells #[.int .i64 (n : Int), .string (pstr c)] 43)).cell? ((⟨w.heap.size, 0, none⟩ : Addr).add j) = some u :=
  World.news_of_block (cs := #[.int .i64 (n : Int), .string (pstr c)]) (heap_alloc_new _ _)

set_option maxRecDepth 100000 in
set_option maxHeartbeats 2000000 in
theorem ralloc_a_nil {r : Rf} {w : World} (h : RfP r w) (hl : r.L.length < r.q) (hq : r.q ≤ 4096) (hx : r.nx ≤ 10000) (hf : r.fr = []) (hv : r.vl = .slice none 0 0) : Calls Try.prog 13 #[arV r.p] w fun e w' => e = .returned (.tuple #[nv r.abs.next, .int .i64 0]) ∧ RGoes r w r.abs.alloc w' := by
  obtain ⟨G, hG⟩ : ∃ G, Hid (G = pstr zeroP) := ⟨_, rfl⟩
  obtain ⟨LL, hLL⟩ : ∃ LL, Hid (LL = r.L) := ⟨_, rfl⟩
  have hlt : (LL.length : Int) < (r.q : Int) := by rw [hLL.out]; omega
  have hl4 : LL.length ≤ 4096 := by rw [hLL.out]; omega
  have HH : Hid (RfP r w) := h
  have HF : Hid (r.fr = []) := hf
  have hLn : Hid (LL = []) := by rw [hLL.out]; have := h.rl.1; have h2 := h.rl.2; rcases h2 with ⟨_, h3⟩ | ⟨g, cap, cur, h3, _⟩; exact List.eq_nil_of_length_eq_zero h3; rw [hv] at h3; cases h3
  obtain ⟨c0, c1, c2, c3, hp, hfz⟩ := h.cell
  rw [hv] at c0
  obtain ⟨af, cf, ef, _⟩ := owns_slice h.rf
  rw [hf] at ef
  have ef' : r.vf = .slice af 0 cf := ef
  rw [ef'] at c1
  unfold nv at c2 c3
  have HV : Hid (r.vl = .slice none 0 0) := hv
  have EF : Hid (r.vf = .slice af 0 cf) := ef'
  clear h hl hf hv ef ef'
  unfold arV
  go_enter Try.func13, Try.ntmps13
  go_wp2
  go_quiet (fail)
  have H0 : Hid (RfP r (w.drewN nq)) := rfSt.below HH.out (below_drewN (Below.refl _ _) _)
  have M0 : Hid (Moves rfSt r r w (w.drewN nq)) := Moves.below (below_drewN (Below.refl _ _) _)
  obtain ⟨w0, hw0⟩ : ∃ w0, Hid (w0 = w.drewN nq) := ⟨_, rfl⟩
  rw [← hw0.out] at H0 M0
  rw [← hw0.out]
  obtain ⟨e0, e1, e2, e3, hp0, hfz0⟩ := H0.out.cell
  rw [HV.out] at e0
  unfold nv at e2 e3
  clear c0 c1 c2 c3 hp hfz
  have e1' : w0.cell? ⟨r.p, 1, none⟩ = some (.slice af 0 cf) := by rw [← EF.out]; exact e1
  obtain ⟨⟨kk1, kk2⟩, _⟩ := H0.out.setn (r.nx + 1)
  have M1 : Hid (Moves rfSt r { r with nx := r.nx + 1 } w (w0.setCell ⟨r.p, 2, none⟩ (nv (r.nx + 1)))) := M0.out.trans kk2
  have HR : Hid (RfP { r with nx := r.nx + 1 } (w0.setCell ⟨r.p, 2, none⟩ (nv (r.nx + 1)))) := kk1
  clear kk1 kk2
  obtain ⟨w1, hw1⟩ : ∃ w1, Hid (w1 = w0.setCell ⟨r.p, 2, none⟩ (nv (r.nx + 1))) := ⟨_, rfl⟩
  have hw1' : w0.setCell ⟨r.p, 2, none⟩ (.int .i64 ((r.nx : Int) + 1)) = w1 := hw1.out.symm
  rw [← hw1.out] at HR M1
  obtain ⟨g0, _, _, _, hp1, hfz1⟩ := HR.out.cell
  have g0' : w1.cell? ⟨r.p, 0, none⟩ = some (.slice none 0 0) := by rw [← HV.out]; exact g0
  clear g0 e1
  have O1 : Hid (World.ownsRow (w1.alloc (.cells #[] 43)) w1.heap.size 43 2 (.slice (some ⟨w1.heap.size, 0, none⟩) 0 0) ([] : List (Nat × List UInt8)).length (lcs [])) := owns_new2 w1
  have hsz1 : Hid (w1.heap.size ≤ (w1.alloc (.cells #[] 43)).heap.size) := by show w1.heap.size ≤ _; simp
  go_wp2_with (first
    | (at_builtin
       refine append_pages_none w1.heap.size rfl _ _ rfl (.slice (some ⟨w1.heap.size, 0, none⟩) 0 0) [] rfl O1.out rfl ?_
       obtain ⟨w3, hw3⟩ : ∃ w3, Hid (w3 = w1.alloc (.cells #[] 43)) := ⟨_, rfl⟩
       have O3 : Hid (w3.ownsRow w1.heap.size 43 2 (.slice (some ⟨w1.heap.size, 0, none⟩) 0 0) LL.length (lcs LL)) := (by rw [hw3.out, hLn.out]; exact O1.out)
       have B3 : Hid (Below w1.heap.size w1 w3) := (by rw [hw3.out]; exact below_alloc _ _)
       rw [← hw3.out]
       obtain ⟨v3, hv3⟩ : ∃ v3, Hid (v3 = (.slice (some ⟨w1.heap.size, 0, none⟩) 0 0 : Value)) := ⟨_, rfl⟩
       rw [← hv3.out] at O3
       rw [← hv3.out])
    | (go_at_call 30
       refine (zeros_walk _).mono ?_
       rintro e w4 ⟨rfl, hb4⟩
       have O4 : Hid (World.ownsRow (w4.alloc (.cells #[.int .i64 (r.nx : Int), .string G] 43)) w1.heap.size 43 2 v3 LL.length (lcs LL)) := World.ownsRow.alloc (owns_of_block O3.out fun k hk => hb4.block k (World.ownsRow.lt O3.out k hk).2) _
       have B4 : Hid (Below w1.heap.size w1 (w4.alloc (.cells #[.int .i64 (r.nx : Int), .string G] 43))) := below_on (below_on B3.out hb4) (below_alloc _ _)
       have PN : Hid (∀ j u, (lcs [(r.nx, zeroP)])[j]? = some u → (w4.alloc (.cells #[.int .i64 (r.nx : Int), .string G] 43)).cell? ((⟨w4.heap.size, 0, none⟩ : Addr).add j) = some u) := (by rw [hG.out]; exact page_news w4 r.nx zeroP)
       rw [← hG.out]
       clear hb4 O1 O3 B3)
    | (at_builtin
       refine append_pages w1.heap.size B4.out.size rfl _ _ rfl v3 LL rfl O4.out (by omega) ⟨w4.heap.size, 0, none⟩ [(r.nx, zeroP)] 1 1 rfl rfl (by omega) PN.out ?_
       intro v6 w6 hown hgr
       have B6 : Hid (Below w1.heap.size w1 w6) := B4.out.grown hgr B4.out.size (row_lt O4.out)
       obtain ⟨a6, c6, rfl, _⟩ := owns_slice hown
       obtain ⟨kk1, kk2⟩ := HR.out.newl B6.out hown
       have K1 : Hid _ := kk1
       have K2 : Hid _ := kk2
       obtain ⟨d0, _, _, _, hp6, hf6⟩ := (rfSt.below HR.out B6.out : RfP _ w6).cell
       clear hown hgr O4 B4 kk1 kk2)
    | go_in)
  go_ret2
  have hnx : r.abs.next = r.nx := by
    unfold RAbs.next Rf.abs
    have := HF.out
    simp [this]
  have k1 := K1.out
  have k2 := K2.out
  rw [show (LL ++ [(r.nx, zeroP)]).length = LL.length + 1 by simp] at k1 k2
  refine ⟨by rw [hnx]; rfl, _, k1, rfl, ?_, M1.out.trans k2⟩
  unfold RAbs.alloc Rf.abs
  have := HF.out
  simp [this, hLL.out, RAbs.next]


set_option maxRecDepth 100000 in
set_option maxHeartbeats 2000000 in
theorem ralloc_a_some {r : Rf} {w : World} (h : RfP r w) (hl : r.L.length < r.q) (hq : r.q ≤ 4096) (hx : r.nx ≤ 10000) (hf : r.fr = []) (hv : ∃ gl cl, r.vl = .slice (some ⟨gl, 0, none⟩) r.L.length cl) : Calls Try.prog 13 #[arV r.p] w fun e w' => e = .returned (.tuple #[nv r.abs.next, .int .i64 0]) ∧ RGoes r w r.abs.alloc w' := by
  obtain ⟨G, hG⟩ : ∃ G, Hid (G = pstr zeroP) := ⟨_, rfl⟩
  obtain ⟨LL, hLL⟩ : ∃ LL, Hid (LL = r.L) := ⟨_, rfl⟩
  have hlt : (LL.length : Int) < (r.q : Int) := by rw [hLL.out]; omega
  have hl4 : LL.length ≤ 4096 := by rw [hLL.out]; omega
  have HH : Hid (RfP r w) := h
  have HF : Hid (r.fr = []) := hf
  obtain ⟨gl, cl, hv⟩ := hv
  rw [← hLL.out] at hv
  obtain ⟨c0, c1, c2, c3, hp, hfz⟩ := h.cell
  rw [hv] at c0
  obtain ⟨af, cf, ef, _⟩ := owns_slice h.rf
  rw [hf] at ef
  have ef' : r.vf = .slice af 0 cf := ef
  rw [ef'] at c1
  unfold nv at c2 c3
  have HV : Hid (r.vl = .slice (some ⟨gl, 0, none⟩) LL.length cl) := hv
  have EF : Hid (r.vf = .slice af 0 cf) := ef'
  clear h hl hf hv ef ef'
  unfold arV
  go_enter Try.func13, Try.ntmps13
  go_wp2
  go_quiet (fail)
  have H0 : Hid (RfP r (w.drewN nq)) := rfSt.below HH.out (below_drewN (Below.refl _ _) _)
  have M0 : Hid (Moves rfSt r r w (w.drewN nq)) := Moves.below (below_drewN (Below.refl _ _) _)
  obtain ⟨w0, hw0⟩ : ∃ w0, Hid (w0 = w.drewN nq) := ⟨_, rfl⟩
  rw [← hw0.out] at H0 M0
  rw [← hw0.out]
  obtain ⟨e0, e1, e2, e3, hp0, hfz0⟩ := H0.out.cell
  rw [HV.out] at e0
  unfold nv at e2 e3
  clear c0 c1 c2 c3 hp hfz
  have e1' : w0.cell? ⟨r.p, 1, none⟩ = some (.slice af 0 cf) := by rw [← EF.out]; exact e1
  obtain ⟨⟨kk1, kk2⟩, _⟩ := H0.out.setn (r.nx + 1)
  have M1 : Hid (Moves rfSt r { r with nx := r.nx + 1 } w (w0.setCell ⟨r.p, 2, none⟩ (nv (r.nx + 1)))) := M0.out.trans kk2
  have HR : Hid (RfP { r with nx := r.nx + 1 } (w0.setCell ⟨r.p, 2, none⟩ (nv (r.nx + 1)))) := kk1
  clear kk1 kk2
  obtain ⟨w1, hw1⟩ : ∃ w1, Hid (w1 = w0.setCell ⟨r.p, 2, none⟩ (nv (r.nx + 1))) := ⟨_, rfl⟩
  have hw1' : w0.setCell ⟨r.p, 2, none⟩ (.int .i64 ((r.nx : Int) + 1)) = w1 := hw1.out.symm
  rw [← hw1.out] at HR M1
  obtain ⟨g0, _, _, _, hp1, hfz1⟩ := HR.out.cell
  have g0' : w1.cell? ⟨r.p, 0, none⟩ = some (.slice (some ⟨gl, 0, none⟩) LL.length cl) := by rw [← HV.out]; exact g0
  have SRC : Hid (∀ j u, (lcs LL)[j]? = some u → (w1.alloc (.cells #[] 43)).cell? ((⟨gl, 0, none⟩ : Addr).add j) = some u) := by
    have x1 := HR.out.rl
    have x2 : w1.ownsRow 0 43 2 (.slice (some ⟨gl, 0, none⟩) LL.length cl) LL.length (lcs LL) := by rw [← HV.out, hLL.out]; exact x1
    exact (x2.alloc _).cells rfl
  clear g0 e1
  have O1 : Hid (World.ownsRow (w1.alloc (.cells #[] 43)) w1.heap.size 43 2 (.slice (some ⟨w1.heap.size, 0, none⟩) 0 0) ([] : List (Nat × List UInt8)).length (lcs [])) := owns_new2 w1
  have hsz1 : Hid (w1.heap.size ≤ (w1.alloc (.cells #[] 43)).heap.size) := by show w1.heap.size ≤ _; simp
  go_wp2_with (first
    | (at_builtin
       refine append_pages w1.heap.size hsz1.out rfl _ _ rfl (.slice (some ⟨w1.heap.size, 0, none⟩) 0 0) [] rfl O1.out (by simp) ⟨gl, 0, none⟩ LL LL.length cl rfl rfl (by omega) SRC.out ?_
       intro v3 w3 hown hgr
       have O3 : Hid (w3.ownsRow w1.heap.size 43 2 v3 LL.length (lcs LL)) := hown
       have B3 : Hid (Below w1.heap.size w1 w3) := (below_alloc w1 _).grown hgr hsz1.out (row_lt O1.out)
       clear hown hgr)
    | (go_at_call 30
       refine (zeros_walk _).mono ?_
       rintro e w4 ⟨rfl, hb4⟩
       have O4 : Hid (World.ownsRow (w4.alloc (.cells #[.int .i64 (r.nx : Int), .string G] 43)) w1.heap.size 43 2 v3 LL.length (lcs LL)) := World.ownsRow.alloc (owns_of_block O3.out fun k hk => hb4.block k (World.ownsRow.lt O3.out k hk).2) _
       have B4 : Hid (Below w1.heap.size w1 (w4.alloc (.cells #[.int .i64 (r.nx : Int), .string G] 43))) := below_on (below_on B3.out hb4) (below_alloc _ _)
       have PN : Hid (∀ j u, (lcs [(r.nx, zeroP)])[j]? = some u → (w4.alloc (.cells #[.int .i64 (r.nx : Int), .string G] 43)).cell? ((⟨w4.heap.size, 0, none⟩ : Addr).add j) = some u) := (by rw [hG.out]; exact page_news w4 r.nx zeroP)
       rw [← hG.out]
       clear hb4 O1 O3 B3)
    | (at_builtin
       refine append_pages w1.heap.size B4.out.size rfl _ _ rfl v3 LL rfl O4.out (by omega) ⟨w4.heap.size, 0, none⟩ [(r.nx, zeroP)] 1 1 rfl rfl (by omega) PN.out ?_
       intro v6 w6 hown hgr
       have B6 : Hid (Below w1.heap.size w1 w6) := B4.out.grown hgr B4.out.size (row_lt O4.out)
       obtain ⟨a6, c6, rfl, _⟩ := owns_slice hown
       obtain ⟨kk1, kk2⟩ := HR.out.newl B6.out hown
       have K1 : Hid _ := kk1
       have K2 : Hid _ := kk2
       obtain ⟨d0, _, _, _, hp6, hf6⟩ := (rfSt.below HR.out B6.out : RfP _ w6).cell
       clear hown hgr O4 B4 kk1 kk2)
    | go_in)
  go_ret2
  have hnx : r.abs.next = r.nx := by
    unfold RAbs.next Rf.abs
    have := HF.out
    simp [this]
  have k1 := K1.out
  have k2 := K2.out
  rw [show (LL ++ [(r.nx, zeroP)]).length = LL.length + 1 by simp] at k1 k2
  refine ⟨by rw [hnx]; rfl, _, k1, rfl, ?_, M1.out.trans k2⟩
  unfold RAbs.alloc Rf.abs
  have := HF.out
  simp [this, hLL.out, RAbs.next]


set_option maxRecDepth 100000 in
set_option maxHeartbeats 2000000 in
theorem ralloc_b_nil {r : Rf} {w : World} (h : RfP r w) (hl : r.L.length < r.q) (hq : r.q ≤ 4096) (hfl : r.fr.length ≤ 4096) {ys : List Nat} {n : Nat} (hf : r.fr = ys ++ [n]) (hv : r.vl = .slice none 0 0) : Calls Try.prog 13 #[arV r.p] w fun e w' => e = .returned (.tuple #[nv r.abs.next, .int .i64 0]) ∧ RGoes r w r.abs.alloc w' := by
  obtain ⟨G, hG⟩ : ∃ G, Hid (G = pstr zeroP) := ⟨_, rfl⟩
  obtain ⟨LL, hLL⟩ : ∃ LL, Hid (LL = r.L) := ⟨_, rfl⟩
  have hlt : (LL.length : Int) < (r.q : Int) := by rw [hLL.out]; omega
  have hl4 : LL.length ≤ 4096 := by rw [hLL.out]; omega
  have HH : Hid (RfP r w) := h
  have HF : Hid (r.fr = ys ++ [n]) := hf
  have hLn : Hid (LL = []) := by rw [hLL.out]; have := h.rl.1; have h2 := h.rl.2; rcases h2 with ⟨_, h3⟩ | ⟨g, cap, cur, h3, _⟩; exact List.eq_nil_of_length_eq_zero h3; rw [hv] at h3; cases h3
  obtain ⟨c0, c1, c2, c3, hp, hfz⟩ := h.cell
  rw [hv] at c0
  have hfl' : r.fr.length = ys.length + 1 := by rw [hf]; simp
  have hrf := h.rf
  obtain ⟨gf, cf, ef, _, hgf⟩ := hrf.form (by omega)
  obtain ⟨_, cf', ef2, _, hcf⟩ := owns_slice hrf
  rw [ef] at hrf
  rw [ef] at ef2
  cases ef2
  rw [ef, hfl'] at c1
  have hyl : ys.length ≤ 4096 := by omega
  have hcf' : ys.length + 1 ≤ cf := by omega
  have hw : wrap64 (ys.length : Int) = ys.length := by unfold wrap64; omega
  unfold nv at c2 c3
  have HV : Hid (r.vl = .slice none 0 0) := hv
  have EF : Hid (r.vf = .slice (some ⟨gf, 0, none⟩) r.fr.length cf) := ef
  rw [hfl'] at EF
  clear h hl hf hv ef hrf
  unfold arV
  go_enter Try.func13, Try.ntmps13
  go_wp2
  go_quiet (fail)
  have H0 : Hid (RfP r (w.drewN nq)) := rfSt.below HH.out (below_drewN (Below.refl _ _) _)
  have M0 : Hid (Moves rfSt r r w (w.drewN nq)) := Moves.below (below_drewN (Below.refl _ _) _)
  obtain ⟨w0, hw0⟩ : ∃ w0, Hid (w0 = w.drewN nq) := ⟨_, rfl⟩
  rw [← hw0.out] at H0 M0
  rw [← hw0.out]
  obtain ⟨e0, e1, e2, e3, hp0, hfz0⟩ := H0.out.cell
  rw [HV.out] at e0
  unfold nv at e2 e3
  clear c0 c1 c2 c3 hp hfz
  have X0 : Hid (w0.ownsRow 0 3 1 (.slice (some ⟨gf, 0, none⟩) (ys.length + 1) cf) (ys.length + 1) ((ys ++ [n]).map nv)) := by
    have x1 := H0.out.rf
    rw [EF.out, HF.out] at x1
    have x2 : (ys ++ [n]).length = ys.length + 1 := by simp
    rw [x2] at x1
    exact x1
  have e1' : w0.cell? ⟨r.p, 1, none⟩ = some (.slice (some ⟨gf, 0, none⟩) (ys.length + 1) cf) := by rw [← EF.out]; exact e1
  have eN : w0.cell? ⟨gf, ys.length, none⟩ = some (.int .i64 (n : Int)) := by rw [X0.out.cellAt _ (by omega)]; simp [nv]
  have hgf0 : gf < w0.heap.size := (X0.out.lt gf rfl).2
  have OI : Hid (World.ownsRow (w0.alloc (.cells #[] 3)) w0.heap.size 3 1 (.slice (some ⟨w0.heap.size, 0, none⟩) 0 0) 0 []) := owns_newi w0
  have SRCF : Hid (∀ j u, (ys.map nv)[j]? = some u → (w0.alloc (.cells #[] 3)).cell? ((⟨gf, 0, none⟩ : Addr).add j) = some u) := by
    intro j u hj
    refine (X0.out.alloc _).cells rfl j u ?_
    rw [List.map_append]
    rw [List.getElem?_append_left (by have := (List.getElem?_eq_some_iff.1 hj).1; exact this)]
    exact hj
  have hz0 : Hid (w0.heap.size ≤ (w0.alloc (.cells #[] 3)).heap.size) := by show w0.heap.size ≤ _; simp
  clear e1
  go_wp2_with (first
    | (at_builtin
       refine append_row (z := .int .i64 0) Try.underlying45 (by kernel_rfl) rfl w0.heap.size hz0.out rfl _ _ rfl (.slice (some ⟨w0.heap.size, 0, none⟩) 0 0) (ys.map nv) rfl OI.out ys.length (by omega) ⟨gf, 0, none⟩ cf rfl (by simp) SRCF.out (one_nv ys) ?_
       intro vx wx hown hgr
       have BX : Hid (Below w0.heap.size w0 wx) := (below_alloc w0 _).grown hgr hz0.out (row_lt OI.out)
       obtain ⟨a7, c7, rfl, _⟩ := owns_slice hown
       obtain ⟨kk1, kk2⟩ := H0.out.newf BX.out hown
       obtain ⟨w1, hw1⟩ : ∃ w1, Hid (w1 = wx.setCell ⟨r.p, 1, none⟩ (.slice a7 ys.length c7)) := ⟨_, rfl⟩
       have hw1' : wx.setCell ⟨r.p, 1, none⟩ (.slice a7 ys.length c7) = w1 := hw1.out.symm
       have HR : Hid (RfP { r with vf := .slice a7 ys.length c7, fr := ys } w1) := (by rw [hw1.out]; exact kk1)
       have M1 : Hid (Moves rfSt r { r with vf := .slice a7 ys.length c7, fr := ys } w w1) := M0.out.trans (by rw [hw1.out]; exact kk2)
       obtain ⟨_, x1, _, _, hpx, hfx⟩ := (rfSt.below H0.out BX.out : RfP r wx).cell
       obtain ⟨g0, _, _, _, hp1, hfz1⟩ := HR.out.cell
       have g0' : w1.cell? ⟨r.p, 0, none⟩ = some (.slice none 0 0) := (by rw [← HV.out]; exact g0)
       have hp1' : r.p < w1.heap.size := hp1
       have O1 : Hid (World.ownsRow (w1.alloc (.cells #[] 43)) w1.heap.size 43 2 (.slice (some ⟨w1.heap.size, 0, none⟩) 0 0) ([] : List (Nat × List UInt8)).length (lcs [])) := owns_new2 w1
       have hsz1 : Hid (w1.heap.size ≤ (w1.alloc (.cells #[] 43)).heap.size) := (by show w1.heap.size ≤ _; simp)
       clear hown hgr kk1 kk2 g0 OI SRCF hp1)
    | (at_builtin
       refine append_pages_none w1.heap.size rfl _ _ rfl (.slice (some ⟨w1.heap.size, 0, none⟩) 0 0) [] rfl O1.out rfl ?_
       obtain ⟨w3, hw3⟩ : ∃ w3, Hid (w3 = w1.alloc (.cells #[] 43)) := ⟨_, rfl⟩
       have O3 : Hid (w3.ownsRow w1.heap.size 43 2 (.slice (some ⟨w1.heap.size, 0, none⟩) 0 0) LL.length (lcs LL)) := (by rw [hw3.out, hLn.out]; exact O1.out)
       have B3 : Hid (Below w1.heap.size w1 w3) := (by rw [hw3.out]; exact below_alloc _ _)
       rw [← hw3.out]
       obtain ⟨v3, hv3⟩ : ∃ v3, Hid (v3 = (.slice (some ⟨w1.heap.size, 0, none⟩) 0 0 : Value)) := ⟨_, rfl⟩
       rw [← hv3.out] at O3
       rw [← hv3.out])
    | (go_at_call 30
       refine (zeros_walk _).mono ?_
       rintro e w4 ⟨rfl, hb4⟩
       have O4 : Hid (World.ownsRow (w4.alloc (.cells #[.int .i64 (n : Int), .string G] 43)) w1.heap.size 43 2 v3 LL.length (lcs LL)) := World.ownsRow.alloc (owns_of_block O3.out fun k hk => hb4.block k (World.ownsRow.lt O3.out k hk).2) _
       have B4 : Hid (Below w1.heap.size w1 (w4.alloc (.cells #[.int .i64 (n : Int), .string G] 43))) := below_on (below_on B3.out hb4) (below_alloc _ _)
       have PN : Hid (∀ j u, (lcs [(n, zeroP)])[j]? = some u → (w4.alloc (.cells #[.int .i64 (n : Int), .string G] 43)).cell? ((⟨w4.heap.size, 0, none⟩ : Addr).add j) = some u) := (by rw [hG.out]; exact page_news w4 n zeroP)
       rw [← hG.out]
       clear hb4 O1 O3 B3)
    | (at_builtin
       refine append_pages w1.heap.size B4.out.size rfl _ _ rfl v3 LL rfl O4.out (by omega) ⟨w4.heap.size, 0, none⟩ [(n, zeroP)] 1 1 rfl rfl (by omega) PN.out ?_
       intro v6 w6 hown hgr
       have B6 : Hid (Below w1.heap.size w1 w6) := B4.out.grown hgr B4.out.size (row_lt O4.out)
       obtain ⟨a6, c6, rfl, _⟩ := owns_slice hown
       obtain ⟨kk1, kk2⟩ := HR.out.newl B6.out hown
       have K1 : Hid _ := kk1
       have K2 : Hid _ := kk2
       obtain ⟨d0, _, _, _, hp6, hf6⟩ := (rfSt.below HR.out B6.out : RfP _ w6).cell
       clear hown hgr O4 B4 kk1 kk2)
    | go_in)
  go_ret2
  have hnx : r.abs.next = n := by
    unfold RAbs.next Rf.abs
    have := HF.out
    simp [this]
  have k1 := K1.out
  have k2 := K2.out
  rw [show (LL ++ [(n, zeroP)]).length = LL.length + 1 by simp] at k1 k2
  refine ⟨by rw [hnx]; rfl, _, k1, rfl, ?_, M1.out.trans k2⟩
  unfold RAbs.alloc Rf.abs
  have := HF.out
  simp [this, hLL.out, RAbs.next]


set_option maxRecDepth 100000 in
set_option maxHeartbeats 2000000 in
theorem ralloc_b_some {r : Rf} {w : World} (h : RfP r w) (hl : r.L.length < r.q) (hq : r.q ≤ 4096) (hfl : r.fr.length ≤ 4096) {ys : List Nat} {n : Nat} (hf : r.fr = ys ++ [n]) (hv : ∃ gl cl, r.vl = .slice (some ⟨gl, 0, none⟩) r.L.length cl) : Calls Try.prog 13 #[arV r.p] w fun e w' => e = .returned (.tuple #[nv r.abs.next, .int .i64 0]) ∧ RGoes r w r.abs.alloc w' := by
  obtain ⟨G, hG⟩ : ∃ G, Hid (G = pstr zeroP) := ⟨_, rfl⟩
  obtain ⟨LL, hLL⟩ : ∃ LL, Hid (LL = r.L) := ⟨_, rfl⟩
  have hlt : (LL.length : Int) < (r.q : Int) := by rw [hLL.out]; omega
  have hl4 : LL.length ≤ 4096 := by rw [hLL.out]; omega
  have HH : Hid (RfP r w) := h
  have HF : Hid (r.fr = ys ++ [n]) := hf
  obtain ⟨gl, cl, hv⟩ := hv
  rw [← hLL.out] at hv
  obtain ⟨c0, c1, c2, c3, hp, hfz⟩ := h.cell
  rw [hv] at c0
  have hfl' : r.fr.length = ys.length + 1 := by rw [hf]; simp
  have hrf := h.rf
  obtain ⟨gf, cf, ef, _, hgf⟩ := hrf.form (by omega)
  obtain ⟨_, cf', ef2, _, hcf⟩ := owns_slice hrf
  rw [ef] at hrf
  rw [ef] at ef2
  cases ef2
  rw [ef, hfl'] at c1
  have hyl : ys.length ≤ 4096 := by omega
  have hcf' : ys.length + 1 ≤ cf := by omega
  have hw : wrap64 (ys.length : Int) = ys.length := by unfold wrap64; omega
  unfold nv at c2 c3
  have HV : Hid (r.vl = .slice (some ⟨gl, 0, none⟩) LL.length cl) := hv
  have EF : Hid (r.vf = .slice (some ⟨gf, 0, none⟩) r.fr.length cf) := ef
  rw [hfl'] at EF
  clear h hl hf hv ef hrf
  unfold arV
  go_enter Try.func13, Try.ntmps13
  go_wp2
  go_quiet (fail)
  have H0 : Hid (RfP r (w.drewN nq)) := rfSt.below HH.out (below_drewN (Below.refl _ _) _)
  have M0 : Hid (Moves rfSt r r w (w.drewN nq)) := Moves.below (below_drewN (Below.refl _ _) _)
  obtain ⟨w0, hw0⟩ : ∃ w0, Hid (w0 = w.drewN nq) := ⟨_, rfl⟩
  rw [← hw0.out] at H0 M0
  rw [← hw0.out]
  obtain ⟨e0, e1, e2, e3, hp0, hfz0⟩ := H0.out.cell
  rw [HV.out] at e0
  unfold nv at e2 e3
  clear c0 c1 c2 c3 hp hfz
  have X0 : Hid (w0.ownsRow 0 3 1 (.slice (some ⟨gf, 0, none⟩) (ys.length + 1) cf) (ys.length + 1) ((ys ++ [n]).map nv)) := by
    have x1 := H0.out.rf
    rw [EF.out, HF.out] at x1
    have x2 : (ys ++ [n]).length = ys.length + 1 := by simp
    rw [x2] at x1
    exact x1
  have e1' : w0.cell? ⟨r.p, 1, none⟩ = some (.slice (some ⟨gf, 0, none⟩) (ys.length + 1) cf) := by rw [← EF.out]; exact e1
  have eN : w0.cell? ⟨gf, ys.length, none⟩ = some (.int .i64 (n : Int)) := by rw [X0.out.cellAt _ (by omega)]; simp [nv]
  have hgf0 : gf < w0.heap.size := (X0.out.lt gf rfl).2
  have OI : Hid (World.ownsRow (w0.alloc (.cells #[] 3)) w0.heap.size 3 1 (.slice (some ⟨w0.heap.size, 0, none⟩) 0 0) 0 []) := owns_newi w0
  have SRCF : Hid (∀ j u, (ys.map nv)[j]? = some u → (w0.alloc (.cells #[] 3)).cell? ((⟨gf, 0, none⟩ : Addr).add j) = some u) := by
    intro j u hj
    refine (X0.out.alloc _).cells rfl j u ?_
    rw [List.map_append]
    rw [List.getElem?_append_left (by have := (List.getElem?_eq_some_iff.1 hj).1; exact this)]
    exact hj
  have hz0 : Hid (w0.heap.size ≤ (w0.alloc (.cells #[] 3)).heap.size) := by show w0.heap.size ≤ _; simp
  clear e1
  go_wp2_with (first
    | (at_builtin
       refine append_row (z := .int .i64 0) Try.underlying45 (by kernel_rfl) rfl w0.heap.size hz0.out rfl _ _ rfl (.slice (some ⟨w0.heap.size, 0, none⟩) 0 0) (ys.map nv) rfl OI.out ys.length (by omega) ⟨gf, 0, none⟩ cf rfl (by simp) SRCF.out (one_nv ys) ?_
       intro vx wx hown hgr
       have BX : Hid (Below w0.heap.size w0 wx) := (below_alloc w0 _).grown hgr hz0.out (row_lt OI.out)
       obtain ⟨a7, c7, rfl, _⟩ := owns_slice hown
       obtain ⟨kk1, kk2⟩ := H0.out.newf BX.out hown
       obtain ⟨w1, hw1⟩ : ∃ w1, Hid (w1 = wx.setCell ⟨r.p, 1, none⟩ (.slice a7 ys.length c7)) := ⟨_, rfl⟩
       have hw1' : wx.setCell ⟨r.p, 1, none⟩ (.slice a7 ys.length c7) = w1 := hw1.out.symm
       have HR : Hid (RfP { r with vf := .slice a7 ys.length c7, fr := ys } w1) := (by rw [hw1.out]; exact kk1)
       have M1 : Hid (Moves rfSt r { r with vf := .slice a7 ys.length c7, fr := ys } w w1) := M0.out.trans (by rw [hw1.out]; exact kk2)
       obtain ⟨_, x1, _, _, hpx, hfx⟩ := (rfSt.below H0.out BX.out : RfP r wx).cell
       obtain ⟨g0, _, _, _, hp1, hfz1⟩ := HR.out.cell
       have g0' : w1.cell? ⟨r.p, 0, none⟩ = some (.slice (some ⟨gl, 0, none⟩) LL.length cl) := (by rw [← HV.out]; exact g0)
       have hp1' : r.p < w1.heap.size := hp1
       have O1 : Hid (World.ownsRow (w1.alloc (.cells #[] 43)) w1.heap.size 43 2 (.slice (some ⟨w1.heap.size, 0, none⟩) 0 0) ([] : List (Nat × List UInt8)).length (lcs [])) := owns_new2 w1
       have hsz1 : Hid (w1.heap.size ≤ (w1.alloc (.cells #[] 43)).heap.size) := (by show w1.heap.size ≤ _; simp)
       clear hown hgr kk1 kk2 g0 OI SRCF hp1; have SRC : Hid (∀ j u, (lcs LL)[j]? = some u → (w1.alloc (.cells #[] 43)).cell? ((⟨gl, 0, none⟩ : Addr).add j) = some u) := (by
         have x1 := HR.out.rl
         have x2 : w1.ownsRow 0 43 2 (.slice (some ⟨gl, 0, none⟩) LL.length cl) LL.length (lcs LL) := (by rw [← HV.out, hLL.out]; exact x1)
         exact (x2.alloc _).cells rfl))
    | (at_builtin
       refine append_pages w1.heap.size hsz1.out rfl _ _ rfl (.slice (some ⟨w1.heap.size, 0, none⟩) 0 0) [] rfl O1.out (by simp) ⟨gl, 0, none⟩ LL LL.length cl rfl rfl (by omega) SRC.out ?_
       intro v3 w3 hown hgr
       have O3 : Hid (w3.ownsRow w1.heap.size 43 2 v3 LL.length (lcs LL)) := hown
       have B3 : Hid (Below w1.heap.size w1 w3) := (below_alloc w1 _).grown hgr hsz1.out (row_lt O1.out)
       clear hown hgr)
    | (go_at_call 30
       refine (zeros_walk _).mono ?_
       rintro e w4 ⟨rfl, hb4⟩
       have O4 : Hid (World.ownsRow (w4.alloc (.cells #[.int .i64 (n : Int), .string G] 43)) w1.heap.size 43 2 v3 LL.length (lcs LL)) := World.ownsRow.alloc (owns_of_block O3.out fun k hk => hb4.block k (World.ownsRow.lt O3.out k hk).2) _
       have B4 : Hid (Below w1.heap.size w1 (w4.alloc (.cells #[.int .i64 (n : Int), .string G] 43))) := below_on (below_on B3.out hb4) (below_alloc _ _)
       have PN : Hid (∀ j u, (lcs [(n, zeroP)])[j]? = some u → (w4.alloc (.cells #[.int .i64 (n : Int), .string G] 43)).cell? ((⟨w4.heap.size, 0, none⟩ : Addr).add j) = some u) := (by rw [hG.out]; exact page_news w4 n zeroP)
       rw [← hG.out]
       clear hb4 O1 O3 B3)
    | (at_builtin
       refine append_pages w1.heap.size B4.out.size rfl _ _ rfl v3 LL rfl O4.out (by omega) ⟨w4.heap.size, 0, none⟩ [(n, zeroP)] 1 1 rfl rfl (by omega) PN.out ?_
       intro v6 w6 hown hgr
       have B6 : Hid (Below w1.heap.size w1 w6) := B4.out.grown hgr B4.out.size (row_lt O4.out)
       obtain ⟨a6, c6, rfl, _⟩ := owns_slice hown
       obtain ⟨kk1, kk2⟩ := HR.out.newl B6.out hown
       have K1 : Hid _ := kk1
       have K2 : Hid _ := kk2
       obtain ⟨d0, _, _, _, hp6, hf6⟩ := (rfSt.below HR.out B6.out : RfP _ w6).cell
       clear hown hgr O4 B4 kk1 kk2)
    | go_in)
  go_ret2
  have hnx : r.abs.next = n := by
    unfold RAbs.next Rf.abs
    have := HF.out
    simp [this]
  have k1 := K1.out
  have k2 := K2.out
  rw [show (LL ++ [(n, zeroP)]).length = LL.length + 1 by simp] at k1 k2
  refine ⟨by rw [hnx]; rfl, _, k1, rfl, ?_, M1.out.trans k2⟩
  unfold RAbs.alloc Rf.abs
  have := HF.out
  simp [this, hLL.out, RAbs.next]


theorem ralloc_ok {r : Rf} {w : World} (h : RfP r w) (hl : r.L.length < r.q) (hq : r.q ≤ 4096) (hx : r.nx ≤ 10000) (hfl : r.fr.length ≤ 4096) : Calls Try.prog 13 #[arV r.p] w fun e w' => e = .returned (.tuple #[nv r.abs.next, .int .i64 0]) ∧ RGoes r w r.abs.alloc w' := by
  rcases h.rl.2 with ⟨hv, _⟩ | ⟨g, cap, cur, hv, _⟩
  · cases hg : r.fr.getLast? with
    | none => exact ralloc_a_nil h hl hq hx (by simpa using hg) hv
    | some n =>
      obtain ⟨ys, hy⟩ := List.getLast?_eq_some_iff.1 hg
      exact ralloc_b_nil h hl hq hfl hy hv
  · cases hg : r.fr.getLast? with
    | none => exact ralloc_a_some h hl hq hx (by simpa using hg) ⟨g, cap, hv⟩
    | some n =>
      obtain ⟨ys, hy⟩ := List.getLast?_eq_some_iff.1 hg
      exact ralloc_b_some h hl hq hfl hy ⟨g, cap, hv⟩
end Go.Proofs.Ytcoehlnmaehhjaa
