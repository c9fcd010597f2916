/-
  Delta: the law's example.
-/
import Derived.Test.YtmcbpopeinabcaaDlG
namespace Go.Proofs.Ytmcbpopeinabcaa
open Go.RowKit

theorem row_walk (n : Int) (w : World) : Calls Try.prog 26 #[.int .i64 n] w fun e w' => e = .returned (.slice (some ⟨w.heap.size, 0, none⟩) 1 1) ∧ w' = w.alloc (.cells #[.int .i64 2, .int .i64 n, .string ⟨#[]⟩] 55) := by
  go_enter Try.func26, Try.ntmps26
  go_wp2
  go_ret
  exact ⟨rfl, rfl⟩

/-- A row of one value lies there. -/
def Row1 (W : World) (b : Nat) (n : Int) : Prop := W.heap[b]? = some (.cells #[.int .i64 2, .int .i64 n, .string ⟨#[]⟩] 55 (0, 0))

theorem Row1.slv {W : World} {b : Nat} {n : Int} (h : Row1 W b n) : SlV W (some ⟨b, 0, none⟩) [⟨2, n, ⟨#[]⟩⟩] := by
  refine Or.inr ⟨b, 0, rfl, (Array.getElem?_eq_some_iff.1 h).1, fun j v hj => ?_⟩
  have e0 : W.cell? ⟨b, 0, none⟩ = some (.int .i64 2) := cell_of_row _ _ _ _ _ _ h
  have e1 : W.cell? ⟨b, 1, none⟩ = some (.int .i64 n) := cell_of_row _ _ _ _ _ _ h
  have e2 : W.cell? ⟨b, 2, none⟩ = some (.string ⟨#[]⟩) := cell_of_row _ _ _ _ _ _ h
  cases j with
  | zero => simp at hj; subst hj; exact ⟨e0, e1, e2⟩
  | succ j => simp at hj

def tB : ByteArray := ⟨#[116]⟩
def v1 (n : Int) : List Va := [⟨2, n, ⟨#[]⟩⟩]

/-- The example's two changes. -/
def exR (oa : Option Addr) (ol oc : Nat) (na : Option Addr) (nl nc : Nat) : RC := ⟨tB, 1, oa, ol, oc, na, nl, nc⟩

theorem ex_means {W : World} {oa na : Option Addr} {ol oc nl nc : Nat} {o n : List Va} (ho : SlV W oa o) (hn : SlV W na n) (h1 : o.length = ol) (h2 : n.length = nl) (b1 : ol ≤ 1) (b2 : nl ≤ 1) (g1 : oa = none → oc = 0) (g2 : na = none → nc = 0) : Means W (exR oa ol oc na nl nc) ⟨tB, 1, o, n⟩ :=
  ⟨rfl, rfl, h1, h2, by show ol ≤ 1000; omega, by show nl ≤ 1000; omega, ho, hn, g1, g2, by show tB.size ≤ 1000000; decide, by show (Lit.int .i64 1).wf = true; decide⟩

theorem ex_slc {W : World} {b : Nat} {x y : PC} (h : W.heap[b]? = some (.cells #[.string x.1.t, .int .i64 x.1.id, .slice x.1.oa x.1.ol x.1.oc, .slice x.1.na x.1.nl x.1.nc, .string y.1.t, .int .i64 y.1.id, .slice y.1.oa y.1.ol y.1.oc, .slice y.1.na y.1.nl y.1.nc] 27 (0, 0))) : SlC W (some ⟨b, 0, none⟩) [x, y] := by
  refine Or.inr ⟨b, 0, rfl, (Array.getElem?_eq_some_iff.1 h).1, fun j v hj => ?_⟩
  have e := fun i => cell_of_row W b i _ _ _ h
  match j, hj with
  | 0, hj => simp at hj; subst hj; exact ⟨e 0, e 1, e 2, e 3⟩
  | 1, hj => simp at hj; subst hj; exact ⟨e 4, e 5, e 6, e 7⟩
  | j + 2, hj => simp at hj

theorem ex_fold (o n m : List Va) : foldC [⟨tB, 1, o, n⟩, ⟨tB, 1, n, m⟩] = [⟨tB, 1, o, m⟩] := by
  have h1 : stepC [] ⟨tB, 1, o, n⟩ = [⟨tB, 1, o, n⟩] := rfl
  show stepC (stepC [] _) _ = _
  rw [h1]
  unfold stepC
  have hk : Chg.isK ⟨tB, 1, o, n⟩ (Chg.key ⟨tB, 1, n, m⟩) = true := isK_iff.2 rfl
  rw [if_pos (by simp [hk])]
  simp [hk]

theorem ex_net {o n m : List Va} {N : List Chg} (h : IsNet [⟨tB, 1, o, n⟩, ⟨tB, 1, n, m⟩] N) : N = netF [⟨tB, 1, o, m⟩] := by
  refine h.uniq (net_of (D := [⟨tB, 1, o, m⟩]) ?_ ?_)
  · rw [ex_fold]
  · simp

theorem ex_none {N : List PC} (h : IsNet [⟨tB, 1, [], v1 1⟩, ⟨tB, 1, v1 1, []⟩] (N.map (·.2))) : N = [] := by
  have := ex_net h
  have e : netF [⟨tB, 1, [], []⟩] = [] := rfl
  rw [e] at this
  exact List.map_eq_nil_iff.1 this

theorem ex_one {N : List PC} (h : IsNet [⟨tB, 1, [], v1 1⟩, ⟨tB, 1, v1 1, v1 2⟩] (N.map (·.2))) : ∃ r, N = [(r, ⟨tB, 1, [], v1 2⟩)] := by
  have := ex_net h
  have e : netF [⟨tB, 1, [], v1 2⟩] = [⟨tB, 1, [], v1 2⟩] := rfl
  rw [e] at this
  obtain ⟨x, rfl, hx⟩ := List.map_eq_singleton_iff.1 this
  obtain ⟨r, c⟩ := x
  exact ⟨r, by simp only at hx; rw [hx]⟩

/-- A change lies at the beginning of a block. -/
def Box4at (W : World) (g : Nat) (r : RC) : Prop := W.cell? ⟨g, 0, none⟩ = some (.string r.t) ∧ W.cell? ⟨g, 1, none⟩ = some (.int .i64 r.id) ∧ W.cell? ⟨g, 2, none⟩ = some (.slice r.oa r.ol r.oc) ∧ W.cell? ⟨g, 3, none⟩ = some (.slice r.na r.nl r.nc) ∧ g < W.heap.size

theorem ex_call1 (w : World) : Calls Try.prog 14 #[.slice (some ⟨w.heap.size + 1 + 1, 0, none⟩) 2 2] (((w.alloc (.cells #[.int .i64 2, .int .i64 1, .string ⟨#[]⟩] 55)).alloc (.cells #[.int .i64 2, .int .i64 1, .string ⟨#[]⟩] 55)).alloc (.cells #[.string ⟨#[116]⟩, .int .i64 1, .slice none 0 0, .slice (some ⟨w.heap.size, 0, none⟩) 1 1, .string ⟨#[116]⟩, .int .i64 1, .slice (some ⟨w.heap.size + 1, 0, none⟩) 1 1, .slice none 0 0] 27))
    fun e w' => ∃ a c, e = .returned (.slice a 0 c) ∧ Below w.heap.size w w' := by
  have B : ∀ x y z, Below w.heap.size w (((w.alloc x).alloc y).alloc z) := fun x y z => ((below_alloc w x).alloc (by simp) y).alloc (by simp <;> omega) z
  have r1 : ∀ y z, Row1 (((w.alloc (.cells #[.int .i64 2, .int .i64 1, .string ⟨#[]⟩] 55)).alloc y).alloc z) w.heap.size 1 := fun y z => by
    unfold Row1; rw [Below.heap_alloc _ _ _ (by simp <;> omega), Below.heap_alloc _ _ _ (by simp), go_heap_new]
  have r2 : ∀ x z, Row1 (((w.alloc x).alloc (.cells #[.int .i64 2, .int .i64 1, .string ⟨#[]⟩] 55)).alloc z) (w.heap.size + 1) 1 := fun x z => by
    unfold Row1; rw [Below.heap_alloc _ _ _ (by simp), go_heap_new' _ _ (by simp)]
  have hs := ex_slc (W := (((w.alloc (.cells #[.int .i64 2, .int .i64 1, .string ⟨#[]⟩] 55)).alloc (.cells #[.int .i64 2, .int .i64 1, .string ⟨#[]⟩] 55)).alloc (.cells #[.string ⟨#[116]⟩, .int .i64 1, .slice none 0 0, .slice (some ⟨w.heap.size, 0, none⟩) 1 1, .string ⟨#[116]⟩, .int .i64 1, .slice (some ⟨w.heap.size + 1, 0, none⟩) 1 1, .slice none 0 0] 27))) (b := w.heap.size + 1 + 1)
    (x := (exR none 0 0 (some ⟨w.heap.size, 0, none⟩) 1 1, ⟨tB, 1, [], v1 1⟩)) (y := (exR (some ⟨w.heap.size + 1, 0, none⟩) 1 1 none 0 0, ⟨tB, 1, v1 1, []⟩)) (go_heap_new' _ _ (by simp))
  refine (net_walk (n := 2) (c := 2) hs ?_ rfl (by decide)).mono ?_
  · intro x hx
    simp only [List.mem_cons, List.not_mem_nil, or_false] at hx
    rcases hx with rfl | rfl
    · exact ex_means (Or.inl rfl) (r1 _ _).slv rfl rfl (by decide) (by decide) (fun _ => rfl) (fun h => by cases h)
    · exact ex_means (r2 _ _).slv (Or.inl rfl) rfl rfl (by decide) (by decide) (fun h => by cases h) (fun _ => rfl)
  · rintro e w' ⟨v, rfl, N, hN, hi⟩
    have := ex_none hi
    subst this
    obtain ⟨a, c, rfl⟩ := owns_slice hN.own
    exact ⟨a, c, rfl, (B _ _ _).trans (hN.below.mono (B _ _ _).size)⟩

theorem ex_call2 (w : World) : Calls Try.prog 14 #[.slice (some ⟨w.heap.size + 1 + 1 + 1, 0, none⟩) 2 2] ((((w.alloc (.cells #[.int .i64 2, .int .i64 1, .string ⟨#[]⟩] 55)).alloc (.cells #[.int .i64 2, .int .i64 1, .string ⟨#[]⟩] 55)).alloc (.cells #[.int .i64 2, .int .i64 2, .string ⟨#[]⟩] 55)).alloc (.cells #[.string ⟨#[116]⟩, .int .i64 1, .slice none 0 0, .slice (some ⟨w.heap.size, 0, none⟩) 1 1, .string ⟨#[116]⟩, .int .i64 1, .slice (some ⟨w.heap.size + 1, 0, none⟩) 1 1, .slice (some ⟨w.heap.size + 1 + 1, 0, none⟩) 1 1] 27))
    fun e w' => ∃ g c, e = .returned (.slice (some ⟨g, 0, none⟩) 1 c) ∧ ∃ r : RC, Box4at w' g r ∧ Means w' r ⟨tB, 1, [], v1 2⟩ ∧ Below w.heap.size w w' := by
  have B : ∀ x y z u, Below w.heap.size w ((((w.alloc x).alloc y).alloc z).alloc u) := fun x y z u => (((below_alloc w x).alloc (by simp) y).alloc (by simp <;> omega) z).alloc (by simp <;> omega) u
  have r1 : ∀ y z u, Row1 ((((w.alloc (.cells #[.int .i64 2, .int .i64 1, .string ⟨#[]⟩] 55)).alloc y).alloc z).alloc u) w.heap.size 1 := fun y z u => by
    unfold Row1; rw [Below.heap_alloc _ _ _ (by simp <;> omega), Below.heap_alloc _ _ _ (by simp <;> omega), Below.heap_alloc _ _ _ (by simp), go_heap_new]
  have r2 : ∀ x z u, Row1 ((((w.alloc x).alloc (.cells #[.int .i64 2, .int .i64 1, .string ⟨#[]⟩] 55)).alloc z).alloc u) (w.heap.size + 1) 1 := fun x z u => by
    unfold Row1; rw [Below.heap_alloc _ _ _ (by simp <;> omega), Below.heap_alloc _ _ _ (by simp), go_heap_new' _ _ (by simp)]
  have r3 : ∀ x y u, Row1 ((((w.alloc x).alloc y).alloc (.cells #[.int .i64 2, .int .i64 2, .string ⟨#[]⟩] 55)).alloc u) (w.heap.size + 1 + 1) 2 := fun x y u => by
    unfold Row1; rw [Below.heap_alloc _ _ _ (by simp), go_heap_new' _ _ (by simp)]
  have hs := ex_slc (W := ((((w.alloc (.cells #[.int .i64 2, .int .i64 1, .string ⟨#[]⟩] 55)).alloc (.cells #[.int .i64 2, .int .i64 1, .string ⟨#[]⟩] 55)).alloc (.cells #[.int .i64 2, .int .i64 2, .string ⟨#[]⟩] 55)).alloc (.cells #[.string ⟨#[116]⟩, .int .i64 1, .slice none 0 0, .slice (some ⟨w.heap.size, 0, none⟩) 1 1, .string ⟨#[116]⟩, .int .i64 1, .slice (some ⟨w.heap.size + 1, 0, none⟩) 1 1, .slice (some ⟨w.heap.size + 1 + 1, 0, none⟩) 1 1] 27))) (b := w.heap.size + 1 + 1 + 1)
    (x := (exR none 0 0 (some ⟨w.heap.size, 0, none⟩) 1 1, ⟨tB, 1, [], v1 1⟩)) (y := (exR (some ⟨w.heap.size + 1, 0, none⟩) 1 1 (some ⟨w.heap.size + 1 + 1, 0, none⟩) 1 1, ⟨tB, 1, v1 1, v1 2⟩)) (go_heap_new' _ _ (by simp))
  refine (net_walk (n := 2) (c := 2) hs ?_ rfl (by decide)).mono ?_
  · intro x hx
    simp only [List.mem_cons, List.not_mem_nil, or_false] at hx
    rcases hx with rfl | rfl
    · exact ex_means (Or.inl rfl) (r1 _ _ _).slv rfl rfl (by decide) (by decide) (fun _ => rfl) (fun h => by cases h)
    · exact ex_means (r2 _ _ _).slv (r3 _ _ _).slv rfl rfl (by decide) (by decide) (fun h => by cases h) (fun h => by cases h)
  · rintro e w' ⟨v, rfl, N, hN, hi⟩
    obtain ⟨r, rfl⟩ := ex_one hi
    obtain ⟨a, c, rfl⟩ := owns_slice hN.own
    obtain ⟨g, rfl⟩ := owns_addr hN.own (by simp)
    refine ⟨g, c, rfl, r, ?_, hN.all (r, ⟨tB, 1, [], v1 2⟩) (by simp), (B _ _ _ _).trans (hN.below.mono (B _ _ _ _).size)⟩
    have hc := fun j u hu => World.ownsRow.cells hN.own (g := g) rfl j u hu
    simp only [add_none, Nat.zero_add] at hc
    exact ⟨hc 0 _ rfl, hc 1 _ rfl, hc 2 _ rfl, hc 3 _ rfl, (hN.own.lt g rfl).2⟩

set_option maxRecDepth 100000 in
set_option maxHeartbeats 1000000 in
theorem awake_walk (w : World) : Calls Try.prog 8 #[] w fun e w' => e = .returned (.bool true) ∧ Below w.heap.size w w' := by
  go_enter Try.func8, Try.ntmps8
  go_wp2_with (first | (go_at_call 26; refine (row_walk _ _).mono ?_; rintro e w' ⟨rfl, rfl⟩) | fail)
  refine (ex_call1 w).mono ?_
  rintro e W1 ⟨a1, k1, rfl, B1⟩
  have HB1 := dhid B1
  clear B1
  go_wp2_with (first | (go_at_call 26; refine (row_walk _ _).mono ?_; rintro e w' ⟨rfl, rfl⟩) | fail)
  refine (ex_call2 W1).mono ?_
  rintro e W2 ⟨g, k2, rfl, r, hr, hm, B2⟩
  obtain ⟨x0, x1, x2, x3, xl⟩ := hr
  have HB2 := dhid (below_on HB1.out B2 HB1.out.size)
  have HK := dhid (kind_walk hm)
  have hnl : r.nl = 1 := hm.nl.symm
  obtain ⟨b, o, u, ena, hb, hu, y0, y1, y2⟩ := hm.n.at (j := 0) (by decide)
  have hu' : u = ⟨2, 2, ⟨#[]⟩⟩ := by simp [v1] at hu; exact hu.symm
  subst hu'
  clear B2 hu hm HB1
  obtain ⟨rt, ri, ro, rl, rc, rn, rm, rd⟩ := r
  dsimp only at *
  subst ena
  subst hnl
  have hk1 : Chg.kind ⟨tB, 1, [], v1 2⟩ = 1 := rfl
  rw [hk1] at HK
  go_wp2_with fail
  refine HK.out.mono ?_
  rintro e W3 ⟨rfl, B3⟩
  have HB3 := dhid (below_on HB2.out B3 HB2.out.size)
  have e3 := fun i => B3.cell (p := ⟨g, i, none⟩) xl
  have f3 := fun i => B3.cell (p := ⟨b, i, none⟩) hb
  have z3 := (e3 3).trans x3
  have z1 := (f3 _).trans y1
  clear HK B3 e3 f3 x0 x1 x2 x3 y0 y1 y2
  rw [Nat.zero_mul] at z1
  go_wp2
  go_ret
  exact ⟨rfl, HB3.out⟩
end Go.Proofs.Ytmcbpopeinabcaa
