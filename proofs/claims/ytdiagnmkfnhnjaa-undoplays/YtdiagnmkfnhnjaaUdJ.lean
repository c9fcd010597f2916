/-
  Undo: the law's plain, the document's Same of entries, the document's log: Len and Saves.
-/
import Derived.Test.YtdiagnmkfnhnjaaUdP
namespace Go.Proofs.Ytdiagnmkfnhnjaa
open Go.RowKit Rw

theorem infoREnt : (Try.prog.info? 40).map (fun i => (i.zero, i.size, i.bytes)) = some (some (.agg #[.int .i64 0, .int .i64 0, .string ⟨#[]⟩, .slice none 0 0, .slice none 0 0]), 5, 80) := by kernel_rfl

set_option maxRecDepth 100000 in
set_option maxHeartbeats 1000000 in
theorem plain_walk {l : List PE} {a : Option Addr} {n c : Nat} {w : World} (h : SlG peC 5 w a l) (hl : l.length = n) (hn : n ≤ 100000) :
    Calls Try.prog 16 #[.slice a n c] w fun e w' => ∃ v', e = .returned v' ∧ w'.ownsRow w.heap.size 40 5 v' n (flat peC l) ∧ Below w.heap.size w w' := by
  have HH := dhid h
  have HL := dhid hl
  have HT : Hid (l.take n = l) := by show _ = _; rw [← hl]; exact List.take_length
  clear h hl
  go_enter Try.func16, Try.ntmps16
  go_wp2
  go_loopw [3, 8] (fun s i wr => ∃ j : Nat, j ≤ n ∧ i = .int .i64 (j : Int) ∧ Hid (wr.ownsRow w.heap.size 40 5 s j (flat peC (l.take j)) ∧ Below w.heap.size w wr)) (fun _ i _ => n - (intOf i).toNat)
  case atStart => exact ⟨0, Nat.zero_le _, rfl, World.ownsRow_nil _ _ _ _, Below.refl _ _⟩
  case round =>
    obtain ⟨j, hj, rfl, HI⟩ := hrel
    by_cases hlt : j < n
    · obtain ⟨b, o, x, rfl, hb, hx, hc⟩ := (HH.out.below HI.out.2).at (j := j) (by rw [HL.out]; exact hlt)
      have c0 : wr.cell? ⟨b, o + j * 5, none⟩ = some (.int .i64 x.1.k) := hc 0 _ rfl
      have c1 := hc 1 _ rfl
      have c2 := hc 2 _ rfl
      have c3 := hc 3 _ rfl
      have c4 := hc 4 _ rfl
      have HX := dhid hx
      clear hx hc
      go_wp2_with (first | (at_builtin; revert HI) | go_in)
      intro HI
      refine to_letter (F := fun W => Below wr.heap.size wr W ∧ Src W (some ⟨wr.heap.size + 1, 0, none⟩) 1 1 (peC x)) ⟨(below_alloc wr _).alloc (by simp) _, src_new _ (peC x) _ 1 1 (by simp)⟩ ?_
      rintro U ⟨bU, sU⟩
      have o1 := owns_on HI.out.1 bU
      have b1 := below_on HI.out.2 bU HI.out.2.size
      refine append_src Try.underlying47 infoREnt rfl (by decide) (by decide) rfl _ _ rfl w.heap.size b1.size _ j (flat peC (l.take j)) rfl o1 _ 1 1 (peC x) rfl sU rfl (peC_one x) (by omega) ?_
      intro v2 W2 O2 G2 _
      have e2 : flat peC (l.take j) ++ peC x = flat peC (l.take (j + 1)) := by rw [take_snoc HX.out, flat_append]; simp [flat]
      rw [e2] at O2
      have HI2 := dhid (And.intro O2 (b1.grown G2 b1.size fun p hp => (o1.lt p hp).1))
      clear O2 G2 e2 o1 b1 bU sU HI c0 c1 c2 c3 c4
      go_wp2
      exact ⟨⟨j + 1, hlt, by go_num, HI2⟩, by simp [intOf]; omega⟩
    · have hjn : j = n := by omega
      subst hjn
      rw [HT.out] at HI
      go_wp2
      go_ret
      exact ⟨_, rfl, HI.out.1, HI.out.2⟩

set_option maxRecDepth 100000 in
set_option maxHeartbeats 2000000 in
theorem esame_walk {l m : List PE} {a b : Option Addr} {n c d : Nat} {w : World} (h1 : SlG peC 5 w a l) (h2 : SlG peC 5 w b m) (m1 : ∀ x ∈ l, MeansE w x.1 x.2) (m2 : ∀ x ∈ m, MeansE w x.1 x.2) (he : l.map (·.2) = m.map (·.2)) (hl : l.length = n) (hn : n ≤ 100000) :
    Calls Try.prog 15 #[.slice a n c, .slice b n d] w fun e w' => e = .returned (.bool true) ∧ ∃ q, w' = w.drewN q := by
  have H1 := dhid h1
  have H2 := dhid h2
  have M1 := dhid m1
  have M2 := dhid m2
  have HE := dhid he
  have HL := dhid hl
  have HL2 : Hid (m.length = n) := by have := congrArg List.length he; simp at this; show _ = _; omega
  clear h1 h2 m1 m2 he hl
  have hnn : ((n : Int) == (n : Int)) = true := beq_self_eq_true _
  go_enter Try.func15, Try.ntmps15
  go_wp2
  go_loopw [5] (fun i wr => ∃ j : Nat, j ≤ n ∧ i = .int .i64 j ∧ Hid (∃ k, wr = w.drewN k)) (fun i _ => n - (intOf i).toNat)
  case atStart => exact ⟨0, Nat.zero_le _, rfl, 0, rfl⟩
  case round =>
    obtain ⟨j, hj, rfl, HK⟩ := hrel
    have HB : Hid (Below w.heap.size w wr) := by obtain ⟨k, e⟩ := HK.out; rw [e]; exact below_drewN (Below.refl _ _) k
    by_cases hlt : j < n
    · obtain ⟨b1, o1, x, rfl, hb1, hx, hc⟩ := (H1.out.below HB.out).at (j := j) (by rw [HL.out]; exact hlt)
      obtain ⟨b2, o2, y, rfl, hb2, hy, hd⟩ := (H2.out.below HB.out).at (j := j) (by rw [HL2.out]; exact hlt)
      have c0 : wr.cell? ⟨b1, o1 + j * 5, none⟩ = some (.int .i64 x.1.k) := hc 0 _ rfl
      have c1 : wr.cell? ⟨b1, o1 + j * 5 + 1, none⟩ = some (.int .i64 x.1.id) := hc 1 _ rfl
      have c2 : wr.cell? ⟨b1, o1 + j * 5 + 2, none⟩ = some (.string x.1.t) := hc 2 _ rfl
      have c3 : wr.cell? ⟨b1, o1 + j * 5 + 3, none⟩ = some (.slice x.1.oa x.1.ol x.1.oc) := hc 3 _ rfl
      have c4 : wr.cell? ⟨b1, o1 + j * 5 + 4, none⟩ = some (.slice x.1.na x.1.nl x.1.nc) := hc 4 _ rfl
      have d0 : wr.cell? ⟨b2, o2 + j * 5, none⟩ = some (.int .i64 y.1.k) := hd 0 _ rfl
      have d1 : wr.cell? ⟨b2, o2 + j * 5 + 1, none⟩ = some (.int .i64 y.1.id) := hd 1 _ rfl
      have d2 : wr.cell? ⟨b2, o2 + j * 5 + 2, none⟩ = some (.string y.1.t) := hd 2 _ rfl
      have d3 : wr.cell? ⟨b2, o2 + j * 5 + 3, none⟩ = some (.slice y.1.oa y.1.ol y.1.oc) := hd 3 _ rfl
      have d4 : wr.cell? ⟨b2, o2 + j * 5 + 4, none⟩ = some (.slice y.1.na y.1.nl y.1.nc) := hd 4 _ rfl
      have hxy : x.2 = y.2 := by
        have := congrArg (·[j]?) HE.out
        simp only [List.getElem?_map, hx, hy, Option.map_some, Option.some.injEq] at this
        exact this
      have mx := (M1.out x (List.mem_of_getElem? hx)).below HB.out
      have my := (M2.out y (List.mem_of_getElem? hy)).below HB.out
      have ek : x.1.k = y.1.k := by rw [mx.k, my.k, hxy]
      have et : x.1.t = y.1.t := by rw [mx.t, my.t, hxy]
      have ei : x.1.id = y.1.id := by rw [mx.id, my.id, hxy]
      have hso := rsame_walk x.1.oa y.1.oa x.1.ol y.1.ol x.1.oc y.1.oc x.2.o y.2.o mx.ol my.ol (by have := mx.ob; omega) (by have := my.ob; omega)
      have hsn := rsame_walk x.1.na y.1.na x.1.nl y.1.nl x.1.nc y.1.nc x.2.n y.2.n mx.nl my.nl (by have := mx.nb; omega) (by have := my.nb; omega)
      rw [show sameL x.2.o y.2.o = true by rw [hxy]; exact sameL_self _] at hso
      rw [show sameL x.2.n y.2.n = true by rw [hxy]; exact sameL_self _] at hsn
      have HSO := dhid (fun q => hso (wr.drewN q) mx.o my.o)
      have HSN := dhid (fun q => hsn (wr.drewN q) mx.n my.n)
      rw [← ek] at d0
      rw [← ei] at d1
      rw [← et] at d2
      clear hso hsn mx my et ei ek hxy hx hy hc hd
      obtain ⟨⟨xk, xi, xt, xo, xl, xc, xn, xm, xd⟩, xx⟩ := x
      obtain ⟨⟨yk, yi, yt, yo, yl, yc, yn, ym, yd⟩, yy⟩ := y
      dsimp only at *
      have ht : (xt.toList == xt.toList) = true := beq_self_eq_true _
      have hkk : (xk == xk) = true := beq_self_eq_true _
      have hii : (xi == xi) = true := beq_self_eq_true _
      go_wp2_with fail
      go_quiet (first | rfl | (go_at_call_of 28 (xo); exact Calls.quiet_of (HSO.out _)) | (go_at_call_of 28 (xn); exact Calls.quiet_of (HSN.out _)))
      go_wp2
      refine ⟨⟨j + 1, by omega, by go_num, ?_⟩, by simp [intOf]; omega⟩
      obtain ⟨k, e⟩ := HK.out
      rw [e]
      exact ⟨_, World.drewN_drewN _ _ _⟩
    · have hjn : j = n := by omega
      subst hjn
      go_wp2
      go_ret
      exact ⟨rfl, HK.out⟩

/-- The document's log. -/
structure DLg (B d q : Nat) (v : Value) (D : List DI) (W : World) : Prop where
  box : W.heap[d]? = some (.cells #[.int .i64 (q : Int), v] 32 (0, 0))
  base : B ≤ d
  own : W.ownsRow B 67 7 v D.length (flat diC D)

theorem DLg.lt {B d q : Nat} {v : Value} {D : List DI} {W : World} (h : DLg B d q v D W) : d < W.heap.size := (Array.getElem?_eq_some_iff.1 h.box).1
theorem DLg.facts {B d q : Nat} {v : Value} {D : List DI} {W : World} (h : DLg B d q v D W) : W.cell? ⟨d, 0, none⟩ = some (.int .i64 (q : Int)) ∧ W.cell? ⟨d, 1, none⟩ = some v ∧ W.frozen? ⟨d, 1, none⟩ = false ∧ d < W.heap.size :=
  ⟨cell_of_row _ _ _ _ _ _ h.box, cell_of_row _ _ _ _ _ _ h.box, frozen_of_row _ _ _ _ _ h.box, h.lt⟩
theorem DLg.kind {B d q : Nat} {v : Value} {D : List DI} {W W' : World} (h : DLg B d q v D W) (hb : ∀ (g e : Nat) (cur : Array Value), W.heap[g]? = some (Obj.cells cur e (0, 0)) → e = 32 ∨ e = 67 → W'.heap[g]? = some (Obj.cells cur e (0, 0))) : DLg B d q v D W' :=
  ⟨hb _ _ _ h.box (Or.inl rfl), h.base, owns_below h.own fun p hp => by obtain ⟨cur, hc⟩ := owns_block h.own hp; rw [hc]; exact hb _ _ _ hc (Or.inr rfl)⟩
theorem DLg.on {B d q : Nat} {v : Value} {D : List DI} {W W' : World} (h : DLg B d q v D W) (hb : Below W.heap.size W W') : DLg B d q v D W' := h.kind fun g _ _ hg _ => (hb.block g (Array.getElem?_eq_some_iff.1 hg).1).trans hg

theorem DLg.item {B d q : Nat} {a : Option Addr} {n c : Nat} {D : List DI} {W : World} (h : DLg B d q (.slice a n c) D W) {k : Nat} {x : DI} (hx : D[k]? = some x) : ∃ g, a = some ⟨g, 0, none⟩ ∧ g < W.heap.size ∧ W.cell? ⟨g, k * 7, none⟩ = some (.bool x.b) ∧ W.cell? ⟨g, k * 7 + 1, none⟩ = some (.string x.nm) ∧ W.cell? ⟨g, k * 7 + 2, none⟩ = some (.int .i64 x.p.1.k) ∧ W.cell? ⟨g, k * 7 + 3, none⟩ = some (.int .i64 x.p.1.id) ∧ W.cell? ⟨g, k * 7 + 4, none⟩ = some (.string x.p.1.t) ∧ W.cell? ⟨g, k * 7 + 5, none⟩ = some (.slice x.p.1.oa x.p.1.ol x.p.1.oc) ∧ W.cell? ⟨g, k * 7 + 6, none⟩ = some (.slice x.p.1.na x.p.1.nl x.p.1.nc) := by
  have hk := (List.getElem?_eq_some_iff.1 hx).1
  have ho := h.own
  have hnl : n = D.length := by
    obtain ⟨a', c', e⟩ := owns_slice ho
    cases e; rfl
  rcases owns_addr ho with ⟨-, h0, -⟩ | ⟨g, rfl⟩
  · omega
  · exact ⟨g, rfl, (own_fro ho 0).2, own_at diC_len ho hx (i := 0) rfl, own_at diC_len ho hx (i := 1) rfl, own_at diC_len ho hx (i := 2) rfl, own_at diC_len ho hx (i := 3) rfl, own_at diC_len ho hx (i := 4) rfl, own_at diC_len ho hx (i := 5) rfl, own_at diC_len ho hx (i := 6) rfl⟩
end Go.Proofs.Ytdiagnmkfnhnjaa
