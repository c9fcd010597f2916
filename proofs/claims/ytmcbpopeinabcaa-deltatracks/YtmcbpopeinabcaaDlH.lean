/-
  Delta: Plain of the law, the document's Same.
-/
import Derived.Test.YtmcbpopeinabcaaDlG
namespace Go.Proofs.Ytmcbpopeinabcaa
open Go.RowKit

theorem infoRChg : (Try.prog.info? 30).map (fun i => (i.zero, i.size, i.bytes)) = some (some (.agg #[.string ⟨#[]⟩, .int .i64 0, .slice none 0 0, .slice none 0 0]), 4, 72) := by kernel_rfl

theorem src_newT (T : TypeId) (W : World) (x : RC) {k : Nat} (hk : k = W.heap.size) : Src (W.alloc (.cells #[.string x.t, .int .i64 x.id, .slice x.oa x.ol x.oc, .slice x.na x.nl x.nc] T)) (some ⟨k, 0, none⟩) 1 1 (rcC x) := by
  subst hk
  refine Or.inr ⟨_, rfl, fun j u hu => ?_⟩
  rw [add_none, Nat.zero_add, cell_of_row _ _ _ _ _ _ (go_heap_new _ _)]
  simpa [rcC] using hu

/-- A list that is gathered: the very changes. -/
structure PlW (w : World) (v : Value) (N : List PC) (W : World) : Prop where
  below : Below w.heap.size w W
  own : W.ownsRow w.heap.size 30 4 v N.length (rcs N)

theorem PlW.on {w W W' : World} {v : Value} {N : List PC} (h : PlW w v N W) (hb : Below W.heap.size W W') : PlW w v N W' :=
  ⟨below_on h.below hb h.below.size, owns_below h.own fun q hq => hb.block q (h.own.lt q hq).2⟩

theorem PlW.grow {w W W3 : World} {v v3 : Value} {N : List PC} {x : PC} {n : Nat} (h : PlW w v N W) (hn : N.length = n) (O : W3.ownsRow w.heap.size 30 4 v3 (n + 1) (rcs N ++ rcC x.1)) (G : W.grownBy W3 v.ownBlock) : PlW w v3 (N ++ [x]) W3 := by
  subst hn
  refine ⟨h.below.grown G h.below.size fun k hk => (h.own.lt k hk).1, ?_⟩
  rw [List.length_append, rcs_append]; simpa [rcs] using O

theorem PlW.nil (w : World) : PlW w (.slice none 0 0) [] w := ⟨Below.refl _ _, World.ownsRow_nil _ _ _ _⟩

set_option maxRecDepth 100000 in
set_option maxHeartbeats 1000000 in
theorem plain_walk {l : List PC} {a : Option Addr} {n c : Nat} {w : World} (hs : SlC w a l) (hl : l.length = n) (hn : n ≤ 1000) :
    Calls Try.prog 12 #[.slice a n c] w fun e w' => ∃ v, e = .returned v ∧ PlW w v l w' := by
  have HS := dhid hs
  have HL := dhid hl
  clear hs hl
  go_enter Try.func12, Try.ntmps12
  go_wp2
  go_loopw [3, 8] (fun s i wr => ∃ j : Nat, j ≤ n ∧ i = .int .i64 (j : Int) ∧ Hid (PlW w s (l.take j) wr)) (fun _ i _ => n - (intOf i).toNat)
  case atStart => exact ⟨0, Nat.zero_le _, rfl, PlW.nil _⟩
  case round =>
    obtain ⟨j, hj, rfl, HW⟩ := hrel
    by_cases hlt : j < n
    · obtain ⟨b, o, x, rfl, hb, hx, c0, c1, c2, c3⟩ := (HS.out.below HW.out.below).at (j := j) (by rw [HL.out]; exact hlt)
      have HX := dhid (take_mem hx).2
      have HR : Hid ((l.take j).length = j) := by rw [List.length_take, HL.out]; exact Nat.min_eq_left hj
      clear hx
      obtain ⟨a4, k4, rfl⟩ := owns_slice HW.out.own
      have HO := dhid (fun o => (HW.out.on (below_alloc wr o)))
      have hz : w.heap.size ≤ wr.heap.size := HW.out.below.size
      have hg := HW
      rw [HR.out] at HO ⊢
      have HO' := dhid (fun o o' => by have := ((HO.out o).on (below_alloc _ o')).own; rw [HR.out] at this; exact this)
      go_wp2_with (first | (at_builtin; refine append_src Try.underlying31 infoRChg rfl (by decide) (by decide) rfl _ _ rfl w.heap.size (by simp; omega) _ j (rcs (l.take j)) rfl (HO'.out _ _) _ 1 1 (rcC x.1) rfl (src_newT _ _ _ (by simp)) rfl rcC_one (by omega) ?_) | go_in)
      intro v5 W5 O5 G5 A5
      have HN5 := dhid (PlW.grow (((HO.out _).on (below_alloc _ _))) HR.out O5 G5)
      clear O5 G5 A5 HO HO' hg
      go_wp2
      refine ⟨⟨j + 1, by omega, by go_num, ?_⟩, by simp [intOf]; omega⟩
      rw [HX.out]; exact HN5
    · have hjn : j = n := by omega
      subst hjn
      have ht : l.take j = l := List.take_of_length_le (by rw [HL.out]; exact Nat.le_refl _)
      rw [ht] at HW
      obtain ⟨a3, k3, rfl⟩ := owns_slice HW.out.own
      go_wp2
      go_ret
      exact ⟨_, rfl, HW.out⟩

set_option maxRecDepth 100000 in
set_option maxHeartbeats 2000000 in
theorem csame_walk {l m : List PC} {a b : Option Addr} {n c d : Nat} {w : World} (h1 : SlC w a l) (h2 : SlC w b m) (m1 : AllM w l) (m2 : AllM w m) (he : l.map (·.2) = m.map (·.2)) (hl : l.length = n) (hn : n ≤ 1000) :
    Calls Try.prog 13 #[.slice a n c, .slice b n d] w fun e w' => e = .returned (.bool true) ∧ ∃ q, w' = w.drewN q := by
  have H1 := dhid h1
  have H2 := dhid h2
  have M1 := dhid m1
  have M2 := dhid m2
  have HE := dhid he
  have HL := dhid hl
  have HL2 : Hid (m.length = n) := by have := congrArg List.length he; simp at this; show _ = _; omega
  clear h1 h2 m1 m2 he hl
  have hnn : ((n : Int) == (n : Int)) = true := beq_self_eq_true _
  go_enter Try.func13, Try.ntmps13
  go_wp2
  go_loopw [5] (fun i wr => ∃ j : Nat, j ≤ n ∧ i = .int .i64 j ∧ Hid (∃ k, wr = w.drewN k)) (fun i _ => n - (intOf i).toNat)
  case atStart => exact ⟨0, Nat.zero_le _, rfl, 0, rfl⟩
  case round =>
    obtain ⟨j, hj, rfl, HK⟩ := hrel
    have HB : Hid (Below w.heap.size w wr) := by obtain ⟨k, e⟩ := HK.out; rw [e]; exact below_drews w k
    by_cases hlt : j < n
    · obtain ⟨b1, o1, x, rfl, hb1, hx, c0, c1, c2, c3⟩ := (H1.out.below HB.out).at (j := j) (by rw [HL.out]; exact hlt)
      obtain ⟨b2, o2, y, rfl, hb2, hy, d0, d1, d2, d3⟩ := (H2.out.below HB.out).at (j := j) (by rw [HL2.out]; exact hlt)
      have hxy : x.2 = y.2 := by
        have := congrArg (·[j]?) HE.out
        simp only [List.getElem?_map, hx, hy, Option.map_some, Option.some.injEq] at this
        exact this
      have mx := (M1.out x (List.mem_of_getElem? hx)).below HB.out
      have my := (M2.out y (List.mem_of_getElem? hy)).below HB.out
      have et : x.1.t = y.1.t := by rw [mx.t, my.t, hxy]
      have ei : x.1.id = y.1.id := by rw [mx.id, my.id, hxy]
      have hso := rsame_walk x.1.oa y.1.oa x.1.ol y.1.ol x.1.oc y.1.oc x.2.o y.2.o mx.ol my.ol (by have := mx.ob; omega) (by have := my.ob; omega)
      have hsn := rsame_walk x.1.na y.1.na x.1.nl y.1.nl x.1.nc y.1.nc x.2.n y.2.n mx.nl my.nl (by have := mx.nb; omega) (by have := my.nb; omega)
      rw [show sameL x.2.o y.2.o = true by rw [hxy]; exact sameL_self _] at hso
      rw [show sameL x.2.n y.2.n = true by rw [hxy]; exact sameL_self _] at hsn
      have HSO := dhid (fun q => hso (wr.drewN q) mx.o my.o)
      have HSN := dhid (fun q => hsn (wr.drewN q) mx.n my.n)
      rw [← et] at d0
      rw [← ei] at d1
      clear hso hsn mx my et ei hxy hx hy
      obtain ⟨⟨xt, xi, xo, xl, xc, xn, xm, xd⟩, xx⟩ := x
      obtain ⟨⟨yt, yi, yo, yl, yc, yn, ym, yd⟩, yy⟩ := y
      dsimp only at *
      have ht : (xt.toList == xt.toList) = true := beq_self_eq_true _
      go_wp2_with fail
      go_quiet (first | rfl | (go_at_call_of 28 (xo); exact Calls.quiet_of (HSO.out _)) | (go_at_call_of 28 (xn); exact Calls.quiet_of (HSN.out _)))
      go_wp2
      refine ⟨⟨j + 1, by omega, by go_num, ?_⟩, by simp [intOf]; omega⟩
      obtain ⟨k, e⟩ := HK.out
      rw [e]
      exact ⟨_, World.drewN_drewN _ _ _⟩
    · have hjn : j = n := by omega
      subst hjn
      go_wp2
      go_ret
      exact ⟨rfl, HK.out⟩
end Go.Proofs.Ytmcbpopeinabcaa
