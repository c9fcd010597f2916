/-
  Undo: the document's log: Back.
-/
import Derived.Test.YtdiagnmkfnhnjaaUdM
namespace Go.Proofs.Ytdiagnmkfnhnjaa
open Go.RowKit Rw

/-- What the document's Back answers. -/
def RBackE (B d q : Nat) (D : List DI) (name : ByteArray) (w : World) (e : Ending) (w' : World) : Prop :=
  (e = .returned (.tuple #[.slice none 0 0, .int .i64 14]) ∧ (∀ x ∈ D, x.b = true → x.nm ≠ name) ∧ w' = w) ∨
  ∃ (i : Nat) (vt v' : Value), e = .returned (.tuple #[vt, .int .i64 0]) ∧ BkI D name i ∧ w'.ownsRow w.heap.size 40 5 vt (ens (D.drop (i + 1))).length (flat peC (ens (D.drop (i + 1))).reverse) ∧ DocO B d q v' (D.take (i + 1)) w w'

theorem rback_end {B d q i c n : Nat} {a : Option Addr} {D : List DI} {s : Value} {w W : World} {k : Nat} {xs : List Value} (h : DLg B d q (.slice a n c) D w) (hb : Below w.heap.size w W) (o : W.ownsRow w.heap.size 40 5 s k xs) (hi : i < D.length) : (W.setCell ⟨d, 1, none⟩ (.slice a (i + 1) c)).ownsRow w.heap.size 40 5 s k xs ∧ DocO B d q (.slice a (i + 1) c) (D.take (i + 1)) w (W.setCell ⟨d, 1, none⟩ (.slice a (i + 1) c)) := by
  have hd := h.lt
  refine ⟨owns_below o fun p hp => heap_setCell_other _ _ _ _ (fun e => ?_), dlg_cut (h.on hb) hi, (hb.mono (Nat.le_trans h.base (Nat.le_of_lt hd))).setCell h.base _, fun b hlt hne => ?_⟩
  · have := (o.lt p hp).1
    have e' : p = d := e
    omega
  · rw [heap_setCell_other _ _ _ _ hne, hb.block b hlt]

set_option maxRecDepth 100000 in
set_option maxHeartbeats 2000000 in
theorem rback_walk {B d q : Nat} {v : Value} {D : List DI} {name : ByteArray} {w : World} (h : DLg B d q v D w) (hn : D.length ≤ 100000) :
    Calls Try.prog 14 #[.pointer (some ⟨d, 0, none⟩), .string name] w (RBackE B d q D name w) := by
  obtain ⟨a, c, rfl⟩ := owns_slice h.own
  have hcap := (owns_cap h.own).1
  have HF : Hid (∀ W, Below w.heap.size w W → W.cell? ⟨d, 1, none⟩ = some (.slice a D.length c) ∧ W.frozen? ⟨d, 1, none⟩ = false ∧ d < W.heap.size) := fun W hW => ⟨(h.on hW).facts.2.1, (h.on hW).facts.2.2.1, (h.on hW).lt⟩
  have HI : Hid (∀ k W, k < D.length → Below w.heap.size w W → ∃ x, D[k]? = some x ∧ ∃ g, a = some ⟨g, 0, none⟩ ∧ g < W.heap.size ∧ W.cell? ⟨g, k * 7, none⟩ = some (.bool x.b) ∧ W.cell? ⟨g, k * 7 + 1, none⟩ = some (.string x.nm) ∧ W.cell? ⟨g, k * 7 + 2, none⟩ = some (.int .i64 x.p.1.k) ∧ W.cell? ⟨g, k * 7 + 3, none⟩ = some (.int .i64 x.p.1.id) ∧ W.cell? ⟨g, k * 7 + 4, none⟩ = some (.string x.p.1.t) ∧ W.cell? ⟨g, k * 7 + 5, none⟩ = some (.slice x.p.1.oa x.p.1.ol x.p.1.oc) ∧ W.cell? ⟨g, k * 7 + 6, none⟩ = some (.slice x.p.1.na x.p.1.nl x.p.1.nc)) := fun k W hk hW => by
    have hx := List.getElem?_eq_getElem hk
    obtain ⟨g, e⟩ := (h.on hW).item hx
    exact ⟨_, hx, g, e⟩
  have HEN : Hid (∀ {i : Nat} {s : Value} {W : World} {k : Nat} {xs : List Value}, Below w.heap.size w W → W.ownsRow w.heap.size 40 5 s k xs → i < D.length → (W.setCell ⟨d, 1, none⟩ (.slice a (i + 1) c)).ownsRow w.heap.size 40 5 s k xs ∧ DocO B d q (.slice a (i + 1) c) (D.take (i + 1)) w (W.setCell ⟨d, 1, none⟩ (.slice a (i + 1) c))) := fun h1 h2 h3 => rback_end h h1 h2 h3
  have HZ : Hid (∀ (j : Nat) (y : DI), D.length ≤ j → D[j]? = some y → y.b = true → y.nm ≠ name) := fun j y hj hy => by rw [List.getElem?_eq_none hj] at hy; cases hy
  have HM : Hid ((∀ (j : Nat) (y : DI), D[j]? = some y → y.b = true → y.nm ≠ name) → ∀ x ∈ D, x.b = true → x.nm ≠ name) := fun h x hx => by
    obtain ⟨j, hj⟩ := List.getElem?_of_mem hx
    exact h j x hj
  have HLD : Hid (∀ j, (ens (D.drop (j + 1))).length ≤ D.length) := fun j => Nat.le_trans (ens_len _) (by rw [List.length_drop]; omega)
  have HDN : Hid (D.drop D.length = []) := List.drop_length
  clear h
  obtain ⟨n, HN⟩ : ∃ m, Hid (D.length = m) := ⟨_, rfl⟩
  rw [HN.out] at hcap hn HF HI HEN HZ HLD HDN
  obtain ⟨x1, y1, xl⟩ := HF.out w (Below.refl _ _)
  go_enter Try.func14, Try.ntmps14
  go_wp2
  go_loop [6] (fun i => (i = .int .i64 (-1) ∧ Hid (∀ (j : Nat) (y : DI), D[j]? = some y → y.b = true → y.nm ≠ name)) ∨ ∃ k : Nat, k < n ∧ i = .int .i64 (k : Int) ∧ Hid (∀ (j : Nat) (y : DI), k < j → D[j]? = some y → y.b = true → y.nm ≠ name)) (fun i => (intOf i + 1).toNat)
  case atStart =>
    rcases n with _ | n
    · exact Or.inl ⟨rfl, fun j y hy => HZ.out j y (Nat.zero_le _) hy⟩
    · exact Or.inr ⟨n, by omega, by go_num, fun j y hj hy => HZ.out j y hj hy⟩
  case round =>
    rcases hrel with ⟨rfl, HR⟩ | ⟨k, hk, rfl, HR⟩
    · have HFI : Hid (RBackE B d q D name w (.returned (.tuple #[.slice none 0 0, .int .i64 14])) w) := Or.inl ⟨rfl, HM.out HR.out, rfl⟩
      go_wp2
      go_ret2
      exact HFI.out
    · obtain ⟨x, hx, g, rfl, gl, c0, c1, -⟩ := HI.out k w hk (Below.refl _ _)
      have HX := dhid hx
      have HNX : Hid (¬ (x.b = true ∧ x.nm = name) → ∀ (j : Nat) (y : DI), k ≤ j → D[j]? = some y → y.b = true → y.nm ≠ name) := fun hne j y hj hy hb => by
        by_cases e : j = k
        · subst e; rw [HX.out] at hy; cases hy; exact fun e => hne ⟨hb, e⟩
        · exact HR.out j y (by omega) hy hb
      clear hx
      cases hb : x.b
      · rw [hb] at c0
        have HNX' := dhid (HNX.out (by rw [hb]; simp))
        clear HNX
        rcases k with _ | k
        · go_wp2
          exact ⟨Or.inl ⟨rfl, fun j y hy => HNX'.out j y (Nat.zero_le _) hy⟩, by simp [intOf]⟩
        · go_wp2
          exact ⟨Or.inr ⟨k, by omega, by go_num, fun j y hj hy => HNX'.out j y hj hy⟩, by simp [intOf]; omega⟩
      · rw [hb] at c0
        cases hc : (x.nm.toList == name.toList)
        · have HNX' := dhid (HNX.out (fun e => bytes_ne hc e.2))
          clear HNX
          rcases k with _ | k
          · go_wp2
            exact ⟨Or.inl ⟨rfl, fun j y hy => HNX'.out j y (Nat.zero_le _) hy⟩, by simp [intOf]⟩
          · go_wp2
            exact ⟨Or.inr ⟨k, by omega, by go_num, fun j y hj hy => HNX'.out j y hj hy⟩, by simp [intOf]; omega⟩
        · have HBK : Hid (BkI D name k) := ⟨x, HX.out, hb, bytes_eq hc, HR.out⟩
          clear HNX HR HZ HM HX
          go_wp2
          clear c0 c1 hb hc
          go_loopw [7, 8] (fun s i wr => ∃ j : Nat, k ≤ j ∧ j < n ∧ i = .int .i64 (j : Int) ∧ Hid (wr.ownsRow w.heap.size 40 5 s (ens (D.drop (j + 1))).length (flat peC (ens (D.drop (j + 1))).reverse) ∧ Below w.heap.size w wr)) (fun _ i _ => (intOf i).toNat)
          case atStart =>
            refine ⟨n - 1, by omega, by omega, ?_, ?_, below_alloc _ _⟩
            · rw [show ((n - 1 : Nat) : Int) = (n : Int) - 1 by omega]
            · rw [show n - 1 + 1 = n by omega, HDN.out]
              exact own_new (heap_new _ _) (Nat.le_refl _)
          case round =>
            obtain ⟨j, hkj, hjn, rfl, HO⟩ := hrel
            obtain ⟨z1, zf, zl⟩ := HF.out wr HO.out.2
            by_cases hlt : k < j
            · have hlt' : (k : Int) < (j : Int) := by omega
              obtain ⟨i, rfl⟩ : ∃ i, j = i + 1 := ⟨j - 1, by omega⟩
              obtain ⟨y, hy, g', eg, gl', e0, e1, e2, e3, e4, e5, e6⟩ := HI.out (i + 1) wr hjn HO.out.2
              cases eg
              have HED := dhid (ens_drop hy)
              have hld := HLD.out (i + 1)
              clear hy
              cases hb : y.b
              · rw [hb] at e0
                have HEq := dhid (HED.out.2 hb)
                clear HED
                obtain ⟨kk, HK⟩ : ∃ kk, Hid ((ens (D.drop (i + 1 + 1))).length = kk) := ⟨_, rfl⟩
                rw [HK.out] at HO hld
                go_wp2_with (first | (at_builtin; revert HO) | go_in)
                intro HO
                refine to_letter (F := fun W => Below wr.heap.size wr W ∧ Src W (some ⟨wr.heap.size, 0, none⟩) 1 1 (peC y.p)) ⟨below_alloc _ _, src_new _ (peC y.p) _ 1 1 rfl⟩ ?_
                rintro V ⟨bV, sV⟩
                have oV := owns_on HO.out.1 bV
                have b1 := below_on HO.out.2 bV HO.out.2.size
                refine append_src Try.underlying47 infoREnt rfl (by decide) (by decide) rfl _ _ rfl w.heap.size b1.size _ kk _ rfl oV _ 1 1 (peC y.p) rfl sV rfl (peC_one _) (by omega) ?_
                intro v5 W5 O5 G5 _
                have HI5 : Hid (W5.ownsRow w.heap.size 40 5 v5 (ens (D.drop (i + 1))).length (flat peC (ens (D.drop (i + 1))).reverse) ∧ Below w.heap.size w W5) := by
                  refine ⟨?_, b1.grown G5 b1.size fun p hp => (oV.lt p hp).1⟩
                  rw [HEq.out, List.length_cons, HK.out, List.reverse_cons, flat_append]
                  simpa [flat] using O5
                clear O5 G5 oV b1 bV sV HO e0 e1 e2 e3 e4 e5 e6 z1 zf zl
                go_wp2
                exact ⟨⟨i, by omega, by omega, by go_num, HI5⟩, by simp [intOf]⟩
              · rw [hb] at e0
                have HEq := dhid (HED.out.1 hb)
                clear HED
                go_wp2
                exact ⟨⟨i, by omega, by omega, by go_num, by rw [HEq.out]; exact HO⟩, by simp [intOf]⟩
            · have hjk : j = k := by omega
              subst hjk
              have hlt' : ¬ (j : Int) < (j : Int) := by omega
              have HFI := dhid (HEN.out (i := j) HO.out.2 HO.out.1 hk)
              have i1 : (j : Int) + 1 ≤ (c : Int) := by omega
              clear HO HEN
              go_wp2
              go_ret2
              exact Or.inr ⟨j, _, _, rfl, HBK.out, HFI.out.1, HFI.out.2⟩
end Go.Proofs.Ytdiagnmkfnhnjaa
