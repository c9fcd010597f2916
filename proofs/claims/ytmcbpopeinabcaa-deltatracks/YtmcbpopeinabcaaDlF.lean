/-
  Delta: rows put in order (slices.SortFunc by stands).
-/
import Derived.Shelf.SlSortCmp.NoneTotal
import Derived.Test.YtmcbpopeinabcaaSort
import Derived.Test.YtmcbpopeinabcaaDlE
namespace Go.Proofs.Ytmcbpopeinabcaa
open Go.RowKit
open Go.Sort hiding Below

theorem cb_neg : ∀ a b : List UInt8, Lib.compareBytes a b < 0 ↔ a < b
  | [], [] => by simp [Lib.compareBytes]
  | [], _ :: _ => by simp [Lib.compareBytes]
  | _ :: _, [] => by simp [Lib.compareBytes]
  | x :: a, y :: b => by
    rw [List.cons_lt_cons_iff, Lib.compareBytes]
    by_cases h : x < y
    · simp [h]
    · by_cases h' : y < x
      · rw [if_neg h, if_pos h']
        have : x ≠ y := fun e => by subst e; exact h h'
        simp [h, this]
      · rw [if_neg h, if_neg h', cb_neg a b]
        have : x = y := by
          rw [UInt8.lt_iff_toNat_lt] at h h'
          exact UInt8.toNat_inj.1 (by omega)
        simp [this]

theorem cb_zero : ∀ a b : List UInt8, Lib.compareBytes a b = 0 ↔ a = b
  | [], [] => by simp [Lib.compareBytes]
  | [], _ :: _ => by simp [Lib.compareBytes]
  | _ :: _, [] => by simp [Lib.compareBytes]
  | x :: a, y :: b => by
    rw [Lib.compareBytes]
    by_cases h : x < y
    · rw [if_pos h]
      have : x ≠ y := fun e => by subst e; simp at h
      simp [this]
    · by_cases h' : y < x
      · rw [if_neg h, if_pos h']
        have : x ≠ y := fun e => by subst e; exact h h'
        simp [this]
      · rw [if_neg h, if_neg h', cb_zero a b]
        have : x = y := by
          rw [UInt8.lt_iff_toNat_lt] at h h'
          exact UInt8.toNat_inj.1 (by omega)
        simp [this]

def RC.key (x : RC) : ByteArray × Int := (x.t, x.id)

theorem stand_lt (x y : RC) : standI x y < 0 ↔ keyLt x.key y.key := by
  unfold standI or2 keyLt RC.key
  dsimp only
  rw [ByteArray.toList_eq, ByteArray.toList_eq]
  by_cases h0 : Lib.compareBytes x.t.data.toList y.t.data.toList = 0
  · rw [if_pos (by simp [h0]), (cb_zero _ _).1 h0]
    simp only [List.lt_irrefl, true_and, false_or]
    unfold Lib.compareInt
    by_cases h1 : x.id < y.id
    · simp [h1]
    · by_cases h2 : y.id < x.id <;> simp [h1, h2]
  · rw [if_neg (by simp [h0]), cb_neg]
    have : x.t.data.toList ≠ y.t.data.toList := fun e => h0 ((cb_zero _ _).2 e)
    simp [this]

def cfP (x y : PC) : Int := standI x.1 y.1

theorem lt_cf {x y : PC} : ltOf cfP x y = true ↔ keyLt x.1.key y.1.key := by
  unfold ltOf cfP
  rw [decide_eq_true_eq, stand_lt]

theorem lt_cf' {x y : PC} : ltOf cfP x y = false ↔ ¬ keyLt x.1.key y.1.key := by
  rw [← lt_cf, Bool.not_eq_true]

theorem swo_cf : SWO (ltOf cfP) where
  irrefl x := lt_cf'.2 (keyLt_irrefl _)
  trans x y z h1 h2 := lt_cf.2 (keyLt_trans (lt_cf.1 h1) (lt_cf.1 h2))
  ntrans x y z h1 h2 := by
    rw [lt_cf'] at *
    intro h
    rcases keyLt_tri x.1.key y.1.key with g | g | g
    · exact h1 g
    · rw [g] at h; exact h2 h
    · exact h2 (keyLt_trans g h)

def encP (x : PC) : List Value := rcC x.1

theorem cmp_lays (blk off size : Nat) (w : World) : CmpLays Try.prog 31 #[] encP 4 cfP blk off size w :=
  fun _ _ _ _ x y => stands_walk x.1 y.1 _

theorem rcs_flat (R : List PC) (t : Nat) (ht : t < R.length * 4) : (rcs R)[t]? = some ((encP R.toArray[t / 4]!)[t % 4]!) := by
  have hj : t / 4 < R.length := by omega
  have hx : R[t / 4]? = some R[t / 4] := List.getElem?_eq_getElem hj
  obtain ⟨c0, c1, c2, c3⟩ := rcs_at R (t / 4) _ hx
  have e : R.toArray[t / 4]! = R[t / 4] := by simp [hj]
  rw [e]
  have : t % 4 = 0 ∨ t % 4 = 1 ∨ t % 4 = 2 ∨ t % 4 = 3 := by omega
  rcases this with h | h | h | h
  · rw [h]; rw [show (rcs R)[t]? = (rcs R)[t / 4 * 4]? by congr 1; omega]; rw [c0]; rfl
  · rw [h]; rw [show (rcs R)[t]? = (rcs R)[t / 4 * 4 + 1]? by congr 1; omega]; rw [c1]; rfl
  · rw [h]; rw [show (rcs R)[t]? = (rcs R)[t / 4 * 4 + 2]? by congr 1; omega]; rw [c2]; rfl
  · rw [h]; rw [show (rcs R)[t]? = (rcs R)[t / 4 * 4 + 3]? by congr 1; omega]; rw [c3]; rfl

theorem holds_owns {W : World} {base g n c : Nat} {R : List PC} (h : W.ownsRow base 27 4 (.slice (some ⟨g, 0, none⟩) n c) n (rcs R)) : HoldsK encP 4 W g 0 R.toArray := by
  have hl : (rcs R).length = n * 4 := h.1
  rw [rcs_length] at hl
  intro t ht
  rw [size_flatK] at ht
  simp only [List.size_toArray] at ht
  rw [get_flatK _ _ _ _ (by simpa using ht)]
  refine ⟨?_, ?_⟩
  · have := World.ownsRow.cells h (g := g) rfl t _ (rcs_flat R t ht)
    rw [add_none] at this
    exact this
  · rcases h.2 with ⟨e, h0⟩ | ⟨g', cap', cur, e, hbg, hgg, _⟩
    · cases e
    · cases e; exact frozen_of_row _ _ _ _ _ hgg

theorem slc_holds {W : World} {g : Nat} {d : Array PC} (h : HoldsK encP 4 W g 0 d) (hg : g < W.heap.size) : SlC W (some ⟨g, 0, none⟩) d.toList := by
  refine Or.inr ⟨g, 0, rfl, hg, fun j x hx => ?_⟩
  have hj : j < d.size := by have := (List.getElem?_eq_some_iff.1 hx).1; simpa using this
  have hd : d[j]! = x := by
    have := (List.getElem?_eq_some_iff.1 hx).2
    simp [hj]
    simpa using this
  have f := fun (c : Nat) (hc : c < 4) => (HoldsK.cell h hj hc).1
  have f0 := f 0 (by omega)
  have f1 := f 1 (by omega)
  have f2 := f 2 (by omega)
  have f3 := f 3 (by omega)
  rw [hd] at f0 f1 f2 f3
  exact ⟨f0, f1, f2, f3⟩

theorem sorted_world (W : World) (g n : Nat) (d : Array PC) (os : Array Obj) {k : Nat} (hk : k < W.heap.size) (hg : k ≠ g) : (sortWorldK encP 4 W g 0 n d os).heap[k]? = W.heap[k]? := by
  unfold sortWorldK putRowK putRow mapBlock
  rw [heap_grow_old _ _ (by simpa [ahead] using hk)]
  show (W.heap.modify g _)[k]? = _
  rw [Array.getElem?_modify, if_neg (fun e => hg e.symm)]

/-- What sorting leaves: the rows in order. -/
structure Sorted (w W : World) (v : Value) (R D : List PC) : Prop where
  perm : D.Perm R
  rise : D.Pairwise (fun a b => ¬ keyLt b.1.key a.1.key)
  slc : ∃ a c, v = .slice a D.length c ∧ SlC W a D
  below : Below w.heap.size w W

set_option maxRecDepth 100000 in
theorem sort_walk {w W : World} {v : Value} {R : List PC} (h : W.ownsRow w.heap.size 27 4 v R.length (rcs R)) (hb : Below w.heap.size w W) (hn : R.length ≤ 1000) :
    Calls Try.prog 30 #[v, .func (.func 31) #[] #[]] W fun e W' => e = .returned (.tuple #[]) ∧ ∃ D, Sorted w W' v R D := by
  by_cases hz : R = []
  · subst hz
    obtain ⟨a, c, rfl⟩ := owns_slice h
    refine (AnyF.slices_SortFunc_none (P := Try.prog) { Try.sortChg with } a c (.func (.func 31) #[] #[]) W).mono ?_
    rintro e W' ⟨rfl, rfl⟩
    exact ⟨rfl, [], .refl _, .nil, ⟨a, c, rfl, Or.inl rfl⟩, hb⟩
  · have hpos : 0 < R.length := List.length_pos_iff.2 hz
    obtain ⟨a, c, rfl⟩ := owns_slice h
    obtain ⟨g, rfl⟩ := owns_addr h hpos
    obtain ⟨hbg, hg⟩ := h.lt g rfl
    have hH := holds_owns h
    have eg : ∀ args w, (callFunc 31 args).run Try.prog w = .ok (.enter 31 args) w := enters_of Try.func31 (by kernel_rfl) rfl
    have hcon := AnyQ.slices_SortFunc Try.sortChg 4 Try.isAgg27 Try.sizeOf27 encP (fun _ => rfl) (fun x u hu => rcC_one u hu) cfP swo_cf 31 #[] g 0 c R.toArray W eg (cmp_lays _ _ _ _) hH hg (by simp; omega)
    refine hcon.mono ?_
    rintro e W' ⟨rfl, d', n, os, hp, hs, rfl⟩
    have hsz : d'.size = R.length := by have := hp.1; simpa using this
    have hH' := holdsK_sortWorldK_c encP 4 W g 0 R.toArray d' n os hH hg (by simpa using hsz)
    have hws : W.heap.size ≤ (sortWorldK encP 4 W g 0 n d' os).heap.size := size_sortWorldK_c encP 4 W g 0 n d' os
    refine ⟨rfl, d'.toList, ?_, ?_, ⟨some ⟨g, 0, none⟩, c, ?_, slc_holds hH' (by omega)⟩, ?_⟩
    · have := hp.2.2
      simp only [List.size_toArray] at this
      rw [Array.extract_eq_self_of_le (by omega), Array.extract_eq_self_of_le (by simp)] at this
      simpa using this
    · rw [List.pairwise_iff_getElem]
      intro i j hi hj hij
      have := hs i j (Nat.zero_le _) hij (by simpa [hsz] using hj)
      rw [lt_cf'] at this
      have h1 : d'[i]! = d'.toList[i] := by simp at hi; simp [hi]
      have h2 : d'[j]! = d'.toList[j] := by simp at hj; simp [hj]
      rw [h1, h2] at this
      exact this
    · rw [show d'.toList.length = R.length by simpa using hsz]
    · refine ⟨hb.os, hb.tape, hb.output, Nat.le_trans hb.size hws, fun k hk => ?_⟩
      rw [sorted_world W g n d' os (Nat.lt_of_lt_of_le hk hb.size) (by omega)]
      exact hb.block k hk
end Go.Proofs.Ytmcbpopeinabcaa
