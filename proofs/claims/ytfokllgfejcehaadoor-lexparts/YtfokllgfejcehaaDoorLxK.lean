/-
  Lex: the document's Tokens: the state of its loop.
-/
import Derived.Test.YtfokllgfejcehaaDoorLxJ
import Derived.Test.YtfokllgfejcehaaDoorLxH
import Derived.Test.YtfokllgfejcehaaDoorScB
import Derived.Laws.IdiomStrings
namespace Go.Proofs.YtfokllgfejcehaaDoor
open Go.RowKit Rw

theorem lxdrew {B : Nat} {a w : World} (h : Below B a w) (n : Nat) : Below B a (w.drewN n) := h.trans ⟨rfl, rfl, rfl, Nat.le_refl _, fun _ _ => rfl⟩

theorem infoRTok : (Tryd.prog.info? 46).map (fun i => (i.zero, i.size, i.bytes)) = some (some (.agg #[.int .i64 0, .int .i64 0, .int .i64 0, .string ⟨#[]⟩]), 4, 40) := by kernel_rfl

/-- What the document's Tokens answers. -/
def RTokR (base : Nat) (x : List Tk × Option Nat) (v : Value) (W : World) : Prop :=
  match x.2 with
  | none => ∃ r, v = .tuple #[r, .int .i64 (-1)] ∧ W.ownsRow base 46 4 r x.1.length (flat tkC x.1)
  | some p => v = .tuple #[.slice none 0 0, .int .i64 p]

/-- The state of the loop, behind blanks. -/
structure RkJ (w : World) (l : List UInt8) (r : Value) (q f : Nat) (acc : List Tk) (W : World) : Prop where
  few : acc.length ≤ q
  own : W.ownsRow w.heap.size 46 4 r acc.length (flat tkC acc)
  bel : Below w.heap.size w W
  res : glue acc (cutF f q (l.drop q)) = cutT l
  fuel : (l.drop q).length < f

theorem RkJ.step {w : World} {l : List UInt8} {r : Value} {q f : Nat} {acc : List Tk} {X U : World} {v2 : Value} {W2 : World} {t : Tk} {sz : Nat} (h : RkJ w l r q f acc X) (bU : Below X.heap.size X U) (hx : firstP (l.drop q) = (t, sz)) (h0 : sz ≠ 0)
    (O2 : W2.ownsRow w.heap.size 46 4 v2 (acc.length + 1) (flat tkC acc ++ tkC (setPl t q))) (G2 : U.grownBy W2 r.ownBlock) : RkJ w l v2 (q + sz + spanN blkB (l.drop (q + sz))) (f - 1) (acc ++ [setPl t q]) W2 := by
  have hne : l.drop q ≠ [] := fun e => by rw [e] at hx; simp [firstP] at hx; exact h0 hx.2.symm
  have o1 := owns_on h.own bU
  have b1 := below_on h.bel bU h.bel.size
  have h2 := h.fuel
  have h1 := h.res
  obtain ⟨f', rfl⟩ : ∃ f', f = f' + 1 := ⟨f - 1, by omega⟩
  refine ⟨by have := h.few; simp; omega, ?_, b1.grown G2 b1.size fun p hp => (o1.lt p hp).1, ?_, ?_⟩
  · have e2 : flat tkC acc ++ tkC (setPl t q) = flat tkC (acc ++ [setPl t q]) := by rw [flat_append]; simp [flat]
    rw [e2] at O2
    simpa using O2
  · rw [cutF_step hne (by rw [hx]; exact h0), hx] at h1
    simp only [List.drop_drop] at h1
    rw [← glue_snoc]
    exact h1
  · rw [List.length_drop] at h2 ⊢
    have : (l.drop q).length ≠ 0 := fun e => hne (List.length_eq_zero_iff.1 e)
    rw [List.length_drop] at this
    omega

theorem RkJ.last {w : World} {l : List UInt8} {r : Value} {q f : Nat} {acc : List Tk} {X : World} (h : RkJ w l r q f acc X) (he : l.length ≤ q) : cutT l = (acc ++ [⟨0, 0, q, mkB []⟩], none) := by
  have h2 := h.fuel
  obtain ⟨f', rfl⟩ : ∃ f', f = f' + 1 := ⟨f - 1, by omega⟩
  rw [← h.res, List.drop_eq_nil_of_le he, cutF_end]
  simp [glue]

theorem RkJ.bad {w : World} {l : List UInt8} {r : Value} {q f : Nat} {acc : List Tk} {X : World} (h : RkJ w l r q f acc X) (hq : q < l.length) (hx : (firstP (l.drop q)).2 = 0) : cutT l = (acc, some q) := by
  have h2 := h.fuel
  have hne : l.drop q ≠ [] := fun e => by have := congrArg List.length e; rw [List.length_drop] at this; simp at this; omega
  obtain ⟨f', rfl⟩ : ∃ f', f = f' + 1 := ⟨f - 1, by omega⟩
  rw [← h.res, cutF_bad hne hx]
  simp [glue]

theorem RkJ.turn {w : World} {l : List UInt8} {r : Value} {q f : Nat} {acc : List Tk} {X Y : World} (h : RkJ w l r q f acc X) (hb : Below X.heap.size X Y) : RkJ w l r q f acc Y :=
  ⟨h.few, owns_on h.own hb, below_on h.bel hb h.bel.size, h.res, h.fuel⟩

theorem spanK {p : UInt8 → Bool} {l : List UInt8} {q k : Nat} (hq : q ≤ k) (hk : k ≤ l.length) (ha : ((l.drop q).take (k - q)).all p = true) (hstop : ∀ c, l[k]? = some c → p c = false) : k = q + spanN p (l.drop q) := by
  rw [spanN_of (k := k - q) (by rw [List.length_drop]; omega) ha (fun c hc => hstop c (by rw [List.getElem?_drop] at hc; rwa [show q + (k - q) = k by omega] at hc))]
  omega

theorem stepK {p : UInt8 → Bool} {l : List UInt8} {q k : Nat} (hq : q ≤ k) (hk : k < l.length) (ha : ((l.drop q).take (k - q)).all p = true) (hp : ∀ c, l[k]? = some c → p c = true) : ((l.drop q).take (k + 1 - q)).all p = true := by
  rw [show k + 1 - q = (k - q) + 1 by omega, List.take_succ_eq_append_getElem (by rw [List.length_drop]; omega), List.all_append, ha]
  have : (l.drop q)[k - q]'(by rw [List.length_drop]; omega) = l[k] := by rw [List.getElem_drop]; congr 1; omega
  rw [this]
  simp [hp l[k] (List.getElem?_eq_getElem hk)]

theorem byte_at {s : ByteArray} {k : Nat} (h : k < s.size) : s.data.toList[k]? = some s[k] := by rw [List.getElem?_eq_getElem (by rw [bsz]; exact h)]; rfl

theorem drop_at {s : ByteArray} {q : Nat} (h : q < s.size) : s.data.toList.drop q = s[q] :: s.data.toList.drop (q + 1) := List.drop_eq_getElem_cons (by rw [bsz]; exact h)

theorem extract_mid (s : ByteArray) (q n : Nat) : s.extract q (q + n) = mkB ((s.data.toList.drop q).take n) := by
  rw [← mkB_of (s.extract q (q + n)), ByteArray.data_extract, Array.toList_extract, List.extract_eq_take_drop, show q + n - q = n by omega]

theorem firstP_run {c : UInt8} {r : List UInt8} (h : runB c = true) : firstP (c :: r) = runP ((c :: r).takeWhile runB) := by rw [firstP, if_pos h]
theorem firstP_quo {r : List UInt8} : firstP (39 :: r) = quoP (39 :: r) := by rw [firstP, if_neg (by decide), if_pos rfl]
theorem firstP_sym {c : UInt8} {r : List UInt8} (h : runB c = false) (h2 : c ≠ 39) : firstP (c :: r) = symP (c :: r) := by rw [firstP, if_neg (by simp [h]), if_neg h2]

theorem symP_text {l : List UInt8} (h : (symP l).2 ≠ 0) : (symP l).1 = ⟨5, 0, 0, mkB (l.take (symP l).2)⟩ := by
  unfold symP at h ⊢
  cases hf : symsL.find? (fun p => p.isPrefixOf l) with
  | none => rw [hf] at h; simp at h
  | some p =>
    simp only
    have hp := List.find?_some hf
    have := List.prefix_iff_eq_take.1 (List.isPrefixOf_iff_prefix.1 hp)
    rw [← this]

theorem dig_not_cap {l : List UInt8} (h0 : l ≠ []) (h : l.all digB = true) : l.all capB = false := by
  cases l with
  | nil => exact absurd rfl h0
  | cons c r =>
    simp only [List.all_cons, Bool.and_eq_true] at h
    have h1 := digB_iff.1 h.1
    have h2 : capB c = false := by rw [Bool.eq_false_iff, ne_eq, capB_iff]; omega
    simp [h2]

theorem dig_not_name {l : List UInt8} (h : l.all digB = true) : nameB (mkB l) = false := by
  unfold nameB
  split
  · rename_i h0
    have h1 : (mkB l)[0] ∈ l := by
      have : (mkB l)[0] = l[0]'(by rw [mkB_size] at h0; exact h0) := by simp [mkB]; rfl
      rw [this]
      exact List.getElem_mem _
    have h2 := digB_iff.1 (List.all_eq_true.1 h _ h1)
    have h3 : smB (((mkB l)[0].toNat : Nat) : Int) = false := by
      rw [Bool.eq_false_iff]
      simp [smB]
      omega
    rw [h3]
    simp
  · rfl

def byC (c : UInt8) : List Value := [.int .u8 (c.toNat : Int)]
theorem byC_len (c : UInt8) : (byC c).length = 1 := rfl
theorem byC_one (c : UInt8) : ∀ u ∈ byC c, u.oneCell' = true := by
  intro u hu
  simp [byC] at hu
  rw [hu]; rfl
theorem infoByte : (Tryd.prog.info? 5).map (fun i => (i.zero, i.size, i.bytes)) = some (some (.int .u8 0), 1, 1) := by kernel_rfl

/-- Bytes of the call's own, as a text. -/
theorem conv_bytes {W : World} {B : Nat} {v : Value} {tl : List UInt8} (h : W.ownsRow B 5 1 v tl.length (flat byC tl)) (hn : v.ownBlock ≠ none) : ∀ W', (∀ q, v.ownBlock = some q → W'.heap[q]? = W.heap[q]?) → (convert 50 9 v).run Tryd.prog W' = .ok (.string (mkB tl)) W' := by
  intro W' hW
  have h' := owns_below h hW
  obtain ⟨a, c, rfl⟩ := owns_slice h'
  rcases owns_addr h' with ⟨rfl, -, -⟩ | ⟨g, rfl⟩
  · exact absurd rfl hn
  · exact run_convert_bytes_back W' 50 9 5 ⟨g, 0, none⟩ c tl Tryd.underlying50 Tryd.underlying5 Tryd.underlying9 (fun j hj => by
      have := own_at byC_len h' (List.getElem?_eq_getElem hj) (i := 0) rfl
      rw [add_none, Nat.zero_add]
      simpa using this)

/-- What is to come of a text between quotes, for the document. -/
structure QI (l : List UInt8) (k j : Nat) (tl : List UInt8) (tv : Value) (wr W : World) : Prop where
  scan : qScan (l.drop (k + 1)) = (qScan (l.drop j)).map fun x => (tl ++ x.1, (j - (k + 1)) + x.2)
  few : tl.length ≤ j
  own : W.ownsRow wr.heap.size 5 1 tv tl.length (flat byC tl)
  bel : Below wr.heap.size wr W
  blk : tv.ownBlock ≠ none

theorem QI.none {l : List UInt8} {k j : Nat} {tl : List UInt8} {tv : Value} {wr W : World} (h : QI l k j tl tv wr W) (he : l.drop j = []) : (quoP (l.drop k)).2 = 0 := by
  have := h.scan
  rw [he] at this
  unfold quoP
  rw [List.tail_drop, this]
  rfl

theorem QI.stop {l : List UInt8} {k j : Nat} {tl r : List UInt8} {tv : Value} {wr W : World} (h : QI l k j tl tv wr W) (hk : k + 1 ≤ j) (he : l.drop j = 39 :: r) (hr : ∀ d, r.head? = some d → d ≠ 39) : quoP (l.drop k) = if tl.length ≤ 24 then (⟨4, 0, 0, mkB tl⟩, j + 1 - k) else (zTk, 0) := by
  have := h.scan
  rw [he, qScan_stop hr] at this
  unfold quoP
  rw [List.tail_drop, this]
  simp only [Option.map_some, List.append_nil]
  split
  · rw [show j - (k + 1) + 1 + 1 = j + 1 - k by omega]
  · rfl

theorem scan_other {l : List UInt8} {k j : Nat} {tl : List UInt8} {c : UInt8} (h : qScan (l.drop (k + 1)) = (qScan (l.drop j)).map fun x => (tl ++ x.1, (j - (k + 1)) + x.2)) (hk : k + 1 ≤ j) (he : l.drop j = c :: l.drop (j + 1)) (hc : c ≠ 39) :
    qScan (l.drop (k + 1)) = (qScan (l.drop (j + 1))).map fun x => ((tl ++ [c]) ++ x.1, (j + 1 - (k + 1)) + x.2) := by
  rw [h, he, qScan_other hc, Option.map_map]
  congr 1
  funext x
  simp
  omega

theorem scan_two {l : List UInt8} {k j : Nat} {tl : List UInt8} (h : qScan (l.drop (k + 1)) = (qScan (l.drop j)).map fun x => (tl ++ x.1, (j - (k + 1)) + x.2)) (hk : k + 1 ≤ j) (he : l.drop j = 39 :: 39 :: l.drop (j + 2)) :
    qScan (l.drop (k + 1)) = (qScan (l.drop (j + 2))).map fun x => ((tl ++ [39]) ++ x.1, (j + 2 - (k + 1)) + x.2) := by
  rw [h, he, qScan_two, Option.map_map]
  congr 1
  funext x
  simp
  omega
end Go.Proofs.YtfokllgfejcehaaDoor
