/-
  Two rows of bytes, apart, beside a node that is read: the first one grows, the second one is only read.
-/
import Derived.Deep.AppendSrc
import Derived.Lib.ConvBytes
import Derived.Laws.IdiomCopy
import Derived.Test.YtpmagonmfaaihaaRdH
namespace Go.Proofs.Ytpmagonmfaaihaa
open Go.RowKit

/-- Bytes that can be read, in a block from B on. -/
def Tl (W : World) (B : Nat) (v : Value) (t : List UInt8) : Prop := ∃ k cap, v = .slice (some ⟨k, 0, none⟩) t.length cap ∧ B ≤ k ∧ k < W.heap.size ∧ ∀ j u, (bcs t)[j]? = some u → W.cell? ⟨k, j, none⟩ = some u

theorem Tl.lt {W : World} {B : Nat} {v : Value} {t : List UInt8} (h : Tl W B v t) : ∀ k, v.ownBlock = some k → B ≤ k ∧ k < W.heap.size := by
  obtain ⟨k, cap, rfl, h1, h2, _⟩ := h
  intro k' hk
  cases hk
  exact ⟨h1, h2⟩

theorem Tl.of_block {W W' : World} {B : Nat} {v : Value} {t : List UInt8} (h : Tl W B v t) (hs : W.heap.size ≤ W'.heap.size) (hb : ∀ k, v.ownBlock = some k → W'.heap[k]? = W.heap[k]?) : Tl W' B v t := by
  obtain ⟨k, cap, rfl, h1, h2, h3⟩ := h
  exact ⟨k, cap, rfl, h1, by omega, fun j u hj => by rw [World.cell?_of_block (hb k rfl)]; exact h3 j u hj⟩

theorem Tl.below {W W' : World} {B : Nat} {v : Value} {t : List UInt8} (h : Tl W B v t) (hb : Below W.heap.size W W') : Tl W' B v t :=
  h.of_block hb.size fun k hk => hb.block k (h.lt k hk).2

theorem Tl.base {W : World} {B B' : Nat} {v : Value} {t : List UInt8} (h : Tl W B v t) (hB : B' ≤ B) : Tl W B' v t := by
  obtain ⟨k, cap, rfl, h1, h2, h3⟩ := h
  exact ⟨k, cap, rfl, by omega, h2, h3⟩

structure Pt (w : World) (n : No) (a : Option Addr) (c : Nat) (a' : Option Addr) (c' : Nat) (v vt : Value) (o t : List UInt8) (wr : World) : Prop where
  pw : Pw w n a c a' c' v o wr
  tl : Tl wr (w.heap.size + 1) vt t
  ap : ∀ k, v.ownBlock = some k → vt.ownBlock ≠ some k

theorem Pt.on {w : World} {n : No} {a : Option Addr} {c : Nat} {a' : Option Addr} {c' : Nat} {v vt : Value} {o t : List UInt8} {wr wr' : World} (h : Pt w n a c a' c' v vt o t wr) (hb : Below wr.heap.size wr wr') : Pt w n a c a' c' v vt o t wr' :=
  ⟨h.pw.on hb, h.tl.below hb, h.ap⟩

/-- The first row grows. -/
theorem Pt.grow {w : World} {n : No} {a : Option Addr} {c : Nat} {a' : Option Addr} {c' : Nat} {v v' vt : Value} {o o' t : List UInt8} {wr w' : World} (h : Pt w n a c a' c' v vt o t wr) (hr : NR w n a c a' c') (hg : wr.grownBy w' v.ownBlock) (hat : ∀ k, v'.ownBlock = some k → v.ownBlock = some k ∨ wr.heap.size ≤ k) {m : Nat} (hm : m = o'.length) (ho : w'.ownsRow (w.heap.size + 1) 5 1 v' m (bcs o')) : Pt w n a c a' c' v' vt o' t w' := by
  refine ⟨h.pw.grow hr hg hm ho, h.tl.of_block hg.size fun k hk => hg.block k (h.tl.lt k hk).2 (fun e => h.ap k e.symm hk), fun k hk hk' => ?_⟩
  rcases hat k hk with e | e
  · exact h.ap k e hk'
  · have := (h.tl.lt k hk').2
    omega

/-- Another second row, in a new block. -/
theorem Pt.tail {w : World} {n : No} {a : Option Addr} {c : Nat} {a' : Option Addr} {c' : Nat} {v vt vt' : Value} {o t t' : List UInt8} {wr w' : World} (h : Pt w n a c a' c' v vt o t wr) (hb : Below wr.heap.size wr w') (ht : Tl w' wr.heap.size vt' t') : Pt w n a c a' c' v vt' o t' w' := by
  have hlt := h.pw.nq.bx.lt
  refine ⟨h.pw.on hb, ht.base (by omega), fun k hk hk' => ?_⟩
  have h3 := (h.pw.row.lt k hk).2
  have h4 := (ht.lt k hk').1
  omega

/-- The row of a conversion. -/
structure Cv (W1 : World) (k0 : Nat) (S : List UInt8) (cap : Nat) : Prop where
  lt : k0 < W1.heap.size
  le : S.length ≤ cap
  cells : ∀ j u, (bcs S)[j]? = some u → W1.cell? ⟨k0, j, none⟩ = some u
  some : ∀ j, j < cap → (W1.cell? ⟨k0, j, none⟩).isSome = true
  free : ∀ j, j < cap → W1.frozen? ⟨k0, j, none⟩ = false

theorem bytesCells_size (w : World) (e : TypeId) (s : ByteArray) : (Lib.bytesCells w e s).size = grownCap w s.size 0 e := by
  have := grownCap_ge w s.size 0 e
  simp [Lib.bytesCells]
  have : s.data.size = s.size := rfl
  omega

theorem cv_of_conv (w : World) (e : TypeId) (s : ByteArray) : Cv (Lib.bytesWorld w e s) w.heap.size s.data.toList (grownCap w s.size 0 e) := by
  have hz := bytesCells_size w e s
  refine ⟨by rw [Lib.bytesWorld_size]; omega, ?_, fun j u hj => ?_, fun j hj => ?_, fun j hj => ?_⟩
  · have := grownCap_ge w s.size 0 e
    have : s.data.toList.length = s.size := rfl
    omega
  · have hlt : j < s.data.toList.length := by
      have := (List.getElem?_eq_some_iff.1 hj).1
      rwa [bcs_length] at this
    rw [Lib.bytesWorld_cell w e s j hlt]
    unfold bcs at hj
    rw [List.getElem?_map, List.getElem?_eq_getElem hlt] at hj
    rw [← hj, List.getD_eq_getElem?_getD, List.getElem?_eq_getElem hlt]
    rfl
  · simp only [World.cell?, Lib.bytesWorld_at_new]
    simp
    omega
  · simp only [World.frozen?, Lib.bytesWorld_at_new]
    simp
    omega

theorem below_conv (w : World) (e : TypeId) (s : ByteArray) : Below w.heap.size w (Lib.bytesWorld w e s) :=
  ⟨rfl, rfl, rfl, by rw [Lib.bytesWorld_size]; omega, fun k hk => Lib.bytesWorld_at_old w e s k hk⟩

/-- append(row of a conversion, bytes...) -/
theorem append_conv {ops : Array Oper} {rest : List Oper} {o : Oper} {a : Act} {Q : Exit → Act → World → Prop} {W1 : World} (hgd : o.guard = none) (s x : Operand) (ho : o.op = .call { callee := .builtin .append, args := #[s, x], argTypes := #[31, 31] })
    (k0 cap : Nat) (S t : List UInt8) (n : Nat) (hn : n = S.length) (hs : a.eval s = .slice (some ⟨k0, 0, none⟩) n cap) (hcv : Cv W1 k0 S cap) (B : Nat) (v : Value) (hx : a.eval x = v) (ht : Tl W1 B v t) (hS : S.length ≤ 100000) (hT : t.length ≤ 100000) (B0 : Nat) (hB : B0 ≤ k0)
    (hK : ∀ v' W', Tl W' B0 v' (S ++ t) → Below B0 W1 W' → wpList Try.prog ops Q rest (a.put o.dst v') W') : wpList Try.prog ops Q (o :: rest) a W1 := by
  subst hn
  obtain ⟨k, c, rfl, h1, h2, h3⟩ := ht
  have hinfo : (Try.prog.info? 5).map (fun i => (i.zero, i.size, i.bytes)) = some (some (.int .u8 0), 1, 1) := by kernel_rfl
  obtain ⟨i, hi, hz⟩ := Option.map_eq_some_iff.1 hinfo
  simp only [Prod.mk.injEq] at hz
  obtain ⟨z3, z4, z5⟩ := hz
  have hadd : ∀ (g j : Nat), (⟨g, 0, none⟩ : Addr).add j = ⟨g, j, none⟩ := fun g j => by unfold Addr.add; split <;> simp_all
  have hsrc : Src Try.prog i.size 31 (.slice (some ⟨k, 0, none⟩) t.length c) t.length (bcs t) W1 :=
    Src.ofSlice W1 Try.underlying31 _ _ _ _ (by rw [z4, bcs_length]; omega) (fun j u hj => by rw [hadd]; exact h3 j u hj) (one_bcs t)
  have hlt := hcv.lt
  by_cases hroom : S.length + t.length ≤ cap
  · have hrun := run_append_room_src (P := Try.prog) W1 31 31 o.type 5 i Try.underlying31 hi k0 0 S.length cap _ _ _ hsrc hroom
      (fun j hj => by rw [z4, Nat.mul_one, Nat.zero_add]; rw [bcs_length] at hj; exact hcv.some _ (by omega)) (fun j hj => by rw [z4, Nat.mul_one, Nat.zero_add]; rw [bcs_length] at hj; exact hcv.free _ (by omega))
    rw [z4, Nat.mul_one, Nat.zero_add] at hrun
    refine wpList_plain hgd fun K hK' => ?_
    unfold Oper.wp execOp
    simp only [ho, resolve, invoke, builtin, Sem.run_bind, Sem.run_pure, Result.andThen_ok, List.map_toArray, List.map_cons, List.map_nil, hs, hx, hrun]
    refine hK' _ _ (hK _ _ ⟨k0, cap, by rw [List.length_append], hB, ?_, fun j u hj => ?_⟩ (below_setCells hB _ _ _ (Below.refl _ _)))
    · exact Nat.lt_of_lt_of_le hlt (below_setCells hB _ _ _ (Below.refl B0 W1)).size
    · unfold bcs at hj
      rw [List.map_append] at hj
      by_cases hj1 : j < S.length
      · rw [List.getElem?_append_left (by simpa using hj1)] at hj
        rw [World.cell?_setCells_out k0 _ _ _ _ (fun _ _ => Or.inl hj1)]
        exact hcv.cells j u hj
      · rw [List.getElem?_append_right (by simp; omega)] at hj
        simp only [List.length_map] at hj
        have hl : j - S.length < (bcs t).length := (List.getElem?_eq_some_iff.1 hj).1
        have := World.cell?_setCells_in k0 (bcs t) S.length W1 (fun j' hj' => hcv.some _ (by rw [bcs_length] at hj'; omega)) (j - S.length) hl
        rw [show S.length + (j - S.length) = j by omega] at this
        rw [this]
        exact hj ▸ (List.getElem?_eq_getElem hl).symm
  · have hold : (Builtin.firstCells i.size S.length (.slice (some ⟨k0, 0, none⟩) S.length cap)).run Try.prog W1.drew = .ok (bcs S).toArray W1.drew :=
      run_firstCells_some _ _ _ _ _ _ _ (by rw [z4, bcs_length]; omega) (fun j u hj => by rw [hadd]; simpa using hcv.cells j u hj)
    have hrun := run_append_grow_src (P := Try.prog) W1 31 31 o.type 5 i (.int .u8 0) Try.underlying31 hi z3 (some ⟨k0, 0, none⟩) S.length cap (bcs S) hold _ _ _ hsrc (by omega) (by omega) (growslice_fits (by omega) (by rw [z5]; omega))
    refine wpList_plain hgd fun K hK' => ?_
    unfold Oper.wp execOp
    simp only [ho, resolve, invoke, builtin, Sem.run_bind, Sem.run_pure, Result.andThen_ok, List.map_toArray, List.map_cons, List.map_nil, hs, hx, hrun]
    refine hK' _ _ (hK _ _ ⟨W1.heap.size, _, by rw [List.length_append], by omega, by simp, fun j u hj => ?_⟩ (((Below.refl _ _).drew).alloc (by simp; omega) _))
    have hl := (List.getElem?_eq_some_iff.1 hj).1
    rw [bcs_length, List.length_append] at hl
    have e : bcs (S ++ t) = bcs S ++ bcs t := by unfold bcs; rw [List.map_append]
    rw [e] at hj
    simp only [World.cell?]
    rw [show (W1.drew.alloc (.cells ((bcs S ++ bcs t).toArray ++ Builtin.zeroCells (Value.int .u8 0).cells (grownCap W1 (S.length + t.length) cap 5 - (S.length + t.length))) 5)).heap[W1.heap.size]? = some (.cells ((bcs S ++ bcs t).toArray ++ Builtin.zeroCells (Value.int .u8 0).cells (grownCap W1 (S.length + t.length) cap 5 - (S.length + t.length))) 5) from heap_alloc_new W1.drew _]
    have hl2 : j < (bcs S ++ bcs t).length := by rw [List.length_append, bcs_length, bcs_length]; exact hl
    show ((bcs S ++ bcs t).toArray ++ _)[j]? = some u
    rw [Array.getElem?_append_left (by simpa using hl2)]
    simpa using hj
end Go.Proofs.Ytpmagonmfaaihaa
