/-
  An arena: what it is (Abs), and how the program's lies in memory (ArP).
-/
import Derived.Deep.AppendLies
import Derived.Deep.WholeRow
import Derived.Laws.OwnMore
import Derived.Test.YtjdbjnkmlajdoaaGreatChecked
import Derived.Test.YtjdbjnkmlajdoaaGreatStatesP
namespace Go.Proofs.YtjdbjnkmlajdoaaGreat.L4
open Go.RowKit

theorem below_alloc (w : World) (o : Obj) : Below w.heap.size w (w.alloc o) := (Below.refl _ _).alloc (Nat.le_refl _) o
theorem below_on {a b c : World} (h : Below a.heap.size a b) (k : Below b.heap.size b c) : Below a.heap.size a c := h.trans (k.mono h.size)

/-- Bytes as cells. -/
def bcs (l : List UInt8) : List Value := l.map fun c => Value.int .u8 (c.toNat : Int)

theorem bcs_length (l : List UInt8) : (bcs l).length = l.length := by simp [bcs]

def zeroP : List UInt8 := List.replicate 1024 0

/-- An arena: the pages by number, the free numbers, the quota. -/
structure Abs where
  pg : List (Option (List UInt8))
  fr : List Nat
  q : Nat

structure Abs.Ok (a : Abs) : Prop where
  low : ∀ n ∈ a.fr, 1 ≤ n ∧ a.pg[n - 1]? = some none
  nodup : a.fr.Nodup
  count : a.pg.countP Option.isNone = a.fr.length
  len : ∀ c, some c ∈ a.pg → c.length = 1024
  small : a.pg.length ≤ 4096
  quota : a.q ≤ 4096

/-- The page n, if it is in use. -/
def Abs.at (a : Abs) (n : Int) : Option (List UInt8) := if 1 ≤ n then (a.pg[n.toNat - 1]?).join else none

def Abs.used (a : Abs) : Nat := a.pg.length - a.fr.length
def Abs.left (a : Abs) : Nat := a.q - a.used
def Abs.next (a : Abs) : Nat := match a.fr.getLast? with | none => a.pg.length + 1 | some n => n
def Abs.take (a : Abs) : Abs := match a.fr.getLast? with | none => { a with pg := a.pg ++ [none] } | some _ => { a with fr := a.fr.dropLast }
def Abs.lay (a : Abs) (n : Nat) (c : Option (List UInt8)) : Abs := { a with pg := a.pg.set (n - 1) c }
def Abs.alloc (a : Abs) : Abs := a.take.lay a.next (some zeroP)
def Abs.free (a : Abs) (n : Nat) : Abs := { a.lay n none with fr := a.fr ++ [n] }

theorem Abs.Ok.le {a : Abs} (h : a.Ok) : a.fr.length ≤ a.pg.length := by
  rw [← h.count]; exact List.countP_le_length

theorem Abs.at_some {a : Abs} {n : Int} {c : List UInt8} (h : a.at n = some c) : 1 ≤ n ∧ n.toNat - 1 < a.pg.length ∧ a.pg[n.toNat - 1]? = some (some c) := by
  unfold Abs.at at h
  split at h
  · rename_i h1
    have h2 : a.pg[n.toNat - 1]? = some (some c) := by
      cases hx : a.pg[n.toNat - 1]? with
      | none => simp [hx] at h
      | some y => simp [hx] at h; rw [h]
    exact ⟨h1, (List.getElem?_eq_some_iff.1 h2).1, h2⟩
  · cases h

theorem Abs.Ok.lay {a : Abs} (h : a.Ok) {n : Int} {c d : List UInt8} (hn : a.at n = some c) (hd : d.length = 1024) : (a.lay n.toNat (some d)).Ok := by
  obtain ⟨h1, h2, h3⟩ := Abs.at_some hn
  have hv : a.pg[n.toNat - 1] = some c := by simpa [List.getElem?_eq_getElem h2] using h3
  refine ⟨fun m hm => ?_, h.nodup, ?_, fun e he => ?_, by simpa [Abs.lay] using h.small, h.quota⟩
  · have := h.low m hm
    refine ⟨this.1, ?_⟩
    show (a.pg.set (n.toNat - 1) (some d))[m - 1]? = _
    rw [List.getElem?_set_ne]
    · exact this.2
    · intro e
      rw [e, this.2] at h3
      cases h3
  · show (a.pg.set (n.toNat - 1) (some d)).countP _ = _
    rw [List.countP_set h2, hv]
    show _ = a.fr.length
    simpa using h.count
  · rcases List.mem_or_eq_of_mem_set he with he | he
    · exact h.len e he
    · cases he; exact hd

theorem Abs.Ok.free {a : Abs} (h : a.Ok) {n : Int} {c : List UInt8} (hn : a.at n = some c) : (a.free n.toNat).Ok := by
  obtain ⟨h1, h2, h3⟩ := Abs.at_some hn
  have hv : a.pg[n.toNat - 1] = some c := by simpa [List.getElem?_eq_getElem h2] using h3
  refine ⟨fun m hm => ?_, ?_, ?_, fun e he => ?_, by simpa [Abs.free, Abs.lay] using h.small, h.quota⟩
  · show 1 ≤ m ∧ (a.pg.set (n.toNat - 1) none)[m - 1]? = _
    rcases List.mem_append.1 hm with hm | hm
    · have := h.low m hm
      refine ⟨this.1, ?_⟩
      rw [List.getElem?_set_ne]
      · exact this.2
      · intro e
        rw [e, this.2] at h3
        cases h3
    · simp at hm
      subst hm
      exact ⟨by omega, by simp [h2]⟩
  · show (a.fr ++ [n.toNat]).Nodup
    rw [List.nodup_append]
    refine ⟨h.nodup, by simp, ?_⟩
    intro x hx y hy e
    simp at hy
    rw [hy] at e
    rw [← e, (h.low x hx).2] at h3
    cases h3
  · show (a.pg.set (n.toNat - 1) none).countP _ = (a.fr ++ [n.toNat]).length
    rw [List.countP_set h2, hv, List.length_append, ← h.count]
    simp
  · rcases List.mem_or_eq_of_mem_set he with he | he
    · exact h.len e he
    · cases he

theorem zeroP_length : zeroP.length = 1024 := List.length_replicate

theorem Abs.Ok.alloc {a : Abs} (h : a.Ok) (hl : 0 < a.left) : a.alloc.Ok ∧ a.used < a.q := by
  have hq : a.used < a.q := by unfold Abs.left at hl; omega
  refine ⟨?_, hq⟩
  have h0 := h.quota
  unfold Abs.alloc Abs.take Abs.next
  cases hg : a.fr.getLast? with
  | none =>
    have hf : a.fr = [] := by simpa using hg
    have hc : a.pg.countP Option.isNone = 0 := by rw [h.count, hf]; rfl
    have hu : a.used = a.pg.length := by unfold Abs.used; rw [hf]; rfl
    have hset : ((a.pg ++ [none]).set (a.pg.length + 1 - 1) (some zeroP)) = a.pg ++ [some zeroP] := by
      rw [Nat.add_sub_cancel, List.set_append_right _ _ (Nat.le_refl _)]; simp
    refine ⟨fun m hm => ?_, h.nodup, ?_, fun e he => ?_, ?_, h.quota⟩
    · rw [show a.fr = [] from hf] at hm; cases hm
    · show ((a.pg ++ [none]).set (a.pg.length + 1 - 1) (some zeroP)).countP _ = a.fr.length
      rw [hset, List.countP_append, hc, hf]; rfl
    · have he : some e ∈ ((a.pg ++ [none]).set (a.pg.length + 1 - 1) (some zeroP)) := he
      rw [hset] at he
      rcases List.mem_append.1 he with he | he
      · exact h.len e he
      · simp at he; subst he; exact zeroP_length
    · show ((a.pg ++ [none]).set (a.pg.length + 1 - 1) (some zeroP)).length ≤ 4096
      rw [hset, List.length_append]
      simp
      omega
  | some n =>
    have hmem : n ∈ a.fr := List.mem_of_getLast? hg
    have hd : a.fr = a.fr.dropLast ++ [n] := by
      obtain ⟨ys, hy⟩ := List.getLast?_eq_some_iff.1 hg
      rw [hy, List.dropLast_concat]
    have hnd := h.nodup
    rw [hd, List.nodup_append] at hnd
    obtain ⟨h1, h3⟩ := h.low n hmem
    have h2 : n - 1 < a.pg.length := (List.getElem?_eq_some_iff.1 h3).1
    have hv : a.pg[n - 1] = none := by simpa [List.getElem?_eq_getElem h2] using h3
    have hcl := h.count
    rw [hd, List.length_append] at hcl
    refine ⟨fun m hm => ?_, hnd.1, ?_, fun e he => ?_, by simpa [Abs.lay] using h.small, h.quota⟩
    · have hm' : m ∈ a.fr.dropLast := hm
      have := h.low m (by rw [hd]; exact List.mem_append_left _ hm')
      refine ⟨this.1, ?_⟩
      show (a.pg.set (n - 1) (some zeroP))[m - 1]? = _
      rw [List.getElem?_set_ne]
      · exact this.2
      · have hne : m ≠ n := hnd.2.2 m hm' n (by simp)
        have := this.1
        omega
    · show (a.pg.set (n - 1) (some zeroP)).countP _ = a.fr.dropLast.length
      rw [List.countP_set h2, hv]
      simp at hcl ⊢
      omega
    · rcases List.mem_or_eq_of_mem_set he with he | he
      · exact h.len e he
      · cases he; exact zeroP_length

/-- The program's arena: the blocks of it, and what it is. -/
structure Ar where
  p : Nat
  vp : Value
  vf : Value
  pg : List (Option (Nat × List UInt8))
  fr : List Nat
  q : Nat

def Ar.abs (s : Ar) : Abs := ⟨s.pg.map (Option.map Prod.snd), s.fr, s.q⟩

def pgv : Option (Nat × List UInt8) → Value
  | none => .pointer none
  | some (b, _) => .pointer (some ⟨b, 0, none⟩)

def nv (n : Nat) : Value := .int .i64 (n : Int)

structure ArP (s : Ar) (W : World) : Prop where
  blk : W.heap[s.p]? = some (.cells #[s.vp, s.vf, nv s.q] 81 (0, 0))
  rp : W.ownsRow 0 118 1 s.vp s.pg.length (s.pg.map pgv)
  rf : W.ownsRow 0 3 1 s.vf s.fr.length (s.fr.map nv)
  pgs : ∀ b c, some (b, c) ∈ s.pg → W.heap[b]? = some (.cells (bcs c).toArray 131 (0, 0))

def Ar.own (s : Ar) (k : Nat) : Prop := k = s.p ∨ s.vp.ownBlock = some k ∨ s.vf.ownBlock = some k

theorem owns_of_block {W W' : World} {b : Nat} {e : TypeId} {size : Nat} {v : Value} {n : Nat} {xs : List Value} (h : W.ownsRow b e size v n xs) (hk : ∀ k, v.ownBlock = some k → W'.heap[k]? = W.heap[k]?) : W'.ownsRow b e size v n xs := by
  refine ⟨h.1, ?_⟩
  rcases h.2 with hn | ⟨g, cap, cur, rfl, hb, hgg, rest⟩
  · exact .inl hn
  · exact .inr ⟨g, cap, cur, rfl, hb, (hk g rfl).trans hgg, rest⟩

theorem owns_tag {W : World} {b : Nat} {e : TypeId} {size : Nat} {v : Value} {n : Nat} {xs : List Value} (h : W.ownsRow b e size v n xs) {k : Nat} (hk : v.ownBlock = some k) : ∃ cur, W.heap[k]? = some (.cells cur e (0, 0)) := by
  rcases h.2 with ⟨rfl, _⟩ | ⟨g, cap, cur, rfl, hb, hgg, rest⟩
  · simp [Value.ownBlock] at hk
  · simp [Value.ownBlock] at hk
    subst hk
    exact ⟨cur, hgg⟩

theorem ArP.tag {s : Ar} {W : World} (h : ArP s W) {k : Nat} (hk : s.own k) : ∃ cur t, W.heap[k]? = some (.cells cur t (0, 0)) ∧ (t = 81 ∨ t = 118 ∨ t = 3) := by
  rcases hk with rfl | hk | hk
  · exact ⟨_, _, h.blk, Or.inl rfl⟩
  · obtain ⟨cur, h1⟩ := owns_tag h.rp hk
    exact ⟨_, _, h1, Or.inr (Or.inl rfl)⟩
  · obtain ⟨cur, h1⟩ := owns_tag h.rf hk
    exact ⟨_, _, h1, Or.inr (Or.inr rfl)⟩

def arSt : St Ar where
  own := Ar.own
  P := ArP
  keep s w w' h hk hp := ⟨(hk _ (Or.inl rfl)).trans h.blk, owns_of_block h.rp fun k x => hk k (Or.inr (Or.inl x)), owns_of_block h.rf fun k x => hk k (Or.inr (Or.inr x)), fun b c x => (hp b _ (h.pgs b c x)).trans (h.pgs b c x)⟩
  lt s w k h hk := by
    obtain ⟨cur, t, h1, _⟩ := h.tag hk
    exact (Array.getElem?_eq_some_iff.1 h1).1
  tag s w k cs h hk e := by
    obtain ⟨cur, t, h1, h2⟩ := h.tag hk
    rw [e] at h1
    simp only [Option.some.injEq, Obj.cells.injEq] at h1
    rcases h2 with h2 | h2 | h2 <;> (rw [h2] at h1; simp at h1)

/-- What a call makes of an arena. -/
def Goes (s : Ar) (W : World) (a : Abs) (W' : World) : Prop := ∃ s', ArP s' W' ∧ s'.p = s.p ∧ s'.abs = a ∧ Moves arSt s s' W W'

/-- The arena's cells. -/
theorem ArP.cell {s : Ar} {W : World} (h : ArP s W) : W.cell? ⟨s.p, 0, none⟩ = some s.vp ∧ W.cell? ⟨s.p, 1, none⟩ = some s.vf ∧ W.cell? ⟨s.p, 2, none⟩ = some (nv s.q) ∧ s.p < W.heap.size ∧ (∀ j, W.frozen? ⟨s.p, j, none⟩ = false) := by
  refine ⟨?_, ?_, ?_, (Array.getElem?_eq_some_iff.1 h.blk).1, fun j => frozen_of_row _ _ _ _ _ h.blk⟩ <;> rw [cell_of_row _ _ _ _ _ _ h.blk] <;> rfl

theorem ArP.rp_ne {s : Ar} {w : World} (h : ArP s w) {k : Nat} (hk : s.vp.ownBlock = some k) : k ≠ s.p ∧ s.vf.ownBlock ≠ some k ∧ ∀ b c, some (b, c) ∈ s.pg → b ≠ k := by
  obtain ⟨cur, h1⟩ := owns_tag h.rp hk
  refine ⟨fun e => ?_, fun e => ?_, fun b c hb e => ?_⟩
  · rw [e, h.blk] at h1
    simp at h1
  · obtain ⟨cur', h2⟩ := owns_tag h.rf e
    rw [h2] at h1
    simp at h1
  · rw [← e, h.pgs b c hb] at h1
    simp at h1

theorem ArP.rf_ne {s : Ar} {w : World} (h : ArP s w) {k : Nat} (hk : s.vf.ownBlock = some k) : k ≠ s.p ∧ s.vp.ownBlock ≠ some k ∧ ∀ b c, some (b, c) ∈ s.pg → b ≠ k := by
  obtain ⟨cur, h1⟩ := owns_tag h.rf hk
  refine ⟨fun e => ?_, fun e => ?_, fun b c hb e => ?_⟩
  · rw [e, h.blk] at h1
    simp at h1
  · obtain ⟨cur', h2⟩ := owns_tag h.rp e
    rw [h2] at h1
    simp at h1
  · rw [← e, h.pgs b c hb] at h1
    simp at h1

theorem ArP.pg_ne {s : Ar} {w : World} (h : ArP s w) {b : Nat} {c : List UInt8} (hb : some (b, c) ∈ s.pg) : b ≠ s.p := by
  intro e
  have := h.pgs b c hb
  rw [e, h.blk] at this
  simp at this

theorem ArP.setq {s : Ar} {w : World} (h : ArP s w) (n : Nat) : ArP { s with q := n } (w.setCell ⟨s.p, 2, none⟩ (.int .i64 (n : Int))) ∧ Moves arSt s { s with q := n } w (w.setCell ⟨s.p, 2, none⟩ (.int .i64 (n : Int))) := by
  refine ⟨⟨?_, ?_, ?_, ?_⟩, (Only.refl _ _).setCell (Or.inr (Or.inl rfl)) _, fun k hk => Or.inl hk⟩
  · exact heap_setCell_same w s.p 2 _ _ _ h.blk
  · exact owns_of_block h.rp fun k hk => heap_setCell_other _ _ _ _ (h.rp_ne hk).1
  · exact owns_of_block h.rf fun k hk => heap_setCell_other _ _ _ _ (h.rf_ne hk).1
  · exact fun b c hb => (heap_setCell_other _ _ _ _ (h.pg_ne hb)).trans (h.pgs b c hb)

/-- Another row of pages. -/
theorem ArP.newp {s : Ar} {w w' : World} (h : ArP s w) {v' : Value} {pg' : List (Option (Nat × List UInt8))} (hg : w.grownBy w' s.vp.ownBlock) (ho : w'.ownsRow 0 118 1 v' pg'.length (pg'.map pgv)) (hat : ∀ k, v'.ownBlock = some k → s.vp.ownBlock = some k ∨ w.heap.size ≤ k) (hpg : ∀ b c, some (b, c) ∈ pg' → some (b, c) ∈ s.pg) :
    ArP { s with vp := v', pg := pg' } (w'.setCell ⟨s.p, 0, none⟩ v') ∧ Moves arSt s { s with vp := v', pg := pg' } w (w'.setCell ⟨s.p, 0, none⟩ v') := by
  have hp := (Array.getElem?_eq_some_iff.1 h.blk).1
  have hpp : some s.p ≠ s.vp.ownBlock := fun e => (h.rp_ne e.symm).1 rfl
  have hb' : w'.heap[s.p]? = some (.cells #[s.vp, s.vf, nv s.q] 81 (0, 0)) := (hg.block _ hp hpp).trans h.blk
  refine ⟨⟨?_, ?_, ?_, ?_⟩, ?_, fun k hk => ?_⟩
  · exact heap_setCell_same w' s.p 0 _ _ _ hb'
  · refine owns_of_block ho fun k hk => heap_setCell_other _ _ _ _ fun e => ?_
    obtain ⟨cur, h1⟩ := owns_tag ho hk
    rw [show k = s.p from e, hb'] at h1
    simp at h1
  · refine owns_of_block h.rf fun k hk => (heap_setCell_other _ _ _ _ (h.rf_ne hk).1).trans (hg.block _ (arSt.lt s w k h (Or.inr (Or.inr hk))) fun e => (h.rf_ne hk).2.1 e.symm)
  · exact fun b c hb => ((heap_setCell_other _ _ _ _ (h.pg_ne (hpg b c hb))).trans (hg.block _ (Array.getElem?_eq_some_iff.1 (h.pgs b c (hpg b c hb))).1 fun e => (h.rp_ne e.symm).2.2 b c (hpg b c hb) rfl)).trans (h.pgs b c (hpg b c hb))
  · exact ((Only.refl s.own w).grown hg fun k hk => Or.inr (Or.inr (Or.inl hk))).setCell (Or.inr (Or.inl rfl)) _
  · rcases hk with rfl | hk | hk
    · exact Or.inl (Or.inl rfl)
    · exact (hat k hk).imp (fun x => Or.inr (Or.inl x)) id
    · exact Or.inl (Or.inr (Or.inr hk))

/-- Another row of free numbers. -/
theorem ArP.newf {s : Ar} {w w' : World} (h : ArP s w) {v' : Value} {fr' : List Nat} (hg : w.grownBy w' s.vf.ownBlock) (ho : w'.ownsRow 0 3 1 v' fr'.length (fr'.map nv)) (hat : ∀ k, v'.ownBlock = some k → s.vf.ownBlock = some k ∨ w.heap.size ≤ k) :
    ArP { s with vf := v', fr := fr' } (w'.setCell ⟨s.p, 1, none⟩ v') ∧ Moves arSt s { s with vf := v', fr := fr' } w (w'.setCell ⟨s.p, 1, none⟩ v') := by
  have hp := (Array.getElem?_eq_some_iff.1 h.blk).1
  have hpp : some s.p ≠ s.vf.ownBlock := fun e => (h.rf_ne e.symm).1 rfl
  have hb' : w'.heap[s.p]? = some (.cells #[s.vp, s.vf, nv s.q] 81 (0, 0)) := (hg.block _ hp hpp).trans h.blk
  refine ⟨⟨?_, ?_, ?_, ?_⟩, ?_, fun k hk => ?_⟩
  · exact heap_setCell_same w' s.p 1 _ _ _ hb'
  · refine owns_of_block h.rp fun k hk => (heap_setCell_other _ _ _ _ (h.rp_ne hk).1).trans (hg.block _ (arSt.lt s w k h (Or.inr (Or.inl hk))) fun e => (h.rp_ne hk).2.1 e.symm)
  · refine owns_of_block ho fun k hk => heap_setCell_other _ _ _ _ fun e => ?_
    obtain ⟨cur, h1⟩ := owns_tag ho hk
    rw [show k = s.p from e, hb'] at h1
    simp at h1
  · exact fun b c hb => ((heap_setCell_other _ _ _ _ (h.pg_ne hb)).trans (hg.block _ (Array.getElem?_eq_some_iff.1 (h.pgs b c hb)).1 fun e => (h.rf_ne e.symm).2.2 b c hb rfl)).trans (h.pgs b c hb)
  · exact ((Only.refl s.own w).grown hg fun k hk => Or.inr (Or.inr (Or.inr hk))).setCell (Or.inr (Or.inl rfl)) _
  · rcases hk with rfl | hk | hk
    · exact Or.inl (Or.inl rfl)
    · exact Or.inl (Or.inr (Or.inl hk))
    · exact (hat k hk).imp (fun x => Or.inr (Or.inr x)) id

/-- Another page in its row. -/
theorem ArP.setp {s : Ar} {w : World} (h : ArP s w) {g cap : Nat} (hv : s.vp = .slice (some ⟨g, 0, none⟩) s.pg.length cap) (m : Nat) (x : Option (Nat × List UInt8)) (hx : ∀ b c, x = some (b, c) → w.heap[b]? = some (.cells (bcs c).toArray 131 (0, 0))) :
    ArP { s with pg := s.pg.set m x } (w.setCell ⟨g, m, none⟩ (pgv x)) ∧ Moves arSt s { s with pg := s.pg.set m x } w (w.setCell ⟨g, m, none⟩ (pgv x)) := by
  have hk : s.vp.ownBlock = some g := by rw [hv]; rfl
  have hr := h.rp
  rw [hv] at hr
  refine ⟨⟨?_, ?_, ?_, ?_⟩, (Only.refl _ _).setCell (Or.inr (Or.inr (Or.inl hk))) _, fun k hk => Or.inl hk⟩
  · exact (heap_setCell_other _ _ _ _ fun e => (h.rp_ne hk).1 e.symm).trans h.blk
  · have := (hr.stored m (pgv x)).1
    rw [← List.map_set] at this
    show World.ownsRow _ 0 118 1 s.vp (s.pg.set m x).length _
    rw [List.length_set, hv]
    exact this
  · exact owns_of_block h.rf fun k hk' => heap_setCell_other _ _ _ _ fun e => (h.rp_ne hk).2.1 (by rw [hk', show k = g from e])
  · intro b c hb
    have hb0 : w.heap[b]? = some (.cells (bcs c).toArray 131 (0, 0)) := by
      rcases List.mem_or_eq_of_mem_set hb with hb | hb
      · exact h.pgs b c hb
      · exact hx b c hb.symm
    refine (heap_setCell_other _ _ _ _ fun e => ?_).trans hb0
    obtain ⟨cur, h1⟩ := owns_tag h.rp hk
    rw [← show b = g from e, hb0] at h1
    simp at h1

theorem owns_slice {W : World} {b : Nat} {e : TypeId} {size : Nat} {v : Value} {n : Nat} {xs : List Value} (h : W.ownsRow b e size v n xs) : ∃ a cap, v = .slice a n cap ∧ (0 < n → ∃ g, a = some ⟨g, 0, none⟩ ∧ g < W.heap.size) ∧ n ≤ cap := by
  rcases h.2 with ⟨rfl, h0⟩ | ⟨g, cap, cur, rfl, hb, hgg, hc, _⟩
  · subst h0; exact ⟨none, 0, rfl, fun h => absurd h (by omega), Nat.le_refl _⟩
  · exact ⟨_, cap, rfl, fun _ => ⟨g, rfl, (Array.getElem?_eq_some_iff.1 hgg).1⟩, hc⟩
end Go.Proofs.YtjdbjnkmlajdoaaGreat.L4
