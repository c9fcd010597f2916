/-
  Nodes: what they are, how they lie in memory.
-/
import Derived.Deep.AppendLies
import Derived.Deep.WholeRow
import Derived.Deep.QuietTactic
import Derived.BigQuiet
import Derived.Laws.OwnMore
import Derived.Laws.Cover1
import Derived.Laws.AppendOwn
import Derived.Maps.AppendAt
import Derived.Test.YtgpahhlmpdnbpaaChecked
import Derived.Test.YtgpahhlmpdnbpaaOnly
namespace Go.Proofs.Ytgpahhlmpdnbpaa
open Go.RowKit

theorem below_alloc (w : World) (o : Obj) : Below w.heap.size w (w.alloc o) := (Below.refl _ _).alloc (Nat.le_refl _) o
theorem below_on {a b c : World} (h : Below a.heap.size a b) (k : Below b.heap.size b c) : Below a.heap.size a c := h.trans (k.mono h.size)
theorem bcell {W w1 : World} (hb : Below W.heap.size W w1) : (∀ b o, b < W.heap.size → w1.cell? ⟨b, o, none⟩ = W.cell? ⟨b, o, none⟩) ∧ (∀ b o, b < W.heap.size → w1.frozen? ⟨b, o, none⟩ = W.frozen? ⟨b, o, none⟩) :=
  ⟨fun b o h => hb.cell (p := ⟨b, o, none⟩) h, fun b o h => hb.frozen (p := ⟨b, o, none⟩) h⟩
theorem ret_int {k : IntKind} {a b : Int} (h : a = b) : Ending.returned (.int k a) = .returned (.int k b) := by rw [h]
theorem ret_bool {a b : Bool} (h : a = b) : Ending.returned (.bool a) = .returned (.bool b) := by rw [h]

/-- A node. -/
structure No where
  leaf : Bool
  recs : List ByteArray
  kids : List Int

def iv (k : Int) : Value := .int .i64 k
def svs (l : List ByteArray) : List Value := l.map Value.string
def ivs (l : List Int) : List Value := l.map iv
/-- Bytes as cells. -/
def bcs (l : List UInt8) : List Value := l.map fun c => Value.int .u8 (c.toNat : Int)

theorem bcs_length (l : List UInt8) : (bcs l).length = l.length := by simp [bcs]
theorem svs_length (l : List ByteArray) : (svs l).length = l.length := by simp [svs]
theorem ivs_length (l : List Int) : (ivs l).length = l.length := by simp [ivs]

/-- Values that lie one behind the other at an address, c cells of room. -/
def Rd (W : World) (a : Option Addr) (c : Nat) (l : List Value) : Prop := l.length ≤ c ∧ c ≤ maxLen ∧ ∀ j u, l[j]? = some u → ∃ b o, a = some ⟨b, o, none⟩ ∧ b < W.heap.size ∧ W.cell? ⟨b, o + j, none⟩ = some u

theorem Rd.below {W W' : World} {a : Option Addr} {c : Nat} {l : List Value} (h : Rd W a c l) (hb : Below W.heap.size W W') : Rd W' a c l :=
  ⟨h.1, h.2.1, fun j u hj => by
    obtain ⟨b, o, h1, h2, h3⟩ := h.2.2 j u hj
    exact ⟨b, o, h1, Nat.lt_of_lt_of_le h2 hb.size, by rw [hb.cell h2]; exact h3⟩⟩

theorem Rd.str {W : World} {a : Option Addr} {c : Nat} {l : List ByteArray} (h : Rd W a c (svs l)) (j : Nat) (hj : j < l.length) : ∃ b o, a = some ⟨b, o, none⟩ ∧ b < W.heap.size ∧ W.cell? ⟨b, o + j, none⟩ = some (.string l[j]) :=
  h.2.2 j _ (by simp [svs, List.getElem?_eq_getElem hj])

theorem Rd.int {W : World} {a : Option Addr} {c : Nat} {l : List Int} (h : Rd W a c (ivs l)) (j : Nat) (hj : j < l.length) : ∃ b o, a = some ⟨b, o, none⟩ ∧ b < W.heap.size ∧ W.cell? ⟨b, o + j, none⟩ = some (.int .i64 l[j]) :=
  h.2.2 j _ (by simp [ivs, iv, List.getElem?_eq_getElem hj])

theorem Rd.take {W : World} {a : Option Addr} {c : Nat} {l : List Value} (h : Rd W a c l) (k : Nat) : Rd W a c (l.take k) :=
  ⟨Nat.le_trans (by simp; omega) h.1, h.2.1, fun j u hj => h.2.2 j u (by
    rw [List.getElem?_take] at hj
    split at hj
    · exact hj
    · cases hj)⟩

/-- What is behind a place. -/
theorem Rd.drop {W : World} {b o : Nat} {c : Nat} {l : List Value} (h : Rd W (some ⟨b, o, none⟩) c l) (k : Nat) : Rd W (some ⟨b, o + k, none⟩) (c - k) (l.drop k) :=
  ⟨by have := h.1; simp; omega, by have := h.2.1; omega, fun j u hj => by
    rw [List.getElem?_drop] at hj
    obtain ⟨b', o', h1, h2, h3⟩ := h.2.2 _ u hj
    cases h1
    exact ⟨b, o + k, rfl, h2, by rw [Nat.add_assoc]; exact h3⟩⟩

/-- A node's value. -/
def nodeV (n : No) (a : Option Addr) (c : Nat) (a' : Option Addr) (c' : Nat) : Value := .agg #[.bool n.leaf, .slice a n.recs.length c, .slice a' n.kids.length c']

/-- A node that can be read. -/
structure NR (W : World) (n : No) (a : Option Addr) (c : Nat) (a' : Option Addr) (c' : Nat) : Prop where
  recs : Rd W a c (svs n.recs)
  kids : Rd W a' c' (ivs n.kids)

theorem NR.below {W W' : World} {n : No} {a : Option Addr} {c : Nat} {a' : Option Addr} {c' : Nat} (h : NR W n a c a' c') (hb : Below W.heap.size W W') : NR W' n a c a' c' := ⟨h.recs.below hb, h.kids.below hb⟩

/-- Not more than is played: lists of at most 1000, texts of at most 5000. -/
structure No.small (n : No) : Prop where
  recs : n.recs.length ≤ 1000
  kids : n.kids.length ≤ 1000
  each : ∀ s ∈ n.recs, s.size ≤ 5000

def weigh (l : List ByteArray) : Nat := (l.map fun s => 4 + s.size).sum
def No.size (n : No) : Nat := 3 + 4 * n.kids.length + weigh n.recs

theorem weigh_snoc (l : List ByteArray) (j : Nat) (h : j < l.length) : weigh (l.take (j + 1)) = weigh (l.take j) + (4 + l[j].size) := by
  unfold weigh
  rw [List.take_succ_eq_append_getElem h, List.map_append, List.sum_append]
  rfl

theorem weigh_le (l : List ByteArray) (h : ∀ s ∈ l, s.size ≤ 5000) : weigh l ≤ 5004 * l.length := by
  induction l with
  | nil => exact Nat.le_refl _
  | cons x l ih =>
    have h1 := ih fun s hs => h s (by simp [hs])
    have h2 := h x (by simp)
    unfold weigh at h1 ⊢
    simp only [List.map_cons, List.sum_cons, List.length_cons]
    omega

theorem weigh_take_le (l : List ByteArray) (h : ∀ s ∈ l, s.size ≤ 5000) (hl : l.length ≤ 1000) (j : Nat) : weigh (l.take j) ≤ 5004000 := by
  have := weigh_le (l.take j) (fun s hs => h s (List.mem_of_mem_take hs))
  have h2 : (l.take j).length ≤ 1000 := by simp; omega
  omega

/-- Is the entry i as it must be? -/
def recOk (l : List ByteArray) (i : Nat) : Bool := match l[i]? with
  | none => false
  | some s => decide (1 ≤ s.size) && decide (s.size ≤ 400) && (i == 0 || Op.bytesLess (l[i - 1]?.getD ⟨#[]⟩).toList s.toList)

def kidOk (k : Int) : Bool := decide (1 ≤ k) && decide (k ≤ 4096)

/-- Right but for its size. -/
def No.shaped (n : No) : Bool := (List.range n.recs.length).all (recOk n.recs) && n.kids.all kidOk && (n.kids.length == if n.leaf then 0 else n.recs.length + 1)

end Go.Proofs.Ytgpahhlmpdnbpaa
