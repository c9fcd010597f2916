/-
  An arena beside anything that stands while it moves (HG), and what each call makes of it.
-/
import Derived.Test.YtjdbjnkmlajdoaaGreatArG
namespace Go.Proofs.YtjdbjnkmlajdoaaGreat.L4
open Go.RowKit

/-- Whatever an arena's call does, it stands. -/
def Stable (Φ : Ar → World → Prop) : Prop := ∀ s s' w w', ArP s w → Φ s w → ArP s' w' → s'.p = s.p → Moves arSt s s' w w' → Φ s' w'

/-- The arena a at p, and Φ. -/
def HG (Φ : Ar → World → Prop) (p : Nat) (a : Abs) (w : World) : Prop := ∃ s, s.p = p ∧ ArP s w ∧ s.abs = a ∧ a.Ok ∧ Φ s w

variable {Φ : Ar → World → Prop} {p : Nat} {a : Abs} {w : World}

theorem HG.ok (h : HG Φ p a w) : a.Ok := by obtain ⟨_, _, _, _, h, _⟩ := h; exact h

theorem HG.below (hs : Stable Φ) {w' : World} (h : HG Φ p a w) (hb : Below w.heap.size w w') : HG Φ p a w' := by
  obtain ⟨s, h1, h2, h3, h4, h5⟩ := h
  exact ⟨s, h1, arSt.below h2 hb, h3, h4, hs s s w w' h2 h5 (arSt.below h2 hb) rfl (Moves.below hb)⟩

theorem HG.goes (hs : Stable Φ) {w' : World} {s : Ar} {a' : Abs} (h : ArP s w) (hΦ : Φ s w) (hg : Goes s w a' w') (ho : a'.Ok) : HG Φ s.p a' w' := by
  obtain ⟨s', h1, h2, h3, h4⟩ := hg
  exact ⟨s', h2, h1, h3, ho, hs s s' w w' h hΦ h1 h2 h4⟩

theorem g_alloc (hs : Stable Φ) (h : HG Φ p a w) (hl : 0 < a.left) : Calls Tryz.prog 75 #[arV p] w fun e w' => e = .returned (.tuple #[nv a.next, .int .i64 0]) ∧ HG Φ p a.alloc w' := by
  obtain ⟨s, rfl, h2, rfl, h4, h5⟩ := h
  exact (alloc_ok h2 h4 hl).mono fun _ _ ⟨he, hg⟩ => ⟨he, HG.goes hs h2 h5 hg (h4.alloc hl).1⟩

theorem g_full (hs : Stable Φ) (h : HG Φ p a w) (hl : a.left = 0) : Calls Tryz.prog 75 #[arV p] w fun e w' => e = .returned (.tuple #[.int .i64 0, .int .i64 9]) ∧ HG Φ p a w' := by
  have h' := h
  obtain ⟨s, rfl, h2, rfl, h4, h5⟩ := h
  exact (alloc_full h2 h4 hl).mono fun _ _ ⟨he, hb⟩ => ⟨he, h'.below hs hb⟩

theorem g_free (hs : Stable Φ) (h : HG Φ p a w) {n : Int} {c : List UInt8} (hn : a.at n = some c) : Calls Tryz.prog 66 #[arV p, .int .i64 n] w fun e w' => e = .returned (.int .i64 0) ∧ HG Φ p (a.free n.toNat) w' := by
  obtain ⟨s, rfl, h2, rfl, h4, h5⟩ := h
  exact (free_ok h2 h4 hn).mono fun _ _ ⟨he, hg⟩ => ⟨he, HG.goes hs h2 h5 hg (h4.free hn)⟩

theorem g_free_no (h : HG Φ p a w) {n : Int} (hn : a.at n = none) : Calls Tryz.prog 66 #[arV p, .int .i64 n] w fun e w' => e = .returned (.int .i64 2) ∧ HG Φ p a w' := by
  have h' := h
  obtain ⟨s, rfl, h2, rfl, h4, h5⟩ := h
  exact (free_no h2 (small_of h4) hn).mono fun _ _ ⟨he, hb⟩ => ⟨he, by rw [hb]; exact h'⟩

theorem g_load (hs : Stable Φ) (h : HG Φ p a w) {n : Int} {c : List UInt8} (hn : a.at n = some c) : Calls Tryz.prog 56 #[arV p, .int .i64 n] w fun e w' => e = .returned (.tuple #[.slice (some ⟨w.heap.size, 0, none⟩) 1024 1024, .int .i64 0]) ∧ HeldP w' w.heap.size c ∧ HG Φ p a w' ∧ Below w.heap.size w w' := by
  have h' := h
  obtain ⟨s, rfl, h2, rfl, h4, h5⟩ := h
  exact (load_blk h2 h4 hn).mono fun _ _ ⟨he, hv, hb⟩ => ⟨he, hv, h'.below hs hb, hb⟩

theorem g_load_no (h : HG Φ p a w) {n : Int} (hn : a.at n = none) : Calls Tryz.prog 56 #[arV p, .int .i64 n] w fun e w' => e = .returned (.tuple #[.slice none 0 0, .int .i64 2]) ∧ HG Φ p a w' := by
  have h' := h
  obtain ⟨s, rfl, h2, rfl, h4, h5⟩ := h
  exact (load_no h2 (small_of h4) hn).mono fun _ _ ⟨he, hb⟩ => ⟨he, by rw [hb]; exact h'⟩

theorem g_store (hs : Stable Φ) (h : HG Φ p a w) {n : Int} {c : List UInt8} (hn : a.at n = some c) {v : Value} {b : Nat} {d : List UInt8} (hv : BS w b v d) (hd : d.length = 1024) : Calls Tryz.prog 96 #[arV p, .int .i64 n, v] w fun e w' => e = .returned (.int .i64 0) ∧ HG Φ p (a.lay n.toNat (some d)) w' := by
  obtain ⟨s, rfl, h2, rfl, h4, h5⟩ := h
  exact (store_ok h2 h4 hn hv hd).mono fun _ _ ⟨he, hg⟩ => ⟨he, HG.goes hs h2 h5 hg (h4.lay hn hd)⟩

theorem g_store_long (h : HG Φ p a w) {n : Int} {c : List UInt8} (hn : a.at n = some c) {v : Value} {b : Nat} {d : List UInt8} (hv : BS w b v d) (hd : d.length ≠ 1024) : Calls Tryz.prog 96 #[arV p, .int .i64 n, v] w fun e w' => e = .returned (.int .i64 15) ∧ HG Φ p a w' := by
  have h' := h
  obtain ⟨s, rfl, h2, rfl, h4, h5⟩ := h
  exact (store_long h2 (small_of h4) hn hv hd).mono fun _ _ ⟨he, hb⟩ => ⟨he, by rw [hb]; exact h'⟩

theorem g_store_no (h : HG Φ p a w) {n : Int} (hn : a.at n = none) (v : Value) : Calls Tryz.prog 96 #[arV p, .int .i64 n, v] w fun e w' => e = .returned (.int .i64 2) ∧ HG Φ p a w' := by
  have h' := h
  obtain ⟨s, rfl, h2, rfl, h4, h5⟩ := h
  exact (store_no h2 (small_of h4) hn v).mono fun _ _ ⟨he, hb⟩ => ⟨he, by rw [hb]; exact h'⟩

theorem g_limit (hs : Stable Φ) (h : HG Φ p a w) (n : Nat) (hn : n ≤ 4096) : Calls Tryz.prog 31 #[arV p, .int .i64 n] w fun e w' => e = .returned (.int .i64 0) ∧ HG Φ p { a with q := n } w' := by
  obtain ⟨s, rfl, h2, rfl, h4, h5⟩ := h
  exact (limit_ok h2 n hn).mono fun _ _ ⟨he, hg⟩ => ⟨he, HG.goes hs h2 h5 hg ⟨h4.low, h4.nodup, h4.count, h4.len, h4.small, hn⟩⟩

theorem g_limit_no (h : HG Φ p a w) {n : Int} (hn : mayB n = false) : Calls Tryz.prog 31 #[arV p, .int .i64 n] w fun e w' => e = .returned (.int .i64 15) ∧ HG Φ p a w' :=
  (limit_no hn w).mono fun _ _ ⟨he, hb⟩ => ⟨he, by rw [hb]; exact h⟩

theorem g_used (hs : Stable Φ) (h : HG Φ p a w) : Calls Tryz.prog 22 #[arV p] w fun e w' => e = .returned (nv a.used) ∧ HG Φ p a w' ∧ Below w.heap.size w w' := by
  have h' := h
  obtain ⟨s, rfl, h2, rfl, h4, h5⟩ := h
  exact (used_walk h2 h4).mono fun _ _ ⟨he, hb⟩ => ⟨he, h'.below hs hb, hb⟩

theorem g_left (hs : Stable Φ) (h : HG Φ p a w) : Calls Tryz.prog 47 #[arV p] w fun e w' => e = .returned (nv a.left) ∧ HG Φ p a w' ∧ Below w.heap.size w w' := by
  have h' := h
  obtain ⟨s, rfl, h2, rfl, h4, h5⟩ := h
  exact (left_walk h2 h4).mono fun _ _ ⟨he, hb⟩ => ⟨he, h'.below hs hb, hb⟩

theorem g_pages (hs : Stable Φ) (h : HG Φ p a w) : Calls Tryz.prog 30 #[arV p] w fun e w' => ∃ v, e = .returned v ∧ IS w.heap.size w' v a.pages ∧ HG Φ p a w' ∧ Below w.heap.size w w' := by
  have h' := h
  obtain ⟨s, rfl, h2, rfl, h4, h5⟩ := h
  exact (pages_walk h2 h4).mono fun _ _ ⟨v, he, hi, hb⟩ => ⟨v, he, hi, h'.below hs hb, hb⟩
end Go.Proofs.YtjdbjnkmlajdoaaGreat.L4
