/-
  What stands beside an arena that moves (Kept); scripts, pictures and their way back beside it.
-/
import Derived.Test.YtcoehlnmaehhjaaSnB
import Derived.Test.YtcoehlnmaehhjaaSnD
namespace Go.Proofs.Ytcoehlnmaehhjaa
open Go.RowKit

/-- The blocks of F are as in ws, and none of them is the arena's. -/
structure Kept (F : Nat → Prop) (ws : World) (s : Ar) (w : World) : Prop where
  lt : ∀ k, F k → k < ws.heap.size
  size : ws.heap.size ≤ w.heap.size
  eq : ∀ k, F k → w.heap[k]? = ws.heap[k]?
  pk : Pk ws w
  apart : ∀ k, F k → ¬ s.own k

theorem kept_stable (F : Nat → Prop) (ws : World) : Stable (Kept F ws) := fun s s' w w' h hk _ _ hm => by
  have hz := hk.size
  refine ⟨hk.lt, Nat.le_trans hz hm.only.size, fun k x => ?_, hk.pk.trans (arSt.pk h hm.only), fun k x y => ?_⟩
  · rw [hm.only.block k (Nat.lt_of_lt_of_le (hk.lt k x) hz) (hk.apart k x)]
    exact hk.eq k x
  · rcases hm.own k y with z | z
    · exact hk.apart k x z
    · have := hk.lt k x; omega

theorem kept_more {F G : Nat → Prop} {ws w : World} {s : Ar} (h : Kept F ws s w) (h1 : ∀ k, G k → k < w.heap.size) (h2 : ∀ k, G k → ¬ s.own k) : Kept (fun k => F k ∨ G k) w s w :=
  ⟨fun k x => x.elim (fun x => Nat.lt_of_lt_of_le (h.lt k x) h.size) (h1 k), Nat.le_refl _, fun _ _ => rfl, fun _ _ _ => rfl, fun k x => x.elim (h.apart k) (h2 k)⟩

theorem Kept.below {F : Nat → Prop} {ws w w' : World} {s : Ar} (h : Kept F ws s w) (hb : Below w.heap.size w w') : Kept F ws s w' :=
  ⟨h.lt, Nat.le_trans h.size hb.size, fun k x => (hb.block k (Nat.lt_of_lt_of_le (h.lt k x) h.size)).trans (h.eq k x), h.pk.trans (Pk.of_below hb), h.apart⟩

/-- All that the arena owns is newer than w0, and nothing older has turned. -/
def BΦ (w0 : World) (s : Ar) (w : World) : Prop := Below w0.heap.size w0 w ∧ ∀ k, s.own k → w0.heap.size ≤ k

theorem b_stable (w0 : World) : Stable (BΦ w0) := fun _ _ _ _ _ h _ _ hm => Moves.fresh h.1 hm h.2

def KΦ (F : Nat → Prop) (ws w0 : World) (s : Ar) (w : World) : Prop := Kept F ws s w ∧ BΦ w0 s w

theorem k_stable (F : Nat → Prop) (ws w0 : World) : Stable (KΦ F ws w0) := fun s s' w w' h hk h' hp hm => ⟨kept_stable F ws s s' w w' h hk.1 h' hp hm, b_stable w0 s s' w w' h hk.2 h' hp hm⟩

/-- A script beside what stands. -/
theorem k_does {F : Nat → Prop} {ws w0 w : World} {p : Nat} {a : Abs} (h : HG (KΦ F ws w0) p a w) {ad : Option Addr} {len cap : Nat} {f : Nat → UInt8} (hs : Scr w0 ad len f) : Calls Try.prog 25 #[arV p, .slice ad len cap] w fun e w' => ∃ v, e = .returned v ∧
    (∃ s, s.p = p ∧ ArP s w' ∧ s.abs = (dst a f (min len 100)).1 ∧ s.abs.Ok ∧ KΦ F ws w0 s w' ∧ IS 0 w' v ((dst a f (min len 100)).2 ++ (dst a f (min len 100)).1.pages) ∧ (∀ k, v.ownBlock = some k → ¬ s.own k)) := by
  obtain ⟨s, rfl, h2, rfl, h4, h5⟩ := h
  have hs' : Scr w ad len f := hs.below h5.2.1
  refine (does_loop h2 h4 hs' (fun j hj b o e x => ?_)).mono ?_
  · obtain ⟨b', o', e', hb, _⟩ := hs j hj
    rw [e] at e'
    injection e' with e'
    injection e' with e' _ _
    have := h5.2.2 b x
    omega
  · rintro e w' ⟨v, a, rfl, ⟨s', g1, g2, g3, g4, g5, g6, g7, g8⟩, ha⟩
    subst ha
    exact ⟨v, rfl, s', g1, g2, g3, by rw [g3]; exact g4, k_stable F ws w0 s s' w w' h2 h5 g2 g1 g8, g5, g6⟩

theorem k_snap {F : Nat → Prop} {ws w0 w : World} {p : Nat} {a : Abs} (h : HG (KΦ F ws w0) p a w) : Calls Try.prog 26 #[arV p] w fun e w' => ∃ n, e = .returned (.agg #[arV p, .pointer (some ⟨n.pb, 0, none⟩)]) ∧ SnP n w' ∧ n.pg.map (Option.map Prod.snd) = a.pg ∧ n.fr = a.fr ∧ (∃ s, s.p = p ∧ ArP s w' ∧ s.abs = a ∧ a.Ok ∧ KΦ F ws w0 s w' ∧ (∀ k, n.own k → ¬ s.own k) ∧ ∀ k, s.own k → k < w.heap.size) ∧ Below w.heap.size w w' := by
  obtain ⟨s, rfl, h2, rfl, h4, h5⟩ := h
  refine (snap_walk h2 h4).mono ?_
  rintro e w' ⟨n, rfl, hn, hp, hf, hb, hnew⟩
  refine ⟨n, rfl, hn, by rw [hp]; rfl, hf, ⟨s, rfl, arSt.below h2 hb, rfl, h4, ⟨h5.1.below hb, below_on h5.2.1 hb, h5.2.2⟩, fun k x y => ?_, fun k x => arSt.lt s w k h2 x⟩, hb⟩
  have := hnew k x
  have := arSt.lt s w k h2 y
  omega

theorem k_restore {F : Nat → Prop} {ws w0 w : World} {p : Nat} {a a' : Abs} (h : HG (KΦ F ws w0) p a w) {n : Sn} (hn : SnP n w) (ho : a'.Ok) (h1 : n.pg.map (Option.map Prod.snd) = a'.pg) (h2 : n.fr = a'.fr) (h3 : a.q = a'.q) : Calls Try.prog 27 #[arV p, .agg #[arV p, .pointer (some ⟨n.pb, 0, none⟩)]] w fun e w' => e = .returned (.int .i64 0) ∧ HG (KΦ F ws w0) p a' w' := by
  obtain ⟨s, rfl, g2, rfl, g4, g5⟩ := h
  have l1 : n.pg.length ≤ 4096 := by
    have := ho.small
    rw [← h1] at this
    simpa using this
  have l2 : n.fr.length ≤ 4096 := by
    have := ho.le
    have := ho.small
    rw [h2]
    omega
  refine (restore_ok g2 hn l1 l2).mono ?_
  rintro e w' ⟨rfl, hg⟩
  have e' : (⟨n.pg.map (Option.map Prod.snd), n.fr, s.q⟩ : Abs) = a' := by
    have : s.q = a'.q := h3
    rw [h1, h2, this]
  rw [e'] at hg
  exact ⟨rfl, HG.goes (k_stable F ws w0) g2 g5 hg ho⟩
end Go.Proofs.Ytcoehlnmaehhjaa
