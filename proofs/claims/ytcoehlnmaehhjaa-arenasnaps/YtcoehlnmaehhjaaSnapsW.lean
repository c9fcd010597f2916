/-
  ArenaSnaps: its walk.
-/
import Derived.Test.YtcoehlnmaehhjaaSnE
namespace Go.Proofs.Ytcoehlnmaehhjaa
open Go.RowKit

theorem alloc_q (a : Abs) : a.alloc.q = a.q := by
  unfold Abs.alloc Abs.lay Abs.take
  split <;> rfl

theorem stepD_q (a : Abs) (c : UInt8) : (stepD a c).1.q = a.q := by
  unfold stepD
  split
  · split
    · exact Abs.free_used.2
    · rfl
  split
  · split
    · exact (Abs.lay_used _ _ _).2
    · rfl
  split
  · split <;> rfl
  split
  · exact alloc_q a
  · rfl

theorem dst_q (a : Abs) (f : Nat → UInt8) : ∀ j, (dst a f j).1.q = a.q
  | 0 => rfl
  | j + 1 => (stepD_q _ _).trans (dst_q a f j)

theorem stepD_len (a : Abs) (c : UInt8) : (stepD a c).2.length ≤ 3 := by
  unfold stepD
  repeat' split
  all_goals simp

theorem dst_len (a : Abs) (f : Nat → UInt8) : ∀ j, (dst a f j).2.length ≤ 4 * j
  | 0 => by simp [dst]
  | j + 1 => by
    have h1 := dst_len a f j
    have h2 := stepD_len (dst a f j).1 (f j)
    simp only [dst, List.length_append, List.length_singleton]
    omega

/-- What stands, told of the world alone. -/
def Still (F : Nat → Prop) (ws w : World) : Prop := (∀ k, F k → w.heap[k]? = ws.heap[k]?) ∧ Pk ws w

theorem HG.still {F : Nat → Prop} {ws w0 w : World} {p : Nat} {a : Abs} (h : HG (KΦ F ws w0) p a w) : Still F ws w ∧ Below w0.heap.size w0 w := by
  obtain ⟨s, _, _, _, _, h5⟩ := h
  exact ⟨⟨h5.1.eq, h5.1.pk⟩, h5.2.1⟩

/-- All that stands beside the arena in the loop. -/
structure Rest (p bs : Nat) (n : Sn) (t : Ar) (v : Value) (L : List Nat) (W : World) : Prop where
  sn : SnP n W
  ar : ArP t W
  va : W.heap[bs]? = some (.cells #[arV p, .pointer (some ⟨n.pb, 0, none⟩)] 60 (0, 0))
  ro : IS 0 W v L

def RF (bs : Nat) (n : Sn) (t : Ar) (v : Value) (k : Nat) : Prop := (t.own k ∨ (n.own k ∨ k = bs)) ∨ v.ownBlock = some k

theorem Rest.still {p bs : Nat} {n : Sn} {t : Ar} {v : Value} {L : List Nat} {ws w : World} (h : Rest p bs n t v L ws) (hs : Still (RF bs n t v) ws w) : Rest p bs n t v L w :=
  ⟨h.sn.keep (fun k x => hs.1 k (Or.inl (Or.inr (Or.inl x)))) hs.2, arSt.keep t ws w h.ar (fun k x => hs.1 k (Or.inl (Or.inl x))) hs.2, (hs.1 bs (Or.inl (Or.inr (Or.inr rfl)))).trans h.va, owns_of_block h.ro fun k x => hs.1 k (Or.inr x)⟩

theorem Rest.cells {p bs : Nat} {n : Sn} {t : Ar} {v : Value} {L : List Nat} {w : World} (h : Rest p bs n t v L w) : w.cell? ⟨bs, 0, none⟩ = some (.pointer (some ⟨p, 0, none⟩)) ∧ w.cell? ⟨bs, 1, none⟩ = some (.pointer (some ⟨n.pb, 0, none⟩)) := by
  constructor <;> rw [cell_of_row _ _ _ _ _ _ h.va] <;> rfl

def sa0 : Abs := ⟨[], [], 50⟩

/-- Two arenas, new. -/
theorem two_new {w1 w2 w3 : World} {p : Nat} {t : Ar} (h : Has w1 p sa0 w2) (ht : Fresh 50 w2 t w3) : HG (KΦ t.own w3 w1) p sa0 w3 ∧ t.p ≠ p := by
  obtain ⟨s, h1, h2, h3, h4, h5, h6⟩ := h
  obtain ⟨g1, g2, g3, g4⟩ := ht
  have hap : ∀ k, t.own k → ¬ s.own k := fun k x y => by
    have := g4 k x
    have := arSt.lt s w2 k h2 y
    omega
  refine ⟨⟨s, h1, arSt.below h2 g3, h3, h4, ⟨fun k x => arSt.lt t w3 k g1 x, Nat.le_refl _, fun _ _ => rfl, fun _ _ _ => rfl, hap⟩, below_on h5 g3, h6⟩, fun e => ?_⟩
  exact hap t.p (Or.inl rfl) (Or.inl (e.trans h1.symm))

set_option maxRecDepth 100000 in
set_option maxHeartbeats 4000000 in
theorem snaps_walk (d1 d2 d3 : Option Addr) (l1 l2 l3 c1 c2 c3 : Nat) (f1 f2 f3 : Nat → UInt8) (w : World) (s1 : Scr w d1 l1 f1) (s2 : Scr w d2 l2 f2) (s3 : Scr w d3 l3 f3) : Calls Try.prog 7 #[.slice d1 l1 c1, .slice d2 l2 c2, .slice d3 l3 c3] w fun e w' => e = .returned (.bool true) ∧ Below w.heap.size w w' := by
  go_enter Try.func7, Try.ntmps7
  go_wp2_with fail
  refine (awake_walk _).mono ?_
  rintro e w1 ⟨rfl, B⟩
  have HB : Hid (Below w.heap.size w w1) := B
  have S1 : Hid (Scr w1 d1 l1 f1) := s1.below B
  have S2 : Hid (Scr w1 d2 l2 f2) := s2.below B
  have S3 : Hid (Scr w1 d3 l3 f3) := s3.below B
  clear B s1 s2 s3
  go_wp2_with fail
  refine (has_new 50 (by decide) _).mono ?_
  rintro e w2 ⟨p, rfl, H⟩
  have H1 : Hid (Has w1 p sa0 w2) := H
  clear H
  unfold arV
  go_wp2_with fail
  refine (new_ok 50 (by decide) _).mono ?_
  rintro e w3 ⟨t, rfl, H⟩
  obtain ⟨k1, k2⟩ := two_new H1.out H
  have H2 : Hid (HG (KΦ t.own w3 w1) p sa0 w3) := k1
  have TN : Hid (t.p ≠ p) := k2
  have TP : Hid (ArP t w3) := H.1
  have TA : Hid (t.abs = sa0) := H.2.1
  clear H k1 k2 H1
  unfold arV
  go_wp2_with fail
  refine (k_does H2.out S1.out).mono ?_
  rintro e w4 ⟨v4, rfl, s4, j1, j2, j3, j4, j5, _, _⟩
  have H3 : Hid (HG (KΦ t.own w3 w1) p (dst sa0 f1 (min l1 100)).1 w4) := ⟨s4, j1, j2, j3, by rw [← j3]; exact j4, j5⟩
  have HQ : Hid ((dst sa0 f1 (min l1 100)).1.q = 50) := dst_q sa0 f1 _
  clear j1 j2 j3 j4 j5 H2
  generalize (dst sa0 f1 (min l1 100)).1 = a4 at *
  go_wp2_with fail
  refine (k_snap H3.out).mono ?_
  rintro e w5 ⟨n, rfl, hn, hpg, hfr, ⟨s5, m1, m2, m3, m4, m5, m6, m7⟩, hb5⟩
  unfold arV
  go_wp2_with fail
  obtain ⟨w6, hw6⟩ : ∃ w6, Hid (w6 = w5.alloc (.cells #[.pointer (some ⟨p, 0, none⟩), .pointer (some ⟨n.pb, 0, none⟩)] 60)) := ⟨_, rfl⟩
  rw [← hw6.out]
  have hb6 : Below w5.heap.size w5 w6 := by rw [hw6.out]; exact below_alloc _ _
  have hva : w6.heap[w5.heap.size]? = some (.cells #[arV p, .pointer (some ⟨n.pb, 0, none⟩)] 60 (0, 0)) := by rw [hw6.out]; exact heap_alloc_new _ _
  have hn6 : SnP n w6 := hn.keep (fun k x => hb6.block k (hn.lt x)) (Pk.of_below hb6)
  have t6 : ArP t w6 := arSt.keep t w3 w6 TP.out (fun k x => (m5.1.below hb6).eq k x) (m5.1.below hb6).pk
  have s6 : ArP s5 w6 := arSt.below m2 hb6
  have k6 : Kept (fun k => t.own k ∨ (n.own k ∨ k = w5.heap.size)) w6 s5 w6 := kept_more (m5.1.below hb6) (fun k x => by
    rcases x with x | x
    · exact hn6.lt x
    · rw [x]; exact (Array.getElem?_eq_some_iff.1 hva).1) (fun k x y => by
    rcases x with x | x
    · exact m6 k x y
    · have := m7 k y
      have := hb5.size
      omega)
  have H6 : Hid (HG (KΦ (fun k => t.own k ∨ (n.own k ∨ k = w5.heap.size)) w6 w1) p a4 w6) := ⟨s5, m1, s6, m3, m4, k6, below_on m5.2.1 hb6, m5.2.2⟩
  have N6 : Hid (SnP n w6) := hn6
  have T6 : Hid (ArP t w6) := t6
  have V6 : Hid (w6.heap[w5.heap.size]? = some (.cells #[arV p, .pointer (some ⟨n.pb, 0, none⟩)] 60 (0, 0))) := hva
  have NP : Hid (n.pg.map (Option.map Prod.snd) = a4.pg) := hpg
  have NF : Hid (n.fr = a4.fr) := hfr
  have AO : Hid a4.Ok := m4
  clear hn hpg hfr hb5 m1 m2 m3 m4 m5 m6 m7 hb6 hva hn6 t6 s6 k6 TP H3
  generalize w5.heap.size = bs at *
  refine (k_does H6.out S3.out).mono ?_
  rintro e w7 ⟨v, rfl, s7, j1, j2, j3, j4, j5, j6, j7⟩
  have KK := j5.1
  have R7 : Hid (Rest p bs n t v ((dst a4 f3 (min l3 100)).2 ++ (dst a4 f3 (min l3 100)).1.pages) w7) := ⟨N6.out.keep (fun k x => KK.eq k (Or.inr (Or.inl x))) KK.pk, arSt.keep t w6 w7 T6.out (fun k x => KK.eq k (Or.inl x)) KK.pk, (KK.eq bs (Or.inr (Or.inr rfl))).trans V6.out, j6⟩
  have H7 : Hid (HG (KΦ (RF bs n t v) w7 w1) p (dst a4 f3 (min l3 100)).1 w7) := ⟨s7, j1, j2, j3, by rw [← j3]; exact j4, kept_more KK (fun k x => (World.ownsRow.lt j6 k x).2) j7, j5.2⟩
  have HQ7 : Hid ((dst a4 f3 (min l3 100)).1.q = 50) := (dst_q a4 f3 _).trans HQ.out
  have HL : Hid ((dst a4 f3 (min l3 100)).2.length ≤ 400 ∧ (dst a4 f3 (min l3 100)).1.pages.length ≤ 4096) := ⟨by have := dst_len a4 f3 (min l3 100); omega, by
    have := (H7.out.ok).small
    exact Nat.le_trans (upto_length _ _) this⟩
  clear j1 j2 j3 j4 j5 j6 j7 KK H6 N6 T6 V6
  obtain ⟨a7, ha7⟩ : ∃ a7, Hid (a7 = (dst a4 f3 (min l3 100)).1) := ⟨_, rfl⟩
  rw [← ha7.out] at H7 HQ7
  obtain ⟨L, hL⟩ : ∃ L, Hid (L = (dst a4 f3 (min l3 100)).2 ++ (dst a4 f3 (min l3 100)).1.pages) := ⟨(dst a4 f3 (min l3 100)).2 ++ (dst a4 f3 (min l3 100)).1.pages, (rfl : _ = _)⟩
  have hLl : L.length ≤ 1000000 := by rw [hL.out, List.length_append]; have := HL.out; omega
  rw [← hL.out] at R7
  clear HL
  go_wp2_with fail
  go_loopw [13] (fun i wr => ∃ (j : Nat) (a : Abs), j ≤ 2 ∧ i = .int .i64 (j : Int) ∧ Hid (HG (KΦ (RF bs n t v) w7 w1) p a wr) ∧ Hid (a.q = 50)) (fun i _ => 2 - (intOf i).toNat)
  case atStart => exact ⟨0, a7, by omega, rfl, H7, HQ7⟩
  case round =>
    obtain ⟨j, a, hj, rfl, HH, HQa⟩ := hrel
    clear H7 HQ7
    by_cases hlt : j < 2
    · obtain ⟨x0, x1⟩ := (R7.out.still HH.out.still.1).cells
      go_wp2_with fail
      refine (k_restore HH.out (R7.out.still HH.out.still.1).sn AO.out NP.out NF.out (HQa.out.trans HQ.out.symm)).mono ?_
      rintro e w8 ⟨rfl, H⟩
      have H8 : Hid (HG (KΦ (RF bs n t v) w7 w1) p a4 w8) := H
      clear H HH x0 x1
      go_wp2_with fail
      refine (k_does H8.out S2.out).mono ?_
      rintro e w9 ⟨v9, rfl, s9, j1, j2, j3, j4, j5, _, _⟩
      have H9 : Hid (HG (KΦ (RF bs n t v) w7 w1) p (dst a4 f2 (min l2 100)).1 w9) := ⟨s9, j1, j2, j3, by rw [← j3]; exact j4, j5⟩
      have HQ9 : Hid ((dst a4 f2 (min l2 100)).1.q = a4.q) := dst_q a4 f2 _
      clear j1 j2 j3 j4 j5 H8
      generalize (dst a4 f2 (min l2 100)).1 = a9 at *
      obtain ⟨x0, x1⟩ := (R7.out.still H9.out.still.1).cells
      go_wp2_with fail
      refine (k_restore H9.out (R7.out.still H9.out.still.1).sn AO.out NP.out NF.out HQ9.out).mono ?_
      rintro e w10 ⟨rfl, H⟩
      have H10 : Hid (HG (KΦ (RF bs n t v) w7 w1) p a4 w10) := H
      clear H H9 x0 x1
      go_wp2_with fail
      refine (k_does H10.out S3.out).mono ?_
      rintro e w11 ⟨v11, rfl, s11, j1, j2, j3, j4, j5, j6, _⟩
      have H11 : Hid (HG (KΦ (RF bs n t v) w7 w1) p (dst a4 f3 (min l3 100)).1 w11) := ⟨s11, j1, j2, j3, by rw [← j3]; exact j4, j5⟩
      have HI : Hid (IS 0 w11 v11 L) := by rw [hL.out]; exact j6
      clear j1 j2 j3 j4 j5 j6 H10
      rw [← ha7.out] at H11
      go_wp2_with fail
      refine (same_walk HI.out (R7.out.still H11.out.still.1).ro hLl).mono ?_
      rintro e w12 ⟨rfl, hb⟩
      have H12 : Hid (HG (KΦ (RF bs n t v) w7 w1) p a7 w12) := H11.out.below (k_stable _ _ _) hb
      have HQ12 : Hid (a7.q = 50) := by rw [ha7.out]; exact (dst_q a4 f3 _).trans HQ.out
      clear hb H11 HI
      go_wp2_with fail
      exact ⟨⟨j + 1, a7, by omega, by go_num, H12, HQ12⟩, by simp [intOf]; omega⟩
    · have hj2 : j = 2 := by omega
      subst hj2
      clear hlt
      obtain ⟨x0, x1⟩ := (R7.out.still HH.out.still.1).cells
      go_wp2_with fail
      obtain ⟨s, y1, y2, _⟩ := HH.out
      have y3 := (restore_other y2 (R7.out.still HH.out.still.1).ar (by rw [y1]; exact fun e => TN.out e.symm) (some ⟨n.pb, 0, none⟩))
      rw [y1] at y3
      refine y3.mono ?_
      rintro e w8 ⟨rfl, hb⟩
      have H8 : Hid (HG (KΦ (RF bs n t v) w7 w1) p a w8) := HH.out.below (k_stable _ _ _) hb
      clear hb y1 y2 y3 HH x0 x1
      go_wp2_with fail
      refine (used_walk (R7.out.still H8.out.still.1).ar (by rw [TA.out]; exact abs_new 50 (by decide))).mono ?_
      rintro e w9 ⟨rfl, hb⟩
      have H9 : Hid (HG (KΦ (RF bs n t v) w7 w1) p a w9) := H8.out.below (k_stable _ _ _) hb
      clear hb H8
      rw [TA.out, show nv sa0.used = .int .i64 0 from rfl]
      go_wp2_with fail
      refine (restore_none p _).mono ?_
      rintro e w10 ⟨rfl, hb⟩
      have H10 : Hid (HG (KΦ (RF bs n t v) w7 w1) p a w10) := H9.out.below (k_stable _ _ _) hb
      clear hb H9
      obtain ⟨x0, x1⟩ := (R7.out.still H10.out.still.1).cells
      go_wp2_with fail
      refine (restore_nil _ _ _).mono ?_
      rintro e w11 ⟨rfl, hb⟩
      have H11 : Hid (HG (KΦ (RF bs n t v) w7 w1) p a w11) := H10.out.below (k_stable _ _ _) hb
      clear hb H10 x0 x1
      go_wp2_with fail
      refine (snap_nil _).mono ?_
      rintro e w12 ⟨rfl, hb⟩
      have H12 : Hid (HG (KΦ (RF bs n t v) w7 w1) p a w12) := H11.out.below (k_stable _ _ _) hb
      clear hb H11
      go_wp2_with fail
      refine (restore_none p _).mono ?_
      rintro e w13 ⟨rfl, hb⟩
      have H13 : Hid (Below w.heap.size w w13) := below_on HB.out (H12.out.below (k_stable _ _ _) hb).still.2
      clear hb H12
      go_wp2
      go_ret
      exact ⟨rfl, H13.out⟩
end Go.Proofs.Ytcoehlnmaehhjaa
