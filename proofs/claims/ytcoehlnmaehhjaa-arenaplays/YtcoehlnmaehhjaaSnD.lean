/-
  What a script does with an arena, and what is told of it (does).
-/
import Derived.Test.YtcoehlnmaehhjaaSnC
namespace Go.Proofs.Ytcoehlnmaehhjaa
open Go.RowKit

/-- One call of a script: what becomes of the arena, and what is answered. -/
def stepD (a : Abs) (c : UInt8) : Abs × List Nat :=
  if c.toNat % 4 = 0 then (match a.at ((c.toNat : Int) / 4) with | some _ => (a.free ((c.toNat : Int) / 4).toNat, [0]) | none => (a, [2]))
  else if c.toNat % 4 = 1 then (match a.at ((c.toNat : Int) / 4) with | some _ => (a.lay ((c.toNat : Int) / 4).toNat (some (List.replicate 1024 c)), [0]) | none => (a, [2]))
  else if c.toNat % 4 = 2 then (match a.at ((c.toNat : Int) / 4) with | some d => (a, [1024, 0, (d.getD 7 0).toNat]) | none => (a, [0, 2]))
  else if 0 < a.left then (a.alloc, [a.next, 0]) else (a, [0, 9])

def dst (a : Abs) (f : Nat → UInt8) : Nat → Abs × List Nat
  | 0 => (a, [])
  | j + 1 => ((stepD (dst a f j).1 (f j)).1, (dst a f j).2 ++ (stepD (dst a f j).1 (f j)).2 ++ [(stepD (dst a f j).1 (f j)).1.used])

theorem HG.is {s0 : Ar} {w0 w : World} {v : Value} {l : List Nat} {p : Nat} {a : Abs} (h : HG (DΦ s0 w0 v l) p a w) : IS 0 w v l := by
  obtain ⟨s, _, _, _, _, h, _⟩ := h
  exact h

theorem pk_grown {w W' : World} {v : Value} {l : List Nat} (h : IS 0 w v l) (hg : w.grownBy W' v.ownBlock) : Pk w W' := fun k cs hcs => hg.block k (Array.getElem?_eq_some_iff.1 hcs).1 fun e => by
  obtain ⟨cur, ht⟩ := owns_tag h e.symm
  rw [hcs] at ht
  simp at ht

/-- More in the row of numbers, out of a block that was just laid. -/
theorem d_news {s0 : Ar} {w0 w : World} {v : Value} {l : List Nat} {p : Nat} {a : Abs} (h : HG (DΦ s0 w0 v l) p a w) (o : Obj) : IS 0 (w.alloc o) v l ∧ ∀ v' l' W', IS 0 W' v' l' → (w.alloc o).grownBy W' v.ownBlock → (∀ k, v'.ownBlock = some k → v.ownBlock = some k ∨ (w.alloc o).heap.size ≤ k) → HG (DΦ s0 w0 v' l') p a W' ∧ Pk w W' := by
  have h1 := h.below (dStable s0 w0 v l) (below_alloc w o)
  exact ⟨h1.is, fun v' l' W' ho hg hat => ⟨d_append h1 hg ho hat, (Pk.of_below (below_alloc w o)).trans (pk_grown h1.is hg)⟩⟩

theorem append_none {ops : Array Oper} {rest : List Oper} {o : Oper} {a : Act} {Q : Exit → Act → World → Prop} {W1 : World} (hgd : o.guard = none) (s x : Operand) (ho : o.op = .call { callee := .builtin .append, args := #[s, x], argTypes := #[45, 45] })
    (v : Value) (l : List Nat) (hs : a.eval s = v) (h : IS 0 W1 v l) (hx : a.eval x = .slice none 0 0) (hK : wpList Try.prog ops Q rest (a.put o.dst v) W1) : wpList Try.prog ops Q (o :: rest) a W1 := by
  obtain ⟨i, hi, _⟩ : ∃ i, Try.prog.info? 3 = some i ∧ i.size = 1 :=
    Option.map_eq_some_iff.1 (show (Try.prog.info? 3).map (fun i => i.size) = some 1 by kernel_rfl)
  refine wpList_plain hgd fun K hK' => ?_
  have hr := run_append_owned_none (P := Try.prog) W1 0 45 o.type 3 i 1 Try.underlying45 hi v l.length (l.map nv) h
  unfold Oper.wp execOp
  simp only [ho, resolve, invoke, builtin, Sem.run_bind, Sem.run_pure, Result.andThen_ok, List.map_toArray, List.map_cons, List.map_nil, hs, hx, hr]
  exact hK' _ _ hK

theorem news_at (w : World) (cs : Array Value) (l : List Nat) (t : TypeId) (h : cs.toList = l.map nv) : ∀ j u, (l.map nv)[j]? = some u → (w.alloc (.cells cs t)).cell? ((⟨w.heap.size, 0, none⟩ : Addr).add j) = some u := by
  rw [← h]
  exact World.news_of_block (heap_alloc_new _ _)

set_option maxRecDepth 100000 in
set_option maxHeartbeats 4000000 in
theorem does_loop {s0 : Ar} {w : World} (h : ArP s0 w) (ho : s0.abs.Ok) {ad : Option Addr} {len cap : Nat} {f : Nat → UInt8} (hs : Scr w ad len f) (hns : ∀ j, j < len → ∀ b o, ad = some ⟨b, o, none⟩ → ¬ s0.own b) :
    Calls Try.prog 25 #[arV s0.p, .slice ad len cap] w fun e w' => ∃ v a, e = .returned v ∧ HG (DΦ s0 w v ((dst s0.abs f (min len 100)).2 ++ a.pages)) s0.p a w' ∧ a = (dst s0.abs f (min len 100)).1 := by
  have H0 : Hid (HG (DΦ s0 w (.slice none 0 0) []) s0.p s0.abs w) := ⟨s0, rfl, h, rfl, ho, World.ownsRow_nil _ _ _ _, by simp [Value.ownBlock], by simp [Value.ownBlock], Moves.refl _ _ _⟩
  have HS : Hid (Scr w ad len f) := hs
  have HNS : Hid (∀ j, j < len → ∀ b o, ad = some ⟨b, o, none⟩ → ¬ s0.own b) := hns
  clear h ho hs hns
  unfold arV
  generalize s0.p = p at *
  generalize s0.abs = a0 at *
  go_enter Try.func25, Try.ntmps25
  go_wp2_with fail
  go_loopw [5, 6] (fun v i wr => ∃ (j : Nat) (l : List Nat), j ≤ len ∧ j ≤ 100 ∧ i = .int .i64 (j : Int) ∧ Hid (HG (DΦ s0 w v l) p (dst a0 f j).1 wr) ∧ Hid (l = (dst a0 f j).2) ∧ l.length ≤ 4 * j) (fun _ i _ => 100 - (intOf i).toNat)
  case atStart => exact ⟨0, [], by omega, by omega, rfl, H0.out, rfl, by simp⟩
  case round =>
    obtain ⟨j, l, hj, hj2, rfl, HH, HL, hll⟩ := hrel
    clear H0
    by_cases hlt : j < len ∧ j < 100
    · obtain ⟨hlt, hlt2⟩ := hlt
      obtain ⟨b, o, rfl, hb1, hc0⟩ := HS.out j hlt
      have hc : wr.cell? ⟨b, o + j, none⟩ = some (.int .u8 ((f j).toNat : Int)) := by
        obtain ⟨s, _, _, _, _, _, _, _, hm⟩ := HH.out
        rw [hm.only.cell (p := ⟨b, o + j, none⟩) hb1 (HNS.out j hlt b o rfl)]
        exact hc0
      clear hb1 hc0
      have HD : Hid (dst a0 f (j + 1) = ((stepD (dst a0 f j).1 (f j)).1, (dst a0 f j).2 ++ (stepD (dst a0 f j).1 (f j)).2 ++ [(stepD (dst a0 f j).1 (f j)).1.used])) := rfl
      have HE : Hid (∀ a' o', stepD (dst a0 f j).1 (f j) = (a', o') → (dst a0 f (j + 1)).1 = a' ∧ (dst a0 f (j + 1)).2 = l ++ o' ++ [a'.used]) := by
        intro a' o' e
        rw [HD.out, e, HL.out]
        exact ⟨rfl, rfl⟩
      clear HD
      generalize (dst a0 f j).1 = a at *
      obtain ⟨c, hcc⟩ : ∃ c, Hid (c = f j) := ⟨_, rfl⟩
      rw [← hcc.out] at hc HE
      have hm : c.toNat ≤ 255 := by have := c.toNat_lt; omega
      have hr : c.toNat % 4 = 0 ∨ c.toNat % 4 = 1 ∨ c.toNat % 4 = 2 ∨ c.toNat % 4 = 3 := by omega
      rcases hr with hr | hr | hr | hr
      · have hr' : (c.toNat : Int) % 4 = 0 := by omega
        cases ha : a.at ((c.toNat : Int) / 4) with
        | none =>
          have HST : Hid (stepD a c = (a, [2])) := by show stepD a c = (a, [2]); unfold stepD; rw [if_pos hr, ha]
          go_wp2_with fail
          refine (g_free_no HH.out ha).mono ?_
          rintro e w3 ⟨rfl, H⟩
          have Hx : Hid (HG (DΦ s0 w u5 l) p a w3) := H
          obtain ⟨Ax, hAx⟩ : ∃ Ax, Hid (Ax = a) := ⟨_, rfl⟩
          rw [← hAx.out] at Hx
          have HSX : Hid (stepD a c = (Ax, [2])) := by show stepD a c = _; rw [HST.out, hAx.out]
          clear H HH ha
          obtain ⟨d1, d2⟩ := d_news Hx.out (.cells #[.int .i64 2] 3)
          have D1 : Hid (IS 0 (w3.alloc (.cells #[.int .i64 2] 3)) u5 l) := d1
          have D2 : Hid (∀ v' l' W', IS 0 W' v' l' → (w3.alloc (.cells #[.int .i64 2] 3)).grownBy W' u5.ownBlock → (∀ k, v'.ownBlock = some k → u5.ownBlock = some k ∨ (w3.alloc (.cells #[.int .i64 2] 3)).heap.size ≤ k) → HG (DΦ s0 w v' l') p Ax W' ∧ Pk w3 W') := d2
          clear d1 d2 Hx
          go_wp2_with (first
            | (at_builtin
               refine append_ints rfl _ _ rfl u5 l rfl D1.out (by first | omega | (simp; omega)) ⟨w3.heap.size, 0, none⟩ [2] 1 1 rfl rfl (by omega) (news_at w3 #[.int .i64 2] [2] 3 rfl) ?_
               intro v9 w9 hown hg hat
               obtain ⟨dd1, dd2⟩ := D2.out v9 (l ++ [2]) w9 hown hg hat
               have Hx : Hid (HG (DΦ s0 w v9 (l ++ [2])) p Ax w9) := dd1
               have Px : Hid (Pk w3 w9) := dd2
               clear hown hg hat D1 D2 dd1 dd2)
            | fail)
          have HE9 : Hid ((dst a0 f (j + 1)).1 = Ax ∧ (dst a0 f (j + 1)).2 = (l ++ [2]) ++ [Ax.used]) := by
            obtain ⟨t1, t2⟩ := HE.out _ _ HSX.out
            exact ⟨t1, by rw [t2] <;> simp⟩
          clear HST HE HSX
          obtain ⟨l9, hl9⟩ : ∃ l9 : List Nat, Hid (l9 = (l ++ [2])) := ⟨(l ++ [2]), (rfl : (l ++ [2]) = (l ++ [2]))⟩
          rw [← hl9.out] at HE9 Hx
          have hll9 : l9.length ≤ 4 * j + 3 := by rw [hl9.out]; simp; omega
          refine (g_used (dStable s0 w v9 l9) Hx.out).mono ?_
          rintro e w10 ⟨rfl, H, hb⟩
          have Hx : Hid (HG (DΦ s0 w v9 l9) p Ax w10) := H
          clear H hb
          unfold nv
          obtain ⟨d1, d2⟩ := d_news Hx.out (.cells #[.int .i64 (Ax.used : Int)] 3)
          have D1 : Hid (IS 0 (w10.alloc (.cells #[.int .i64 (Ax.used : Int)] 3)) v9 l9) := d1
          have D2 : Hid (∀ v' l' W', IS 0 W' v' l' → (w10.alloc (.cells #[.int .i64 (Ax.used : Int)] 3)).grownBy W' v9.ownBlock → (∀ k, v'.ownBlock = some k → v9.ownBlock = some k ∨ (w10.alloc (.cells #[.int .i64 (Ax.used : Int)] 3)).heap.size ≤ k) → HG (DΦ s0 w v' l') p Ax W' ∧ Pk w10 W') := d2
          clear d1 d2 Hx
          go_wp2_with (first
            | (at_builtin
               refine append_ints rfl _ _ rfl v9 l9 rfl D1.out (by first | omega | (simp; omega)) ⟨w10.heap.size, 0, none⟩ [Ax.used] 1 1 rfl rfl (by omega) (news_at w10 #[.int .i64 (Ax.used : Int)] [Ax.used] 3 rfl) ?_
               intro v11 w11 hown hg hat
               obtain ⟨dd1, dd2⟩ := D2.out v11 (l9 ++ [Ax.used]) w11 hown hg hat
               have Hx : Hid (HG (DΦ s0 w v11 (l9 ++ [Ax.used])) p Ax w11) := dd1
               have Px : Hid (Pk w10 w11) := dd2
               clear hown hg hat D1 D2 dd1 dd2)
            | fail)
          refine ⟨⟨j + 1, _, by omega, by omega, by go_num, ?_, HE9.out.2.symm, by simp; omega⟩, by simp [intOf]; omega⟩
          rw [HE9.out.1]
          exact Hx.out
        | some c' =>
          have HST : Hid (stepD a c = (a.free ((c.toNat : Int) / 4).toNat, [0])) := by show stepD a c = (a.free ((c.toNat : Int) / 4).toNat, [0]); unfold stepD; rw [if_pos hr, ha]
          go_wp2_with fail
          refine (g_free (dStable s0 w u5 l) HH.out ha).mono ?_
          rintro e w3 ⟨rfl, H⟩
          have Hx : Hid (HG (DΦ s0 w u5 l) p (a.free ((c.toNat : Int) / 4).toNat) w3) := H
          obtain ⟨Ax, hAx⟩ : ∃ Ax, Hid (Ax = a.free ((c.toNat : Int) / 4).toNat) := ⟨_, rfl⟩
          rw [← hAx.out] at Hx
          have HSX : Hid (stepD a c = (Ax, [0])) := by show stepD a c = _; rw [HST.out, hAx.out]
          clear H HH ha
          obtain ⟨d1, d2⟩ := d_news Hx.out (.cells #[.int .i64 0] 3)
          have D1 : Hid (IS 0 (w3.alloc (.cells #[.int .i64 0] 3)) u5 l) := d1
          have D2 : Hid (∀ v' l' W', IS 0 W' v' l' → (w3.alloc (.cells #[.int .i64 0] 3)).grownBy W' u5.ownBlock → (∀ k, v'.ownBlock = some k → u5.ownBlock = some k ∨ (w3.alloc (.cells #[.int .i64 0] 3)).heap.size ≤ k) → HG (DΦ s0 w v' l') p Ax W' ∧ Pk w3 W') := d2
          clear d1 d2 Hx
          go_wp2_with (first
            | (at_builtin
               refine append_ints rfl _ _ rfl u5 l rfl D1.out (by first | omega | (simp; omega)) ⟨w3.heap.size, 0, none⟩ [0] 1 1 rfl rfl (by omega) (news_at w3 #[.int .i64 0] [0] 3 rfl) ?_
               intro v9 w9 hown hg hat
               obtain ⟨dd1, dd2⟩ := D2.out v9 (l ++ [0]) w9 hown hg hat
               have Hx : Hid (HG (DΦ s0 w v9 (l ++ [0])) p Ax w9) := dd1
               have Px : Hid (Pk w3 w9) := dd2
               clear hown hg hat D1 D2 dd1 dd2)
            | fail)
          have HE9 : Hid ((dst a0 f (j + 1)).1 = Ax ∧ (dst a0 f (j + 1)).2 = (l ++ [0]) ++ [Ax.used]) := by
            obtain ⟨t1, t2⟩ := HE.out _ _ HSX.out
            exact ⟨t1, by rw [t2] <;> simp⟩
          clear HST HE HSX
          obtain ⟨l9, hl9⟩ : ∃ l9 : List Nat, Hid (l9 = (l ++ [0])) := ⟨(l ++ [0]), (rfl : (l ++ [0]) = (l ++ [0]))⟩
          rw [← hl9.out] at HE9 Hx
          have hll9 : l9.length ≤ 4 * j + 3 := by rw [hl9.out]; simp; omega
          refine (g_used (dStable s0 w v9 l9) Hx.out).mono ?_
          rintro e w10 ⟨rfl, H, hb⟩
          have Hx : Hid (HG (DΦ s0 w v9 l9) p Ax w10) := H
          clear H hb
          unfold nv
          obtain ⟨d1, d2⟩ := d_news Hx.out (.cells #[.int .i64 (Ax.used : Int)] 3)
          have D1 : Hid (IS 0 (w10.alloc (.cells #[.int .i64 (Ax.used : Int)] 3)) v9 l9) := d1
          have D2 : Hid (∀ v' l' W', IS 0 W' v' l' → (w10.alloc (.cells #[.int .i64 (Ax.used : Int)] 3)).grownBy W' v9.ownBlock → (∀ k, v'.ownBlock = some k → v9.ownBlock = some k ∨ (w10.alloc (.cells #[.int .i64 (Ax.used : Int)] 3)).heap.size ≤ k) → HG (DΦ s0 w v' l') p Ax W' ∧ Pk w10 W') := d2
          clear d1 d2 Hx
          go_wp2_with (first
            | (at_builtin
               refine append_ints rfl _ _ rfl v9 l9 rfl D1.out (by first | omega | (simp; omega)) ⟨w10.heap.size, 0, none⟩ [Ax.used] 1 1 rfl rfl (by omega) (news_at w10 #[.int .i64 (Ax.used : Int)] [Ax.used] 3 rfl) ?_
               intro v11 w11 hown hg hat
               obtain ⟨dd1, dd2⟩ := D2.out v11 (l9 ++ [Ax.used]) w11 hown hg hat
               have Hx : Hid (HG (DΦ s0 w v11 (l9 ++ [Ax.used])) p Ax w11) := dd1
               have Px : Hid (Pk w10 w11) := dd2
               clear hown hg hat D1 D2 dd1 dd2)
            | fail)
          refine ⟨⟨j + 1, _, by omega, by omega, by go_num, ?_, HE9.out.2.symm, by simp; omega⟩, by simp [intOf]; omega⟩
          rw [HE9.out.1]
          exact Hx.out
      · have hr' : (c.toNat : Int) % 4 = 1 := by omega
        cases ha : a.at ((c.toNat : Int) / 4) with
        | none =>
          have HST : Hid (stepD a c = (a, [2])) := by show stepD a c = (a, [2]); unfold stepD; rw [if_neg (by omega), if_pos hr, ha]
          go_wp2_with fail
          refine (bytes_walk c 1024 (by decide) _).mono ?_
          rintro e w2 ⟨vb, rfl, hbs, hb⟩
          have Hy : Hid (HG (DΦ s0 w u5 l) p a w2) := HH.out.below (dStable s0 w u5 l) hb
          have HBS : Hid (BS w2 wr.heap.size vb (List.replicate 1024 c)) := hbs
          clear hb hbs HH
          go_wp2_with fail
          refine (g_store_no Hy.out ha vb).mono ?_
          rintro e w3 ⟨rfl, H⟩
          have HH := Hy
          have Hx : Hid (HG (DΦ s0 w u5 l) p a w3) := H
          obtain ⟨Ax, hAx⟩ : ∃ Ax, Hid (Ax = a) := ⟨_, rfl⟩
          rw [← hAx.out] at Hx
          have HSX : Hid (stepD a c = (Ax, [2])) := by show stepD a c = _; rw [HST.out, hAx.out]
          clear H HH ha
          obtain ⟨d1, d2⟩ := d_news Hx.out (.cells #[.int .i64 2] 3)
          have D1 : Hid (IS 0 (w3.alloc (.cells #[.int .i64 2] 3)) u5 l) := d1
          have D2 : Hid (∀ v' l' W', IS 0 W' v' l' → (w3.alloc (.cells #[.int .i64 2] 3)).grownBy W' u5.ownBlock → (∀ k, v'.ownBlock = some k → u5.ownBlock = some k ∨ (w3.alloc (.cells #[.int .i64 2] 3)).heap.size ≤ k) → HG (DΦ s0 w v' l') p Ax W' ∧ Pk w3 W') := d2
          clear d1 d2 Hx
          go_wp2_with (first
            | (at_builtin
               refine append_ints rfl _ _ rfl u5 l rfl D1.out (by first | omega | (simp; omega)) ⟨w3.heap.size, 0, none⟩ [2] 1 1 rfl rfl (by omega) (news_at w3 #[.int .i64 2] [2] 3 rfl) ?_
               intro v9 w9 hown hg hat
               obtain ⟨dd1, dd2⟩ := D2.out v9 (l ++ [2]) w9 hown hg hat
               have Hx : Hid (HG (DΦ s0 w v9 (l ++ [2])) p Ax w9) := dd1
               have Px : Hid (Pk w3 w9) := dd2
               clear hown hg hat D1 D2 dd1 dd2)
            | fail)
          have HE9 : Hid ((dst a0 f (j + 1)).1 = Ax ∧ (dst a0 f (j + 1)).2 = (l ++ [2]) ++ [Ax.used]) := by
            obtain ⟨t1, t2⟩ := HE.out _ _ HSX.out
            exact ⟨t1, by rw [t2] <;> simp⟩
          clear HST HE HSX
          obtain ⟨l9, hl9⟩ : ∃ l9 : List Nat, Hid (l9 = (l ++ [2])) := ⟨(l ++ [2]), (rfl : (l ++ [2]) = (l ++ [2]))⟩
          rw [← hl9.out] at HE9 Hx
          have hll9 : l9.length ≤ 4 * j + 3 := by rw [hl9.out]; simp; omega
          refine (g_used (dStable s0 w v9 l9) Hx.out).mono ?_
          rintro e w10 ⟨rfl, H, hb⟩
          have Hx : Hid (HG (DΦ s0 w v9 l9) p Ax w10) := H
          clear H hb
          unfold nv
          obtain ⟨d1, d2⟩ := d_news Hx.out (.cells #[.int .i64 (Ax.used : Int)] 3)
          have D1 : Hid (IS 0 (w10.alloc (.cells #[.int .i64 (Ax.used : Int)] 3)) v9 l9) := d1
          have D2 : Hid (∀ v' l' W', IS 0 W' v' l' → (w10.alloc (.cells #[.int .i64 (Ax.used : Int)] 3)).grownBy W' v9.ownBlock → (∀ k, v'.ownBlock = some k → v9.ownBlock = some k ∨ (w10.alloc (.cells #[.int .i64 (Ax.used : Int)] 3)).heap.size ≤ k) → HG (DΦ s0 w v' l') p Ax W' ∧ Pk w10 W') := d2
          clear d1 d2 Hx
          go_wp2_with (first
            | (at_builtin
               refine append_ints rfl _ _ rfl v9 l9 rfl D1.out (by first | omega | (simp; omega)) ⟨w10.heap.size, 0, none⟩ [Ax.used] 1 1 rfl rfl (by omega) (news_at w10 #[.int .i64 (Ax.used : Int)] [Ax.used] 3 rfl) ?_
               intro v11 w11 hown hg hat
               obtain ⟨dd1, dd2⟩ := D2.out v11 (l9 ++ [Ax.used]) w11 hown hg hat
               have Hx : Hid (HG (DΦ s0 w v11 (l9 ++ [Ax.used])) p Ax w11) := dd1
               have Px : Hid (Pk w10 w11) := dd2
               clear hown hg hat D1 D2 dd1 dd2)
            | fail)
          refine ⟨⟨j + 1, _, by omega, by omega, by go_num, ?_, HE9.out.2.symm, by simp; omega⟩, by simp [intOf]; omega⟩
          rw [HE9.out.1]
          exact Hx.out
        | some c' =>
          have HST : Hid (stepD a c = (a.lay ((c.toNat : Int) / 4).toNat (some (List.replicate 1024 c)), [0])) := by show stepD a c = (a.lay ((c.toNat : Int) / 4).toNat (some (List.replicate 1024 c)), [0]); unfold stepD; rw [if_neg (by omega), if_pos hr, ha]
          go_wp2_with fail
          refine (bytes_walk c 1024 (by decide) _).mono ?_
          rintro e w2 ⟨vb, rfl, hbs, hb⟩
          have Hy : Hid (HG (DΦ s0 w u5 l) p a w2) := HH.out.below (dStable s0 w u5 l) hb
          have HBS : Hid (BS w2 wr.heap.size vb (List.replicate 1024 c)) := hbs
          clear hb hbs HH
          go_wp2_with fail
          refine (g_store (dStable s0 w u5 l) Hy.out ha HBS.out List.length_replicate).mono ?_
          rintro e w3 ⟨rfl, H⟩
          have Hx : Hid (HG (DΦ s0 w u5 l) p (a.lay ((c.toNat : Int) / 4).toNat (some (List.replicate 1024 c))) w3) := H
          obtain ⟨Ax, hAx⟩ : ∃ Ax, Hid (Ax = a.lay ((c.toNat : Int) / 4).toNat (some (List.replicate 1024 c))) := ⟨_, rfl⟩
          rw [← hAx.out] at Hx
          have HSX : Hid (stepD a c = (Ax, [0])) := by show stepD a c = _; rw [HST.out, hAx.out]
          clear H Hy HBS ha
          obtain ⟨d1, d2⟩ := d_news Hx.out (.cells #[.int .i64 0] 3)
          have D1 : Hid (IS 0 (w3.alloc (.cells #[.int .i64 0] 3)) u5 l) := d1
          have D2 : Hid (∀ v' l' W', IS 0 W' v' l' → (w3.alloc (.cells #[.int .i64 0] 3)).grownBy W' u5.ownBlock → (∀ k, v'.ownBlock = some k → u5.ownBlock = some k ∨ (w3.alloc (.cells #[.int .i64 0] 3)).heap.size ≤ k) → HG (DΦ s0 w v' l') p Ax W' ∧ Pk w3 W') := d2
          clear d1 d2 Hx
          go_wp2_with (first
            | (at_builtin
               refine append_ints rfl _ _ rfl u5 l rfl D1.out (by first | omega | (simp; omega)) ⟨w3.heap.size, 0, none⟩ [0] 1 1 rfl rfl (by omega) (news_at w3 #[.int .i64 0] [0] 3 rfl) ?_
               intro v9 w9 hown hg hat
               obtain ⟨dd1, dd2⟩ := D2.out v9 (l ++ [0]) w9 hown hg hat
               have Hx : Hid (HG (DΦ s0 w v9 (l ++ [0])) p Ax w9) := dd1
               have Px : Hid (Pk w3 w9) := dd2
               clear hown hg hat D1 D2 dd1 dd2)
            | fail)
          have HE9 : Hid ((dst a0 f (j + 1)).1 = Ax ∧ (dst a0 f (j + 1)).2 = (l ++ [0]) ++ [Ax.used]) := by
            obtain ⟨t1, t2⟩ := HE.out _ _ HSX.out
            exact ⟨t1, by rw [t2] <;> simp⟩
          clear HST HE HSX
          obtain ⟨l9, hl9⟩ : ∃ l9 : List Nat, Hid (l9 = (l ++ [0])) := ⟨(l ++ [0]), (rfl : (l ++ [0]) = (l ++ [0]))⟩
          rw [← hl9.out] at HE9 Hx
          have hll9 : l9.length ≤ 4 * j + 3 := by rw [hl9.out]; simp; omega
          refine (g_used (dStable s0 w v9 l9) Hx.out).mono ?_
          rintro e w10 ⟨rfl, H, hb⟩
          have Hx : Hid (HG (DΦ s0 w v9 l9) p Ax w10) := H
          clear H hb
          unfold nv
          obtain ⟨d1, d2⟩ := d_news Hx.out (.cells #[.int .i64 (Ax.used : Int)] 3)
          have D1 : Hid (IS 0 (w10.alloc (.cells #[.int .i64 (Ax.used : Int)] 3)) v9 l9) := d1
          have D2 : Hid (∀ v' l' W', IS 0 W' v' l' → (w10.alloc (.cells #[.int .i64 (Ax.used : Int)] 3)).grownBy W' v9.ownBlock → (∀ k, v'.ownBlock = some k → v9.ownBlock = some k ∨ (w10.alloc (.cells #[.int .i64 (Ax.used : Int)] 3)).heap.size ≤ k) → HG (DΦ s0 w v' l') p Ax W' ∧ Pk w10 W') := d2
          clear d1 d2 Hx
          go_wp2_with (first
            | (at_builtin
               refine append_ints rfl _ _ rfl v9 l9 rfl D1.out (by first | omega | (simp; omega)) ⟨w10.heap.size, 0, none⟩ [Ax.used] 1 1 rfl rfl (by omega) (news_at w10 #[.int .i64 (Ax.used : Int)] [Ax.used] 3 rfl) ?_
               intro v11 w11 hown hg hat
               obtain ⟨dd1, dd2⟩ := D2.out v11 (l9 ++ [Ax.used]) w11 hown hg hat
               have Hx : Hid (HG (DΦ s0 w v11 (l9 ++ [Ax.used])) p Ax w11) := dd1
               have Px : Hid (Pk w10 w11) := dd2
               clear hown hg hat D1 D2 dd1 dd2)
            | fail)
          refine ⟨⟨j + 1, _, by omega, by omega, by go_num, ?_, HE9.out.2.symm, by simp; omega⟩, by simp [intOf]; omega⟩
          rw [HE9.out.1]
          exact Hx.out
      · have hr' : (c.toNat : Int) % 4 = 2 := by omega
        cases ha : a.at ((c.toNat : Int) / 4) with
        | none =>
          have HST : Hid (stepD a c = (a, [0, 2])) := by show stepD a c = (a, [0, 2]); unfold stepD; rw [if_neg (by omega), if_neg (by omega), if_pos hr, ha]
          go_wp2_with fail
          refine (g_load_no HH.out ha).mono ?_
          rintro e w3 ⟨rfl, H⟩
          have Hx : Hid (HG (DΦ s0 w u5 l) p a w3) := H
          obtain ⟨Ax, hAx⟩ : ∃ Ax, Hid (Ax = a) := ⟨_, rfl⟩
          rw [← hAx.out] at Hx
          have HSX : Hid (stepD a c = (Ax, [0, 2])) := by show stepD a c = _; rw [HST.out, hAx.out]
          clear H HH ha
          obtain ⟨d1, d2⟩ := d_news Hx.out (.cells #[.int .i64 0, .int .i64 2] 3)
          have D1 : Hid (IS 0 (w3.alloc (.cells #[.int .i64 0, .int .i64 2] 3)) u5 l) := d1
          have D2 : Hid (∀ v' l' W', IS 0 W' v' l' → (w3.alloc (.cells #[.int .i64 0, .int .i64 2] 3)).grownBy W' u5.ownBlock → (∀ k, v'.ownBlock = some k → u5.ownBlock = some k ∨ (w3.alloc (.cells #[.int .i64 0, .int .i64 2] 3)).heap.size ≤ k) → HG (DΦ s0 w v' l') p Ax W' ∧ Pk w3 W') := d2
          clear d1 d2 Hx
          go_wp2_with (first
            | (at_builtin
               refine append_ints rfl _ _ rfl u5 l rfl D1.out (by first | omega | (simp; omega)) ⟨w3.heap.size, 0, none⟩ [0, 2] 2 2 rfl rfl (by omega) (news_at w3 #[.int .i64 0, .int .i64 2] [0, 2] 3 rfl) ?_
               intro v9 w9 hown hg hat
               obtain ⟨dd1, dd2⟩ := D2.out v9 (l ++ [0, 2]) w9 hown hg hat
               have Hx : Hid (HG (DΦ s0 w v9 (l ++ [0, 2])) p Ax w9) := dd1
               have Px : Hid (Pk w3 w9) := dd2
               clear hown hg hat D1 D2 dd1 dd2)
            | fail)
          have HE9 : Hid ((dst a0 f (j + 1)).1 = Ax ∧ (dst a0 f (j + 1)).2 = (l ++ [0, 2]) ++ [Ax.used]) := by
            obtain ⟨t1, t2⟩ := HE.out _ _ HSX.out
            exact ⟨t1, by rw [t2] <;> simp⟩
          clear HST HE HSX
          obtain ⟨l9, hl9⟩ : ∃ l9 : List Nat, Hid (l9 = (l ++ [0, 2])) := ⟨(l ++ [0, 2]), (rfl : (l ++ [0, 2]) = (l ++ [0, 2]))⟩
          rw [← hl9.out] at HE9 Hx
          have hll9 : l9.length ≤ 4 * j + 3 := by rw [hl9.out]; simp; omega
          refine (g_used (dStable s0 w v9 l9) Hx.out).mono ?_
          rintro e w10 ⟨rfl, H, hb⟩
          have Hx : Hid (HG (DΦ s0 w v9 l9) p Ax w10) := H
          clear H hb
          unfold nv
          obtain ⟨d1, d2⟩ := d_news Hx.out (.cells #[.int .i64 (Ax.used : Int)] 3)
          have D1 : Hid (IS 0 (w10.alloc (.cells #[.int .i64 (Ax.used : Int)] 3)) v9 l9) := d1
          have D2 : Hid (∀ v' l' W', IS 0 W' v' l' → (w10.alloc (.cells #[.int .i64 (Ax.used : Int)] 3)).grownBy W' v9.ownBlock → (∀ k, v'.ownBlock = some k → v9.ownBlock = some k ∨ (w10.alloc (.cells #[.int .i64 (Ax.used : Int)] 3)).heap.size ≤ k) → HG (DΦ s0 w v' l') p Ax W' ∧ Pk w10 W') := d2
          clear d1 d2 Hx
          go_wp2_with (first
            | (at_builtin
               refine append_ints rfl _ _ rfl v9 l9 rfl D1.out (by first | omega | (simp; omega)) ⟨w10.heap.size, 0, none⟩ [Ax.used] 1 1 rfl rfl (by omega) (news_at w10 #[.int .i64 (Ax.used : Int)] [Ax.used] 3 rfl) ?_
               intro v11 w11 hown hg hat
               obtain ⟨dd1, dd2⟩ := D2.out v11 (l9 ++ [Ax.used]) w11 hown hg hat
               have Hx : Hid (HG (DΦ s0 w v11 (l9 ++ [Ax.used])) p Ax w11) := dd1
               have Px : Hid (Pk w10 w11) := dd2
               clear hown hg hat D1 D2 dd1 dd2)
            | fail)
          refine ⟨⟨j + 1, _, by omega, by omega, by go_num, ?_, HE9.out.2.symm, by simp; omega⟩, by simp [intOf]; omega⟩
          rw [HE9.out.1]
          exact Hx.out
        | some c' =>
          have HST : Hid (stepD a c = (a, [1024, 0, (c'.getD 7 0).toNat])) := by show stepD a c = (a, [1024, 0, (c'.getD 7 0).toNat]); unfold stepD; rw [if_neg (by omega), if_neg (by omega), if_pos hr, ha]
          have hlen : c'.length = 1024 := HH.out.ok.len c' (List.mem_of_getElem? (Abs.at_some ha).2.2)
          obtain ⟨e7, he7⟩ : ∃ e7 : Nat, Hid (e7 = (c'.getD 7 0).toNat) := ⟨_, rfl⟩
          have he7b : e7 ≤ 255 := by rw [he7.out]; have := (c'.getD 7 0).toNat_lt; omega
          rw [← he7.out] at HST
          go_wp2_with fail
          refine (g_load (dStable s0 w u5 l) HH.out ha).mono ?_
          rintro e w3 ⟨rfl, hp, H, hb⟩
          have Hx : Hid (HG (DΦ s0 w u5 l) p a w3) := H
          have HP : Hid (HeldP w3 wr.heap.size c') := hp
          obtain ⟨Ax, hAx⟩ : ∃ Ax, Hid (Ax = a) := ⟨_, rfl⟩
          rw [← hAx.out] at Hx
          have HSX : Hid (stepD a c = (Ax, [1024, 0, e7])) := by show stepD a c = _; rw [HST.out, hAx.out]
          clear H HH ha hb hp
          generalize wr.heap.size = b1 at *
          obtain ⟨d1, d2⟩ := d_news Hx.out (.cells #[.int .i64 1024, .int .i64 0] 3)
          have D1 : Hid (IS 0 (w3.alloc (.cells #[.int .i64 1024, .int .i64 0] 3)) u5 l) := d1
          have D2 : Hid (∀ v' l' W', IS 0 W' v' l' → (w3.alloc (.cells #[.int .i64 1024, .int .i64 0] 3)).grownBy W' u5.ownBlock → (∀ k, v'.ownBlock = some k → u5.ownBlock = some k ∨ (w3.alloc (.cells #[.int .i64 1024, .int .i64 0] 3)).heap.size ≤ k) → HG (DΦ s0 w v' l') p Ax W' ∧ Pk w3 W') := d2
          clear d1 d2 Hx
          go_wp2_with (first
            | (at_builtin
               refine append_ints rfl _ _ rfl u5 l rfl D1.out (by first | omega | (simp; omega)) ⟨w3.heap.size, 0, none⟩ [1024, 0] 2 2 rfl rfl (by omega) (news_at w3 #[.int .i64 1024, .int .i64 0] [1024, 0] 3 rfl) ?_
               intro v7 w7 hown hg hat
               obtain ⟨dd1, dd2⟩ := D2.out v7 (l ++ [1024, 0]) w7 hown hg hat
               have Hx : Hid (HG (DΦ s0 w v7 (l ++ [1024, 0])) p Ax w7) := dd1
               have Px : Hid (Pk w3 w7) := dd2
               clear hown hg hat D1 D2 dd1 dd2; have HP7 : HeldP w7 b1 c' := HP.out.pk Px.out; have hc7 : w7.cell? ⟨b1, 7, none⟩ = some (.int .u8 (e7 : Int)) := (by rw [he7.out, cell_of_row _ _ _ _ _ _ HP7]; simp [bcs, hlen]); clear HP7; obtain ⟨d1, d2⟩ := d_news Hx.out (.cells #[.int .i64 (e7 : Int)] 3); have D3 : Hid (IS 0 (w7.alloc (.cells #[.int .i64 (e7 : Int)] 3)) v7 (l ++ [1024, 0])) := d1; have D4 : Hid (∀ v' l' W', IS 0 W' v' l' → (w7.alloc (.cells #[.int .i64 (e7 : Int)] 3)).grownBy W' v7.ownBlock → (∀ k, v'.ownBlock = some k → v7.ownBlock = some k ∨ (w7.alloc (.cells #[.int .i64 (e7 : Int)] 3)).heap.size ≤ k) → HG (DΦ s0 w v' l') p Ax W' ∧ Pk w7 W') := d2; clear d1 d2 Hx)
            | (at_builtin
               refine append_ints rfl _ _ rfl v7 (l ++ [1024, 0]) rfl D3.out (by first | omega | (simp; omega)) ⟨w7.heap.size, 0, none⟩ [e7] 1 1 rfl rfl (by omega) (news_at w7 #[.int .i64 (e7 : Int)] [e7] 3 rfl) ?_
               intro v9 w9 hown hg hat
               obtain ⟨dd1, dd2⟩ := D4.out v9 ((l ++ [1024, 0]) ++ [e7]) w9 hown hg hat
               have Hx : Hid (HG (DΦ s0 w v9 ((l ++ [1024, 0]) ++ [e7])) p Ax w9) := dd1
               have Px : Hid (Pk w7 w9) := dd2
               clear hown hg hat D3 D4 dd1 dd2)
            | fail)
          have HE9 : Hid ((dst a0 f (j + 1)).1 = Ax ∧ (dst a0 f (j + 1)).2 = (l ++ [1024, 0] ++ [e7]) ++ [Ax.used]) := by
            obtain ⟨t1, t2⟩ := HE.out _ _ HSX.out
            exact ⟨t1, by rw [t2] <;> simp⟩
          clear HST HE HSX
          obtain ⟨l9, hl9⟩ : ∃ l9 : List Nat, Hid (l9 = (l ++ [1024, 0] ++ [e7])) := ⟨(l ++ [1024, 0] ++ [e7]), (rfl : (l ++ [1024, 0] ++ [e7]) = (l ++ [1024, 0] ++ [e7]))⟩
          rw [← hl9.out] at HE9 Hx
          have hll9 : l9.length ≤ 4 * j + 3 := by rw [hl9.out]; simp; omega
          refine (g_used (dStable s0 w v9 l9) Hx.out).mono ?_
          rintro e w10 ⟨rfl, H, hb⟩
          have Hx : Hid (HG (DΦ s0 w v9 l9) p Ax w10) := H
          clear H hb
          unfold nv
          obtain ⟨d1, d2⟩ := d_news Hx.out (.cells #[.int .i64 (Ax.used : Int)] 3)
          have D1 : Hid (IS 0 (w10.alloc (.cells #[.int .i64 (Ax.used : Int)] 3)) v9 l9) := d1
          have D2 : Hid (∀ v' l' W', IS 0 W' v' l' → (w10.alloc (.cells #[.int .i64 (Ax.used : Int)] 3)).grownBy W' v9.ownBlock → (∀ k, v'.ownBlock = some k → v9.ownBlock = some k ∨ (w10.alloc (.cells #[.int .i64 (Ax.used : Int)] 3)).heap.size ≤ k) → HG (DΦ s0 w v' l') p Ax W' ∧ Pk w10 W') := d2
          clear d1 d2 Hx
          go_wp2_with (first
            | (at_builtin
               refine append_ints rfl _ _ rfl v9 l9 rfl D1.out (by first | omega | (simp; omega)) ⟨w10.heap.size, 0, none⟩ [Ax.used] 1 1 rfl rfl (by omega) (news_at w10 #[.int .i64 (Ax.used : Int)] [Ax.used] 3 rfl) ?_
               intro v11 w11 hown hg hat
               obtain ⟨dd1, dd2⟩ := D2.out v11 (l9 ++ [Ax.used]) w11 hown hg hat
               have Hx : Hid (HG (DΦ s0 w v11 (l9 ++ [Ax.used])) p Ax w11) := dd1
               have Px : Hid (Pk w10 w11) := dd2
               clear hown hg hat D1 D2 dd1 dd2)
            | fail)
          refine ⟨⟨j + 1, _, by omega, by omega, by go_num, ?_, HE9.out.2.symm, by simp; omega⟩, by simp [intOf]; omega⟩
          rw [HE9.out.1]
          exact Hx.out
      · have hr' : (c.toNat : Int) % 4 = 3 := by omega
        by_cases hl : 0 < a.left
        · obtain ⟨nx, hnx⟩ : ∃ nx : Nat, Hid (nx = a.next) := ⟨_, rfl⟩
          have HST : Hid (stepD a c = (a.alloc, [nx, 0])) := by show stepD a c = (a.alloc, [nx, 0]); unfold stepD; rw [if_neg (by omega), if_neg (by omega), if_neg (by omega), if_pos hl, hnx.out]
          go_wp2_with fail
          refine (g_alloc (dStable s0 w u5 l) HH.out hl).mono ?_
          rintro e w3 ⟨rfl, H⟩
          have Hx : Hid (HG (DΦ s0 w u5 l) p a.alloc w3) := H
          rw [← hnx.out]
          obtain ⟨Ax, hAx⟩ : ∃ Ax, Hid (Ax = a.alloc) := ⟨_, rfl⟩
          rw [← hAx.out] at Hx
          have HSX : Hid (stepD a c = (Ax, [nx, 0])) := by show stepD a c = _; rw [HST.out, hAx.out]
          clear H HH hl
          unfold nv
          obtain ⟨d1, d2⟩ := d_news Hx.out (.cells #[.int .i64 (nx : Int), .int .i64 0] 3)
          have D1 : Hid (IS 0 (w3.alloc (.cells #[.int .i64 (nx : Int), .int .i64 0] 3)) u5 l) := d1
          have D2 : Hid (∀ v' l' W', IS 0 W' v' l' → (w3.alloc (.cells #[.int .i64 (nx : Int), .int .i64 0] 3)).grownBy W' u5.ownBlock → (∀ k, v'.ownBlock = some k → u5.ownBlock = some k ∨ (w3.alloc (.cells #[.int .i64 (nx : Int), .int .i64 0] 3)).heap.size ≤ k) → HG (DΦ s0 w v' l') p Ax W' ∧ Pk w3 W') := d2
          clear d1 d2 Hx
          go_wp2_with (first
            | (at_builtin
               refine append_ints rfl _ _ rfl u5 l rfl D1.out (by first | omega | (simp; omega)) ⟨w3.heap.size, 0, none⟩ [nx, 0] 2 2 rfl rfl (by omega) (news_at w3 #[.int .i64 (nx : Int), .int .i64 0] [nx, 0] 3 rfl) ?_
               intro v9 w9 hown hg hat
               obtain ⟨dd1, dd2⟩ := D2.out v9 (l ++ [nx, 0]) w9 hown hg hat
               have Hx : Hid (HG (DΦ s0 w v9 (l ++ [nx, 0])) p Ax w9) := dd1
               have Px : Hid (Pk w3 w9) := dd2
               clear hown hg hat D1 D2 dd1 dd2)
            | fail)
          have HE9 : Hid ((dst a0 f (j + 1)).1 = Ax ∧ (dst a0 f (j + 1)).2 = (l ++ [nx, 0]) ++ [Ax.used]) := by
            obtain ⟨t1, t2⟩ := HE.out _ _ HSX.out
            exact ⟨t1, by rw [t2] <;> simp⟩
          clear HST HE HSX
          obtain ⟨l9, hl9⟩ : ∃ l9 : List Nat, Hid (l9 = (l ++ [nx, 0])) := ⟨(l ++ [nx, 0]), (rfl : (l ++ [nx, 0]) = (l ++ [nx, 0]))⟩
          rw [← hl9.out] at HE9 Hx
          have hll9 : l9.length ≤ 4 * j + 3 := by rw [hl9.out]; simp; omega
          refine (g_used (dStable s0 w v9 l9) Hx.out).mono ?_
          rintro e w10 ⟨rfl, H, hb⟩
          have Hx : Hid (HG (DΦ s0 w v9 l9) p Ax w10) := H
          clear H hb
          unfold nv
          obtain ⟨d1, d2⟩ := d_news Hx.out (.cells #[.int .i64 (Ax.used : Int)] 3)
          have D1 : Hid (IS 0 (w10.alloc (.cells #[.int .i64 (Ax.used : Int)] 3)) v9 l9) := d1
          have D2 : Hid (∀ v' l' W', IS 0 W' v' l' → (w10.alloc (.cells #[.int .i64 (Ax.used : Int)] 3)).grownBy W' v9.ownBlock → (∀ k, v'.ownBlock = some k → v9.ownBlock = some k ∨ (w10.alloc (.cells #[.int .i64 (Ax.used : Int)] 3)).heap.size ≤ k) → HG (DΦ s0 w v' l') p Ax W' ∧ Pk w10 W') := d2
          clear d1 d2 Hx
          go_wp2_with (first
            | (at_builtin
               refine append_ints rfl _ _ rfl v9 l9 rfl D1.out (by first | omega | (simp; omega)) ⟨w10.heap.size, 0, none⟩ [Ax.used] 1 1 rfl rfl (by omega) (news_at w10 #[.int .i64 (Ax.used : Int)] [Ax.used] 3 rfl) ?_
               intro v11 w11 hown hg hat
               obtain ⟨dd1, dd2⟩ := D2.out v11 (l9 ++ [Ax.used]) w11 hown hg hat
               have Hx : Hid (HG (DΦ s0 w v11 (l9 ++ [Ax.used])) p Ax w11) := dd1
               have Px : Hid (Pk w10 w11) := dd2
               clear hown hg hat D1 D2 dd1 dd2)
            | fail)
          refine ⟨⟨j + 1, _, by omega, by omega, by go_num, ?_, HE9.out.2.symm, by simp; omega⟩, by simp [intOf]; omega⟩
          rw [HE9.out.1]
          exact Hx.out
        · have hl0 : a.left = 0 := by omega
          have HST : Hid (stepD a c = (a, [0, 9])) := by show stepD a c = (a, [0, 9]); unfold stepD; rw [if_neg (by omega), if_neg (by omega), if_neg (by omega), if_neg hl]
          go_wp2_with fail
          refine (g_full (dStable s0 w u5 l) HH.out hl0).mono ?_
          rintro e w3 ⟨rfl, H⟩
          have Hx : Hid (HG (DΦ s0 w u5 l) p a w3) := H
          obtain ⟨Ax, hAx⟩ : ∃ Ax, Hid (Ax = a) := ⟨_, rfl⟩
          rw [← hAx.out] at Hx
          have HSX : Hid (stepD a c = (Ax, [0, 9])) := by show stepD a c = _; rw [HST.out, hAx.out]
          clear H HH hl hl0
          obtain ⟨d1, d2⟩ := d_news Hx.out (.cells #[.int .i64 0, .int .i64 9] 3)
          have D1 : Hid (IS 0 (w3.alloc (.cells #[.int .i64 0, .int .i64 9] 3)) u5 l) := d1
          have D2 : Hid (∀ v' l' W', IS 0 W' v' l' → (w3.alloc (.cells #[.int .i64 0, .int .i64 9] 3)).grownBy W' u5.ownBlock → (∀ k, v'.ownBlock = some k → u5.ownBlock = some k ∨ (w3.alloc (.cells #[.int .i64 0, .int .i64 9] 3)).heap.size ≤ k) → HG (DΦ s0 w v' l') p Ax W' ∧ Pk w3 W') := d2
          clear d1 d2 Hx
          go_wp2_with (first
            | (at_builtin
               refine append_ints rfl _ _ rfl u5 l rfl D1.out (by first | omega | (simp; omega)) ⟨w3.heap.size, 0, none⟩ [0, 9] 2 2 rfl rfl (by omega) (news_at w3 #[.int .i64 0, .int .i64 9] [0, 9] 3 rfl) ?_
               intro v9 w9 hown hg hat
               obtain ⟨dd1, dd2⟩ := D2.out v9 (l ++ [0, 9]) w9 hown hg hat
               have Hx : Hid (HG (DΦ s0 w v9 (l ++ [0, 9])) p Ax w9) := dd1
               have Px : Hid (Pk w3 w9) := dd2
               clear hown hg hat D1 D2 dd1 dd2)
            | fail)
          have HE9 : Hid ((dst a0 f (j + 1)).1 = Ax ∧ (dst a0 f (j + 1)).2 = (l ++ [0, 9]) ++ [Ax.used]) := by
            obtain ⟨t1, t2⟩ := HE.out _ _ HSX.out
            exact ⟨t1, by rw [t2] <;> simp⟩
          clear HST HE HSX
          obtain ⟨l9, hl9⟩ : ∃ l9 : List Nat, Hid (l9 = (l ++ [0, 9])) := ⟨(l ++ [0, 9]), (rfl : (l ++ [0, 9]) = (l ++ [0, 9]))⟩
          rw [← hl9.out] at HE9 Hx
          have hll9 : l9.length ≤ 4 * j + 3 := by rw [hl9.out]; simp; omega
          refine (g_used (dStable s0 w v9 l9) Hx.out).mono ?_
          rintro e w10 ⟨rfl, H, hb⟩
          have Hx : Hid (HG (DΦ s0 w v9 l9) p Ax w10) := H
          clear H hb
          unfold nv
          obtain ⟨d1, d2⟩ := d_news Hx.out (.cells #[.int .i64 (Ax.used : Int)] 3)
          have D1 : Hid (IS 0 (w10.alloc (.cells #[.int .i64 (Ax.used : Int)] 3)) v9 l9) := d1
          have D2 : Hid (∀ v' l' W', IS 0 W' v' l' → (w10.alloc (.cells #[.int .i64 (Ax.used : Int)] 3)).grownBy W' v9.ownBlock → (∀ k, v'.ownBlock = some k → v9.ownBlock = some k ∨ (w10.alloc (.cells #[.int .i64 (Ax.used : Int)] 3)).heap.size ≤ k) → HG (DΦ s0 w v' l') p Ax W' ∧ Pk w10 W') := d2
          clear d1 d2 Hx
          go_wp2_with (first
            | (at_builtin
               refine append_ints rfl _ _ rfl v9 l9 rfl D1.out (by first | omega | (simp; omega)) ⟨w10.heap.size, 0, none⟩ [Ax.used] 1 1 rfl rfl (by omega) (news_at w10 #[.int .i64 (Ax.used : Int)] [Ax.used] 3 rfl) ?_
               intro v11 w11 hown hg hat
               obtain ⟨dd1, dd2⟩ := D2.out v11 (l9 ++ [Ax.used]) w11 hown hg hat
               have Hx : Hid (HG (DΦ s0 w v11 (l9 ++ [Ax.used])) p Ax w11) := dd1
               have Px : Hid (Pk w10 w11) := dd2
               clear hown hg hat D1 D2 dd1 dd2)
            | fail)
          refine ⟨⟨j + 1, _, by omega, by omega, by go_num, ?_, HE9.out.2.symm, by simp; omega⟩, by simp [intOf]; omega⟩
          rw [HE9.out.1]
          exact Hx.out
    · have hend : Hid (¬ (j < len ∧ j < 100)) := hlt
      have HJ : Hid (min len 100 = j) := by have := hend.out; show min len 100 = j; omega
      have hcs : (j < len ∧ (100 : Int) ≤ (j : Int)) ∨ (¬ j < len ∧ (len : Int) ≤ (j : Int)) := by have := hend.out; omega
      clear hlt hend
      obtain ⟨a, hAa⟩ : ∃ a, Hid (a = (dst a0 f j).1) := ⟨(dst a0 f j).1, (rfl : (dst a0 f j).1 = (dst a0 f j).1)⟩
      rw [← hAa.out] at HH
      rcases hcs with ⟨h1, h2⟩ | ⟨h1, h2⟩
      all_goals
        go_wp2_with fail
        refine (g_pages (dStable s0 w u5 l) HH.out).mono ?_
        rintro e w3 ⟨v3, rfl, hi, H, hb⟩
        have hpl : a.pages.length ≤ 4096 := Nat.le_trans (upto_length _ _) H.ok.small
        have hi' := hi
        rcases hi.2 with ⟨rfl, h0⟩ | ⟨g, cap3, cur, rfl, _⟩
        · have hp0 : a.pages = [] := List.eq_nil_of_length_eq_zero h0
          have H4 : Hid (HG (DΦ s0 w u5 l) p a w3) := H
          have HP0 : Hid (a.pages = []) := hp0
          clear H hb hi hi' h0 hp0 HH
          go_wp2_with (first
            | (at_builtin
               refine append_none rfl _ _ rfl u5 l rfl H4.out.is rfl ?_)
            | fail)
          go_ret
          exact ⟨_, a, rfl, by rw [HP0.out, List.append_nil, HJ.out, ← HL.out]; exact H4.out, by rw [HJ.out]; exact hAa.out⟩
        · have HN : Hid (∀ j u, (a.pages.map nv)[j]? = some u → w3.cell? ((⟨g, 0, none⟩ : Addr).add j) = some u) := World.ownsRow.cells hi' rfl
          have H4 : Hid (HG (DΦ s0 w u5 l) p a w3) := H
          clear H hb hi hi' HH
          obtain ⟨pgs, hpgs⟩ : ∃ pgs, Hid (pgs = a.pages) := ⟨a.pages, (rfl : a.pages = a.pages)⟩
          rw [← hpgs.out] at HN hpl
          rw [← hpgs.out]
          go_wp2_with (first
            | (at_builtin
               refine append_ints rfl _ _ rfl u5 l rfl H4.out.is (by omega) ⟨g, 0, none⟩ pgs pgs.length cap3 rfl rfl (by omega) HN.out ?_
               intro v9 w9 hown hg hat
               have H5 : Hid (HG (DΦ s0 w v9 (l ++ pgs)) p a w9) := d_append H4.out hg hown hat
               clear hown hg hat)
            | fail)
          go_ret
          exact ⟨_, a, rfl, by rw [← hpgs.out, HJ.out, ← HL.out]; exact H5.out, by rw [HJ.out]; exact hAa.out⟩
end Go.Proofs.Ytcoehlnmaehhjaa
