/-
  Pictures: Clone, copied, Snap, Restore.
-/
import Derived.Deep.RegionHeld
import Derived.Lib.LazyBuf
import Derived.Test.YtcoehlnmaehhjaaArH
namespace Go.Proofs.Ytcoehlnmaehhjaa
open Go.RowKit

/-- A row onto a new one. -/
theorem append_row {ops : Array Oper} {rest : List Oper} {o : Oper} {a : Act} {Q : Exit → Act → World → Prop} {W1 : World} {t e : TypeId} {z : Value} (ht : Try.prog.underlying t = some (.slice e)) (hinfo : (Try.prog.info? e).map (fun i => (i.zero, i.size, i.bytes)) = some (some z, 1, 8)) (hzs : z.cells.size = 1) (base : Nat) (hbase : base ≤ W1.heap.size) (hgd : o.guard = none) (s x : Operand) (ho : o.op = .call { callee := .builtin .append, args := #[s, x], argTypes := #[t, t] })
    (v : Value) (xs : List Value) (hs : a.eval s = v) (h : W1.ownsRow base e 1 v 0 []) (m : Nat) (hm : m ≤ 1000000) (ad : Addr) (cap : Nat) (hx : a.eval x = .slice (some ad) m cap) (hl : xs.length = m) (hc : ∀ j u, xs[j]? = some u → W1.cell? (ad.add j) = some u) (h1 : ∀ u ∈ xs, u.oneCell' = true)
    (hK : ∀ v' W', W'.ownsRow base e 1 v' m xs → W1.grownBy W' v.ownBlock → wpList Try.prog ops Q rest (a.put o.dst v') W') : wpList Try.prog ops Q (o :: rest) a W1 := by
  obtain ⟨i, hi, hz⟩ := Option.map_eq_some_iff.1 hinfo
  simp only [Prod.mk.injEq] at hz
  obtain ⟨h3, h4, h5⟩ := hz
  refine wpList_append_own (P := Try.prog) W1 hgd s x t ho base e i z 1 8 ht hi h3 h4 h5 hzs (by decide) v 0 [] hs h ad m cap xs hx (by omega) hc h1 (by unfold maxLen; omega) (by omega) hbase (fun v' W' hown hg _ => ?_)
  refine hK v' W' ?_ hg
  simpa using hown

theorem clone_nil_p (w : World) : Calls Try.prog 33 #[.slice none 0 0] w fun e w' => ∃ v, e = .returned v ∧ w'.ownsRow w.heap.size 69 1 v 0 [] ∧ Below w.heap.size w w' := by
  have heq : ∀ w : World, (binOp .eql 64 (.slice none 0 0) (.slice none 0 0)).run Try.prog w = .ok (.bool true) w := fun w => run_eql_slice_nil w 64 69 none 0 0 Try.underlying64
  go_enter Try.func33, Try.ntmps33
  go_wp2
  go_ret
  exact ⟨_, rfl, World.ownsRow_nil _ _ _ _, Below.refl _ _⟩

set_option maxRecDepth 100000 in
theorem clone_some_p {w : World} {b g n cap : Nat} {xs : List Value} (h : w.ownsRow b 69 1 (.slice (some ⟨g, 0, none⟩) n cap) n xs) (hn : n ≤ 1000000) (h1 : ∀ u ∈ xs, u.oneCell' = true) : Calls Try.prog 33 #[.slice (some ⟨g, 0, none⟩) n cap] w fun e w' => ∃ v, e = .returned v ∧ w'.ownsRow w.heap.size 69 1 v n xs ∧ Below w.heap.size w w' := by
  have hl : xs.length = n := by have := h.1; omega
  have HC : Hid (∀ j u, xs[j]? = some u → (w.alloc (.cells #[] 69)).cell? ((⟨g, 0, none⟩ : Addr).add j) = some u) := fun j u hj => by
    have := (h.alloc (.cells #[] 69)).cells (g := g) rfl j u hj
    exact this
  have HO : Hid (World.ownsRow (w.alloc (.cells #[] 69)) w.heap.size 69 1 (.slice (some ⟨w.heap.size, 0, none⟩) 0 0) 0 []) := by
    have := World.ownsRow_lit (base := w.heap.size) (e := 69) (size := 1) w #[] 0 (Nat.le_refl _) (by unfold maxLen; omega) (by simp)
    exact this
  have heq : ∀ w : World, (binOp .eql 64 (.slice (some ⟨g, 0, none⟩) n cap) (.slice none 0 0)).run Try.prog w = .ok (.bool false) w := fun w => run_eql_slice_nil w 64 69 (some ⟨g, 0, none⟩) n cap Try.underlying64
  go_enter Try.func33, Try.ntmps33
  go_wp2_with (first
    | (at_builtin
       refine append_row (z := .pointer none) Try.underlying64 (by kernel_rfl) rfl w.heap.size (by simp) rfl _ _ rfl (.slice (some ⟨w.heap.size, 0, none⟩) 0 0) xs rfl HO.out n hn ⟨g, 0, none⟩ cap rfl hl HC.out h1 ?_
       intro v' W' hown hg
       have HO2 : Hid (W'.ownsRow w.heap.size 69 1 v' n xs) := hown
       have HB : Hid (Below w.heap.size w W') := (below_alloc w _).grown hg (by simp) (fun k hk => by simp [Value.ownBlock] at hk; omega)
       clear hown hg)
    | go_in)
  go_ret
  exact ⟨_, rfl, HO2.out, HB.out⟩
theorem clone_nil_i (w : World) : Calls Try.prog 34 #[.slice none 0 0] w fun e w' => ∃ v, e = .returned v ∧ w'.ownsRow w.heap.size 3 1 v 0 [] ∧ Below w.heap.size w w' := by
  have heq : ∀ w : World, (binOp .eql 45 (.slice none 0 0) (.slice none 0 0)).run Try.prog w = .ok (.bool true) w := fun w => run_eql_slice_nil w 45 3 none 0 0 Try.underlying45
  go_enter Try.func34, Try.ntmps34
  go_wp2
  go_ret
  exact ⟨_, rfl, World.ownsRow_nil _ _ _ _, Below.refl _ _⟩

set_option maxRecDepth 100000 in
theorem clone_some_i {w : World} {b g n cap : Nat} {xs : List Value} (h : w.ownsRow b 3 1 (.slice (some ⟨g, 0, none⟩) n cap) n xs) (hn : n ≤ 1000000) (h1 : ∀ u ∈ xs, u.oneCell' = true) : Calls Try.prog 34 #[.slice (some ⟨g, 0, none⟩) n cap] w fun e w' => ∃ v, e = .returned v ∧ w'.ownsRow w.heap.size 3 1 v n xs ∧ Below w.heap.size w w' := by
  have hl : xs.length = n := by have := h.1; omega
  have HC : Hid (∀ j u, xs[j]? = some u → (w.alloc (.cells #[] 3)).cell? ((⟨g, 0, none⟩ : Addr).add j) = some u) := fun j u hj => by
    have := (h.alloc (.cells #[] 3)).cells (g := g) rfl j u hj
    exact this
  have HO : Hid (World.ownsRow (w.alloc (.cells #[] 3)) w.heap.size 3 1 (.slice (some ⟨w.heap.size, 0, none⟩) 0 0) 0 []) := by
    have := World.ownsRow_lit (base := w.heap.size) (e := 3) (size := 1) w #[] 0 (Nat.le_refl _) (by unfold maxLen; omega) (by simp)
    exact this
  have heq : ∀ w : World, (binOp .eql 45 (.slice (some ⟨g, 0, none⟩) n cap) (.slice none 0 0)).run Try.prog w = .ok (.bool false) w := fun w => run_eql_slice_nil w 45 3 (some ⟨g, 0, none⟩) n cap Try.underlying45
  go_enter Try.func34, Try.ntmps34
  go_wp2_with (first
    | (at_builtin
       refine append_row (z := .int .i64 0) Try.underlying45 (by kernel_rfl) rfl w.heap.size (by simp) rfl _ _ rfl (.slice (some ⟨w.heap.size, 0, none⟩) 0 0) xs rfl HO.out n hn ⟨g, 0, none⟩ cap rfl hl HC.out h1 ?_
       intro v' W' hown hg
       have HO2 : Hid (W'.ownsRow w.heap.size 3 1 v' n xs) := hown
       have HB : Hid (Below w.heap.size w W') := (below_alloc w _).grown hg (by simp) (fun k hk => by simp [Value.ownBlock] at hk; omega)
       clear hown hg)
    | go_in)
  go_ret
  exact ⟨_, rfl, HO2.out, HB.out⟩

theorem clone_p {w : World} {v : Value} {n : Nat} {xs : List Value} (h : w.ownsRow 0 69 1 v n xs) (hn : n ≤ 1000000) (h1 : ∀ u ∈ xs, u.oneCell' = true) : Calls Try.prog 33 #[v] w fun e w' => ∃ v', e = .returned v' ∧ w'.ownsRow w.heap.size 69 1 v' n xs ∧ Below w.heap.size w w' := by
  rcases h.2 with ⟨rfl, rfl⟩ | ⟨g, cap, cur, rfl, _⟩
  · have hx : xs = [] := List.eq_nil_of_length_eq_zero (by simpa using h.1)
    subst hx
    exact clone_nil_p w
  · exact clone_some_p h hn h1

theorem clone_i {w : World} {v : Value} {n : Nat} {xs : List Value} (h : w.ownsRow 0 3 1 v n xs) (hn : n ≤ 1000000) (h1 : ∀ u ∈ xs, u.oneCell' = true) : Calls Try.prog 34 #[v] w fun e w' => ∃ v', e = .returned v' ∧ w'.ownsRow w.heap.size 3 1 v' n xs ∧ Below w.heap.size w w' := by
  rcases h.2 with ⟨rfl, rfl⟩ | ⟨g, cap, cur, rfl, _⟩
  · have hx : xs = [] := List.eq_nil_of_length_eq_zero (by simpa using h.1)
    subst hx
    exact clone_nil_i w
  · exact clone_some_i h hn h1

theorem one_pgv (l : List (Option (Nat × List UInt8))) : ∀ u ∈ l.map pgv, u.oneCell' = true := by
  intro u hu
  obtain ⟨x, _, rfl⟩ := List.mem_map.1 hu
  cases x <;> rfl

theorem one_nv (l : List Nat) : ∀ u ∈ l.map nv, u.oneCell' = true := by
  intro u hu
  obtain ⟨x, _, rfl⟩ := List.mem_map.1 hu
  rfl

/-- Both rows, copied, in new blocks. -/
def Copied (w : World) (pg : List (Option (Nat × List UInt8))) (fr : List Nat) (vp vf : Value) (w' : World) : Prop := w'.ownsRow w.heap.size 69 1 vp pg.length (pg.map pgv) ∧ w'.ownsRow w.heap.size 3 1 vf fr.length (fr.map nv) ∧ Below w.heap.size w w'

theorem owns_below {b : Nat} {W W' : World} {e : TypeId} {v : Value} {n : Nat} {xs : List Value} (h : W.ownsRow b e 1 v n xs) (hb : Below W.heap.size W W') : W'.ownsRow b e 1 v n xs :=
  owns_of_block h fun k hk => hb.block k (h.lt k hk).2

theorem owns_base {b b' : Nat} {W : World} {e : TypeId} {v : Value} {n : Nat} {xs : List Value} (h : W.ownsRow b e 1 v n xs) (hb : b' ≤ b) : W.ownsRow b' e 1 v n xs := by
  refine ⟨h.1, ?_⟩
  rcases h.2 with hn | ⟨g, cap, cur, rfl, h1, rest⟩
  · exact .inl hn
  · exact .inr ⟨g, cap, cur, rfl, by omega, rest⟩

theorem bcell1 {W w1 : World} {n : Nat} (hb : Below W.heap.size W w1) (hn : W.heap.size = n) : (∀ b o, b < n → w1.cell? ⟨b, o, none⟩ = W.cell? ⟨b, o, none⟩) ∧ (∀ b o, b < n → w1.frozen? ⟨b, o, none⟩ = W.frozen? ⟨b, o, none⟩) := by
  subst hn
  exact ⟨fun b o h => hb.cell (p := ⟨b, o, none⟩) h, fun b o h => hb.frozen (p := ⟨b, o, none⟩) h⟩

theorem copied_end {w w2 : World} {pg : List (Option (Nat × List UInt8))} {fr : List Nat} {v1 v2 u1 u2 : Value} (hb : w2.heap[w.heap.size]? = some (.cells #[u1, u2] 66 (0, 0))) (h1 : w2.ownsRow w.heap.size 69 1 v1 pg.length (pg.map pgv)) (h2 : w2.ownsRow w.heap.size 3 1 v2 fr.length (fr.map nv)) (hB : Below w.heap.size w w2) :
    ((w2.setCell ⟨w.heap.size, 0, none⟩ v1).setCell ⟨w.heap.size, 1, none⟩ v2).cell? ⟨w.heap.size, 0, none⟩ = some v1 ∧ ((w2.setCell ⟨w.heap.size, 0, none⟩ v1).setCell ⟨w.heap.size, 1, none⟩ v2).cell? ⟨w.heap.size, 1, none⟩ = some v2 ∧ Copied w pg fr v1 v2 ((w2.setCell ⟨w.heap.size, 0, none⟩ v1).setCell ⟨w.heap.size, 1, none⟩ v2) := by
  have b1 := heap_setCell_same w2 w.heap.size 0 _ _ v1 hb
  have b2 := heap_setCell_same _ w.heap.size 1 _ _ v2 b1
  have hne : ∀ (k : Nat) (cur : Array Value) (t : TypeId), w2.heap[k]? = some (Obj.cells cur t (0, 0)) → t ≠ 66 → ((w2.setCell ⟨w.heap.size, 0, none⟩ v1).setCell ⟨w.heap.size, 1, none⟩ v2).heap[k]? = w2.heap[k]? := fun k cur t hk ht => by
    have hk' : k ≠ w.heap.size := fun e => by
      rw [e, hb] at hk
      simp only [Option.some.injEq, Obj.cells.injEq] at hk
      exact ht hk.2.1.symm
    rw [heap_setCell_other _ _ _ _ hk', heap_setCell_other _ _ _ _ hk']
  refine ⟨by rw [cell_of_row _ _ _ _ _ _ b2]; rfl, by rw [cell_of_row _ _ _ _ _ _ b2]; rfl, owns_of_block h1 fun k hk => ?_, owns_of_block h2 fun k hk => ?_, (hB.setCell (Nat.le_refl _) _).setCell (Nat.le_refl _) _⟩
  · obtain ⟨cur, h⟩ := owns_tag h1 hk
    exact hne k _ _ h (by decide)
  · obtain ⟨cur, h⟩ := owns_tag h2 hk
    exact hne k _ _ h (by decide)

set_option maxRecDepth 100000 in
set_option maxHeartbeats 1000000 in
theorem copied_walk {w : World} {q : Nat} {vp vf : Value} {pg : List (Option (Nat × List UInt8))} {fr : List Nat} (hq : q < w.heap.size) (c0 : w.cell? ⟨q, 0, none⟩ = some vp) (c1 : w.cell? ⟨q, 1, none⟩ = some vf) (rp : w.ownsRow 0 69 1 vp pg.length (pg.map pgv)) (rf : w.ownsRow 0 3 1 vf fr.length (fr.map nv)) (h1 : pg.length ≤ 4096) (h2 : fr.length ≤ 4096) :
    Calls Try.prog 32 #[.pointer (some ⟨q, 0, none⟩)] w fun e w' => ∃ vp' vf', e = .returned (.agg #[vp', vf']) ∧ Copied w pg fr vp' vf' w' := by
  have HP : Hid (∀ w' : World, Below w.heap.size w w' → Calls Try.prog 33 #[vp] w' fun e w'' => ∃ v', e = .returned v' ∧ w''.ownsRow w.heap.size 69 1 v' pg.length (pg.map pgv) ∧ Below w'.heap.size w' w'') := fun w' hb => (clone_p (owns_below rp hb) (by omega) (one_pgv pg)).mono fun _ _ ⟨v, he, h1, h2⟩ => ⟨v, he, owns_base h1 hb.size, h2⟩
  have HI : Hid (∀ w' : World, Below w.heap.size w w' → Calls Try.prog 34 #[vf] w' fun e w'' => ∃ v', e = .returned v' ∧ w''.ownsRow w.heap.size 3 1 v' fr.length (fr.map nv) ∧ Below w'.heap.size w' w'') := fun w' hb => (clone_i (owns_below rf hb) (by omega) (one_nv fr)).mono fun _ _ ⟨v, he, h1, h2⟩ => ⟨v, he, owns_base h1 hb.size, h2⟩
  clear rp rf h1 h2
  go_enter Try.func32, Try.ntmps32
  go_wp2_with fail
  have hB0 : Below w.heap.size w (w.alloc (.cells #[.slice none 0 0, .slice none 0 0] 66)).drew := (below_alloc _ _).drew
  have hsz : (w.alloc (.cells #[.slice none 0 0, .slice none 0 0] 66)).drew.heap.size = w.heap.size + 1 := by simp
  have d0 : (w.alloc (.cells #[.slice none 0 0, .slice none 0 0] 66)).drew.cell? ⟨q, 0, none⟩ = some vp := by rw [hB0.cell hq]; exact c0
  have d1 : (w.alloc (.cells #[.slice none 0 0, .slice none 0 0] 66)).drew.cell? ⟨q, 1, none⟩ = some vf := by rw [hB0.cell hq]; exact c1
  have hq1 : q < w.heap.size + 1 := by omega
  have hset : ∀ (W : World) (o : Nat) (u : Value) (o' : Nat), (W.setCell ⟨w.heap.size, o, none⟩ u).cell? ⟨q, o', none⟩ = W.cell? ⟨q, o', none⟩ := fun W o u o' => World.cell?_of_block (heap_setCell_other _ _ _ _ (by show q ≠ w.heap.size; omega))
  go_region_held (fun w' => w'.cell? ⟨q, 0, none⟩ = some vp ∧ w'.cell? ⟨q, 1, none⟩ = some vf) (simp [*]) (first
    | (go_at_call 33; refine (HP.out _ hB0).mono ?_; rintro e w1 ⟨v1, rfl, ho1, hb1⟩; obtain ⟨x1, k1, rfl, _⟩ := owns_slice ho1; have HO1 : Hid (w1.ownsRow w.heap.size 69 1 (.slice x1 pg.length k1) pg.length (pg.map pgv)) := ho1; clear ho1; obtain ⟨hc1, hf1⟩ := bcell1 hb1 hsz)
    | (go_at_call 34; refine (HI.out _ (hB0.trans (hb1.mono hB0.size))).mono ?_; rintro e w2 ⟨v2, rfl, ho2, hb2⟩; obtain ⟨x2, k2, rfl, _⟩ := owns_slice ho2; have HO2 : Hid (w2.ownsRow w.heap.size 3 1 (.slice x2 fr.length k2) fr.length (fr.map nv)) := ho2; clear ho2; obtain ⟨hc2, hf2⟩ := bcell1 hb2 rfl; have hq2 : q < w1.heap.size := (by have := hb1.size; omega); have hr2 : w.heap.size < w1.heap.size := (by have := hb1.size; omega)))
  have hblk : w2.heap[w.heap.size]? = some (.cells #[.slice none 0 0, .slice none 0 0] 66 (0, 0)) := by
    rw [hb2.block _ hr2, hb1.block _ (by rw [hsz]; omega)]
    exact heap_alloc_new _ _
  obtain ⟨e0, e1, hcop⟩ := copied_end (w := w) (w2 := w2) hblk (owns_below HO1.out hb2) HO2.out (hB0.trans ((hb1.trans (hb2.mono hb1.size)).mono hB0.size))
  have HC : Hid _ := hcop
  clear hblk hcop hr2 hq2 hf2 hc2 HO2 hb2 hf1 hc1 HO1 hb1 hset hq1 d1 d0 hsz hB0 HP HI c0 c1 hq
  generalize (w2.setCell ⟨w.heap.size, 0, none⟩ (.slice x1 pg.length k1)).setCell ⟨w.heap.size, 1, none⟩ (.slice x2 fr.length k2) = W3 at *
  go_wp2
  refine bodyPost_ret (v := .agg #[.slice x1 pg.length k1, .slice x2 fr.length k2]) ?_ rfl ?_
  · simp [results, Try.results32, go_sem, e0, e1]
  · exact ⟨_, _, rfl, HC.out⟩
end Go.Proofs.Ytcoehlnmaehhjaa
