/-
  Tree: the way in a tree of one leaf.
-/
import Derived.Test.YtjdbjnkmlajdoaaGreatTrNew
namespace Go.Proofs.YtjdbjnkmlajdoaaGreat
open Go.RowKit
open L4 (Ar ArP Abs arV nv)

/-- A step onto a row of steps. -/
theorem append_step {ops : Array Oper} {rest : List Oper} {o : Oper} {a : Act} {Q : Exit → Act → World → Prop} {W1 : World} (base : Nat) (hbase : base ≤ W1.heap.size) (hgd : o.guard = none) (s x : Operand) (ho : o.op = .call { callee := .builtin .append, args := #[s, x], argTypes := #[86, 86] })
    (v : Value) (n : Nat) (ys xs : List Value) (hs : a.eval s = v) (h : W1.ownsRow base 101 5 v n ys) (hn : n ≤ 10000) (ad : Addr) (cap : Nat) (hx : a.eval x = .slice (some ad) 1 cap) (hl : xs.length = 5) (hc : ∀ j u, xs[j]? = some u → W1.cell? (ad.add j) = some u) (h1 : ∀ u ∈ xs, u.oneCell' = true)
    (hK : ∀ v' W', W'.ownsRow base 101 5 v' (n + 1) (ys ++ xs) → W1.grownBy W' v.ownBlock → wpList Tryz.prog ops Q rest (a.put o.dst v') W') : wpList Tryz.prog ops Q (o :: rest) a W1 := by
  have hinfo : (Tryz.prog.info? 101).map (fun i => (i.zero, i.size, i.bytes)) = some (some zStep, 5, 72) := by kernel_rfl
  obtain ⟨i, hi, hz⟩ := Option.map_eq_some_iff.1 hinfo
  simp only [Prod.mk.injEq] at hz
  obtain ⟨h3, h4, h5⟩ := hz
  exact wpList_append_own_at (P := Tryz.prog) W1 hgd s x 86 ho base 101 i zStep 5 72 Tryz.underlying86 hi h3 h4 h5 rfl (by decide) v n ys hs h ad 1 cap xs hx (by omega) hc h1 (by unfold maxLen; omega) (by omega) hbase (fun v' W' hown hg _ _ => hK v' W' hown hg)

set_option maxRecDepth 100000 in
set_option maxHeartbeats 1000000 in
theorem way_ok {s : Ar} {w : World} {t r l : Nat} {nd : L5.No} {k : ByteArray} (hA : ArP s w) (ho : s.abs.Ok) (ht : TrC w t s.p r 1 l) (hn : s.abs.at (r : Int) = some (L5.pageL nd.toNd)) (hs : nd.shaped = true) (hz : nd.size ≤ 1024) (hlf : nd.leaf = true) :
    Calls Tryz.prog 53 #[.pointer (some ⟨t, 0, none⟩), .string k] w fun e w' => ∃ a c a' c' b cp, e = .returned (.slice (some ⟨b, 0, none⟩) 1 cp) ∧ w'.ownsRow w.heap.size 101 5 (.slice (some ⟨b, 0, none⟩) 1 cp) 1 [nv r, .bool true, .slice a nd.recs.length c, .slice a' nd.kids.length c', nv 0] ∧
      w'.ownsRow w.heap.size 9 1 (.slice a nd.recs.length c) nd.recs.length (L5.svs nd.recs) ∧ w'.ownsRow w.heap.size 3 1 (.slice a' nd.kids.length c') nd.kids.length (L5.ivs nd.kids) ∧ Below w.heap.size w w' := by
  obtain ⟨c0, c1, c2, c3, ct, cf⟩ := ht.cells
  have HL := thid (load_ok hA ho ht hn hs hz)
  rw [hlf] at HL
  clear hA ht ho
  have c2' : w.cell? ⟨t, 2, none⟩ = some (.int .i64 1) := c2
  clear c2
  go_enter Tryz.func53, Tryz.ntmps53
  go_wp2_with fail
  go_loopw [5, 6, 20] (fun u5 u6 i w2 => u5 = .slice none 0 0 ∧ u6 = .int .i64 (r : Int) ∧ i = .int .i64 0 ∧ w2 = w) (fun _ _ _ _ => 0)
  case atStart => exact ⟨rfl, rfl, rfl, rfl⟩
  case round =>
    obtain ⟨rfl, rfl, rfl, rfl⟩ := hrel
    go_wp2_with fail
    refine HL.out.mono ?_
    rintro e w1 ⟨v, rfl, a, c, a', c', rfl, o1, o2, B1⟩
    have HO1 := thid o1
    have HO2 := thid o2
    have HB1 := thid B1
    unfold L5.nodeV
    clear HL o1 o2 B1 c0 c1 c2' c3 ct cf
    have HB2 := thid (tbelow w1 (.cells #[.int .i64 (r : Int), .bool true, .slice a nd.recs.length c, .slice a' nd.kids.length c', .int .i64 0] 101))
    rw [hlf]
    go_wp2_with (first
      | (at_builtin
         revert HB2)
      | fail)
    intro HB2
    refine append_step wr.heap.size (Nat.le_trans HB1.out.size HB2.out.size) rfl _ _ rfl (.slice none 0 0) 0 [] [.int .i64 (r : Int), .bool true, .slice a nd.recs.length c, .slice a' nd.kids.length c', .int .i64 0] rfl ⟨rfl, Or.inl ⟨rfl, rfl⟩⟩ (by omega) ⟨w1.heap.size, 0, none⟩ 1 rfl rfl (fun i u hi => by
        rw [Addr.add_lit, cell_of_row _ _ _ _ _ _ (heap_alloc_new _ _)]
        simpa using hi) (by simp; exact ⟨rfl, rfl, rfl, rfl, rfl⟩) ?_
    intro v' w3 hown hg
    obtain ⟨ad, cp, rfl, had, _⟩ := L4.owns_slice hown
    obtain ⟨b, rfl, hb⟩ := had (by omega)
    have HR := thid hown
    have HG := thid (⟨hg.os, hg.tape, hg.output, hg.size, fun k hk => hg.block k hk (by simp [Value.ownBlock])⟩ : Below (w1.alloc (.cells #[.int .i64 (r : Int), .bool true, .slice a nd.recs.length c, .slice a' nd.kids.length c', .int .i64 0] 101)).heap.size _ w3)
    clear hown hg had hb
    go_wp2
    go_ret
    exact ⟨a, c, a', c', b, cp, rfl, HR.out, L5.owns_below (L5.owns_below HO1.out HB2.out) HG.out, L5.owns_below (L5.owns_below HO2.out HB2.out) HG.out, tbelow_on (tbelow_on HB1.out HB2.out) HG.out⟩
end Go.Proofs.YtjdbjnkmlajdoaaGreat
