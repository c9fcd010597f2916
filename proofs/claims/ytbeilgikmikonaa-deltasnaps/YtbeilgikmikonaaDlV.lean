/-
  Delta: differ of the law.
-/
import Derived.Test.YtbeilgikmikonaaDlO
namespace Go.Proofs.Ytbeilgikmikonaa
open Go.RowKit

def kOf (i : Nat) : Key2 := (i / 6, i % 6)

/-- How two states differ at a place. -/
def diffK (s1 s2 : St) (k : Key2) : List PC := if sameL (getS s1 k).m (getS s2 k).m then [] else [mkX (getS s1 k) k (getS s2 k)]

def diffG (s1 s2 : St) (n : Nat) : List PC := (List.range n).flatMap fun i => diffK s1 s2 (kOf i)

theorem diffG_succ (s1 s2 : St) (n : Nat) : diffG s1 s2 (n + 1) = diffG s1 s2 n ++ diffK s1 s2 (kOf n) := by
  unfold diffG; rw [List.range_succ, List.flatMap_append]; simp

theorem diffG_length (s1 s2 : St) (n : Nat) : (diffG s1 s2 n).length ≤ n := by
  induction n with
  | zero => exact Nat.le_refl _
  | succ n ih =>
    rw [diffG_succ, List.length_append]
    have : (diffK s1 s2 (kOf n)).length ≤ 1 := by unfold diffK; split <;> simp
    omega

theorem kOf_at {t id : Nat} (h : id < 6) : kOf (t * 6 + id) = (t, id) := by unfold kOf; rw [Prod.mk.injEq]; omega

theorem tbl_lt {a b : Nat} (hb : b < 3) (h : a < b) : (tblB a).toList < (tblB b).toList := by
  rw [ByteArray.toList_eq, ByteArray.toList_eq]
  show [116, UInt8.ofNat (48 + a)] < [116, UInt8.ofNat (48 + b)]
  have : UInt8.ofNat (48 + a) < UInt8.ofNat (48 + b) := by
    rw [UInt8.lt_iff_toNat_lt]; simp; omega
  rw [List.cons_lt_cons_iff, List.cons_lt_cons_iff]
  exact Or.inr ⟨rfl, Or.inl this⟩

theorem ck_lt {i j : Nat} (hij : i < j) (hj : j < 18) : keyLt (ck (kOf i)) (ck (kOf j)) := by
  unfold ck kOf keyLt
  dsimp only
  by_cases h : i / 6 = j / 6
  · exact Or.inr ⟨by rw [h], by omega⟩
  · exact Or.inl (tbl_lt (by omega) (by omega))

theorem diffK_mem {s1 s2 : St} {k : Key2} {x : PC} (h : x ∈ diffK s1 s2 k) : x = mkX (getS s1 k) k (getS s2 k) ∧ sg s1 k ≠ sg s2 k := by
  unfold diffK at h
  split at h
  · cases h
  · rename_i hs
    simp at h
    exact ⟨h, fun e => hs (sameL_iff.2 e)⟩

theorem diffG_diff (s1 s2 : St) : Diff (sg s1) (sg s2) ((diffG s1 s2 18).map (·.2)) := by
  refine ⟨?_, fun c => ?_⟩
  · rw [List.pairwise_map]
    unfold diffG
    rw [List.flatMap_def, List.pairwise_flatten]
    constructor
    · intro l hl
      obtain ⟨i, _, rfl⟩ := List.mem_map.1 hl
      unfold diffK
      split <;> simp
    · rw [List.pairwise_map]
      have : (List.range 18).Pairwise (fun a b => a < b ∧ b < 18) := by decide
      refine this.imp fun {i j} hij x hx y hy => ?_
      obtain ⟨rfl, _⟩ := diffK_mem hx
      obtain ⟨rfl, _⟩ := diffK_mem hy
      exact ck_lt hij.1 hij.2
  · constructor
    · intro hc
      obtain ⟨x, hx, rfl⟩ := List.mem_map.1 hc
      obtain ⟨i, hi, hxi⟩ := List.mem_flatMap.1 hx
      obtain ⟨rfl, hne⟩ := diffK_mem hxi
      have := List.mem_range.1 hi
      exact ⟨kOf i, ⟨by show i / 6 < 3; omega, by show i % 6 < 6; omega⟩, rfl, hne⟩
    · rintro ⟨k, ⟨h1, h2⟩, rfl, hne⟩
      refine List.mem_map.2 ⟨mkX (getS s1 k) k (getS s2 k), List.mem_flatMap.2 ⟨k.1 * 6 + k.2, List.mem_range.2 (by omega), ?_⟩, rfl⟩
      show _ ∈ diffK s1 s2 (kOf (k.1 * 6 + k.2))
      have ek : kOf (k.1 * 6 + k.2) = k := kOf_at h2
      rw [ek]
      unfold diffK
      rw [if_neg (show ¬ sameL (getS s1 k).m (getS s2 k).m = true from fun e => hne (sameL_iff.1 e))]
      simp

theorem diffG_means {W : World} {s1 s2 : St} (h1 : StOk W s1) (h2 : StOk W s2) (n : Nat) : AllM W (diffG s1 s2 n) := by
  intro x hx
  obtain ⟨i, hi, hxi⟩ := List.mem_flatMap.1 hx
  obtain ⟨rfl, _⟩ := diffK_mem hxi
  exact mkX_means (Nat.mod_lt _ (by decide)) (h1.get _) (h2.get _)

set_option maxRecDepth 100000 in
set_option maxHeartbeats 2000000 in
theorem differ_walk {b1 b2 : Nat} {s1 s2 : St} {w : World} (h1 : MapS w b1 s1) (h2 : MapS w b2 s2) (o1 : StOk w s1) (o2 : StOk w s2) :
    Calls Try.prog 20 #[.map (some b1), .map (some b2)] w fun e w' => ∃ v, e = .returned v ∧ PlW w v (diffG s1 s2 18) w' := by
  have H1 := dhid h1
  have H2 := dhid h2
  have O1 := dhid o1
  have O2 := dhid o2
  clear h1 h2 o1 o2
  go_enter Try.func20, Try.ntmps20
  go_wp2
  go_loopw [5, 6] (fun s i wr => ∃ t : Nat, t ≤ 3 ∧ i = .int .u8 (t : Int) ∧ Hid (PlW w s (diffG s1 s2 (t * 6)) wr)) (fun _ i _ => 3 - (intOf i).toNat)
  case atStart => exact ⟨0, Nat.zero_le _, rfl, PlW.nil _⟩
  case round =>
    obtain ⟨t, ht, rfl, HW⟩ := hrel
    by_cases hlt : t < 3
    · have hlt' : (t : Int) < 3 := by omega
      go_wp2
      refine to_letter (F := fun W => PlW w u5 (diffG s1 s2 (t * 6)) W) HW.out ?_
      clear HW
      intro V hV
      have HV := dhid hV
      clear hV
      go_loopw [5, 7] (fun s i wr => ∃ id : Nat, id ≤ 6 ∧ i = .int .u8 (id : Int) ∧ Hid (PlW w s (diffG s1 s2 (t * 6 + id)) wr)) (fun _ i _ => 6 - (intOf i).toNat)
      case atStart => exact ⟨0, Nat.zero_le _, rfl, HV⟩
      case round =>
        obtain ⟨id, hid, rfl, HW⟩ := hrel
        by_cases hlt2 : id < 6
        · have hlt2' : (id : Int) < 6 := by omega
          have HD := dhid (diffG_succ s1 s2 (t * 6 + id))
          rw [kOf_at hlt2] at HD
          have hgl : (diffG s1 s2 (t * 6 + id)).length ≤ 18 := Nat.le_trans (diffG_length _ _ _) (by omega)
          generalize diffG s1 s2 (t * 6 + id) = L at *
          go_wp2_with fail
          refine to_letter (F := fun W => PlW w u5 L W ∧ W.heap[wr.heap.size]? = some (.cells #[.int .u8 (t : Int), .int .u8 (id : Int)] 44 (0, 0))) ⟨HW.out.on (below_alloc _ _), go_heap_new _ _⟩ ?_
          clear HW
          rintro W1 ⟨hP1, hbx⟩
          generalize wr.heap.size = A at *
          have HP1 := dhid hP1
          have HM1 := dhid (fun W (hW : Below W1.heap.size W1 W) => H1.out.turn ((below_on hP1.below hW hP1.below.size).block _ H1.out.lt))
          have HM2 := dhid (fun W (hW : Below W1.heap.size W1 W) => H2.out.turn ((below_on hP1.below hW hP1.below.size).block _ H2.out.lt))
          have HBB := dhid (fun W (hW : Below W1.heap.size W1 W) => below_on hP1.below hW hP1.below.size)
          have hA : A < W1.heap.size := (Array.getElem?_eq_some_iff.1 hbx).1
          have p0 : W1.cell? ⟨A, 0, none⟩ = some (.int .u8 (t : Int)) := cell_of_row _ _ _ _ _ _ hbx
          have p1 : W1.cell? ⟨A, 1, none⟩ = some (.int .u8 (id : Int)) := cell_of_row _ _ _ _ _ _ hbx
          have KS : Hid (∀ W, Below W1.heap.size W1 W → W.cell? ⟨A, 0, none⟩ = some (.int .u8 (t : Int)) ∧ W.cell? ⟨A, 1, none⟩ = some (.int .u8 (id : Int)) ∧
              (Instr.lookup 42 (.map (some b1)) (.agg #[.int .u8 (t : Int), .int .u8 (id : Int)]) false).run Try.prog W = .ok (.slice (getS s1 (t, id)).a (getS s1 (t, id)).l (getS s1 (t, id)).c) W ∧
              (Instr.lookup 42 (.map (some b2)) (.agg #[.int .u8 (t : Int), .int .u8 (id : Int)]) false).run Try.prog W = .ok (.slice (getS s2 (t, id)).a (getS s2 (t, id)).l (getS s2 (t, id)).c) W) := fun W hW =>
            ⟨(hW.cell (p := ⟨A, 0, none⟩) hA).trans p0, (hW.cell (p := ⟨A, 1, none⟩) hA).trans p1, (HM1.out W hW).look (k := (t, id)) (show t < 256 by omega) (show id < 256 by omega), (HM2.out W hW).look (k := (t, id)) (show t < 256 by omega) (show id < 256 by omega)⟩
          have g1 := (O1.out.below (HBB.out W1 (Below.refl _ _))).get (t, id)
          have g2 := (O2.out.below (HBB.out W1 (Below.refl _ _))).get (t, id)
          have hso := rsame_walk (getS s1 (t, id)).a (getS s2 (t, id)).a (getS s1 (t, id)).l (getS s2 (t, id)).l (getS s1 (t, id)).c (getS s2 (t, id)).c (getS s1 (t, id)).m (getS s2 (t, id)).m g1.1.len g2.1.len (by have := g1.2; omega) (by have := g2.2; omega)
          have HSO := dhid (fun q => hso (W1.drewN q) g1.1.sl g2.1.sl)
          have l1 := fun q => (KS.out (W1.drewN q) (below_drews _ _)).2.2.1
          have l2 := fun q => (KS.out (W1.drewN q) (below_drews _ _)).2.2.2
          have HDK : Hid (diffK s1 s2 (t, id) = if sameL (getS s1 (t, id)).m (getS s2 (t, id)).m then [] else [mkX (getS s1 (t, id)) (t, id) (getS s2 (t, id))]) := rfl
          have HBX := dhid hbx
          clear hso g1 g2 hbx hP1
          generalize hg1 : getS s1 (t, id) = G1 at *
          generalize hg2 : getS s2 (t, id) = G2 at *
          have HG1 := dhid hg1
          have HG2 := dhid hg2
          clear hg1 hg2
          generalize sameL G1.m G2.m = ss at *
          go_quiet (first | rfl | (go_at_call 28; exact Calls.quiet_of (HSO.out _)))
          refine to_letter (F := fun W => Below W1.heap.size W1 W) (below_drews _ _) ?_
          intro W2 hB2
          have HB2 := dhid hB2
          have HP2 := dhid (HP1.out.on hB2)
          have hw8 : IntKind.u8.wrap ((id : Int) + 1) = ((id + 1 : Nat) : Int) := by rw [IntKind.wrap_u8]; omega
          cases ss
          · have KS2 : Hid (∀ W, Below W2.heap.size W2 W → W.cell? ⟨A, 0, none⟩ = some (.int .u8 (t : Int)) ∧ W.cell? ⟨A, 1, none⟩ = some (.int .u8 (id : Int)) ∧
                (Instr.lookup 42 (.map (some b1)) (.agg #[.int .u8 (t : Int), .int .u8 (id : Int)]) false).run Try.prog W = .ok (.slice G1.a G1.l G1.c) W ∧
                (Instr.lookup 42 (.map (some b2)) (.agg #[.int .u8 (t : Int), .int .u8 (id : Int)]) false).run Try.prog W = .ok (.slice G2.a G2.l G2.c) W) := fun W hW => KS.out W (below_on hB2 hW hB2.size)
            obtain ⟨a5, c5, rfl⟩ := owns_slice HP2.out.own
            have HOW := dhid (fun W (hW : Below W2.heap.size W2 W) => (HP2.out.on hW).own)
            have HG := dhid (fun Wx W' v' (hB : Below W2.heap.size W2 Wx) O G => PlW.grow (W3 := W') (v3 := v') (x := mkX G1 (t, id) G2) (HP2.out.on hB) rfl O G)
            unfold mkX at HG
            dsimp only at HG
            have HKG : Hid (∀ Wx W', Below W2.heap.size W2 Wx → Wx.grownBy W' (Value.slice a5 L.length c5).ownBlock → W'.cell? ⟨A, 0, none⟩ = some (.int .u8 (t : Int)) ∧ W'.cell? ⟨A, 1, none⟩ = some (.int .u8 (id : Int)) ∧
                (Instr.lookup 42 (.map (some b1)) (.agg #[.int .u8 (t : Int), .int .u8 (id : Int)]) false).run Try.prog W' = .ok (.slice G1.a G1.l G1.c) W' ∧
                (Instr.lookup 42 (.map (some b2)) (.agg #[.int .u8 (t : Int), .int .u8 (id : Int)]) false).run Try.prog W' = .ok (.slice G2.a G2.l G2.c) W') := fun Wx W' hB G => by
              have hB1 := below_on HB2.out hB HB2.out.size
              have own := HOW.out Wx hB
              have ne : ∀ {q : Nat} {o : Obj}, Wx.heap[q]? = some o → (∀ cur, o ≠ .cells cur 30 (0, 0)) → W'.heap[q]? = Wx.heap[q]? := fun {q o} hqo hne => G.block q (Array.getElem?_eq_some_iff.1 hqo).1 fun e => by
                rcases own.2 with ⟨e', _⟩ | ⟨g, cap, cur, e', _, hg, _⟩
                · injection e' with e1; rw [e1] at e; cases e
                · injection e' with e1 e2 e3; rw [e1] at e; simp [Value.ownBlock] at e; subst e
                  rw [hqo] at hg
                  cases hg
                  exact hne _ rfl
              have hA' : Wx.heap[A]? = _ := (hB1.block A hA).trans HBX.out
              have nA := ne hA' (fun cur e => by cases e)
              obtain ⟨⟨es1, ck1, hm1, -⟩, -⟩ := HM1.out Wx hB1
              obtain ⟨⟨es2, ck2, hm2, -⟩, -⟩ := HM2.out Wx hB1
              have n1 := ne hm1.heap (fun cur e => by cases e)
              have n2 := ne hm2.heap (fun cur e => by cases e)
              have q1 := ((HM1.out Wx hB1).turn n1).look (k := (t, id)) (show t < 256 by omega) (show id < 256 by omega)
              have q2 := ((HM2.out Wx hB1).turn n2).look (k := (t, id)) (show t < 256 by omega) (show id < 256 by omega)
              rw [HG1.out] at q1
              rw [HG2.out] at q2
              exact ⟨cell_of_row _ _ _ _ _ _ (nA.trans hA'), cell_of_row _ _ _ _ _ _ (nA.trans hA'), q1, q2⟩
            have hz2 : w.heap.size ≤ W2.heap.size := HP2.out.below.size
            have hcv := fun W bb h0 h1 => conv_tbl hlt W bb h0 h1
            have hw9 : IntKind.u8.wrap (48 + (t : Int)) = ((48 + t : Nat) : Int) := by rw [IntKind.wrap_u8]; omega
            have hw64 : IntKind.i64.wrap (id : Int) = (id : Int) := by rw [IntKind.wrap_i64]; omega
            obtain ⟨k0, k1, look1, look2⟩ := KS2.out W2 (Below.refl _ _)
            clear l1 l2 HSO KS p0 p1 hB2
            obtain ⟨LL, HLL⟩ : ∃ m, Hid (L.length = m) := ⟨_, rfl⟩
            rw [HLL.out] at hgl HOW HG HKG ⊢
            go_wp2_with fail
            go_region_held_law (fun w' => w'.cell? ⟨A, 0, none⟩ = some (.int .u8 (t : Int)) ∧ w'.cell? ⟨A, 1, none⟩ = some (.int .u8 (id : Int)) ∧ (Instr.lookup 42 (.map (some b1)) (.agg #[.int .u8 (t : Int), .int .u8 (id : Int)]) false).run Try.prog w' = .ok (.slice G1.a G1.l G1.c) w' ∧ (Instr.lookup 42 (.map (some b2)) (.agg #[.int .u8 (t : Int), .int .u8 (id : Int)]) false).run Try.prog w' = .ok (.slice G2.a G2.l G2.c) w') (first | assumption | exact KS2.out _ (by repeat (first | exact Below.refl _ _ | refine Below.drew ?_ | refine Below.alloc ?_ (by simp) _)))
              (first
                | (refine step_app Try.underlying31 infoRChg rfl (by decide) (by decide) rfl (.tmp 28) (.tmp 42) rfl w.heap.size ?_ (.slice a5 LL c5) LL (rcs L) ?_ (HOW.out _ ?_) ⟨W2.heap.size + 1, 0, none⟩ 1 1 (rcC ⟨tblB t, (id : Int), G1.a, G1.l, G1.c, G2.a, G2.l, G2.c⟩) ?_ (new_cellsD _ _ ⟨tblB t, (id : Int), G1.a, G1.l, G1.c, G2.a, G2.l, G2.c⟩ ?_) rfl rcC_one (by omega) ?_
                   · first | omega | (simp; omega) | (simp; done)
                   · first | (simp [Act.eval]; done) | (simp [Act.eval, Act.put]; done)
                   · repeat (first | exact Below.refl _ _ | refine Below.drew ?_ | refine Below.alloc ?_ (by simp) _)
                   · first | (simp [Act.eval]; done) | (simp [Act.eval, Act.put]; done)
                   · first | (simp; done) | rfl
                   intro v6 W6 O6 G6
                   have KS6 := HKG.out _ W6 (by repeat (first | exact Below.refl _ _ | refine Below.drew ?_ | refine Below.alloc ?_ (by simp) _)) G6
                   have HC6 := dhid (HG.out _ W6 v6 (by repeat (first | exact Below.refl _ _ | refine Below.drew ?_ | refine Below.alloc ?_ (by simp) _)) O6 G6)
                   clear O6 G6))
            all_goals
              clear KS6
              go_wp2
              refine ⟨⟨id + 1, by omega, by go_num, ?_⟩, by simp [intOf]; omega⟩
              rw [← Nat.add_assoc, HD.out, HDK.out]
              exact HC6
          · go_wp2
            refine ⟨⟨id + 1, by omega, by go_num, ?_⟩, by simp [intOf]; omega⟩
            rw [← Nat.add_assoc, HD.out, HDK.out]
            rw [if_pos rfl, List.append_nil]
            exact HP2
        · have hid6 : id = 6 := by omega
          subst hid6
          have hw8 : IntKind.u8.wrap ((t : Int) + 1) = ((t + 1 : Nat) : Int) := by rw [IntKind.wrap_u8]; omega
          go_wp2
          refine ⟨⟨t + 1, by omega, by go_num, ?_⟩, by simp [intOf]; omega⟩
          rw [Nat.add_mul]; exact HW
    · have ht3 : t = 3 := by omega
      subst ht3
      obtain ⟨a3, k3, rfl⟩ := owns_slice HW.out.own
      go_wp2
      go_ret
      exact ⟨_, rfl, HW.out⟩
end Go.Proofs.Ytbeilgikmikonaa
