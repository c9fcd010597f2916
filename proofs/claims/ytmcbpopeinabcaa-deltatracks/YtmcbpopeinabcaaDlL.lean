/-
  Delta: changes of the law.
-/
import Derived.Deep.RegionHeldLaw
import Derived.Deep.AppendLies
import Derived.Test.YtmcbpopeinabcaaDlH
import Derived.Test.YtmcbpopeinabcaaDlK
namespace Go.Proofs.Ytmcbpopeinabcaa
open Go.RowKit
open Go.ChangeMaps (setBlock heap_setBlock_same heap_setBlock_other)

/-- append as a step of a region that draws. -/
theorem step_app {ops : Array Oper} {o : Oper} {a : Act} {K : Act → World → Prop} {Q : Exit → Act → World → Prop} {E : Prop} {W1 : World} {t e : TypeId} {z : Value} {size bytes : Nat} (ht : Try.prog.underlying t = some (.slice e)) (hinfo : (Try.prog.info? e).map (fun i => (i.zero, i.size, i.bytes)) = some (some z, size, bytes)) (hzs : z.cells.size = size) (hsz : 0 < size) (hby : bytes ≤ 1000)
    (hgd : o.guard = none) (s x : Operand) (ho : o.op = .call { callee := .builtin .append, args := #[s, x], argTypes := #[t, t] })
    (base : Nat) (hbase : base ≤ W1.heap.size) (v : Value) (n : Nat) (xs : List Value) (hs : a.eval s = v) (h : W1.ownsRow base e size v n xs) (ad : Addr) (m cap : Nat) (news : List Value) (hx : a.eval x = .slice (some ad) m cap) (hm : ∀ j u, news[j]? = some u → W1.cell? (ad.add j) = some u)
    (hl : news.length = m * size) (h1 : ∀ u ∈ news, u.oneCell' = true) (hn : n + m ≤ 1000000)
    (hK : ∀ v' W', W'.ownsRow base e size v' (n + m) (xs ++ news) → W1.grownBy W' v.ownBlock → K (a.put o.dst v') W') :
    if Region.wanted o (yielded ops a.tmps) = true then Oper.wp Try.prog o a W1 K Q else E := by
  have hw : Region.wanted o (yielded ops a.tmps) = true := by simp [Region.wanted, hgd]
  rw [if_pos hw]
  obtain ⟨i, hi, hz⟩ := Option.map_eq_some_iff.1 hinfo
  simp only [Prod.mk.injEq] at hz
  obtain ⟨h3, h4, h5⟩ := hz
  exact wp_append_own (P := Try.prog) W1 s x t ho base e i z size bytes ht hi h3 h4 h5 hzs hsz v n xs hs h ad m cap news hx hl hm h1 (by unfold maxLen; omega) (Nat.le_trans (Nat.mul_le_mul hn hby) (by omega)) hbase fun v' W' hown hg _ => hK v' W' hown hg

/-- The law's name of a table. -/
def tblB (t : Nat) : ByteArray := ⟨#[116, UInt8.ofNat (48 + t)]⟩

theorem conv_tbl {t : Nat} (ht : t < 3) (W : World) (b : Nat) (h0 : W.cell? ⟨b, 0, none⟩ = some (.int .u8 116)) (h1 : W.cell? ⟨b, 1, none⟩ = some (.int .u8 ((48 + t : Nat) : Int))) : (convert 67 9 (.slice (some ⟨b, 0, none⟩) 2 2)).run Try.prog W = .ok (.string (tblB t)) W :=
  run_convert_bytes_back W 67 9 5 ⟨b, 0, none⟩ 2 [116, UInt8.ofNat (48 + t)] Try.underlying67 Try.underlying5 Try.underlying9 (fun j hj => by
    simp at hj
    have : j = 0 ∨ j = 1 := by omega
    rcases this with rfl | rfl
    · rw [add_none]; exact h0
    · rw [add_none]
      have e : (UInt8.ofNat (48 + t)).toNat = 48 + t := by simp; omega
      show W.cell? ⟨b, 1, none⟩ = some (.int .u8 ((UInt8.ofNat (48 + t)).toNat : Int))
      rw [e]; exact h1)

def OpD.key (o : OpD) : Key2 := (o.t % 3, o.i % 6)

def mkX (s : SV) (k : Key2) (r : SV) : PC := (⟨tblB k.1, (k.2 : Int), s.a, s.l, s.c, r.a, r.l, r.c⟩, ⟨tblB k.1, (k.2 : Int), s.m, r.m⟩)

def chgS (st : St) (l : List OpD) : St := l.foldl (fun st o => setS st o.key o.s) st

def chgL : St → List OpD → List PC
  | _, [] => []
  | st, o :: l => mkX (getS st o.key) o.key o.s :: chgL (setS st o.key o.s) l

theorem chgS_snoc (st : St) (l : List OpD) (o : OpD) : chgS st (l ++ [o]) = setS (chgS st l) o.key o.s := by unfold chgS; rw [List.foldl_append]; rfl

theorem chgL_snoc (l : List OpD) (o : OpD) : ∀ st, chgL st (l ++ [o]) = chgL st l ++ [mkX (getS (chgS st l) o.key) o.key o.s] := by
  induction l with
  | nil => intro st; rfl
  | cons x l ih =>
    intro st
    show _ :: chgL (setS st x.key x.s) (l ++ [o]) = _
    rw [ih]; rfl

theorem chgL_length (l : List OpD) : ∀ st, (chgL st l).length = l.length := by
  induction l with
  | nil => intro st; rfl
  | cons x l ih => intro st; show (chgL _ l).length + 1 = _; rw [ih]; rfl

theorem slv_only {w W : World} {b : Nat} {a : Option Addr} {l : List Va} {es : Array MapEntry} {clock : Nat} (h : SlV w a l) (hm : w.heap[b]? = some (.map es clock)) (ho : Only (fun k => k = b) w W) : SlV W a l := by
  rcases h with h | ⟨g, o, e, hlt, hc⟩
  · exact Or.inl h
  · by_cases hl : l = []
    · exact Or.inl hl
    · refine SlV.turn (Or.inr ⟨g, o, e, hlt, hc⟩) ho.size fun b' o' e' => ?_
      rw [e] at e'
      cases e'
      refine ho.block g hlt fun hgb => ?_
      subst hgb
      obtain ⟨v, hv⟩ := List.exists_mem_of_ne_nil l hl
      obtain ⟨j, hj, ej⟩ := List.getElem_of_mem hv
      have := (hc j v (by rw [List.getElem?_eq_getElem hj, ej])).1
      simp [World.cell?, hm] at this

theorem ok_only {w W : World} {b : Nat} {s : SV} {es : Array MapEntry} {clock : Nat} (h : s.ok w) (hm : w.heap[b]? = some (.map es clock)) (ho : Only (fun k => k = b) w W) : s.ok W := ⟨slv_only h.sl hm ho, h.len, h.nil, h.bd⟩

theorem stok_only {w W : World} {b : Nat} {st : St} {es : Array MapEntry} {clock : Nat} (h : StOk w st) (hm : w.heap[b]? = some (.map es clock)) (ho : Only (fun k => k = b) w W) : StOk W st :=
  ⟨fun p hp => ⟨(h.ok p hp).1, (h.ok p hp).2.1, ok_only (h.ok p hp).2.2.1 hm ho, (h.ok p hp).2.2.2⟩, h.apart⟩

theorem ops_only {w W : World} {b : Nat} {a : Option Addr} {l : List OpD} {es : Array MapEntry} {clock : Nat} (h : OpsIn w a l) (hm : w.heap[b]? = some (.map es clock)) (ho : Only (fun k => k = b) w W) : OpsIn W a l := by
  refine ⟨?_, fun x hx => ⟨ok_only (h.ok x hx).1 hm ho, (h.ok x hx).2⟩, h.len⟩
  rcases h.sl with h | ⟨g, o, e, hlt, hc⟩
  · exact Or.inl h
  · by_cases hl : l = []
    · exact Or.inl hl
    · refine Or.inr ⟨g, o, e, Nat.lt_of_lt_of_le hlt ho.size, fun j c hj => ?_⟩
      have hne : g ≠ b := by
        intro hgb
        subst hgb
        obtain ⟨v, hv⟩ := List.exists_mem_of_ne_nil l hl
        obtain ⟨i, hi, ei⟩ := List.getElem_of_mem hv
        have := (hc i v (by rw [List.getElem?_eq_getElem hi, ei])).1
        simp [World.cell?, hm] at this
      have e := fun i => ho.cell (p := ⟨g, i, none⟩) hlt hne
      simp only [e]
      exact hc j c hj

theorem chgS_ok {W : World} {st : St} {l : List OpD} (h : StOk W st) (hl : ∀ x ∈ l, x.s.ok W ∧ x.s.l ≤ 20) : StOk W (chgS st l) := by
  induction l using snoc_ind with
  | h0 => exact h
  | h1 l a ih =>
    rw [chgS_snoc]
    have ha := hl a (by simp)
    exact (ih fun x hx => hl x (by simp [hx])).set (Nat.mod_lt _ (by decide)) (Nat.mod_lt _ (by decide)) ha.1 ha.2

theorem mkX_means {W : World} {s r : SV} {k : Key2} (hk : k.2 < 6) (hs : s.ok W ∧ s.l ≤ 20) (hr : r.ok W ∧ r.l ≤ 20) : Means W (mkX s k r).1 (mkX s k r).2 :=
  ⟨rfl, rfl, hs.1.len, hr.1.len, by show s.l ≤ 1000; omega, by show r.l ≤ 1000; omega, hs.1.sl, hr.1.sl, hs.1.nil, hr.1.nil, by show (2 : Nat) ≤ 1000000; decide, by
    show (Lit.int .i64 ((k.2 : Nat) : Int)).wf = true
    simp [Lit.wf, IntKind.min, IntKind.max, IntKind.signed, IntKind.bits]; omega⟩

theorem chgL_means {W : World} {st : St} {l : List OpD} (h : StOk W st) (hl : ∀ x ∈ l, x.s.ok W ∧ x.s.l ≤ 20) : AllM W (chgL st l) := by
  induction l using snoc_ind with
  | h0 => intro x hx; cases hx
  | h1 l a ih =>
    rw [chgL_snoc]
    intro x hx
    rcases List.mem_append.1 hx with hx | hx
    · exact ih (fun x hx => hl x (by simp [hx])) x hx
    · simp at hx
      subst hx
      exact mkX_means (Nat.mod_lt _ (by decide)) ((chgS_ok h fun x hx => hl x (by simp [hx])).get _) (hl a (by simp))

/-- Where changing stands. -/
structure ChW (w : World) (b : Nat) (st : St) (L : List PC) (v : Value) (W : World) : Prop where
  only : Only (fun k => k = b) w W
  own : W.ownsRow w.heap.size 27 4 v L.length (rcs L)
  map : MapS W b st

theorem ChW.on {w W W' : World} {b : Nat} {st : St} {L : List PC} {v : Value} (h : ChW w b st L v W) (hb : Below W.heap.size W W') : ChW w b st L v W' :=
  ⟨h.only.trans (Only.of_below hb), owns_below h.own fun q hq => hb.block q (h.own.lt q hq).2, h.map.turn (hb.block b h.map.lt)⟩

theorem ChW.put {w W : World} {b : Nat} {st st' : St} {L : List PC} {v : Value} {o : Obj} {es : Array MapEntry} {clock : Nat} (h : ChW w b st L v W) (hm : MapS (setBlock W b o) b st') (hb : W.heap[b]? = some (.map es clock)) : ChW w b st' L v (setBlock W b o) := by
  refine ⟨⟨h.only.os, h.only.tape, h.only.output, by simpa [setBlock] using h.only.size, fun k hk hs => ?_⟩, owns_below h.own fun q hq => heap_setBlock_other hb _ fun e => ?_, hm⟩
  · rw [heap_setBlock_other hb _ hs]; exact h.only.block k hk hs
  · subst e
    rcases h.own.2 with ⟨rfl, _⟩ | ⟨g, cap, cur, rfl, _, hg, _⟩
    · cases hq
    · cases hq; rw [hb] at hg; cases hg

theorem new_cellsD (T : TypeId) (W : World) (x : RC) {k : Nat} (hk : k = W.heap.size) : ∀ j u, (rcC x)[j]? = some u → (W.alloc (.cells #[.string x.t, .int .i64 x.id, .slice x.oa x.ol x.oc, .slice x.na x.nl x.nc] T)).drew.cell? ((⟨k, 0, none⟩ : Addr).add j) = some u := by
  subst hk
  intro j u hu
  show (W.alloc _).cell? _ = _
  rw [add_none, Nat.zero_add, cell_of_row _ _ _ _ _ _ (go_heap_new _ _)]
  simpa [rcC] using hu

/-- Behind an append onto the row. -/
theorem ChW.app {w W1 Wx W' : World} {b A K1 K2 : Nat} {st : St} {L : List PC} {v v' : Value} {x : OpD} {r : PC} (h : ChW w b st L v W1) (hB : Below W1.heap.size W1 Wx)
    (hq : W1.heap[A]? = some (.cells #[.int .u8 (x.t : Int), .int .u8 (x.i : Int), .slice x.s.a x.s.l x.s.c] 66 (0, 0))) (hp : W1.heap[A + 1]? = some (.cells #[.int .u8 (K1 : Int), .int .u8 (K2 : Int)] 44 (0, 0))) (h1 : K1 < 256) (h2 : K2 < 256)
    (O : W'.ownsRow w.heap.size 27 4 v' (L.length + 1) (rcs L ++ rcC r.1)) (G : Wx.grownBy W' v.ownBlock) :
    (W'.cell? ⟨A, 2, none⟩ = some (.slice x.s.a x.s.l x.s.c) ∧ W'.cell? ⟨A + 1, 0, none⟩ = some (.int .u8 (K1 : Int)) ∧ W'.cell? ⟨A + 1, 1, none⟩ = some (.int .u8 (K2 : Int)) ∧
      (Instr.lookup 42 (.map (some b)) (.agg #[.int .u8 (K1 : Int), .int .u8 (K2 : Int)]) false).run Try.prog W' = .ok (.slice (getS st (K1, K2)).a (getS st (K1, K2)).l (getS st (K1, K2)).c) W') ∧ ChW w b st (L ++ [r]) v' W' := by
  have hx := h.on hB
  have hqx : Wx.heap[A]? = _ := (hB.block A (Array.getElem?_eq_some_iff.1 hq).1).trans hq
  have hpx : Wx.heap[A + 1]? = _ := (hB.block _ (Array.getElem?_eq_some_iff.1 hp).1).trans hp
  have own := hx.own
  obtain ⟨⟨es, clock, hme, -⟩, -⟩ := hx.map
  have ne : ∀ {q : Nat} {o : Obj}, Wx.heap[q]? = some o → (∀ cur, o ≠ .cells cur 27 (0, 0)) → W'.heap[q]? = Wx.heap[q]? := fun {q o} hqo hne => G.block q (Array.getElem?_eq_some_iff.1 hqo).1 fun e => by
    rcases own.2 with ⟨rfl, _⟩ | ⟨g, cap, cur, rfl, _, hg, _⟩
    · cases e
    · cases e
      rw [hqo] at hg
      cases hg
      exact hne _ rfl
  have nA := ne hqx (fun cur e => by cases e)
  have nA1 := ne hpx (fun cur e => by cases e)
  have nb := ne hme.heap (fun cur e => by cases e)
  have hc : ChW w b st (L ++ [r]) v' W' := by
    refine ⟨⟨G.os.trans hx.only.os, G.tape.trans hx.only.tape, G.output.trans hx.only.output, Nat.le_trans hx.only.size G.size, fun k hk hs => ?_⟩, ?_, hx.map.turn nb⟩
    · rw [G.block k (Nat.lt_of_lt_of_le hk hx.only.size) fun e => ?_]
      · exact hx.only.block k hk hs
      · have := (own.lt k e.symm).1; omega
    · rw [List.length_append, rcs_append]; simpa [rcs] using O
  refine ⟨⟨?_, ?_, ?_, hc.map.look (k := (K1, K2)) h1 h2⟩, hc⟩
  · exact cell_of_row _ _ _ _ _ _ (nA.trans hqx)
  · exact cell_of_row _ _ _ _ _ _ (nA1.trans hpx)
  · exact cell_of_row _ _ _ _ _ _ (nA1.trans hpx)

theorem new_cells (T : TypeId) (W : World) (x : RC) {k : Nat} (hk : k = W.heap.size) : ∀ j u, (rcC x)[j]? = some u → (W.alloc (.cells #[.string x.t, .int .i64 x.id, .slice x.oa x.ol x.oc, .slice x.na x.nl x.nc] T)).cell? ((⟨k, 0, none⟩ : Addr).add j) = some u := by
  subst hk
  intro j u hu
  rw [add_none, Nat.zero_add, cell_of_row _ _ _ _ _ _ (go_heap_new _ _)]
  simpa [rcC] using hu

set_option maxRecDepth 100000 in
set_option maxHeartbeats 1000000 in
theorem changes_walk {l : List OpD} {a : Option Addr} {n c b : Nat} {st : St} {w : World} (h : OpsIn w a l) (hst : StOk w st) (hmap : MapS w b st) (hl : l.length = n) (hf : FewP l) :
    Calls Try.prog 19 #[.map (some b), .slice a n c] w fun e w' => ∃ v, e = .returned v ∧ ChW w b (chgS st l) (chgL st l) v w' := by
  have HH := dhid h
  have HST := dhid hst
  have HMAP := dhid hmap
  have HL := dhid hl
  have HF := dhid hf
  have hn : n ≤ 60 := by rw [← hl]; exact hf.1
  clear h hst hmap hl hf
  go_enter Try.func19, Try.ntmps19
  go_wp2
  go_loopw [5, 11] (fun s i wr => ∃ j : Nat, j ≤ n ∧ i = .int .i64 (j : Int) ∧ Hid (ChW w b (chgS st (l.take j)) (chgL st (l.take j)) s wr)) (fun _ i _ => n - (intOf i).toNat)
  case atStart => exact ⟨0, Nat.zero_le _, rfl, Only.refl _ _, World.ownsRow_nil _ _ _ _, HMAP.out⟩
  case round =>
    obtain ⟨j, hj, rfl, HW⟩ := hrel
    obtain ⟨⟨es, clock, hme, -⟩, -⟩ := HMAP.out
    by_cases hlt : j < n
    · obtain ⟨g, o, x, rfl, hb, hx, ⟨hok, ht, hi⟩, c0, c1, c2⟩ := (ops_only HH.out hme.heap HW.out.only).at (j := j) (by rw [HL.out]; exact hlt)
      have HX := dhid hx
      unfold SV.v at c2
      have e1 : ((x.t : Int) % 3) = ((x.t % 3 : Nat) : Int) := by omega
      have e2 : ((x.i : Int) % 6) = ((x.i % 6 : Nat) : Int) := by omega
      have HT := dhid (take_mem HX.out).2
      have HK : Hid (x.key = (x.t % 3, x.i % 6)) := rfl
      have hk1 : x.t % 3 < 3 := Nat.mod_lt _ (by decide)
      have hk2 : x.i % 6 < 6 := Nat.mod_lt _ (by decide)
      have HE1 := dhid e1
      have HE2 := dhid e2
      clear hx e1 e2
      go_wp2_with fail
      rw [HE1.out, HE2.out]
      generalize x.t % 3 = K1 at *
      generalize x.i % 6 = K2 at *
      have HW1 := dhid ((HW.out.on (below_alloc wr (.cells #[.int .u8 (x.t : Int), .int .u8 (x.i : Int), .slice x.s.a x.s.l x.s.c] 66))).on (below_alloc _ (.cells #[.int .u8 (K1 : Int), .int .u8 (K2 : Int)] 44)))
      have hjl : (chgL st (l.take j)).length = j := by rw [chgL_length, List.length_take, HL.out]; omega
      generalize hst1 : chgS st (l.take j) = st1 at *
      generalize hll1 : chgL st (l.take j) = L1 at *
      have HST1 := dhid hst1
      have HLL1 := dhid hll1
      clear hst1 hll1
      refine to_letter (F := fun W => ChW w b st1 L1 u5 W ∧ W.heap[wr.heap.size]? = some (.cells #[.int .u8 (x.t : Int), .int .u8 (x.i : Int), .slice x.s.a x.s.l x.s.c] 66 (0, 0)) ∧ W.heap[wr.heap.size + 1]? = some (.cells #[.int .u8 (K1 : Int), .int .u8 (K2 : Int)] 44 (0, 0))) ⟨HW1.out, by rw [Below.heap_alloc _ _ _ (by simp), go_heap_new], go_heap_new' _ _ (by simp)⟩ ?_
      rintro W1 ⟨C1, hq, hp⟩
      generalize wr.heap.size = A at *
      have q2 : W1.cell? ⟨A, 2, none⟩ = some (.slice x.s.a x.s.l x.s.c) := cell_of_row _ _ _ _ _ _ hq
      have p0 : W1.cell? ⟨A + 1, 0, none⟩ = some (.int .u8 (K1 : Int)) := cell_of_row _ _ _ _ _ _ hp
      have p1 : W1.cell? ⟨A + 1, 1, none⟩ = some (.int .u8 (K2 : Int)) := cell_of_row _ _ _ _ _ _ hp
      have hAq : A < W1.heap.size := (Array.getElem?_eq_some_iff.1 hq).1
      have hAp : A + 1 < W1.heap.size := (Array.getElem?_eq_some_iff.1 hp).1
      have KS : Hid (∀ W, Below W1.heap.size W1 W → W.cell? ⟨A, 2, none⟩ = some (.slice x.s.a x.s.l x.s.c) ∧ W.cell? ⟨A + 1, 0, none⟩ = some (.int .u8 (K1 : Int)) ∧ W.cell? ⟨A + 1, 1, none⟩ = some (.int .u8 (K2 : Int)) ∧
          (Instr.lookup 42 (.map (some b)) (.agg #[.int .u8 (K1 : Int), .int .u8 (K2 : Int)]) false).run Try.prog W = .ok (.slice (getS st1 (K1, K2)).a (getS st1 (K1, K2)).l (getS st1 (K1, K2)).c) W) := fun W hW =>
        ⟨(hW.cell (p := ⟨A, 2, none⟩) hAq).trans q2, (hW.cell (p := ⟨A + 1, 0, none⟩) hAp).trans p0, (hW.cell (p := ⟨A + 1, 1, none⟩) hAp).trans p1, (C1.on hW).map.look (k := (K1, K2)) (show K1 < 256 by omega) (show K2 < 256 by omega)⟩
      have look := (KS.out W1 (Below.refl _ _)).2.2.2
      have HC1 := dhid C1
      have HA := dhid (fun Wx W' v' hB O G => ChW.app (W' := W') (v' := v') (r := mkX (getS st1 (K1, K2)) (K1, K2) x.s) C1 (Wx := Wx) hB hq hp (by omega) (by omega) O G)
      have HOW := dhid (fun W (hW : Below W1.heap.size W1 W) => (C1.on hW).own)
      rw [hjl] at HA HOW
      obtain ⟨a5, c5, e5⟩ := owns_slice C1.own
      rw [hjl] at e5
      subst e5
      have hz1 : w.heap.size ≤ W1.heap.size := C1.only.size
      have hcv := fun W bb h0 h1 => conv_tbl hk1 W bb h0 h1
      have hw8 : IntKind.u8.wrap (48 + (K1 : Int)) = ((48 + K1 : Nat) : Int) := by
        rw [IntKind.wrap_u8]; omega
      have hw64 : IntKind.i64.wrap (K2 : Int) = (K2 : Int) := by rw [IntKind.wrap_i64]; omega
      clear C1 hq hp HW HW1 c0 c1 c2
      generalize hge : getS st1 (K1, K2) = G at *
      have HG := dhid hge
      clear hge
      unfold mkX at HA
      dsimp only at HA
      go_region_held_law (fun w' => w'.cell? ⟨A, 2, none⟩ = some (.slice x.s.a x.s.l x.s.c) ∧ w'.cell? ⟨A + 1, 0, none⟩ = some (.int .u8 (K1 : Int)) ∧ w'.cell? ⟨A + 1, 1, none⟩ = some (.int .u8 (K2 : Int)) ∧ (Instr.lookup 42 (.map (some b)) (.agg #[.int .u8 (K1 : Int), .int .u8 (K2 : Int)]) false).run Try.prog w' = .ok (.slice G.a G.l G.c) w') (first | assumption | exact KS.out _ (by repeat (first | exact Below.refl _ _ | refine Below.drew ?_ | refine Below.alloc ?_ (by simp) _)))
        (first
          | (refine step_app Try.underlying22 infoChg rfl (by decide) (by decide) rfl (.tmp 22) (.tmp 37) rfl w.heap.size ?_ (.slice a5 j c5) j (rcs L1) ?_ (HOW.out _ ?_) ⟨W1.heap.size + 1, 0, none⟩ 1 1 (rcC ⟨tblB K1, (K2 : Int), G.a, G.l, G.c, x.s.a, x.s.l, x.s.c⟩) ?_ (new_cellsD _ _ ⟨tblB K1, (K2 : Int), G.a, G.l, G.c, x.s.a, x.s.l, x.s.c⟩ ?_) rfl rcC_one (by omega) ?_
             · first | omega | (simp; omega) | (simp; done)
             · first | (simp [Act.eval]; done) | (simp [Act.eval, Act.put]; done)
             · repeat (first | exact Below.refl _ _ | refine Below.drew ?_ | refine Below.alloc ?_ (by simp) _)
             · first | (simp [Act.eval]; done) | (simp [Act.eval, Act.put]; done)
             · first | (simp; done) | rfl
             intro v6 W6 O6 G6
             obtain ⟨KS6, HC6⟩ := HA.out _ W6 v6 (by repeat (first | exact Below.refl _ _ | refine Below.drew ?_ | refine Below.alloc ?_ (by simp) _)) O6 G6
             have HC6' := dhid HC6
             clear O6 G6 HC6))
      all_goals
        obtain ⟨s2, s0, s1, -⟩ := KS6
        obtain ⟨o7, hup, hm7, es7, ck7, hh7⟩ := HC6'.out.map.store (k := (K1, K2)) (show K1 < 256 by omega) (show K2 < 256 by omega) x.s
        unfold k2V SV.v at hup
        dsimp only at hup
        have HC7 := dhid (HC6'.out.put hm7 hh7)
        clear hm7 hh7
        go_wp2_with (first | (at_mapUpdate; revert HC7) | go_in)
        intro HC7
        refine wpList_mapUpdate_eq rfl _ _ _ _ rfl hup ?_
        clear hup s0 s1 s2
        go_wp2
        refine ⟨⟨j + 1, by omega, by go_num, ?_⟩, by simp [intOf]; omega⟩
        rw [HT.out, chgS_snoc, chgL_snoc, HST1.out, HLL1.out, HK.out, HG.out]
        exact HC7
    · have hjn : j = n := by omega
      subst hjn
      have ht : l.take j = l := List.take_of_length_le (by rw [HL.out]; exact Nat.le_refl _)
      rw [ht] at HW
      obtain ⟨a3, k3, rfl⟩ := owns_slice HW.out.own
      go_wp2
      go_ret
      exact ⟨_, rfl, HW.out⟩
end Go.Proofs.Ytmcbpopeinabcaa
