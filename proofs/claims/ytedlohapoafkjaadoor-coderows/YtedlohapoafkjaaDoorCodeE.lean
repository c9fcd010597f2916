/-
  Bytes that a call gathers in a slice of its own: one more, two more, and the text of them; the document's Key.
-/
import Derived.Laws.AppendOwn
import Derived.Laws.OwnMore
import Derived.Maps.AppendAt
import Derived.Deep.RegionWith
import Derived.Test.YtedlohapoafkjaaDoorCodeC
import Derived.Test.YtedlohapoafkjaaDoorCodeD
namespace Go.Proofs.YtedlohapoafkjaaDoor
open Go.RowKit

/-- Bytes as cells. -/
def bcs (l : List UInt8) : List Value := l.map fun c => Value.int .u8 (c.toNat : Int)

theorem bcs_length (l : List UInt8) : (bcs l).length = l.length := by simp [bcs]

/-- A slice of the call's own, with just these bytes. -/
def Owns (base : Nat) (W : World) (v : Value) (l : List UInt8) : Prop := W.ownsRow base 5 1 v l.length (bcs l)

theorem owns_alloc {base : Nat} {W : World} {v : Value} {l : List UInt8} (h : Owns base W v l) (o : Obj) : Owns base (W.alloc o) v l := World.ownsRow.alloc h o

theorem owns_new (base : Nat) (W : World) (hb : base ≤ W.heap.size) (l : List UInt8) (hl : l.length ≤ 1000000) : Owns base (W.alloc (.cells (bcs l).toArray 5)) (.slice (some ⟨W.heap.size, 0, none⟩) l.length l.length) l := by
  have := World.ownsRow_lit (base := base) (e := 5) (size := 1) W (bcs l).toArray l.length hb (by unfold maxLen; omega) (by simp [bcs_length])
  simpa [Owns] using this

theorem append_own (base : Nat) (W W1 : World) (v : Value) (l : List UInt8) (h : Owns base W1 v l) (hW : Below base W W1) (hl : l.length ≤ 1000000) (hb : base ≤ W1.heap.size) (a : Nat) (news : List UInt8) (hn : news.length ≤ 2) (hc : ∀ j c, news[j]? = some c → W1.cell? ⟨a, j, none⟩ = some (.int .u8 (c.toNat : Int))) (m : Nat) (hm : m = news.length) (cap : Nat) :
    ∃ v' W', (Builtin.append_ #[58, 58] 58 #[v, .slice (some ⟨a, 0, none⟩) m cap]).run Tryd.prog W1 = .ok v' W' ∧ Owns base W' v' (l ++ news) ∧ Below base W W' := by
  subst hm
  obtain ⟨i, hi, hz⟩ : ∃ i, Tryd.prog.info? 5 = some i ∧ (i.zero, i.size, i.bytes) = (some (.int .u8 0), 1, 1) :=
    Option.map_eq_some_iff.1 (show (Tryd.prog.info? 5).map (fun i => (i.zero, i.size, i.bytes)) = some (some (.int .u8 0), 1, 1) by kernel_rfl)
  simp only [Prod.mk.injEq] at hz
  obtain ⟨h1, h2, h3⟩ := hz
  obtain ⟨v', W', hr, ho, hg, _⟩ := run_append_own (P := Tryd.prog) W1 base 58 58 5 i (.int .u8 0) 1 1 Tryd.underlying58 hi h1 h2 h3 rfl (by decide) v l.length (bcs l) h ⟨a, 0, none⟩ news.length cap (bcs news) (by simp [bcs_length]) (fun j u hj => by
    simp only [bcs, List.getElem?_map, Option.map_eq_some_iff] at hj
    obtain ⟨c, hj, rfl⟩ := hj
    rw [show (⟨a, 0, none⟩ : Addr).add j = ⟨a, j, none⟩ by unfold Addr.add; split <;> simp_all]
    exact hc j c hj) (fun u hu => by
    simp only [bcs, List.mem_map] at hu
    obtain ⟨c, _, rfl⟩ := hu
    rfl) (by unfold maxLen; omega) (by omega) hb
  refine ⟨v', W', hr, ?_, hW.grown hg hb (fun k hk => (World.ownsRow.lt h k hk).1)⟩
  unfold Owns
  rw [List.length_append, show bcs (l ++ news) = bcs l ++ bcs news by simp [bcs]]
  exact ho

/-- The same, as a step of a walk. -/
theorem wpList_append_bytes {ops : Array Oper} {rest : List Oper} {o : Oper} {a : Act} {Q : Exit → Act → World → Prop} (hgd : o.guard = none) (s x : Operand) (ho : o.op = .call { callee := .builtin .append, args := #[s, x], argTypes := #[58, 58] }) (hty : o.type = 58)
    (base : Nat) (W : World) {W1 : World} (v : Value) (l : List UInt8) (hs : a.eval s = v) (h : Owns base W1 v l) (hW : Below base W W1) (hl : l.length ≤ 1000000) (hb : base ≤ W1.heap.size) (ad : Nat) (news : List UInt8) (m cap : Nat) (hx : a.eval x = .slice (some ⟨ad, 0, none⟩) m cap) (hn : news.length ≤ 2) (hm : m = news.length)
    (hc : ∀ j c, news[j]? = some c → W1.cell? ⟨ad, j, none⟩ = some (.int .u8 (c.toNat : Int)))
    (hK : ∀ v' W', Owns base W' v' (l ++ news) → Below base W W' → wpList Tryd.prog ops Q rest (a.put o.dst v') W') : wpList Tryd.prog ops Q (o :: rest) a W1 := by
  refine wpList_plain hgd fun K hK' => ?_
  obtain ⟨v', W', hr, h1, h2⟩ := append_own base W W1 v l h hW hl hb ad news hn hc m hm cap
  unfold Oper.wp execOp
  simp only [ho, hty, resolve, invoke, builtin, Sem.run_bind, Sem.run_pure, Result.andThen_ok, List.map_toArray, List.map_cons, List.map_nil, hs, hx, hr]
  exact hK' _ _ (hK v' W' h1 h2)

theorem one_new (W : World) (c : UInt8) (x : Int) (hx : x = (c.toNat : Int)) (t : TypeId) : ∀ j d, [c][j]? = some d → (W.alloc (.cells #[.int .u8 x] t)).cell? ⟨W.heap.size, j, none⟩ = some (.int .u8 (d.toNat : Int)) := by
  subst hx
  intro j d hd
  have : j = 0 := by
    have := (List.getElem?_eq_some_iff.1 hd).1
    simpa using this
  subst this
  simp at hd
  subst hd
  simp [go_sem]

theorem two_new (W : World) (c d : UInt8) (x y : Int) (hx : x = (c.toNat : Int)) (hy : y = (d.toNat : Int)) (t : TypeId) : ∀ j e, [c, d][j]? = some e → (W.alloc (.cells #[.int .u8 x, .int .u8 y] t)).cell? ⟨W.heap.size, j, none⟩ = some (.int .u8 (e.toNat : Int)) := by
  subst hx
  subst hy
  intro j e he
  have hj : j < 2 := by
    have := (List.getElem?_eq_some_iff.1 he).1
    simpa using this
  have : j = 0 ∨ j = 1 := by omega
  rcases this with rfl | rfl
  · simp at he; subst he; simp [go_sem]
  · simp at he; subst he; simp [go_sem]

/-- The text of a slice of the call's own. -/
theorem conv_own {base : Nat} {W : World} {v : Value} {l : List UInt8} (h : Owns base W v l) : (convert 58 9 v).run Tryd.prog W = .ok (.string (strB l)) W := by
  have h' := h
  obtain ⟨_, h2⟩ := h
  rcases h2 with ⟨rfl, h0⟩ | ⟨g, cap, cur, rfl, _⟩
  · have : l = [] := List.length_eq_zero_iff.1 h0
    subst this
    rw [run_convert_bytes_string W 58 9 5 none 0 0 Tryd.underlying58 Tryd.underlying5 Tryd.underlying9]
    rfl
  · refine run_convert_bytes_back (P := Tryd.prog) W 58 9 5 ⟨g, 0, none⟩ cap l Tryd.underlying58 Tryd.underlying5 Tryd.underlying9 (fun j hj => ?_)
    exact World.ownsRow.cells h' (g := g) rfl j _ (by simp [bcs, List.getElem?_eq_getElem hj])

theorem bcell {W w1 : World} (hb : Below W.heap.size W w1) : (∀ b o, b < W.heap.size → w1.cell? ⟨b, o, none⟩ = W.cell? ⟨b, o, none⟩) ∧ (∀ b o, b < W.heap.size → w1.frozen? ⟨b, o, none⟩ = W.frozen? ⟨b, o, none⟩) :=
  ⟨fun b o h => hb.cell (p := ⟨b, o, none⟩) h, fun b o h => hb.frozen (p := ⟨b, o, none⟩) h⟩

theorem below_drew (w : World) : Below w.heap.size w w.drew := (Below.refl _ _).drew

theorem bias_wrap {n : Int} (h : fits n = true) : IntKind.u64.wrap (IntKind.u64.wrap n + 9223372036854775808) = (bias n : Int) := by
  rw [fits_iff] at h
  rw [IntKind.wrap_u64, IntKind.wrap_u64]
  unfold bias
  omega

theorem each_snoc (l : List UInt8) (c : UInt8) : each 0 [0, 255] (l ++ [c]) = each 0 [0, 255] l ++ (if c == 0 then [0, 255] else [c]) := by
  simp [each]

theorem take_snoc (s : ByteArray) (j : Nat) (h : j < s.size) : s.data.toList.take (j + 1) = s.data.toList.take j ++ [s[j]] := by
  rw [List.take_succ_eq_append_getElem (by simpa using h)]; rfl

set_option maxRecDepth 100000 in
set_option maxHeartbeats 1000000 in
theorem rkey_int (n : Int) (hn : fits n = true) (w : World) :
    Calls Tryd.prog 18 #[valV 2 n ⟨#[]⟩] w fun e w' => e = .returned (.string (strB (keyL 2 n ⟨#[]⟩))) ∧ Below w.heap.size w w' := by
  go_enter Tryd.func18, Tryd.ntmps18
  have B0 := below_alloc w (.cells #[.int .i64 2, .int .i64 n, .string ⟨#[]⟩] 23)
  obtain ⟨_, a0, a1, a2⟩ := boxed_new w 2 n ⟨#[]⟩ 23
  have hz : w.heap.size < (w.alloc (.cells #[.int .i64 2, .int .i64 n, .string ⟨#[]⟩] 23)).heap.size := by simp
  have hf : (w.alloc (.cells #[.int .i64 2, .int .i64 n, .string ⟨#[]⟩] 23)).heap.size = w.heap.size + 1 := by simp
  unfold valV
  have hbw := bias_wrap hn
  have hcv : ∀ (W' : World) (b : Nat), W'.cell? ⟨b, 0, none⟩ = some (.int .u8 2) → (convert 58 9 (.slice (some ⟨b, 0, none⟩) 1 1)).run Tryd.prog W' = .ok (.string ⟨#[2]⟩) W' := fun W' b h => conv1 W' b 2 h
  have hz8 : (strB (beL 8 (bias n))).size = 8 := by show (beL 8 (bias n)).length = 8; exact beL_length _ _
  go_wp2
  generalize w.alloc (.cells #[.int .i64 2, .int .i64 n, .string ⟨#[]⟩] 23) = W at *
  go_region_with (go_at_call 37; refine (eight_walk (bias n) (bias_lt hn) _).mono ?_; rintro e w2 ⟨rfl, hb⟩; obtain ⟨hc, hff⟩ := bcell hb)
  all_goals
    have hx : Below W.heap.size W w2 := by
      first
        | exact (below_drew W).trans (hb.mono (Nat.le_refl _))
        | exact (below_alloc W _).drew.trans (hb.mono (by show W.heap.size ≤ (W.alloc _).heap.size; simp))
    clear hb hc hff
    go_wp2
    go_ret
    refine ⟨?_, ?_⟩
    · rw [show keyL 2 n ⟨#[]⟩ = [2] ++ beL 8 (bias n) from rfl, strB_append]
      rfl
    · first
        | exact below_on B0 hx
        | exact below_on B0 (below_on hx (below_alloc _ _))
end Go.Proofs.YtedlohapoafkjaaDoor
