/-
  Index: its tree, a pair's entry, what is done with one.
-/
import Derived.Test.YtjocopclgehciaaGreatDoorMAD
import Derived.Test.YtjocopclgehciaaGreatDoorMAW
import Derived.Test.YtjocopclgehciaaGreatDoorMAC
import Derived.Test.YtjocopclgehciaaGreatDoorMBA
namespace Go.Proofs.YtjocopclgehciaaGreatDoor
open Go.RowKit
open L4 (Ar ArP Abs arV nv)
open L3 (valV fits rightB keyL strB beL keyS keyE idS idE)

/-- An index's cell. -/
def IxC (w : World) (x : Nat) (v : Value) : Prop := w.heap[x]? = some (.cells #[v] 74 (0, 0))

theorem IxC.on {w w' : World} {x : Nat} {v : Value} (k : IxC w x v) (hb : Below w.heap.size w w') : IxC w' x v := (hb.block _ (Array.getElem?_eq_some_iff.1 k).1).trans k

/-- What the library's table of lengths holds stands. -/
def MxL (w : World) : Prop := 0 < w.heap.size ∧ ∃ m, w.cell? ⟨0, 0, none⟩ = some (.int .i64 m)

theorem MxL.on {w w' : World} (k : MxL w) (hb : Below w.heap.size w w') : MxL w' := by
  obtain ⟨h1, m, h2⟩ := k
  exact ⟨Nat.lt_of_lt_of_le h1 hb.size, m, (hb.cell (p := ⟨0, 0, none⟩) h1).trans h2⟩

set_option maxRecDepth 100000 in
theorem entries_nil (w : World) : Calls Tryz.prog 29 #[.pointer none] w fun e w' => e = .returned (.pointer none) ∧ Below w.heap.size w w' := by
  go_enter Tryz.func29, Tryz.ntmps29
  go_wp2
  go_ret
  exact ⟨rfl, Below.refl _ _⟩

set_option maxRecDepth 100000 in
theorem entries_ok {w : World} {x : Nat} {v : Value} (k : IxC w x v) : Calls Tryz.prog 29 #[.pointer (some ⟨x, 0, none⟩)] w fun e w' => e = .returned v ∧ Below w.heap.size w w' := by
  have c0 : w.cell? ⟨x, 0, none⟩ = some v := by rw [cell_of_row _ _ _ _ _ _ k]; rfl
  have cl := (Array.getElem?_eq_some_iff.1 k).1
  clear k
  go_enter Tryz.func29, Tryz.ntmps29
  go_wp2
  go_ret
  exact ⟨rfl, by first | exact Below.refl _ _ | exact (Below.refl _ _).drew⟩

/-- A pair that can be in an index. -/
def okP (k n : Int) (s : ByteArray) (id : Int) : Bool := rightB k n s && decide (0 ≤ id) && decide (id ≤ 1099511627776)

/-- A pair's entry. -/
def pk (k n : Int) (s : ByteArray) (id : Int) : ByteArray := strB (keyL k n s ++ beL 8 id.toNat)

theorem okP_iff {k n : Int} {s : ByteArray} {id : Int} : okP k n s id = true ↔ rightB k n s = true ∧ 0 ≤ id ∧ id ≤ 1099511627776 := by
  unfold okP
  simp [and_assoc]

theorem key_len {k n : Int} {s : ByteArray} (h : rightB k n s = true) : 1 ≤ (keyL k n s).length ∧ (keyL k n s).length ≤ 60 := by
  rcases L3.right_cases h with ⟨rfl, rfl, rfl⟩ | ⟨rfl, rfl | rfl, rfl⟩ | ⟨rfl, rfl⟩ | ⟨rfl, rfl, hs⟩
  · exact ⟨by decide, by decide⟩
  · exact ⟨by decide, by decide⟩
  · exact ⟨by decide, by decide⟩
  · have : keyL 2 n ⟨#[]⟩ = 2 :: beL 8 (L3.bias n) := rfl
    rw [this, List.length_cons, L3.beL_length]
    omega
  · have : keyL 3 0 s = 3 :: L3.textK s.data.toList := rfl
    rw [this, List.length_cons]
    have h2 := L3.each_length 0 [0, 255] s.data.toList (by decide)
    have h3 : s.data.toList.length = s.size := rfl
    unfold L3.textK
    rw [List.length_append]
    simp at h2 ⊢
    omega

theorem keyS_size (k n : Int) (s : ByteArray) : (keyS k n s).size ≤ 60 := by
  unfold keyS
  split
  · rename_i h
    exact (key_len h).2
  · decide

/-- What is done with a pair's entry. -/
def Withed (k n : Int) (s : ByteArray) (id : Int) (R : Int → World → World → Prop) (w : World) (c : Int) (w' : World) : Prop :=
  (okP k n s id = false ∧ c = 15 ∧ Below w.heap.size w w') ∨ (okP k n s id = true ∧ ∃ W, Below w.heap.size w W ∧ R c W w')

set_option maxRecDepth 100000 in
set_option maxHeartbeats 1000000 in
theorem with_ok {g : FuncId} (hg : ∀ args w, (callFunc g args).run Tryz.prog w = .ok (.enter g args) w) {r : Value} {k n : Int} {s : ByteArray} {id : Int} {w : World} (hn : fits n = true) (hx : MxL w) {R : Int → World → World → Prop}
    (h : ∀ W, Below w.heap.size w W → Calls Tryz.prog g #[r, .string (pk k n s id)] W fun e w' => ∃ c, e = .returned (.int .i64 c) ∧ R c W w') :
    Calls Tryz.prog 28 #[valV k n s, .int .i64 id, .func (.func g) #[r] #[]] w fun e w' => ∃ c, e = .returned (.int .i64 c) ∧ Withed k n s id R w c w' := by
  have HH := thid h
  have HB0 := thid (tbelow w (.cells #[.int .i64 k, .int .i64 n, .string s] 37))
  obtain ⟨m1, m, m2⟩ := hx.on HB0.out
  have HK := thid (L3.key_walk k n s hn m _ m1 m2)
  clear h m1 m2 hx
  unfold valV at HK ⊢
  go_enter Tryz.func28, Tryz.ntmps28
  go_wp2_with fail
  refine HK.out.mono ?_
  rintro e w1 ⟨rfl, B1⟩
  have HB1 := thid (tbelow_on HB0.out B1)
  clear HK B1 HB0
  by_cases hr : rightB k n s = true
  · have e1 : keyS k n s = strB (keyL k n s) := by unfold keyS; rw [if_pos hr]
    have e2 : keyE k n s = 0 := by unfold keyE; rw [if_pos hr]
    rw [e1, e2]
    clear e1 e2
    have HI := thid (L3.id_walk id w1)
    go_wp2_with fail
    refine HI.out.mono ?_
    rintro e w2 ⟨rfl, B2⟩
    have HB2 := thid (tbelow_on HB1.out B2)
    clear HI B2 HB1
    by_cases hi : id < 0 ∨ 1099511627776 < id
    · have e1 : idS id = ⟨#[]⟩ := by unfold idS; rw [if_pos hi]
      have e2 : idE id = 15 := by unfold idE; rw [if_pos hi]
      rw [e1, e2]
      have hok : okP k n s id = false := by
        rw [← Bool.not_eq_true, okP_iff]
        omega
      have HF : Hid (Withed k n s id R w 15 w2) := Or.inl ⟨hok, rfl, HB2.out⟩
      clear e1 e2 HB2 hi hok
      go_wp2
      go_ret
      exact ⟨15, rfl, HF.out⟩
    · have e1 : idS id = strB (beL 8 id.toNat) := by unfold idS; rw [if_neg hi]
      have e2 : idE id = 0 := by unfold idE; rw [if_neg hi]
      rw [e1, e2]
      have hok : okP k n s id = true := by
        rw [okP_iff]
        exact ⟨hr, by omega, by omega⟩
      have HC := thid (HH.out w2 HB2.out)
      unfold pk at HC
      rw [L3.strB_append] at HC
      have HOK := thid hok
      have z1 : (strB (keyL k n s)).size ≤ 60 := (key_len hr).2
      have z2 : (strB (beL 8 id.toNat)).size = 8 := L3.beL_length _ _
      clear e1 e2 hok hi HH hr
      generalize strB (keyL k n s) = s1 at *
      generalize strB (beL 8 id.toNat) = s2 at *
      go_wp2_with fail
      refine HC.out.mono ?_
      rintro e w3 ⟨c, rfl, hR⟩
      have HF : Hid (Withed k n s id R w c w3) := Or.inr ⟨HOK.out, w2, HB2.out, hR⟩
      clear hR HC HB2 HOK
      go_wp2
      go_ret
      exact ⟨c, rfl, HF.out⟩
  · have e1 : keyS k n s = ⟨#[]⟩ := by unfold keyS; rw [if_neg hr]
    have e2 : keyE k n s = 15 := by unfold keyE; rw [if_neg hr]
    rw [e1, e2]
    have hok : okP k n s id = false := by
      rw [← Bool.not_eq_true, okP_iff]
      exact fun h => hr h.1
    have HF : Hid (Withed k n s id R w 15 w1) := Or.inl ⟨hok, rfl, HB1.out⟩
    clear e1 e2 HB1 hr hok
    go_wp2
    go_ret
    exact ⟨15, rfl, HF.out⟩
end Go.Proofs.YtjocopclgehciaaGreatDoor
/-
  Index: where the entries of a bound begin or end, the pair of an entry; Each, with any function.
-/
namespace Go.Proofs.YtjocopclgehciaaGreatDoor
open Go.RowKit
open L4 (Ar ArP Abs arV nv)
open L3 (valV fits rightB keyL strB beL keyS keyE idS idE nextL rdV restS readE unidN unidE readV)

/-- A bound, as it is handed over. -/
structure Bd where
  has : Bool
  incl : Bool
  k : Int
  n : Int
  s : ByteArray

def Bd.v (b : Bd) : Value := .agg #[.bool b.has, .bool b.incl, .int .i64 b.k, .int .i64 b.n, .string b.s]

def Bd.edgeS (b : Bd) (behind : Bool) : ByteArray := if b.has then (if behind then strB (nextL (keyS b.k b.n b.s).data.toList) else keyS b.k b.n b.s) else ⟨#[]⟩
def Bd.edgeE (b : Bd) : Int := if b.has then keyE b.k b.n b.s else 0

set_option maxRecDepth 100000 in
set_option maxHeartbeats 1000000 in
theorem edge_ok {b : Bd} {behind : Bool} {w : World} (hn : fits b.n = true) (hx : MxL w) :
    Calls Tryz.prog 57 #[b.v, .bool behind] w fun e w' => e = .returned (.tuple #[.string (b.edgeS behind), .int .i64 b.edgeE]) ∧ Below w.heap.size w w' := by
  obtain ⟨has, incl, k, n, s⟩ := b
  have HB1 := thid (tbelow w (.cells #[.bool has, .bool incl, .int .i64 k, .int .i64 n, .string s] 39))
  obtain ⟨m1, m, m2⟩ := hx.on HB1.out
  have HK := thid (L3.key_walk k n s hn m _ m1 m2)
  clear m1 m2 hx
  unfold Bd.v Bd.edgeS Bd.edgeE
  dsimp only at hn ⊢
  unfold valV at HK
  cases has with
  | false =>
    go_enter Tryz.func57, Tryz.ntmps57
    go_wp2
    go_ret2
    exact ⟨rfl, HB1.out⟩
  | true =>
    have hsz := keyS_size k n s
    go_enter Tryz.func57, Tryz.ntmps57
    go_wp2_with fail
    refine HK.out.mono ?_
    rintro e w1 ⟨rfl, B1⟩
    have HB2 := thid (tbelow_on HB1.out B1)
    have HN := thid (L3.next_walk (keyS k n s) (by unfold maxLen; omega) w1)
    clear B1 HK HB1
    generalize hky : keyS k n s = ky at *
    generalize hke : keyE k n s = ke at *
    have HKY := thid hky
    have HKE := thid hke
    clear hky hke
    cases behind with
    | false =>
      clear HN
      go_wp2
      go_ret2
      exact ⟨by have h1 := HKY.out; have h2 := HKE.out; subst h1; subst h2; rfl, HB2.out⟩
    | true =>
      go_wp2_with fail
      refine HN.out.mono ?_
      rintro e w2 ⟨rfl, B2⟩
      have HB3 := thid (tbelow_on HB2.out B2)
      clear HN B2 HB2
      go_wp2
      go_ret2
      exact ⟨by have h1 := HKY.out; have h2 := HKE.out; subst h1; subst h2; rfl, HB3.out⟩

/-- The pair of an entry. -/
def enE (x : ByteArray) : Bool := (readE x == 0) && (unidE (restS x) == 0)
def enI (x : ByteArray) : Int := unidN (restS x)

theorem ba_size (s : ByteArray) : s.data.toList.length = s.size := rfl

theorem restS_size (x : ByteArray) : (restS x).size ≤ x.size := by
  unfold restS
  split
  · exact Nat.zero_le _
  · show (List.drop _ _).length ≤ _
    rw [List.length_drop, ba_size]
    omega

set_option maxRecDepth 100000 in
set_option maxHeartbeats 1000000 in
theorem iread_ok {x : ByteArray} (hs : x.size ≤ 5000) (w : World) :
    Calls Tryz.prog 60 #[.string x] w fun e w' => e = .returned (.tuple #[rdV x.data.toList, .int .i64 (enI x), .bool (enE x)]) ∧ Below w.heap.size w w' := by
  unfold enE enI
  go_enter Tryz.func60, Tryz.ntmps60
  go_wp2_with fail
  refine (L3.read_walk x (by omega) _).mono ?_
  rintro e w1 ⟨rfl, B1⟩
  have hB := tbelow_on (tbelow w _) B1
  have A1 := (L3.boxed_new w 0 0 ⟨#[]⟩ 37).below B1
  have hf : ∀ o, w1.frozen? ⟨w.heap.size, o, none⟩ = false := fun o => by rw [B1.frozen (by simp)]; exact L3.frozen_new w _ _ o
  unfold rdV valV
  have HB := thid hB
  clear hB B1
  have r0 : w.heap.size < w1.heap.size := A1.1
  obtain ⟨a1, a2, a3, rs, re, HE⟩ : ∃ a1 a2 a3 rs re, Hid ((readV x.data.toList).1 = a1 ∧ (readV x.data.toList).2.1 = a2 ∧ strB (readV x.data.toList).2.2 = a3 ∧ restS x = rs ∧ readE x = re) := ⟨_, _, _, _, _, rfl, rfl, rfl, rfl, rfl⟩
  rw [HE.out.1, HE.out.2.1, HE.out.2.2.1, HE.out.2.2.2.1, HE.out.2.2.2.2]
  go_wp2_with fail
  refine (L3.unid_walk _ _).mono ?_
  rintro e w2 ⟨rfl, B2⟩
  have hB2 := tbelow_on (tbelow w1 (.cells #[.int .i64 a1, .int .i64 a2, .string a3] 37)) B2
  obtain ⟨hz, c0, c1, c2⟩ := A1.below hB2
  obtain ⟨vz, v0, v1, v2⟩ := (L3.boxed_new w1 a1 a2 a3 37).below B2
  have hf2 : ∀ o, w2.frozen? ⟨w.heap.size, o, none⟩ = false := fun o => by rw [hB2.frozen r0]; exact hf o
  have HB2 := thid (tbelow_on HB.out hB2)
  clear hB2 B2 A1 hf
  obtain ⟨ue, un, HU⟩ : ∃ ue un, Hid (unidE rs = ue ∧ unidN rs = un) := ⟨_, _, rfl, rfl⟩
  rw [HU.out.1, HU.out.2]
  cases h1 : (re == 0) with
  | false =>
    go_wp2
    refine bodyPost_ret (v := .tuple #[.agg #[.int .i64 a1, .int .i64 a2, .string a3], .int .i64 un, .bool false]) (by simp [results, Tryz.results60, go_sem, c0, c1, c2]) rfl ⟨?_, L3.below_store3 HB2.out _ _ _⟩
    obtain ⟨rfl, rfl, rfl, rfl, rfl⟩ := HE.out
    obtain ⟨rfl, rfl⟩ := HU.out
    rw [h1]
    rfl
  | true =>
    go_wp2
    refine bodyPost_ret (v := .tuple #[.agg #[.int .i64 a1, .int .i64 a2, .string a3], .int .i64 un, .bool (ue == 0)]) (by simp [results, Tryz.results60, go_sem, c0, c1, c2]) rfl ⟨?_, L3.below_store3 HB2.out _ _ _⟩
    obtain ⟨rfl, rfl, rfl, rfl, rfl⟩ := HE.out
    obtain ⟨rfl, rfl⟩ := HU.out
    rw [h1]
    rfl

/-- A function that is told pairs. -/
structure PFed {σ γ : Type} (D : L4.St σ) (ct : σ → γ) (pf : γ → Int → Int → ByteArray → Int → γ × Bool) (wg : γ → Nat) (M : Nat) (gf : FuncId) (cf : Array Value) : Prop where
  gt : ∀ args w, (callFunc gf args).run Tryz.prog w = .ok (.enter gf args) w
  call : ∀ (c : σ) (W : World) (k n : Int) (s : ByteArray) (id : Int), D.P c W → wg (ct c) + 1 ≤ M → Calls Tryz.prog gf (#[valV k n s, .int .i64 id] ++ cf) W fun e W' => e = .returned (.bool (pf (ct c) k n s id).2) ∧ ∃ c', D.P c' W' ∧ ct c' = (pf (ct c) k n s id).1 ∧ L4.Moves D c c' W W'
  wgs : ∀ (c : γ) (k n : Int) (s : ByteArray) (id : Int), wg (pf c k n s id).1 ≤ wg c + 1

/-- A function's state, and the variable that holds it. -/
def boxSt {σ : Type} (D : L4.St σ) (b : Nat) (fv : Value) : L4.St σ where
  own c q := D.own c q ∨ q = b
  P c W := D.P c W ∧ W.heap[b]? = some (.cells #[fv] 78 (0, 0)) ∧ ¬ D.own c b
  keep c w w' h hk hp := ⟨D.keep c w w' h.1 (fun q hq => hk q (Or.inl hq)) hp, (hk b (Or.inr rfl)).trans h.2.1, h.2.2⟩
  lt c w q h hq := by
    rcases hq with hq | rfl
    · exact D.lt c w q h.1 hq
    · exact (Array.getElem?_eq_some_iff.1 h.2.1).1
  tag c w q cs h hq := by
    rcases hq with hq | rfl
    · exact D.tag c w q cs h.1 hq
    · intro e
      rw [h.2.1] at e
      simp at e

theorem box_moves {σ : Type} {D : L4.St σ} {b : Nat} {fv : Value} {c c' : σ} {W W' : World} (h : (boxSt D b fv).P c W) (hp : D.P c' W') (hm : L4.Moves D c c' W W') : (boxSt D b fv).P c' W' ∧ L4.Moves (boxSt D b fv) c c' W W' := by
  obtain ⟨h1, h2, h3⟩ := h
  have kl := (Array.getElem?_eq_some_iff.1 h2).1
  refine ⟨⟨hp, (hm.only.block b kl h3).trans h2, fun x => ?_⟩, hm.only.weaken fun _ _ y => Or.inl y, fun q hq => ?_⟩
  · rcases hm.own b x with x | x
    · exact h3 x
    · omega
  · rcases hq with hq | hq
    · exact (hm.own q hq).imp Or.inl id
    · exact Or.inl (Or.inr hq)

/-- What a function that is told pairs makes of an entry. -/
def phiP {γ : Type} (pf : γ → Int → Int → ByteArray → Int → γ × Bool) (g : γ) (x : ByteArray) : γ × Bool :=
  if enE x then pf g (readV x.data.toList).1 (readV x.data.toList).2.1 (strB (readV x.data.toList).2.2) (enI x) else (g, true)

section
variable {σ γ : Type} {D : L4.St σ} {ct : σ → γ} {pf : γ → Int → Int → ByteArray → Int → γ × Bool} {wg : γ → Nat} {M : Nat} {gf : FuncId} {cf : Array Value}

set_option maxRecDepth 100000 in
set_option maxHeartbeats 1000000 in
theorem each1_ok (F : PFed D ct pf wg M gf cf) {b : Nat} {c : σ} {W : World} {x : ByteArray} (hP : (boxSt D b (.func (.func gf) #[] cf)).P c W) (hM : wg (ct c) + 1 ≤ M) (hs : x.size ≤ 5000) :
    Calls Tryz.prog 59 #[.string x, .pointer (some ⟨b, 0, none⟩)] W fun e W' => e = .returned (.bool (phiP pf (ct c) x).2) ∧ ∃ c', (boxSt D b (.func (.func gf) #[] cf)).P c' W' ∧ ct c' = (phiP pf (ct c) x).1 ∧ L4.Moves (boxSt D b (.func (.func gf) #[] cf)) c c' W W' := by
  have HR := thid (iread_ok hs W)
  have HP := thid hP
  have HF := thid F
  have hgt := F.gt
  clear hP F
  unfold rdV at HR
  unfold valV at HR
  go_enter Tryz.func59, Tryz.ntmps59
  go_wp2_with fail
  refine HR.out.mono ?_
  rintro e w1 ⟨rfl, B1⟩
  have HB1 := thid (tbelow_on B1 (tbelow w1 (.cells #[.int .i64 (readV x.data.toList).1, .int .i64 (readV x.data.toList).2.1, .string (strB (readV x.data.toList).2.2)] 37)))
  clear HR B1
  have HP1 := thid ((boxSt D b (.func (.func gf) #[] cf)).below HP.out HB1.out)
  have HC := thid (HF.out.call c _ (readV x.data.toList).1 (readV x.data.toList).2.1 (strB (readV x.data.toList).2.2) (enI x) HP1.out.1 hM)
  unfold valV at HC
  obtain ⟨a1, a2, a3, ei, ee, HE⟩ : ∃ a1 a2 a3 ei ee, Hid ((readV x.data.toList).1 = a1 ∧ (readV x.data.toList).2.1 = a2 ∧ strB (readV x.data.toList).2.2 = a3 ∧ enI x = ei ∧ enE x = ee) := ⟨_, _, _, _, _, rfl, rfl, rfl, rfl, rfl⟩
  rw [HE.out.1, HE.out.2.1, HE.out.2.2.1, HE.out.2.2.2.1] at HC
  rw [HE.out.1, HE.out.2.1, HE.out.2.2.1] at HP1 HB1
  rw [HE.out.1, HE.out.2.1, HE.out.2.2.1, HE.out.2.2.2.1, HE.out.2.2.2.2]
  have bl := (Array.getElem?_eq_some_iff.1 HP1.out.2.1).1
  have b0 : (w1.alloc (.cells #[.int .i64 a1, .int .i64 a2, .string a3] 37)).cell? ⟨b, 0, none⟩ = some (.func (.func gf) #[] cf) := by rw [cell_of_row _ _ _ _ _ _ HP1.out.2.1]; rfl
  cases ee with
  | false =>
    have HFI : Hid (∃ c', (boxSt D b (.func (.func gf) #[] cf)).P c' (w1.alloc (.cells #[.int .i64 a1, .int .i64 a2, .string a3] 37)) ∧ ct c' = ct c ∧ L4.Moves (boxSt D b (.func (.func gf) #[] cf)) c c' W (w1.alloc (.cells #[.int .i64 a1, .int .i64 a2, .string a3] 37))) := ⟨c, HP1.out, rfl, L4.Moves.below HB1.out⟩
    clear HC HP1 HP HF HB1
    go_wp2
    go_ret
    have hph : phiP pf (ct c) x = (ct c, true) := by
      unfold phiP
      rw [HE.out.2.2.2.2]
      rfl
    rw [hph]
    exact ⟨rfl, HFI.out⟩
  | true =>
    go_wp2_with fail
    refine HC.out.mono ?_
    rintro e w2 ⟨rfl, c', p2, e2, m2⟩
    have HFI : Hid (∃ c', (boxSt D b (.func (.func gf) #[] cf)).P c' w2 ∧ ct c' = (pf (ct c) a1 a2 a3 ei).1 ∧ L4.Moves (boxSt D b (.func (.func gf) #[] cf)) c c' W w2) := by
      obtain ⟨q1, q2⟩ := box_moves HP1.out p2 m2
      exact ⟨c', q1, e2, (L4.Moves.below HB1.out).trans q2⟩
    clear HC HP1 HP HF HB1 p2 e2 m2
    obtain ⟨res, HRS⟩ : ∃ res, Hid (pf (ct c) a1 a2 a3 ei = res) := ⟨_, rfl⟩
    rw [HRS.out]
    go_wp2
    go_ret
    have hph : phiP pf (ct c) x = res := by
      unfold phiP
      obtain ⟨e1, e2, e3, e4, e5⟩ := HE.out
      rw [e1, e2, e3, e4, e5, if_pos rfl, HRS.out]
    rw [hph]
    rw [HRS.out] at HFI
    exact ⟨rfl, HFI.out⟩

set_option maxRecDepth 100000 in
theorem each_fed (F : PFed D ct pf wg M gf cf) (b : Nat) : Fed (boxSt D b (.func (.func gf) #[] cf)) ct (phiP pf) wg M 59 #[] #[.pointer (some ⟨b, 0, none⟩)] where
  gt := fun _ _ => rfl
  call := fun c W x hP hM hs => each1_ok F hP hM hs
  wgs := fun c x => by
    unfold phiP
    split
    · exact F.wgs ..
    · simp
end
end Go.Proofs.YtjocopclgehciaaGreatDoor
/-
  Index: Each, with any function.
-/
namespace Go.Proofs.YtjocopclgehciaaGreatDoor
open Go.RowKit
open L4 (Ar ArP Abs arV nv)
open L3 (valV fits rightB keyL strB beL keyS keyE idS idE nextL rdV restS readE unidN unidE readV)

/-- What an Each makes of a state. -/
def Bd.told {γ : Type} (lo hi : Bd) (pf : γ → Int → Int → ByteArray → Int → γ × Bool) (es : List ByteArray) (g : γ) : γ :=
  if lo.edgeE = 0 ∧ hi.edgeE = 0 then (feed (hi.edgeS hi.incl) (phiP pf) (fromL (lo.edgeS (!lo.incl)) es) g).1 else g

section
variable {σ γ : Type} {D : L4.St σ} {ct : σ → γ} {pf : γ → Int → Int → ByteArray → Int → γ × Bool} {wg : γ → Nat} {M : Nat} {gf : FuncId} {cf : Array Value}

set_option maxRecDepth 100000 in
set_option maxHeartbeats 1000000 in
theorem ieach_ok (F : PFed D ct pf wg M gf cf) {s : Ar} {x t r h : Nat} {es : List ByteArray} {ps : List Nat} {c : σ} {lo hi : Bd} {w : World} (hI : IxC w x (.pointer (some ⟨t, 0, none⟩))) (hT : TW s t r h es ps w) (hx : MxL w) (hlo : fits lo.n = true) (hhi : fits hi.n = true) (hp : D.P c w) (d1 : ∀ q, D.own c q → ¬ s.own q) (d2 : ∀ q, D.own c q → q ≠ t) (hM : wg (ct c) + es.length + ps.length ≤ M) :
    Calls Tryz.prog 34 #[.pointer (some ⟨x, 0, none⟩), lo.v, hi.v, .func (.func gf) #[] cf] w fun e w' => e = .returned (.tuple #[]) ∧ ∃ c', D.P c' w' ∧ ct c' = lo.told hi pf es (ct c) ∧ L4.Moves D c c' w w' := by
  have HF := thid F
  have HI := thid hI
  have HT := thid hT
  have HP := thid hp
  have HD := thid (And.intro d1 d2)
  have HX := thid hx
  have HL := thid (fun W (b : Below w.heap.size w W) => edge_ok (b := lo) (behind := !lo.incl) hlo (hx.on b))
  have HH := thid (fun W (b : Below w.heap.size w W) => edge_ok (b := hi) (behind := hi.incl) hhi (hx.on b))
  clear hI hT hp d1 d2 hx F hlo hhi
  have hmf : ∀ (fn : Fn) (first cap : Array Value) (w : World), (Instr.makeFunc fn first cap).run Tryz.prog w = .ok (.func fn first cap) w := fun _ _ _ _ => rfl
  have hfe := fun (fn : Fn) (first cap : Array Value) (w : World) => eql_func_nil w 78 fn first cap Tryz.underlying78
  unfold Bd.v at HL HH ⊢
  go_enter Tryz.func34, Tryz.ntmps34
  go_wp2_with fail
  have HB0 := thid (tbelow_on (tbelow_on (tbelow w (.cells #[.bool lo.has, .bool lo.incl, .int .i64 lo.k, .int .i64 lo.n, .string lo.s] 39)) (tbelow _ (.cells #[.bool hi.has, .bool hi.incl, .int .i64 hi.k, .int .i64 hi.n, .string hi.s] 39))) (tbelow _ (.cells #[.func (.func gf) #[] cf] 78)))
  have g1 : (((w.alloc (.cells #[.bool lo.has, .bool lo.incl, .int .i64 lo.k, .int .i64 lo.n, .string lo.s] 39)).alloc (.cells #[.bool hi.has, .bool hi.incl, .int .i64 hi.k, .int .i64 hi.n, .string hi.s] 39)).alloc (.cells #[.func (.func gf) #[] cf] 78)).heap[w.heap.size + 1]? = some (.cells #[.bool hi.has, .bool hi.incl, .int .i64 hi.k, .int .i64 hi.n, .string hi.s] 39 (0, 0)) := by
    have h := heap_alloc_new (w.alloc (.cells #[.bool lo.has, .bool lo.incl, .int .i64 lo.k, .int .i64 lo.n, .string lo.s] 39)) (.cells #[.bool hi.has, .bool hi.incl, .int .i64 hi.k, .int .i64 hi.n, .string hi.s] 39)
    rw [show (w.alloc (.cells #[.bool lo.has, .bool lo.incl, .int .i64 lo.k, .int .i64 lo.n, .string lo.s] 39)).heap.size = w.heap.size + 1 by simp] at h
    exact ((tbelow _ (.cells #[.func (.func gf) #[] cf] 78)).block _ (by simp)).trans h
  have g2 : (((w.alloc (.cells #[.bool lo.has, .bool lo.incl, .int .i64 lo.k, .int .i64 lo.n, .string lo.s] 39)).alloc (.cells #[.bool hi.has, .bool hi.incl, .int .i64 hi.k, .int .i64 hi.n, .string hi.s] 39)).alloc (.cells #[.func (.func gf) #[] cf] 78)).heap[w.heap.size + 1 + 1]? = some (.cells #[.func (.func gf) #[] cf] 78 (0, 0)) := by
    have h := heap_alloc_new ((w.alloc (.cells #[.bool lo.has, .bool lo.incl, .int .i64 lo.k, .int .i64 lo.n, .string lo.s] 39)).alloc (.cells #[.bool hi.has, .bool hi.incl, .int .i64 hi.k, .int .i64 hi.n, .string hi.s] 39)) (.cells #[.func (.func gf) #[] cf] 78)
    rw [show ((w.alloc (.cells #[.bool lo.has, .bool lo.incl, .int .i64 lo.k, .int .i64 lo.n, .string lo.s] 39)).alloc (.cells #[.bool hi.has, .bool hi.incl, .int .i64 hi.k, .int .i64 hi.n, .string hi.s] 39)).heap.size = w.heap.size + 1 + 1 by simp] at h
    exact h
  generalize ((w.alloc (.cells #[.bool lo.has, .bool lo.incl, .int .i64 lo.k, .int .i64 lo.n, .string lo.s] 39)).alloc (.cells #[.bool hi.has, .bool hi.incl, .int .i64 hi.k, .int .i64 hi.n, .string hi.s] 39)).alloc (.cells #[.func (.func gf) #[] cf] 78) = w0 at *
  refine (HL.out w0 HB0.out).mono ?_
  rintro e w1 ⟨rfl, B1⟩
  have g3 := (B1.block _ (Array.getElem?_eq_some_iff.1 g1).1).trans g1
  have g4 := (B1.block _ (Array.getElem?_eq_some_iff.1 g2).1).trans g2
  have HB1 := thid (tbelow_on HB0.out B1)
  clear g1 g2 HB0 B1 HL
  have y0 : w1.cell? ⟨w.heap.size + 1, 0, none⟩ = some (.bool hi.has) := by rw [cell_of_row _ _ _ _ _ _ g3]; rfl
  have y1 : w1.cell? ⟨w.heap.size + 1, 1, none⟩ = some (.bool hi.incl) := by rw [cell_of_row _ _ _ _ _ _ g3]; rfl
  have y2 : w1.cell? ⟨w.heap.size + 1, 2, none⟩ = some (.int .i64 hi.k) := by rw [cell_of_row _ _ _ _ _ _ g3]; rfl
  have y3 : w1.cell? ⟨w.heap.size + 1, 3, none⟩ = some (.int .i64 hi.n) := by rw [cell_of_row _ _ _ _ _ _ g3]; rfl
  have y4 : w1.cell? ⟨w.heap.size + 1, 4, none⟩ = some (.string hi.s) := by rw [cell_of_row _ _ _ _ _ _ g3]; rfl
  have yl := (Array.getElem?_eq_some_iff.1 g3).1
  obtain ⟨fr, le, HE1⟩ : ∃ fr le, Hid (lo.edgeS (!lo.incl) = fr ∧ lo.edgeE = le) := ⟨_, _, rfl, rfl⟩
  rw [HE1.out.1, HE1.out.2]
  have HG4 := thid g4
  clear g3 g4
  go_wp2_with fail
  refine (HH.out w1 HB1.out).mono ?_
  rintro e w2 ⟨rfl, B2⟩
  have HG5 := thid ((B2.block _ (Array.getElem?_eq_some_iff.1 HG4.out).1).trans HG4.out)
  have HB2 := thid (tbelow_on HB1.out B2)
  clear HB1 B2 HG4 HH y0 y1 y2 y3 y4 yl
  obtain ⟨tt, he, HE2⟩ : ∃ tt he, Hid (hi.edgeS hi.incl = tt ∧ hi.edgeE = he) := ⟨_, _, rfl, rfl⟩
  rw [HE2.out.1, HE2.out.2]
  have f0 : w2.cell? ⟨w.heap.size + 1 + 1, 0, none⟩ = some (.func (.func gf) #[] cf) := by rw [cell_of_row _ _ _ _ _ _ HG5.out]; rfl
  have fl := (Array.getElem?_eq_some_iff.1 HG5.out).1
  have HNO : Hid (le ≠ 0 ∨ he ≠ 0 → ∃ c', D.P c' w2 ∧ ct c' = lo.told hi pf es (ct c) ∧ L4.Moves D c c' w w2) := by
    intro hne
    refine ⟨c, D.below HP.out HB2.out, ?_, L4.Moves.below HB2.out⟩
    unfold Bd.told
    rw [HE1.out.2, HE2.out.2, if_neg (by omega)]
  cases h1 : (le != 0) with
  | true =>
    have HD2 := thid (HNO.out (Or.inl (by simpa using h1)))
    clear HNO HG5 HB2 f0
    go_wp2
    refine bodyPost_ret (v := .tuple #[]) (by simp [results, Tryz.results34, go_sem]) rfl ⟨rfl, HD2.out⟩
  | false =>
    cases h2 : (he != 0) with
    | true =>
      have HD2 := thid (HNO.out (Or.inr (by simpa using h2)))
      clear HNO HG5 HB2 f0
      go_wp2
      refine bodyPost_ret (v := .tuple #[]) (by simp [results, Tryz.results34, go_sem]) rfl ⟨rfl, HD2.out⟩
    | false =>
      clear HNO
      have HI2 := thid (entries_ok (HI.out.on HB2.out))
      go_wp2_with fail
      refine HI2.out.mono ?_
      rintro e w3 ⟨rfl, B3⟩
      have HB3 := thid (tbelow_on HB2.out B3)
      have HG6 := thid ((B3.block _ (Array.getElem?_eq_some_iff.1 HG5.out).1).trans HG5.out)
      clear HI2 B3 HB2 HG5 f0 fl
      have own1 : ∀ q, D.own c q → q < w.heap.size := fun q hq => D.lt c w q HP.out hq
      have own2 : ∀ q, s.own q → q < w.heap.size := fun q hq => L4.arSt.lt s w q HT.out.ar hq
      have tlt : t < w.heap.size := (Array.getElem?_eq_some_iff.1 HT.out.tr.blk).1
      have HEA := thid (each_any (fr := fr) (tt := tt) (each_fed HF.out (w.heap.size + 1 + 1)) (c := c) (HT.out.on HB3.out) ⟨D.below HP.out HB3.out, HG6.out, fun x => by have := own1 _ x; omega⟩ (fun q hq ho => by
          rcases hq with hq | hq
          · exact HD.out.1 q hq ho
          · have := own2 q ho; omega) (fun q hq => by
          rcases hq with hq | hq
          · exact HD.out.2 q hq
          · omega) hM)
      have HS := thid (And.intro h1 h2)
      clear own1 own2 h1 h2
      go_wp2_with fail
      refine HEA.out.mono ?_
      rintro e w4 ⟨rfl, c', p4, e4, m4⟩
      have HFI : Hid (∃ c', D.P c' w4 ∧ ct c' = lo.told hi pf es (ct c) ∧ L4.Moves D c c' w w4) := by
        refine ⟨c', p4.1, ?_, only_join (Only.of_below HB3.out) m4.only (fun q hq => ?_), fun q hq => ?_⟩
        · unfold Bd.told
          have a1 : le = 0 := by simpa using HS.out.1
          have a2 : he = 0 := by simpa using HS.out.2
          rw [HE1.out.2, HE2.out.2, if_pos ⟨a1, a2⟩, HE1.out.1, HE2.out.1]
          exact e4
        · rcases hq with hq | hq
          · exact Or.inl hq
          · exact Or.inr (by omega)
        · rcases m4.own q (Or.inl hq) with hq | hq
          · rcases hq with hq | hq
            · exact Or.inl hq
            · exact Or.inr (by omega)
          · exact Or.inr (Nat.le_trans HB3.out.size hq)
      clear HEA p4 e4 m4 HB3 HG6 HT HP
      go_wp2
      go_end0
      exact ⟨rfl, HFI.out⟩
end
end Go.Proofs.YtjocopclgehciaaGreatDoor
/-
  Index: First, and the law's Pairs, over whatever Each does.
-/
namespace Go.Proofs.YtjocopclgehciaaGreatDoor
open Go.RowKit
open L4 (Ar ArP Abs arV nv)
open L3 (valV fits rightB keyL strB beL keyS keyE idS idE nextL rdV restS readE unidN unidE readV)

/-- What Each does with a function of the call's own. -/
def EachC (v : Value) (lo hi : Bd) (es : List ByteArray) (w : World) : Prop :=
  ∀ (σ γ : Type) (D : L4.St σ) (ct : σ → γ) (pf : γ → Int → Int → ByteArray → Int → γ × Bool) (wg : γ → Nat) (M : Nat) (gf : FuncId) (cf : Array Value) (_ : PFed D ct pf wg M gf cf) (c : σ) (W : World), Below w.heap.size w W → D.P c W → (∀ q, D.own c q → w.heap.size ≤ q) → wg (ct c) + 9000 ≤ M →
    Calls Tryz.prog 34 #[v, lo.v, hi.v, .func (.func gf) #[] cf] W fun e w' => e = .returned (.tuple #[]) ∧ ∃ c', D.P c' w' ∧ ct c' = lo.told hi pf es (ct c) ∧ L4.Moves D c c' W w'

theorem eachC_ok {s : Ar} {x t r h : Nat} {es : List ByteArray} {ps : List Nat} {lo hi : Bd} {w : World} (hI : IxC w x (.pointer (some ⟨t, 0, none⟩))) (hT : TW s t r h es ps w) (hx : MxL w) (hlo : fits lo.n = true) (hhi : fits hi.n = true) (hM : es.length + ps.length ≤ 9000) : EachC (.pointer (some ⟨x, 0, none⟩)) lo hi es w := by
  intro σ γ D ct pf wg M gf cf F c W hb hp ho hM2
  exact ieach_ok F (hI.on hb) (hT.on hb) (hx.on hb) hlo hhi hp (fun q hq hs => by
    have := ho q hq
    have := L4.arSt.lt s w q hT.ar hs
    omega) (fun q hq => by
    have := ho q hq
    have := (Array.getElem?_eq_some_iff.1 hT.tr.blk).1
    omega) (by omega)

theorem EachC.on {v : Value} {lo hi : Bd} {es : List ByteArray} {w w' : World} (k : EachC v lo hi es w) (hb : Below w.heap.size w w') : EachC v lo hi es w' := by
  intro σ γ D ct pf wg M gf cf F c W hb' hp ho hM
  exact k σ γ D ct pf wg M gf cf F c W (tbelow_on hb hb') hp (fun q hq => Nat.le_trans hb.size (ho q hq)) hM

/-- Two variables: the least id, and whether there is one. -/
def fstSt (a b : Nat) : L4.St (Int × Bool) where
  own _ q := q = a ∨ q = b
  P c W := W.heap[a]? = some (.cells #[.int .i64 c.1] 3 (0, 0)) ∧ W.heap[b]? = some (.cells #[.bool c.2] 4 (0, 0))
  keep c w w' h hk _ := ⟨(hk a (Or.inl rfl)).trans h.1, (hk b (Or.inr rfl)).trans h.2⟩
  lt c w q h hq := by
    rcases hq with rfl | rfl
    · exact (Array.getElem?_eq_some_iff.1 h.1).1
    · exact (Array.getElem?_eq_some_iff.1 h.2).1
  tag c w q cs h hq := by
    intro e
    rcases hq with rfl | rfl
    · rw [h.1] at e; simp at e
    · rw [h.2] at e; simp at e

def pfF (_ : Int × Bool) (_ _ : Int) (_ : ByteArray) (id : Int) : (Int × Bool) × Bool := ((id, true), false)

set_option maxRecDepth 100000 in
set_option maxHeartbeats 1000000 in
theorem first1_ok {a b : Nat} {c : Int × Bool} {W : World} {k n : Int} {s : ByteArray} {id : Int} (hP : (fstSt a b).P c W) :
    Calls Tryz.prog 35 #[valV k n s, .int .i64 id, .pointer (some ⟨a, 0, none⟩), .pointer (some ⟨b, 0, none⟩)] W fun e W' => e = .returned (.bool false) ∧ (fstSt a b).P (id, true) W' ∧ L4.Moves (fstSt a b) c (id, true) W W' := by
  have HP := thid hP
  have hab : a ≠ b := tag_ne hP.1 hP.2 (by decide)
  have la := (Array.getElem?_eq_some_iff.1 hP.1).1
  have lb := (Array.getElem?_eq_some_iff.1 hP.2).1
  have fa : ∀ i, W.frozen? ⟨a, i, none⟩ = false := fun i => frozen_of_row _ _ _ _ _ hP.1
  have fb : ∀ i, W.frozen? ⟨b, i, none⟩ = false := fun i => frozen_of_row _ _ _ _ _ hP.2
  have ca : W.cell? ⟨a, 0, none⟩ = some (.int .i64 c.1) := by rw [cell_of_row _ _ _ _ _ _ hP.1]; rfl
  have cb : W.cell? ⟨b, 0, none⟩ = some (.bool c.2) := by rw [cell_of_row _ _ _ _ _ _ hP.2]; rfl
  clear hP
  unfold valV
  have HB := thid (tbelow ((W.setCell ⟨a, 0, none⟩ (.int .i64 id)).setCell ⟨b, 0, none⟩ (.bool true)) (.cells #[.int .i64 k, .int .i64 n, .string s] 37))
  have HF : Hid ((fstSt a b).P (id, true) (((W.setCell ⟨a, 0, none⟩ (.int .i64 id)).setCell ⟨b, 0, none⟩ (.bool true)).alloc (.cells #[.int .i64 k, .int .i64 n, .string s] 37)) ∧ L4.Moves (fstSt a b) c (id, true) W (((W.setCell ⟨a, 0, none⟩ (.int .i64 id)).setCell ⟨b, 0, none⟩ (.bool true)).alloc (.cells #[.int .i64 k, .int .i64 n, .string s] 37))) := by
    have b1 : (W.setCell ⟨a, 0, none⟩ (.int .i64 id)).heap[b]? = some (.cells #[.bool c.2] 4 (0, 0)) := (heap_setCell_other _ _ _ _ hab.symm).trans HP.out.2
    have h1 : ((W.setCell ⟨a, 0, none⟩ (.int .i64 id)).setCell ⟨b, 0, none⟩ (.bool true)).heap[a]? = some (.cells #[.int .i64 id] 3 (0, 0)) := (heap_setCell_other _ _ _ _ hab).trans (heap_setCell_same W a 0 _ _ _ HP.out.1)
    have h2 : ((W.setCell ⟨a, 0, none⟩ (.int .i64 id)).setCell ⟨b, 0, none⟩ (.bool true)).heap[b]? = some (.cells #[.bool true] 4 (0, 0)) := heap_setCell_same _ b 0 _ _ _ b1
    refine ⟨(fstSt a b).below ⟨h1, h2⟩ HB.out, ?_, fun q hq => Or.inl hq⟩
    exact (((Only.refl _ W).setCell (p := ⟨a, 0, none⟩) (Or.inr (Or.inl rfl)) _).setCell (p := ⟨b, 0, none⟩) (Or.inr (Or.inr rfl)) _).alloc _
  clear HP HB
  go_enter Tryz.func35, Tryz.ntmps35
  go_wp2_with fail
  go_ret
  exact ⟨rfl, HF.out⟩

set_option maxRecDepth 100000 in
theorem first_fed (a b : Nat) : PFed (fstSt a b) (fun c => c) pfF (fun _ => 0) 100000 35 #[.pointer (some ⟨a, 0, none⟩), .pointer (some ⟨b, 0, none⟩)] where
  gt := fun _ _ => rfl
  call := fun c W k n s id hP _ => by
    refine (first1_ok (k := k) (n := n) (s := s) (id := id) hP).mono ?_
    rintro e w' ⟨rfl, h1, h2⟩
    exact ⟨rfl, (id, true), h1, rfl, h2⟩
  wgs := fun _ _ _ _ _ => Nat.zero_le _

/-- A pair. -/
structure Pr where
  k : Int
  n : Int
  s : ByteArray
  id : Int

def pcs (l : List Pr) : List Value := l.flatMap fun p => [.int .i64 p.k, .int .i64 p.n, .string p.s, .int .i64 p.id]

theorem pcs_append (a b : List Pr) : pcs (a ++ b) = pcs a ++ pcs b := by simp [pcs]

theorem pcs_length (l : List Pr) : (pcs l).length = l.length * 4 := by
  induction l with
  | nil => rfl
  | cons v l ih =>
    show (pcs l).length + 1 + 1 + 1 + 1 = _
    rw [ih, List.length_cons]; omega

/-- Pairs under way: their variable in block o. -/
def prSt (o : Nat) : L4.St (Value × List Pr) where
  own b q := q = o ∨ b.1.ownBlock = some q
  P b W := W.heap[o]? = some (.cells #[b.1] 33 (0, 0)) ∧ W.ownsRow 0 49 4 b.1 b.2.length (pcs b.2)
  keep b w w' h hk _ := ⟨(hk o (Or.inl rfl)).trans h.1, L5.owns_of_block h.2 fun q hq => hk q (Or.inr hq)⟩
  lt b w q h hq := by
    rcases hq with rfl | hq
    · exact (Array.getElem?_eq_some_iff.1 h.1).1
    · exact (h.2.lt q hq).2
  tag b w q cs h hq := by
    intro e
    rcases hq with rfl | hq
    · rw [h.1] at e; simp at e
    · exact row_ne e h.2 (by decide) hq

def pfP (g : List Pr) (k n : Int) (s : ByteArray) (id : Int) : List Pr × Bool := (g ++ [⟨k, n, s, id⟩], true)

theorem append4 {ops : Array Oper} {rest : List Oper} {o : Oper} {a : Act} {Q : Exit → Act → World → Prop} {W1 : World} (hinfo : (Tryz.prog.info? 49).map (fun i => (i.zero, i.size, i.bytes)) = some (some (.agg #[.int .i64 0, .int .i64 0, .string ⟨#[]⟩, .int .i64 0]), 4, 40)) (hgd : o.guard = none) (base : Nat) (hbase : base ≤ W1.heap.size) (s x : Operand) (ho : o.op = .call { callee := .builtin .append, args := #[s, x], argTypes := #[33, 33] })
    (v : Value) (l : List Pr) (p : Pr) (hs : a.eval s = v) (h : W1.ownsRow base 49 4 v l.length (pcs l)) (hn : l.length ≤ 100000) (ad cap : Nat) (hx : a.eval x = .slice (some ⟨ad, 0, none⟩) 1 cap) (hc : ∀ j u, (pcs [p])[j]? = some u → W1.cell? ((⟨ad, 0, none⟩ : Addr).add j) = some u)
    (hK : ∀ v' W', W'.ownsRow base 49 4 v' (l.length + 1) (pcs (l ++ [p])) → W1.grownBy W' v.ownBlock → (∀ k, v'.ownBlock = some k → v.ownBlock = some k ∨ W1.heap.size ≤ k) → wpList Tryz.prog ops Q rest (a.put o.dst v') W') : wpList Tryz.prog ops Q (o :: rest) a W1 := by
  obtain ⟨i, hi, hz⟩ := Option.map_eq_some_iff.1 hinfo
  simp only [Prod.mk.injEq] at hz
  obtain ⟨h3, h4, h5⟩ := hz
  refine wpList_append_own_at (P := Tryz.prog) W1 hgd s x 33 ho base 49 i _ 4 40 Tryz.underlying33 hi h3 h4 h5 rfl (by decide) v l.length (pcs l) hs h ⟨ad, 0, none⟩ 1 cap (pcs [p]) hx (by simp [pcs]) hc (fun u hu => ?_) (by unfold maxLen; omega) (by omega) hbase (fun v' W' hown hg _ hat => ?_)
  · simp [pcs] at hu
    rcases hu with rfl | rfl | rfl | rfl <;> rfl
  · refine hK v' W' (by rw [pcs_append]; exact hown) hg fun k hk => ?_
    rcases hat with hat | hat
    · rw [hat] at hk; exact Or.inl hk
    · rw [hat] at hk; cases hk; exact Or.inr (Nat.le_refl _)

set_option maxRecDepth 100000 in
set_option maxHeartbeats 1000000 in
theorem pairs1_ok {o : Nat} {v : Value} {xs : List Pr} {w : World} {k n : Int} {s : ByteArray} {id : Int} (hk : (prSt o).P (v, xs) w) (hx : xs.length ≤ 100000) :
    Calls Tryz.prog 38 #[valV k n s, .int .i64 id, .pointer (some ⟨o, 0, none⟩)] w fun e w' => e = .returned (.bool true) ∧ ∃ v', (prSt o).P (v', xs ++ [⟨k, n, s, id⟩]) w' ∧ L4.Moves (prSt o) (v, xs) (v', xs ++ [⟨k, n, s, id⟩]) w w' := by
  have HK := thid hk
  have ol := (Array.getElem?_eq_some_iff.1 hk.1).1
  have c0 : w.cell? ⟨o, 0, none⟩ = some v := by rw [cell_of_row _ _ _ _ _ _ hk.1]; rfl
  have hf : ∀ i, w.frozen? ⟨o, i, none⟩ = false := fun i => frozen_of_row _ _ _ _ _ hk.1
  have k2 : w.ownsRow 0 49 4 v xs.length (pcs xs) := hk.2
  obtain ⟨va, vc, rfl⟩ := own_slice k2
  clear hk k2
  unfold valV
  go_enter Tryz.func38, Tryz.ntmps38
  go_wp2_with (first
    | (at_builtin
       revert HK)
    | fail)
  intro HK
  have HB1 := thid (tbelow_on (tbelow w (.cells #[.int .i64 k, .int .i64 n, .string s] 37)) (tbelow _ (.cells #[.int .i64 k, .int .i64 n, .string s, .int .i64 id] 49)))
  have HK1 := thid ((prSt o).below HK.out HB1.out)
  refine append4 (by kernel_rfl) rfl 0 (Nat.zero_le _) _ _ rfl (.slice va xs.length vc) xs ⟨k, n, s, id⟩ rfl HK1.out.2 hx (w.heap.size + 1) 1 rfl (fun j u hj => ?_) ?_
  · rw [Addr.add_lit, Nat.zero_add]
    have hn := heap_alloc_new (w.alloc (.cells #[.int .i64 k, .int .i64 n, .string s] 37)) (.cells #[.int .i64 k, .int .i64 n, .string s, .int .i64 id] 49)
    rw [show (w.alloc (.cells #[.int .i64 k, .int .i64 n, .string s] 37)).heap.size = w.heap.size + 1 by simp] at hn
    rw [cell_of_row _ _ _ _ _ _ hn]
    simpa [pcs] using hj
  intro v' w5 hown hg hat
  have hno : (Value.slice va xs.length vc).ownBlock ≠ some o := row_ne HK1.out.1 HK1.out.2 (by decide)
  have b5 : w5.heap[o]? = some (.cells #[.slice va xs.length vc] 33 (0, 0)) := (hg.block o (Nat.lt_of_lt_of_le ol HB1.out.size) (fun e => hno e.symm)).trans HK1.out.1
  have c5 : w5.cell? ⟨o, 0, none⟩ = some (.slice va xs.length vc) := by rw [cell_of_row _ _ _ _ _ _ b5]; rfl
  have f5 : ∀ i, w5.frozen? ⟨o, i, none⟩ = false := fun i => frozen_of_row _ _ _ _ _ b5
  have l5 := (Array.getElem?_eq_some_iff.1 b5).1
  obtain ⟨ad, cp, rfl⟩ := own_slice hown
  have HF : Hid ((prSt o).P (.slice ad (xs.length + 1) cp, xs ++ [⟨k, n, s, id⟩]) (w5.setCell ⟨o, 0, none⟩ (.slice ad (xs.length + 1) cp)) ∧ L4.Moves (prSt o) (.slice va xs.length vc, xs) (.slice ad (xs.length + 1) cp, xs ++ [⟨k, n, s, id⟩]) w (w5.setCell ⟨o, 0, none⟩ (.slice ad (xs.length + 1) cp))) := by
    refine ⟨⟨heap_setCell_same w5 o 0 _ _ _ b5, ?_⟩, ⟨hg.os.trans HB1.out.os, hg.tape.trans HB1.out.tape, hg.output.trans HB1.out.output, ?_, fun q hq hs => ?_⟩, fun q hq => ?_⟩
    · have h1 := ownsRow_setCell_other hown (a := ⟨o, 0, none⟩) (row_ne b5 hown (by decide)) (.slice ad (xs.length + 1) cp)
      show World.ownsRow _ 0 49 4 (.slice ad (xs.length + 1) cp) (xs ++ [(⟨k, n, s, id⟩ : Pr)]).length (pcs (xs ++ [(⟨k, n, s, id⟩ : Pr)]))
      rw [List.length_append]
      exact h1
    · have z1 := HB1.out.size; have z2 := hg.size; simp [World.setCell]; omega
    · rw [heap_setCell_other _ _ _ _ (fun e => hs (Or.inl e)), hg.block q (Nat.lt_of_lt_of_le hq HB1.out.size) (fun e => hs (Or.inr e.symm)), HB1.out.block q hq]
    · rcases hq with hq | hq
      · exact Or.inl (Or.inl hq)
      · rcases hat q hq with hq | hq
        · exact Or.inl (Or.inr hq)
        · exact Or.inr (Nat.le_trans HB1.out.size hq)
  clear hown hg hat b5 HK HK1 HB1 c0 hf
  go_wp2
  go_ret
  exact ⟨rfl, _, HF.out⟩

set_option maxRecDepth 100000 in
theorem pairs_fed (o : Nat) : PFed (prSt o) (fun b => b.2) pfP List.length 100000 38 #[.pointer (some ⟨o, 0, none⟩)] where
  gt := fun _ _ => rfl
  call := fun c W k n s id hP hM => by
    obtain ⟨v, xs⟩ := c
    refine (pairs1_ok (k := k) (n := n) (s := s) (id := id) hP (by have : xs.length + 1 ≤ 100000 := hM; omega)).mono ?_
    rintro e w' ⟨rfl, v', h1, h2⟩
    exact ⟨rfl, (v', _), h1, rfl, h2⟩
  wgs := fun c k n s id => by simp [pfP]

set_option maxRecDepth 100000 in
set_option maxHeartbeats 1000000 in
theorem pairs_ok {v : Value} {lo hi : Bd} {es : List ByteArray} {w : World} (hE : EachC v lo hi es w) :
    Calls Tryz.prog 17 #[v, lo.v, hi.v] w fun e w' => ∃ a c, e = .returned (.slice a (lo.told hi pfP es []).length c) ∧ w'.ownsRow w.heap.size 49 4 (.slice a (lo.told hi pfP es []).length c) (lo.told hi pfP es []).length (pcs (lo.told hi pfP es [])) ∧ Below w.heap.size w w' := by
  obtain ⟨W, HW⟩ : ∃ W, Hid (((w.alloc (.cells #[.bool lo.has, .bool lo.incl, .int .i64 lo.k, .int .i64 lo.n, .string lo.s] 39)).alloc (.cells #[.bool hi.has, .bool hi.incl, .int .i64 hi.k, .int .i64 hi.n, .string hi.s] 39)).alloc (.cells #[.slice none 0 0] 33) = W) := ⟨_, rfl⟩
  have HB0 : Hid (Below w.heap.size w W) := by
    rw [← HW.out]
    exact tbelow_on (tbelow_on (tbelow w _) (tbelow _ _)) (tbelow _ _)
  have hnew : W.heap[w.heap.size + 1 + 1]? = some (.cells #[.slice none 0 0] 33 (0, 0)) := by
    have h := heap_alloc_new ((w.alloc (.cells #[.bool lo.has, .bool lo.incl, .int .i64 lo.k, .int .i64 lo.n, .string lo.s] 39)).alloc (.cells #[.bool hi.has, .bool hi.incl, .int .i64 hi.k, .int .i64 hi.n, .string hi.s] 39)) (.cells #[.slice none 0 0] 33)
    rw [show ((w.alloc (.cells #[.bool lo.has, .bool lo.incl, .int .i64 lo.k, .int .i64 lo.n, .string lo.s] 39)).alloc (.cells #[.bool hi.has, .bool hi.incl, .int .i64 hi.k, .int .i64 hi.n, .string hi.s] 39)).heap.size = w.heap.size + 1 + 1 by simp, HW.out] at h
    exact h
  have own0 : ∀ q, (prSt (w.heap.size + 1 + 1)).own (.slice none 0 0, []) q → q = w.heap.size + 1 + 1 := fun q hq => by
    rcases hq with hq | hq
    · exact hq
    · simp [Value.ownBlock] at hq
  have HE := thid (hE _ _ (prSt (w.heap.size + 1 + 1)) _ _ _ _ _ _ (pairs_fed (w.heap.size + 1 + 1)) (.slice none 0 0, []) W HB0.out ⟨hnew, ⟨rfl, Or.inl ⟨rfl, rfl⟩⟩⟩ (fun q hq => by have := own0 q hq; omega) (by show 0 + 9000 ≤ 100000; omega))
  have hmf : ∀ (fn : Fn) (first cap : Array Value) (w : World), (Instr.makeFunc fn first cap).run Tryz.prog w = .ok (.func fn first cap) w := fun _ _ _ _ => rfl
  clear hE hnew
  unfold Bd.v at HE ⊢
  go_enter Tryz.func17, Tryz.ntmps17
  go_wp2_with fail
  rw [HW.out]
  refine HE.out.mono ?_
  rintro e w4 ⟨rfl, ⟨v', xs⟩, hp, hct, hm⟩
  have hxs : xs = lo.told hi pfP es [] := hct
  have c0 : w4.cell? ⟨w.heap.size + 1 + 1, 0, none⟩ = some v' := by rw [cell_of_row _ _ _ _ _ _ hp.1]; rfl
  have hp2 : w4.ownsRow 0 49 4 v' xs.length (pcs xs) := hp.2
  obtain ⟨a, c, rfl⟩ := own_slice hp2
  have HF : Hid (w4.ownsRow w.heap.size 49 4 (.slice a xs.length c) xs.length (pcs xs) ∧ Below w.heap.size w w4) := by
    have hz := HB0.out.size
    refine ⟨owns_raise hp.2 fun q hq => ?_, HB0.out.trans (hm.only.below HB0.out.size fun q hq x => ?_)⟩
    · rcases hm.own q (Or.inr hq) with hq | hq
      · have := own0 q hq; omega
      · omega
    · have := own0 q x; omega
  have HXS := thid hxs
  clear hp hm HE HB0 hct hxs hp2 own0 HW
  go_wp2
  go_ret
  rw [← HXS.out]
  exact ⟨a, c, rfl, HF.out⟩

set_option maxRecDepth 100000 in
set_option maxHeartbeats 1000000 in
theorem first_ok {v : Value} {k n : Int} {s : ByteArray} {es : List ByteArray} {w : World} (hE : EachC v ⟨true, true, k, n, s⟩ ⟨true, true, k, n, s⟩ es w) :
    Calls Tryz.prog 14 #[v, valV k n s] w fun e w' => e = .returned (.tuple #[.int .i64 ((⟨true, true, k, n, s⟩ : Bd).told ⟨true, true, k, n, s⟩ pfF es (0, false)).1, .bool ((⟨true, true, k, n, s⟩ : Bd).told ⟨true, true, k, n, s⟩ pfF es (0, false)).2]) ∧ Below w.heap.size w w' := by
  obtain ⟨W, HW⟩ : ∃ W, Hid ((((w.alloc (.cells #[.int .i64 k, .int .i64 n, .string s] 37)).alloc (.cells #[.bool true, .bool true, .int .i64 k, .int .i64 n, .string s] 39)).alloc (.cells #[.int .i64 0] 3)).alloc (.cells #[.bool false] 4) = W) := ⟨_, rfl⟩
  have HB0 : Hid (Below w.heap.size w W) := by
    rw [← HW.out]
    exact tbelow_on (tbelow_on (tbelow_on (tbelow w _) (tbelow _ _)) (tbelow _ _)) (tbelow _ _)
  have hnew : (fstSt (w.heap.size + 1 + 1) (w.heap.size + 1 + 1 + 1)).P (0, false) W := by
    have h := heap_alloc_new (((w.alloc (.cells #[.int .i64 k, .int .i64 n, .string s] 37)).alloc (.cells #[.bool true, .bool true, .int .i64 k, .int .i64 n, .string s] 39)).alloc (.cells #[.int .i64 0] 3)) (.cells #[.bool false] 4)
    have h2 := heap_alloc_new ((w.alloc (.cells #[.int .i64 k, .int .i64 n, .string s] 37)).alloc (.cells #[.bool true, .bool true, .int .i64 k, .int .i64 n, .string s] 39)) (.cells #[.int .i64 0] 3)
    have h3 := ((tbelow (((w.alloc (.cells #[.int .i64 k, .int .i64 n, .string s] 37)).alloc (.cells #[.bool true, .bool true, .int .i64 k, .int .i64 n, .string s] 39)).alloc (.cells #[.int .i64 0] 3)) (.cells #[.bool false] 4)).block _ (Array.getElem?_eq_some_iff.1 h2).1).trans h2
    rw [show ((w.alloc (.cells #[.int .i64 k, .int .i64 n, .string s] 37)).alloc (.cells #[.bool true, .bool true, .int .i64 k, .int .i64 n, .string s] 39)).heap.size = w.heap.size + 1 + 1 by simp, HW.out] at h3
    rw [show (((w.alloc (.cells #[.int .i64 k, .int .i64 n, .string s] 37)).alloc (.cells #[.bool true, .bool true, .int .i64 k, .int .i64 n, .string s] 39)).alloc (.cells #[.int .i64 0] 3)).heap.size = w.heap.size + 1 + 1 + 1 by simp, HW.out] at h
    exact ⟨h3, h⟩
  have HE := thid (hE _ _ (fstSt (w.heap.size + 1 + 1) (w.heap.size + 1 + 1 + 1)) _ _ _ _ _ _ (first_fed (w.heap.size + 1 + 1) (w.heap.size + 1 + 1 + 1)) (0, false) W HB0.out hnew (fun q hq => by
    rcases hq with hq | hq <;> omega) (by show 0 + 9000 ≤ 100000; omega))
  have hmf : ∀ (fn : Fn) (first cap : Array Value) (w : World), (Instr.makeFunc fn first cap).run Tryz.prog w = .ok (.func fn first cap) w := fun _ _ _ _ => rfl
  clear hE hnew
  unfold Bd.v at HE
  unfold valV
  go_enter Tryz.func14, Tryz.ntmps14
  go_wp2_with fail
  rw [HW.out]
  refine HE.out.mono ?_
  rintro e w4 ⟨rfl, ⟨i4, o4⟩, hp, hct, hm⟩
  have hct2 : ((i4, o4) : Int × Bool) = (⟨true, true, k, n, s⟩ : Bd).told ⟨true, true, k, n, s⟩ pfF es (0, false) := hct
  have c0 : w4.cell? ⟨w.heap.size + 1 + 1, 0, none⟩ = some (.int .i64 i4) := by rw [cell_of_row _ _ _ _ _ _ hp.1]; rfl
  have c1 : w4.cell? ⟨w.heap.size + 1 + 1 + 1, 0, none⟩ = some (.bool o4) := by rw [cell_of_row _ _ _ _ _ _ hp.2]; rfl
  have HF : Hid (Below w.heap.size w w4) := by
    have hz := HB0.out.size
    refine HB0.out.trans (hm.only.below HB0.out.size fun q hq x => ?_)
    rcases x with x | x <;> omega
  have HCT := thid hct2
  have l0 := (Array.getElem?_eq_some_iff.1 hp.1).1
  have l1 := (Array.getElem?_eq_some_iff.1 hp.2).1
  clear hp hm HE HB0 hct hct2 HW
  go_wp2_with fail
  go_quiet (fail)
  go_wp2
  go_ret2
  rw [← HCT.out]
  exact ⟨rfl, by first | exact HF.out | exact HF.out.drew | exact below_drewN HF.out _⟩
end Go.Proofs.YtjocopclgehciaaGreatDoor
/-
  Index: one that is over; Add and Cut.
-/
namespace Go.Proofs.YtjocopclgehciaaGreatDoor
open Go.RowKit
open L4 (Ar ArP Abs arV nv)
open L3 (valV fits rightB keyL strB beL keyS keyE idS idE nextL rdV restS readE unidN unidE readV)

/-- A pointer to an index that is over. -/
def IOv (w : World) (v : Value) : Prop := v = .pointer none ∨ ∃ x u, v = .pointer (some ⟨x, 0, none⟩) ∧ IxC w x u ∧ Ov w u

theorem IOv.on {w w' : World} {v : Value} (k : IOv w v) (hb : Below w.heap.size w w') : IOv w' v := by
  rcases k with k | ⟨x, u, e, k1, k2⟩
  · exact Or.inl k
  · exact Or.inr ⟨x, u, e, k1.on hb, k2.on hb⟩

theorem entries_ov {w : World} {v : Value} (k : IOv w v) : Calls Tryz.prog 29 #[v] w fun e w' => ∃ u, e = .returned u ∧ Ov w' u ∧ Below w.heap.size w w' := by
  rcases k with rfl | ⟨x, u, rfl, k1, k2⟩
  · refine (entries_nil w).mono ?_
    rintro e w' ⟨rfl, hb⟩
    exact ⟨_, rfl, Or.inl rfl, hb⟩
  · refine (entries_ok k1).mono ?_
    rintro e w' ⟨rfl, hb⟩
    exact ⟨_, rfl, k2.on hb, hb⟩

set_option maxRecDepth 100000 in
theorem ilen_ov {w : World} {v : Value} (k : IOv w v) : Calls Tryz.prog 18 #[v] w fun e w' => e = .returned (.int .i64 0) ∧ Below w.heap.size w w' := by
  have HH := thid (entries_ov k)
  clear k
  go_enter Tryz.func18, Tryz.ntmps18
  go_wp2_with fail
  refine HH.out.mono ?_
  rintro e w1 ⟨u, rfl, hu, B1⟩
  have HB1 := thid B1
  have HL := thid (len_ov hu)
  clear HH hu B1
  go_wp2_with fail
  refine HL.out.mono ?_
  rintro e w2 ⟨rfl, B2⟩
  have HB2 := thid (tbelow_on HB1.out B2)
  clear HL B2 HB1
  go_wp2
  go_ret
  exact ⟨rfl, HB2.out⟩

set_option maxRecDepth 100000 in
theorem iheight_ov {w : World} {v : Value} (k : IOv w v) : Calls Tryz.prog 24 #[v] w fun e w' => e = .returned (.int .i64 0) ∧ Below w.heap.size w w' := by
  have HH := thid (entries_ov k)
  clear k
  go_enter Tryz.func24, Tryz.ntmps24
  go_wp2_with fail
  refine HH.out.mono ?_
  rintro e w1 ⟨u, rfl, hu, B1⟩
  have HB1 := thid B1
  have HL := thid (height_ov hu)
  clear HH hu B1
  go_wp2_with fail
  refine HL.out.mono ?_
  rintro e w2 ⟨rfl, B2⟩
  have HB2 := thid (tbelow_on HB1.out B2)
  clear HL B2 HB1
  go_wp2
  go_ret
  exact ⟨rfl, HB2.out⟩

set_option maxRecDepth 100000 in
theorem ipages_ov {w : World} {v : Value} (k : IOv w v) : Calls Tryz.prog 20 #[v] w fun e w' => e = .returned (.slice none 0 0) ∧ Below w.heap.size w w' := by
  have HH := thid (entries_ov k)
  clear k
  go_enter Tryz.func20, Tryz.ntmps20
  go_wp2_with fail
  refine HH.out.mono ?_
  rintro e w1 ⟨u, rfl, hu, B1⟩
  have HB1 := thid B1
  have HL := thid (pages_ov hu)
  clear HH hu B1
  go_wp2_with fail
  refine HL.out.mono ?_
  rintro e w2 ⟨rfl, B2⟩
  have HB2 := thid (tbelow_on HB1.out B2)
  clear HL B2 HB1
  go_wp2
  go_ret
  exact ⟨rfl, HB2.out⟩

set_option maxRecDepth 100000 in
theorem idrop_ov {w : World} {v : Value} (k : IOv w v) : Calls Tryz.prog 23 #[v] w fun e w' => e = .returned (.int .i64 15) ∧ Below w.heap.size w w' := by
  have HH := thid (entries_ov k)
  clear k
  go_enter Tryz.func23, Tryz.ntmps23
  go_wp2_with fail
  refine HH.out.mono ?_
  rintro e w1 ⟨u, rfl, hu, B1⟩
  have HB1 := thid B1
  have HL := thid (drop_ov hu)
  clear HH hu B1
  go_wp2_with fail
  refine HL.out.mono ?_
  rintro e w2 ⟨rfl, B2⟩
  have HB2 := thid (tbelow_on HB1.out B2)
  clear HL B2 HB1
  go_wp2
  go_ret
  exact ⟨rfl, HB2.out⟩

set_option maxRecDepth 100000 in
theorem ilen_ok {w : World} {x t p r h l : Nat} (hI : IxC w x (.pointer (some ⟨t, 0, none⟩))) (k : TrC w t p r h l) : Calls Tryz.prog 18 #[.pointer (some ⟨x, 0, none⟩)] w fun e w' => e = .returned (.int .i64 (l : Int)) ∧ Below w.heap.size w w' := by
  have HH := thid (entries_ok hI)
  have HK := thid k
  clear hI k
  go_enter Tryz.func18, Tryz.ntmps18
  go_wp2_with fail
  refine HH.out.mono ?_
  rintro e w1 ⟨rfl, B1⟩
  have HB1 := thid B1
  have HL := thid (len_ok (HK.out.on B1))
  clear HH B1
  go_wp2_with fail
  refine HL.out.mono ?_
  rintro e w2 ⟨rfl, B2⟩
  have HB2 := thid (tbelow_on HB1.out B2)
  clear HL B2 HB1
  go_wp2
  go_ret
  exact ⟨rfl, HB2.out⟩

set_option maxRecDepth 100000 in
set_option maxHeartbeats 1000000 in
theorem iadd_with {w : World} {v u : Value} (hE : ∀ W, Below w.heap.size w W → Calls Tryz.prog 29 #[v] W fun e w' => e = .returned u ∧ Below W.heap.size W w') {k n : Int} {s : ByteArray} {id : Int} (hn : fits n = true) (hx : MxL w) {R : Int → World → World → Prop} (h : ∀ W, Below w.heap.size w W → Calls Tryz.prog 30 #[u, .string (pk k n s id)] W fun e w' => ∃ c, e = .returned (.int .i64 c) ∧ R c W w') :
    Calls Tryz.prog 10 #[v, valV k n s, .int .i64 id] w fun e w' => ∃ c, e = .returned (.int .i64 c) ∧ Withed k n s id R w c w' := by
  obtain ⟨W0, HW0⟩ : ∃ W0, Hid (w.alloc (.cells #[.int .i64 k, .int .i64 n, .string s] 37) = W0) := ⟨_, rfl⟩
  have HB0 : Hid (Below w.heap.size w W0) := by rw [← HW0.out]; exact tbelow w _
  have HE := thid hE
  have HW := thid (fun W (b : Below w.heap.size w W) => with_ok (g := 30) (r := u) (R := R) (fun _ _ => rfl) (id := id) hn (hx.on b) (fun W' b' => h W' (tbelow_on b b')))
  have hmf : ∀ (fn : Fn) (first cap : Array Value) (w : World), (Instr.makeFunc fn first cap).run Tryz.prog w = .ok (.func fn first cap) w := fun _ _ _ _ => rfl
  clear hE h hx
  unfold valV at HW ⊢
  have c0 : ∀ q : L4.BelowW W0, q.w.cell? ⟨w.heap.size, 0, none⟩ = some (.int .i64 k) ∧ q.w.cell? ⟨w.heap.size, 1, none⟩ = some (.int .i64 n) ∧ q.w.cell? ⟨w.heap.size, 2, none⟩ = some (.string s) ∧ w.heap.size < q.w.heap.size := fun q => by
    have h := (q.below.block w.heap.size (by rw [← HW0.out]; simp)).trans (HW0.out ▸ heap_alloc_new w (.cells #[.int .i64 k, .int .i64 n, .string s] 37))
    refine ⟨?_, ?_, ?_, (Array.getElem?_eq_some_iff.1 h).1⟩ <;> rw [cell_of_row _ _ _ _ _ _ h] <;> rfl
  have y0 := fun q => (c0 q).1
  have y1 := fun q => (c0 q).2.1
  have y2 := fun q => (c0 q).2.2.1
  have y3 := fun q => (c0 q).2.2.2
  clear c0
  go_enter Tryz.func10, Tryz.ntmps10
  go_wp2_with fail
  rw [HW0.out]
  refine wp_region_quiet_tail (fun w' => ∃ q : L4.BelowW W0, w' = q.w) 5 (by kernel_rfl) (by kernel_rfl) ⟨⟨W0.drew, (Below.refl _ _).drew⟩, rfl⟩ ?_
  simp only [List.take_succ_cons, List.take_zero, List.drop_succ_cons, List.drop_zero]
  repeat (go_big_quiet_step (first | rfl | (go_at_call 29; exact L4.quiet_of_below (HE.out _ (tbelow_on HB0.out (L4.BelowW.below _)))) | fail))
  refine wpQuiet_nil ?_
  rintro _ ⟨q, rfl⟩
  have HB1 := thid (tbelow_on HB0.out q.below)
  have HW1 := thid (HW.out q.w HB1.out)
  clear y0 y1 y2 y3 HE HB0 HW HW0
  generalize q.w = w1 at *
  clear q
  go_wp2_with fail
  refine HW1.out.mono ?_
  rintro e w2 ⟨c, rfl, hw⟩
  have HF : Hid (Withed k n s id R w c w2) := by
    rcases hw with ⟨h1, h2, h3⟩ | ⟨h1, W, h2, h3⟩
    · exact Or.inl ⟨h1, h2, tbelow_on HB1.out h3⟩
    · exact Or.inr ⟨h1, W, tbelow_on HB1.out h2, h3⟩
  clear hw HW1 HB1
  go_wp2
  go_ret
  exact ⟨c, rfl, HF.out⟩

set_option maxRecDepth 100000 in
set_option maxHeartbeats 1000000 in
theorem icut_with {w : World} {v u : Value} (hE : ∀ W, Below w.heap.size w W → Calls Tryz.prog 29 #[v] W fun e w' => e = .returned u ∧ Below W.heap.size W w') {k n : Int} {s : ByteArray} {id : Int} (hn : fits n = true) (hx : MxL w) {R : Int → World → World → Prop} (h : ∀ W, Below w.heap.size w W → Calls Tryz.prog 33 #[u, .string (pk k n s id)] W fun e w' => ∃ c, e = .returned (.int .i64 c) ∧ R c W w') :
    Calls Tryz.prog 12 #[v, valV k n s, .int .i64 id] w fun e w' => ∃ c, e = .returned (.int .i64 c) ∧ Withed k n s id R w c w' := by
  obtain ⟨W0, HW0⟩ : ∃ W0, Hid (w.alloc (.cells #[.int .i64 k, .int .i64 n, .string s] 37) = W0) := ⟨_, rfl⟩
  have HB0 : Hid (Below w.heap.size w W0) := by rw [← HW0.out]; exact tbelow w _
  have HE := thid hE
  have HW := thid (fun W (b : Below w.heap.size w W) => with_ok (g := 33) (r := u) (R := R) (fun _ _ => rfl) (id := id) hn (hx.on b) (fun W' b' => h W' (tbelow_on b b')))
  have hmf : ∀ (fn : Fn) (first cap : Array Value) (w : World), (Instr.makeFunc fn first cap).run Tryz.prog w = .ok (.func fn first cap) w := fun _ _ _ _ => rfl
  clear hE h hx
  unfold valV at HW ⊢
  have c0 : ∀ q : L4.BelowW W0, q.w.cell? ⟨w.heap.size, 0, none⟩ = some (.int .i64 k) ∧ q.w.cell? ⟨w.heap.size, 1, none⟩ = some (.int .i64 n) ∧ q.w.cell? ⟨w.heap.size, 2, none⟩ = some (.string s) ∧ w.heap.size < q.w.heap.size := fun q => by
    have h := (q.below.block w.heap.size (by rw [← HW0.out]; simp)).trans (HW0.out ▸ heap_alloc_new w (.cells #[.int .i64 k, .int .i64 n, .string s] 37))
    refine ⟨?_, ?_, ?_, (Array.getElem?_eq_some_iff.1 h).1⟩ <;> rw [cell_of_row _ _ _ _ _ _ h] <;> rfl
  have y0 := fun q => (c0 q).1
  have y1 := fun q => (c0 q).2.1
  have y2 := fun q => (c0 q).2.2.1
  have y3 := fun q => (c0 q).2.2.2
  clear c0
  go_enter Tryz.func12, Tryz.ntmps12
  go_wp2_with fail
  rw [HW0.out]
  refine wp_region_quiet_tail (fun w' => ∃ q : L4.BelowW W0, w' = q.w) 5 (by kernel_rfl) (by kernel_rfl) ⟨⟨W0.drew, (Below.refl _ _).drew⟩, rfl⟩ ?_
  simp only [List.take_succ_cons, List.take_zero, List.drop_succ_cons, List.drop_zero]
  repeat (go_big_quiet_step (first | rfl | (go_at_call 29; exact L4.quiet_of_below (HE.out _ (tbelow_on HB0.out (L4.BelowW.below _)))) | fail))
  refine wpQuiet_nil ?_
  rintro _ ⟨q, rfl⟩
  have HB1 := thid (tbelow_on HB0.out q.below)
  have HW1 := thid (HW.out q.w HB1.out)
  clear y0 y1 y2 y3 HE HB0 HW HW0
  generalize q.w = w1 at *
  clear q
  go_wp2_with fail
  refine HW1.out.mono ?_
  rintro e w2 ⟨c, rfl, hw⟩
  have HF : Hid (Withed k n s id R w c w2) := by
    rcases hw with ⟨h1, h2, h3⟩ | ⟨h1, W, h2, h3⟩
    · exact Or.inl ⟨h1, h2, tbelow_on HB1.out h3⟩
    · exact Or.inr ⟨h1, W, tbelow_on HB1.out h2, h3⟩
  clear hw HW1 HB1
  go_wp2
  go_ret
  exact ⟨c, rfl, HF.out⟩

set_option maxRecDepth 100000 in
set_option maxHeartbeats 1000000 in
theorem ieach_ov {v : Value} {gf : FuncId} {cf : Array Value} {lo hi : Bd} {w : World} (hI : IOv w v) (hx : MxL w) (hlo : fits lo.n = true) (hhi : fits hi.n = true) :
    Calls Tryz.prog 34 #[v, lo.v, hi.v, .func (.func gf) #[] cf] w fun e w' => e = .returned (.tuple #[]) ∧ Below w.heap.size w w' := by
  have HI := thid hI
  have HX := thid hx
  have HL := thid (fun W (b : Below w.heap.size w W) => edge_ok (b := lo) (behind := !lo.incl) hlo (hx.on b))
  have HH := thid (fun W (b : Below w.heap.size w W) => edge_ok (b := hi) (behind := hi.incl) hhi (hx.on b))
  clear hI hx hlo hhi
  have hmf : ∀ (fn : Fn) (first cap : Array Value) (w : World), (Instr.makeFunc fn first cap).run Tryz.prog w = .ok (.func fn first cap) w := fun _ _ _ _ => rfl
  have hfe := fun (fn : Fn) (first cap : Array Value) (w : World) => eql_func_nil w 78 fn first cap Tryz.underlying78
  unfold Bd.v at HL HH ⊢
  go_enter Tryz.func34, Tryz.ntmps34
  go_wp2_with fail
  have HB0 := thid (tbelow_on (tbelow_on (tbelow w (.cells #[.bool lo.has, .bool lo.incl, .int .i64 lo.k, .int .i64 lo.n, .string lo.s] 39)) (tbelow _ (.cells #[.bool hi.has, .bool hi.incl, .int .i64 hi.k, .int .i64 hi.n, .string hi.s] 39))) (tbelow _ (.cells #[.func (.func gf) #[] cf] 78)))
  have g1 : (((w.alloc (.cells #[.bool lo.has, .bool lo.incl, .int .i64 lo.k, .int .i64 lo.n, .string lo.s] 39)).alloc (.cells #[.bool hi.has, .bool hi.incl, .int .i64 hi.k, .int .i64 hi.n, .string hi.s] 39)).alloc (.cells #[.func (.func gf) #[] cf] 78)).heap[w.heap.size + 1]? = some (.cells #[.bool hi.has, .bool hi.incl, .int .i64 hi.k, .int .i64 hi.n, .string hi.s] 39 (0, 0)) := by
    have h := heap_alloc_new (w.alloc (.cells #[.bool lo.has, .bool lo.incl, .int .i64 lo.k, .int .i64 lo.n, .string lo.s] 39)) (.cells #[.bool hi.has, .bool hi.incl, .int .i64 hi.k, .int .i64 hi.n, .string hi.s] 39)
    rw [show (w.alloc (.cells #[.bool lo.has, .bool lo.incl, .int .i64 lo.k, .int .i64 lo.n, .string lo.s] 39)).heap.size = w.heap.size + 1 by simp] at h
    exact ((tbelow _ (.cells #[.func (.func gf) #[] cf] 78)).block _ (by simp)).trans h
  have g2 : (((w.alloc (.cells #[.bool lo.has, .bool lo.incl, .int .i64 lo.k, .int .i64 lo.n, .string lo.s] 39)).alloc (.cells #[.bool hi.has, .bool hi.incl, .int .i64 hi.k, .int .i64 hi.n, .string hi.s] 39)).alloc (.cells #[.func (.func gf) #[] cf] 78)).heap[w.heap.size + 1 + 1]? = some (.cells #[.func (.func gf) #[] cf] 78 (0, 0)) := by
    have h := heap_alloc_new ((w.alloc (.cells #[.bool lo.has, .bool lo.incl, .int .i64 lo.k, .int .i64 lo.n, .string lo.s] 39)).alloc (.cells #[.bool hi.has, .bool hi.incl, .int .i64 hi.k, .int .i64 hi.n, .string hi.s] 39)) (.cells #[.func (.func gf) #[] cf] 78)
    rw [show ((w.alloc (.cells #[.bool lo.has, .bool lo.incl, .int .i64 lo.k, .int .i64 lo.n, .string lo.s] 39)).alloc (.cells #[.bool hi.has, .bool hi.incl, .int .i64 hi.k, .int .i64 hi.n, .string hi.s] 39)).heap.size = w.heap.size + 1 + 1 by simp] at h
    exact h
  generalize ((w.alloc (.cells #[.bool lo.has, .bool lo.incl, .int .i64 lo.k, .int .i64 lo.n, .string lo.s] 39)).alloc (.cells #[.bool hi.has, .bool hi.incl, .int .i64 hi.k, .int .i64 hi.n, .string hi.s] 39)).alloc (.cells #[.func (.func gf) #[] cf] 78) = w0 at *
  refine (HL.out w0 HB0.out).mono ?_
  rintro e w1 ⟨rfl, B1⟩
  have g3 := (B1.block _ (Array.getElem?_eq_some_iff.1 g1).1).trans g1
  have g4 := (B1.block _ (Array.getElem?_eq_some_iff.1 g2).1).trans g2
  have HB1 := thid (tbelow_on HB0.out B1)
  clear g1 g2 HB0 B1 HL
  have y0 : w1.cell? ⟨w.heap.size + 1, 0, none⟩ = some (.bool hi.has) := by rw [cell_of_row _ _ _ _ _ _ g3]; rfl
  have y1 : w1.cell? ⟨w.heap.size + 1, 1, none⟩ = some (.bool hi.incl) := by rw [cell_of_row _ _ _ _ _ _ g3]; rfl
  have y2 : w1.cell? ⟨w.heap.size + 1, 2, none⟩ = some (.int .i64 hi.k) := by rw [cell_of_row _ _ _ _ _ _ g3]; rfl
  have y3 : w1.cell? ⟨w.heap.size + 1, 3, none⟩ = some (.int .i64 hi.n) := by rw [cell_of_row _ _ _ _ _ _ g3]; rfl
  have y4 : w1.cell? ⟨w.heap.size + 1, 4, none⟩ = some (.string hi.s) := by rw [cell_of_row _ _ _ _ _ _ g3]; rfl
  have yl := (Array.getElem?_eq_some_iff.1 g3).1
  obtain ⟨fr, le, HE1⟩ : ∃ fr le, Hid (lo.edgeS (!lo.incl) = fr ∧ lo.edgeE = le) := ⟨_, _, rfl, rfl⟩
  rw [HE1.out.1, HE1.out.2]
  have HG4 := thid g4
  clear g3 g4
  go_wp2_with fail
  refine (HH.out w1 HB1.out).mono ?_
  rintro e w2 ⟨rfl, B2⟩
  have HG5 := thid ((B2.block _ (Array.getElem?_eq_some_iff.1 HG4.out).1).trans HG4.out)
  have HB2 := thid (tbelow_on HB1.out B2)
  clear HB1 B2 HG4 HH y0 y1 y2 y3 y4 yl
  obtain ⟨tt, he, HE2⟩ : ∃ tt he, Hid (hi.edgeS hi.incl = tt ∧ hi.edgeE = he) := ⟨_, _, rfl, rfl⟩
  rw [HE2.out.1, HE2.out.2]
  have f0 : w2.cell? ⟨w.heap.size + 1 + 1, 0, none⟩ = some (.func (.func gf) #[] cf) := by rw [cell_of_row _ _ _ _ _ _ HG5.out]; rfl
  have fl := (Array.getElem?_eq_some_iff.1 HG5.out).1
  cases h1 : (le != 0) with
  | true =>
    clear HG5 f0
    go_wp2
    refine bodyPost_ret (v := .tuple #[]) (by simp [results, Tryz.results34, go_sem]) rfl ⟨rfl, HB2.out⟩
  | false =>
    cases h2 : (he != 0) with
    | true =>
      clear HG5 f0
      go_wp2
      refine bodyPost_ret (v := .tuple #[]) (by simp [results, Tryz.results34, go_sem]) rfl ⟨rfl, HB2.out⟩
    | false =>
      have HI2 := thid (entries_ov (HI.out.on HB2.out))
      go_wp2_with fail
      refine HI2.out.mono ?_
      rintro e w3 ⟨uu, rfl, hu, B3⟩
      have HB3 := thid (tbelow_on HB2.out B3)
      have HEA := thid (each_ov hu fr tt (.func (.func 59) #[] #[.pointer (some ⟨w.heap.size + 1 + 1, 0, none⟩)]))
      clear HI2 B3 HB2 HG5 f0 fl h1 h2 hu
      go_wp2_with fail
      refine HEA.out.mono ?_
      rintro e w4 ⟨rfl, B4⟩
      have HFI := thid (tbelow_on HB3.out B4)
      clear HEA B4 HB3
      go_wp2
      go_end0
      exact ⟨rfl, HFI.out⟩

theorem told_nil {γ : Type} (lo hi : Bd) (pf : γ → Int → Int → ByteArray → Int → γ × Bool) (g : γ) : lo.told hi pf [] g = g := by
  unfold Bd.told
  split <;> rfl

theorem eachC_ov {v : Value} {lo hi : Bd} {w : World} (hI : IOv w v) (hx : MxL w) (hlo : fits lo.n = true) (hhi : fits hi.n = true) : EachC v lo hi [] w := by
  intro σ γ D ct pf wg M gf cf F c W hb hp ho hM2
  refine (ieach_ov (hI.on hb) (hx.on hb) hlo hhi).mono ?_
  rintro e w' ⟨rfl, hb'⟩
  exact ⟨rfl, c, D.below hp hb', (told_nil lo hi pf (ct c)).symm, L4.Moves.below hb'⟩

theorem entries_at {w : World} {v : Value} (k : IOv w v) : ∃ u, Ov w u ∧ ∀ W, Below w.heap.size w W → Calls Tryz.prog 29 #[v] W fun e w' => e = .returned u ∧ Below W.heap.size W w' := by
  rcases k with rfl | ⟨x, u, rfl, k1, k2⟩
  · exact ⟨.pointer none, Or.inl rfl, fun W _ => entries_nil W⟩
  · exact ⟨u, k2, fun W hb => entries_ok (k1.on hb)⟩

theorem withed_15 {k n : Int} {s : ByteArray} {id : Int} {w w' : World} {c : Int} (h : Withed k n s id (fun c W w' => c = 15 ∧ Below W.heap.size W w') w c w') : c = 15 ∧ Below w.heap.size w w' := by
  rcases h with ⟨_, h1, h2⟩ | ⟨_, W, h1, h2, h3⟩
  · exact ⟨h1, h2⟩
  · exact ⟨h2, tbelow_on h1 h3⟩

theorem iadd_ov {w : World} {v : Value} (k : IOv w v) {kk n : Int} {s : ByteArray} {id : Int} (hn : fits n = true) (hx : MxL w) : Calls Tryz.prog 10 #[v, valV kk n s, .int .i64 id] w fun e w' => e = .returned (.int .i64 15) ∧ Below w.heap.size w w' := by
  obtain ⟨u, hu, hE⟩ := entries_at k
  refine (iadd_with (id := id) hE hn hx (R := fun c W w' => c = 15 ∧ Below W.heap.size W w') (fun W hb => (insert_ov (hu.on hb) _).mono ?_)).mono ?_
  · rintro e w' ⟨rfl, hb'⟩
    exact ⟨15, rfl, rfl, hb'⟩
  · rintro e w' ⟨c, rfl, h⟩
    obtain ⟨rfl, h2⟩ := withed_15 h
    exact ⟨rfl, h2⟩

theorem icut_ov {w : World} {v : Value} (k : IOv w v) {kk n : Int} {s : ByteArray} {id : Int} (hn : fits n = true) (hx : MxL w) : Calls Tryz.prog 12 #[v, valV kk n s, .int .i64 id] w fun e w' => e = .returned (.int .i64 15) ∧ Below w.heap.size w w' := by
  obtain ⟨u, hu, hE⟩ := entries_at k
  refine (icut_with (id := id) hE hn hx (R := fun c W w' => c = 15 ∧ Below W.heap.size W w') (fun W hb => (delete_ov (hu.on hb) _).mono ?_)).mono ?_
  · rintro e w' ⟨rfl, hb'⟩
    exact ⟨15, rfl, rfl, hb'⟩
  · rintro e w' ⟨c, rfl, h⟩
    obtain ⟨rfl, h2⟩ := withed_15 h
    exact ⟨rfl, h2⟩
end Go.Proofs.YtjocopclgehciaaGreatDoor
/-
  Index: one of the call's own, alone in its arena, that is only added to.
-/
namespace Go.Proofs.YtjocopclgehciaaGreatDoor
open Go.RowKit
open L4 (Ar ArP Abs arV nv)
open L3 (valV fits rightB keyL strB beL keyS keyE)

structure IX (w0 : World) (q : Nat) (s : Ar) (x t r h : Nat) (es : List ByteArray) (ps : List Nat) (w : World) : Prop where
  ix : IxC w x (.pointer (some ⟨t, 0, none⟩))
  tw : TW s t r h es ps w
  used : s.abs.used = ps.length
  q : s.abs.q = q
  fat : Fat s.abs es ps
  own : ∀ k, s.own k → w0.heap.size ≤ k
  tl : w0.heap.size ≤ t
  xl : w0.heap.size ≤ x
  bel : Below w0.heap.size w0 w

theorem IX.on {w0 : World} {q : Nat} {s : Ar} {x t r h : Nat} {es : List ByteArray} {ps : List Nat} {w w' : World} (k : IX w0 q s x t r h es ps w) (hb : Below w.heap.size w w') : IX w0 q s x t r h es ps w' :=
  ⟨k.ix.on hb, k.tw.on hb, k.used, k.q, k.fat, k.own, k.tl, k.xl, tbelow_on k.bel hb⟩

/-- What adding makes of the entries. -/
def addF (es : List ByteArray) (k n : Int) (s : ByteArray) (id : Int) : List ByteArray := if okP k n s id then insF es (pk k n s id) else es

def addC (es : List ByteArray) (k n : Int) (s : ByteArray) (id : Int) : Int := if okP k n s id then (if es.any fun e => e.toList == (pk k n s id).toList then 3 else 0) else 15

theorem pk_size {k n : Int} {s : ByteArray} {id : Int} (h : okP k n s id = true) : 1 ≤ (pk k n s id).size ∧ (pk k n s id).size ≤ 400 := by
  have h1 := key_len (okP_iff.1 h).1
  have h2 : (pk k n s id).size = (keyL k n s).length + 8 := by
    show (keyL k n s ++ beL 8 id.toNat).length = _
    rw [List.length_append, L3.beL_length]
  omega

theorem addF_len (es : List ByteArray) (k n : Int) (s : ByteArray) (id : Int) : (addF es k n s id).length ≤ es.length + 1 := by
  unfold addF
  split
  · exact insF_len _ _
  · omega

theorem IX.add {w0 : World} {q : Nat} {s : Ar} {x t r h : Nat} {es : List ByteArray} {ps : List Nat} {w : World} (kx : IX w0 q s x t r h es ps w) (hx : MxL w0) {k n : Int} {b : ByteArray} {id : Int} (hn : fits n = true) (hq : 4 * es.length + 3 ≤ q) (hl : es.length ≤ 1000) :
    Calls Tryz.prog 10 #[.pointer (some ⟨x, 0, none⟩), valV k n b, .int .i64 id] w fun e w' => e = .returned (.int .i64 (addC es k n b id)) ∧ ∃ s' r' h' ps', s'.p = s.p ∧ IX w0 q s' x t r' h' (addF es k n b id) ps' w' := by
  refine (iadd_with (id := id) (fun W hb => entries_ok (kx.ix.on hb)) hn (hx.on kx.bel) (R := fun c W w' => ∃ s' r' h' es' ps', InsR es (pk k n b id) s.abs.left h c es' ∧ TGo s t ps W s' r' h' es' ps' w' ∧ (Fat s.abs es ps → Fat s'.abs es' ps')) (fun W hb => (tinsert_tree (k := pk k n b id) (kx.tw.on hb) (by omega)).mono ?_)).mono ?_
  · rintro e w' ⟨c, s', r', h', es', ps', rfl, h1, h2, h3⟩
    exact ⟨c, rfl, s', r', h', es', ps', h1, h2, h3⟩
  · rintro e w' ⟨c, rfl, ⟨ho, rfl, hb⟩ | ⟨ho, W, hb, s', r', h', es', ps', hI, ⟨hW, hp, hG, hon, hown⟩, hF⟩⟩
    · have e1 : addC es k n b id = 15 := by unfold addC; rw [ho]; rfl
      have e2 : addF es k n b id = es := by unfold addF; rw [ho]; rfl
      rw [e1, e2]
      exact ⟨rfl, s, r, h, ps, rfl, kx.on hb⟩
    · have n1 := kx.fat.few kx.tw.tp.sub
      have hh := kx.tw.tp.sub.tall
      have hps := pk_size ho
      have hleft : h + 1 ≤ s.abs.left := by
        unfold L4.Abs.left
        rw [kx.used, kx.q]
        omega
      have kW := kx.on hb
      have hes : es' = addF es k n b id ∧ c = addC es k n b id := by
        unfold addF addC
        rw [ho, if_pos rfl, if_pos rfl]
        rcases hI with ⟨h1, _, rfl⟩ | ⟨h1, ⟨h2, rfl, rfl⟩ | ⟨h2, ⟨h3, _⟩ | ⟨_, rfl, rfl⟩⟩⟩
        · omega
        · rw [insF_out (fun hh => hh.2 h2), if_pos ((any_mem _ _).2 h2)]
          exact ⟨rfl, rfl⟩
        · omega
        · rw [insF_in ⟨h1, h2⟩, if_neg (fun e => h2 ((any_mem _ _).1 e))]
          exact ⟨rfl, rfl⟩
      obtain ⟨rfl, rfl⟩ := hes
      have tl := kx.tl
      have xb : w'.heap[x]? = W.heap[x]? := hon.block x (Array.getElem?_eq_some_iff.1 kW.ix).1 fun y => by
        rcases y with y | y
        · exact not_own kW.tw.ar kW.ix (by decide) (by decide) (by decide) y
        · exact tag_ne kW.ix kW.tw.tr.blk (by decide) y
      refine ⟨rfl, s', r', h', ps', hp, ⟨xb.trans kW.ix, hW, ?_, hG.q.trans kx.q, hF kx.fat, fun k hk => ?_, kx.tl, kx.xl, ?_⟩⟩
      · have := hG.used; have := kx.used; omega
      · rcases hown k hk with y | y
        · exact kx.own k y
        · exact Nat.le_trans kW.bel.size y
      · refine kW.bel.trans (hon.below kW.bel.size fun k hk y => ?_)
        rcases y with y | y
        · have := kx.own k y; omega
        · omega

set_option maxRecDepth 100000 in
set_option maxHeartbeats 1000000 in
theorem inew_ok {w0 w : World} {q : Nat} {s : Ar} (hf : L4.Fresh q w0 s w) (hq : 3 ≤ q) (hq2 : q ≤ 4096) :
    Calls Tryz.prog 9 #[arV s.p] w fun e w' => ∃ x, e = .returned (.tuple #[.pointer (some ⟨x, 0, none⟩), .int .i64 0]) ∧ ∃ s' t r, s'.p = s.p ∧ IX w0 q s' x t r 1 [] [r] w' := by
  obtain ⟨h1, h2, h3, h4⟩ := hf
  have hok0 : s.abs.Ok := by
    rw [h2]
    exact ⟨by simp, by simp, by simp, by simp, by simp, hq2⟩
  have hl0 : 0 < s.abs.left := by
    rw [h2]
    show 0 < q - 0
    omega
  have HN := thid (tnew h1 hok0 hl0)
  have HS := thid (And.intro h2 (And.intro h3 h4))
  clear h1 h2 h3 h4 hok0 hl0
  unfold arV at HN ⊢
  go_enter Tryz.func9, Tryz.ntmps9
  go_wp2_with fail
  refine HN.out.mono ?_
  rintro e w1 ⟨rfl, s1, r1, t1, p1, g1, o1, n1⟩
  have hb1 := tbelow w1 (.cells #[.pointer (some ⟨w.heap.size, 0, none⟩)] 74)
  have HF : Hid (∃ s' t r, s'.p = s.p ∧ IX w0 q s' w1.heap.size t r 1 [] [r] (w1.alloc (.cells #[.pointer (some ⟨w.heap.size, 0, none⟩)] 74))) := by
    obtain ⟨h2, h3, h4⟩ := HS.out
    have z := h3.size
    have z1 := (Array.getElem?_eq_some_iff.1 t1.tr.blk).1
    have bel1 : Below w0.heap.size w0 w1 := h3.trans (o1.below h3.size fun k hk y => by
      rcases y with y | y
      · have := h4 k y; omega
      · omega)
    refine ⟨s1, w.heap.size, r1, p1, heap_alloc_new _ _, t1.on hb1, ?_, ?_, Or.inl ⟨rfl, rfl⟩, fun k hk => ?_, z, bel1.size, tbelow_on bel1 hb1⟩
    · have := g1.used
      rw [h2] at this
      simpa [L4.Abs.used] using this
    · rw [g1.q, h2]
    · rcases n1 k hk with y | y
      · exact h4 k y
      · omega
  clear hb1 t1 g1 o1 n1 HN HS
  go_wp2
  go_ret2
  exact ⟨_, rfl, HF.out⟩

theorem freed_used (qs : List Nat) : ∀ a : Abs, (qs.foldl (fun a n => a.free n) a).used = a.used - qs.length ∧ (qs.foldl (fun a n => a.free n) a).pg.length = a.pg.length ∧ (qs.foldl (fun a n => a.free n) a).fr.length = a.fr.length + qs.length := by
  induction qs with
  | nil => intro a; exact ⟨rfl, rfl, rfl⟩
  | cons n qs ih =>
    intro a
    obtain ⟨h1, h2, h3⟩ := ih (a.free n)
    have e1 : (a.free n).pg.length = a.pg.length := by simp [L4.Abs.free, L4.Abs.lay]
    have e2 : (a.free n).fr.length = a.fr.length + 1 := by simp [L4.Abs.free, L4.Abs.lay]
    refine ⟨?_, by rw [List.foldl_cons, h2, e1], by rw [List.foldl_cons, h3, e2, List.length_cons]; omega⟩
    rw [List.foldl_cons, h1]
    unfold L4.Abs.used
    rw [e1, e2, List.length_cons]
    omega

set_option maxRecDepth 100000 in
set_option maxHeartbeats 1000000 in
theorem IX.drop {w0 : World} {q : Nat} {s : Ar} {x t r h : Nat} {es : List ByteArray} {ps : List Nat} {w : World} (kx : IX w0 q s x t r h es ps w) (hl : es.length ≤ 1000) :
    Calls Tryz.prog 23 #[.pointer (some ⟨x, 0, none⟩)] w fun e w' => e = .returned (.int .i64 0) ∧ (∃ s', s'.p = s.p ∧ s'.abs.Ok ∧ s'.abs.used = 0 ∧ ArP s' w') ∧ IOv w' (.pointer (some ⟨x, 0, none⟩)) ∧ Below w0.heap.size w0 w' := by
  have HK := thid kx
  have HE := thid (entries_ok kx.ix)
  clear kx
  go_enter Tryz.func23, Tryz.ntmps23
  go_wp2_with fail
  refine HE.out.mono ?_
  rintro e w1 ⟨rfl, B1⟩
  have HK1 := thid (HK.out.on B1)
  have HD := thid (drop_any HK1.out.tw (by omega))
  clear HE B1 HK
  go_wp2_with fail
  refine HD.out.mono ?_
  rintro e w2 ⟨rfl, qs, hq, ⟨s', h1, h2, h3, h4, h5, h6, h7⟩⟩
  have HF : Hid ((∃ s', s'.p = s.p ∧ s'.abs.Ok ∧ s'.abs.used = 0 ∧ ArP s' w2) ∧ IOv w2 (.pointer (some ⟨x, 0, none⟩)) ∧ Below w0.heap.size w0 w2) := by
    have k := HK1.out
    have tl := k.tl
    have zb := k.bel.size
    have xb : w2.heap[x]? = w1.heap[x]? := h6.block x (Array.getElem?_eq_some_iff.1 k.ix).1 fun y => by
      rcases y with y | y | y
      · exact not_own k.tw.ar k.ix (by decide) (by decide) (by decide) y
      · exact tag_ne k.ix k.tw.tr.blk (by decide) y
      · have := (Array.getElem?_eq_some_iff.1 k.ix).1; omega
    refine ⟨⟨s', h1, h3, ?_, h4⟩, Or.inr ⟨x, _, rfl, xb.trans k.ix, Or.inr ⟨t, rfl, h5⟩⟩, k.bel.trans (h6.below k.bel.size fun j hj y => ?_)⟩
    · rw [h2, (freed_used qs s.abs).1, k.used, hq.length_eq]
      omega
    · rcases y with y | y | y
      · have := k.own j y; omega
      · omega
      · omega
  clear h1 h2 h3 h4 h5 h6 h7 HD HK1 hq
  go_wp2
  go_ret
  exact ⟨rfl, HF.out⟩
end Go.Proofs.YtjocopclgehciaaGreatDoor
/-
  Index: the document's example, plain.
-/
namespace Go.Proofs.YtjocopclgehciaaGreatDoor
open Go.RowKit
open L3 (valV fits rightB keyL strB beL keyS keyE nextL readV)

def xb1 : ByteArray := ⟨#[2, 128, 0, 0, 0, 0, 0, 0, 7, 0, 0, 0, 0, 0, 0, 0, 1]⟩
def xb2 : ByteArray := ⟨#[2, 128, 0, 0, 0, 0, 0, 0, 3, 0, 0, 0, 0, 0, 0, 0, 2]⟩
def xb3 : ByteArray := ⟨#[2, 128, 0, 0, 0, 0, 0, 0, 7, 0, 0, 0, 0, 0, 0, 0, 0]⟩
def xk7 : ByteArray := ⟨#[2, 128, 0, 0, 0, 0, 0, 0, 7]⟩
def xn7 : ByteArray := ⟨#[2, 128, 0, 0, 0, 0, 0, 0, 8]⟩

theorem xpk1 : pk 2 7 ⟨#[]⟩ 1 = xb1 := by decide
theorem xpk2 : pk 2 3 ⟨#[]⟩ 2 = xb2 := by decide
theorem xpk3 : pk 2 7 ⟨#[]⟩ 0 = xb3 := by decide
theorem xlt12 : Op.bytesLess xb1.toList xb2.toList = false := by rw [ByteArray.toList_eq, ByteArray.toList_eq]; decide
theorem xlt23 : Op.bytesLess xb2.toList xb3.toList = true := by rw [ByteArray.toList_eq, ByteArray.toList_eq]; decide
theorem xlt13 : Op.bytesLess xb1.toList xb3.toList = false := by rw [ByteArray.toList_eq, ByteArray.toList_eq]; decide
theorem xlt2k : Op.bytesLess xb2.toList xk7.toList = true := by rw [ByteArray.toList_eq, ByteArray.toList_eq]; decide
theorem xlt3k : Op.bytesLess xb3.toList xk7.toList = false := by rw [ByteArray.toList_eq, ByteArray.toList_eq]; decide
theorem xlt1k : Op.bytesLess xb1.toList xk7.toList = false := by rw [ByteArray.toList_eq, ByteArray.toList_eq]; decide
theorem xlt3n : Op.bytesLess xb3.toList xn7.toList = true := by rw [ByteArray.toList_eq, ByteArray.toList_eq]; decide
theorem xeq12 : (xb1.toList == xb2.toList) = false := by rw [ByteArray.toList_eq, ByteArray.toList_eq]; decide
theorem xeq13 : (xb1.toList == xb3.toList) = false := by rw [ByteArray.toList_eq, ByteArray.toList_eq]; decide
theorem xeq23 : (xb2.toList == xb3.toList) = false := by rw [ByteArray.toList_eq, ByteArray.toList_eq]; decide

theorem xadd1 : addF [] 2 7 ⟨#[]⟩ 1 = [xb1] ∧ addC [] 2 7 ⟨#[]⟩ 1 = 0 := by
  unfold addF addC
  rw [if_pos (by decide), if_pos (by decide), xpk1, insF_in ⟨by decide, by simp⟩]
  exact ⟨rfl, rfl⟩

theorem xadd2 : addF [xb1] 2 3 ⟨#[]⟩ 2 = [xb2, xb1] ∧ addC [xb1] 2 3 ⟨#[]⟩ 2 = 0 := by
  unfold addF addC
  rw [if_pos (by decide), if_pos (by decide), xpk2, insF_in ⟨by decide, fun h => by rw [← any_mem] at h; simp [xeq12] at h⟩]
  refine ⟨by simp [insK, L5.ltB, xlt12], by simp [xeq12]⟩

theorem xadd3 : addF [xb2, xb1] 2 7 ⟨#[]⟩ 0 = [xb2, xb3, xb1] ∧ addC [xb2, xb1] 2 7 ⟨#[]⟩ 0 = 0 := by
  unfold addF addC
  rw [if_pos (by decide), if_pos (by decide), xpk3, insF_in ⟨by decide, fun h => by rw [← any_mem] at h; simp [xeq13, xeq23] at h⟩]
  refine ⟨by simp [insK, L5.ltB, xlt23, xlt13], by simp [xeq13, xeq23]⟩

theorem xph {γ : Type} (pf : γ → Int → Int → ByteArray → Int → γ × Bool) (g : γ) : phiP pf g xb1 = pf g 2 7 ⟨#[]⟩ 1 ∧ phiP pf g xb2 = pf g 2 3 ⟨#[]⟩ 2 ∧ phiP pf g xb3 = pf g 2 7 ⟨#[]⟩ 0 := by
  unfold phiP
  refine ⟨?_, ?_, ?_⟩
  · rw [if_pos (by decide), show readV xb1.data.toList = (2, 7, []) by decide, show enI xb1 = 1 by decide]; rfl
  · rw [if_pos (by decide), show readV xb2.data.toList = (2, 3, []) by decide, show enI xb2 = 2 by decide]; rfl
  · rw [if_pos (by decide), show readV xb3.data.toList = (2, 7, []) by decide, show enI xb3 = 0 by decide]; rfl

/-- No bound. -/
def noB : Bd := ⟨false, false, 0, 0, ⟨#[]⟩⟩

theorem told_no {γ : Type} (pf : γ → Int → Int → ByteArray → Int → γ × Bool) (es : List ByteArray) (g : γ) : noB.told noB pf es g = (feed ⟨#[]⟩ (phiP pf) es g).1 := by
  unfold Bd.told
  rw [if_pos ⟨rfl, rfl⟩, show noB.edgeS noB.incl = ⟨#[]⟩ from rfl, show noB.edgeS (!noB.incl) = ⟨#[]⟩ from rfl, from_all]

theorem xtold : noB.told noB pfP [xb2, xb3, xb1] [] = [⟨2, 3, ⟨#[]⟩, 2⟩, ⟨2, 7, ⟨#[]⟩, 0⟩, ⟨2, 7, ⟨#[]⟩, 1⟩] := by
  rw [told_no]
  have h0 : ∀ x : ByteArray, ¬ ((ByteArray.mk #[]).size ≠ 0 ∧ ¬ L5.ltB ⟨#[]⟩ x = true) := fun x h => h.1 rfl
  simp only [feed, if_neg (h0 _), (xph _ _).1, (xph _ _).2.1, (xph _ _).2.2, pfP, if_true]
  rfl

def in7 : Bd := ⟨true, true, 2, 7, ⟨#[]⟩⟩

theorem xfirst : in7.told in7 pfF [xb2, xb3, xb1] (0, false) = (0, true) := by
  unfold Bd.told
  rw [if_pos ⟨by decide, by decide⟩, show in7.edgeS in7.incl = xn7 by decide, show in7.edgeS (!in7.incl) = xk7 by decide]
  have h1 : fromL xk7 [xb2, xb3, xb1] = [xb3, xb1] := by simp [fromL, L5.ltB, xlt2k, xlt3k, xlt1k]
  rw [h1, feed, if_neg (by rintro ⟨_, h⟩; exact h xlt3n), (xph _ _).2.2]
  rfl
end Go.Proofs.YtjocopclgehciaaGreatDoor
/-
  Index: the laws' own functions: num, awake, great.
-/
namespace Go.Proofs.YtjocopclgehciaaGreatDoor
open Go.RowKit
open L4 (Ar ArP Abs arV nv)
open L3 (valV fits)

set_option maxRecDepth 100000 in
theorem num_walk (n : Int) (w : World) : Calls Tryz.prog 25 #[.int .i64 n] w fun e w' => e = .returned (valV 2 n ⟨#[]⟩) ∧ Below w.heap.size w w' := by
  unfold valV
  go_enter Tryz.func25, Tryz.ntmps25
  go_wp2
  refine bodyPost_ret (v := .agg #[.int .i64 2, .int .i64 n, .string ⟨#[]⟩]) (by simp [results, Tryz.results25, go_sem]) rfl ⟨rfl, tbelow _ _⟩

/-- A call of the script. -/
structure OpX where
  K : Int
  id : Int
  k : Int
  n : Int
  s : ByteArray
  lo : Bd
  hi : Bd

def OpX.fit (o : OpX) : Prop := fits o.n = true ∧ fits o.lo.n = true ∧ fits o.hi.n = true

def OpX.cs (o : OpX) : List Value := [.int .i64 o.K, .int .i64 o.id, .int .i64 o.k, .int .i64 o.n, .string o.s, .bool o.lo.has, .bool o.lo.incl, .int .i64 o.lo.k, .int .i64 o.lo.n, .string o.lo.s, .bool o.hi.has, .bool o.hi.incl, .int .i64 o.hi.k, .int .i64 o.hi.n, .string o.hi.s]

def OpX.v (o : OpX) : Value := .agg o.cs.toArray

/-- The calls of a slice. -/
def OpsIn (W : World) (a : Option Addr) (l : List OpX) : Prop := ∀ j (h : j < l.length), ∃ b o, a = some ⟨b, o, none⟩ ∧ b < W.heap.size ∧ ∀ i v, l[j].cs[i]? = some v → W.cell? ⟨b, o + j * 15 + i, none⟩ = some v

theorem OpsIn.on {W W' : World} {a : Option Addr} {l : List OpX} (k : OpsIn W a l) (hb : Below W.heap.size W W') : OpsIn W' a l := by
  intro j h
  obtain ⟨b, o, e, h1, h2⟩ := k j h
  exact ⟨b, o, e, Nat.lt_of_lt_of_le h1 hb.size, fun i v hv => (hb.cell (p := ⟨b, o + j * 15 + i, none⟩) h1).trans (h2 i v hv)⟩

theorem OpsIn.at {W : World} {a : Option Addr} {l : List OpX} (k : OpsIn W a l) {j : Nat} (h : j < l.length) : ∃ b o, a = some ⟨b, o, none⟩ ∧ b < W.heap.size ∧ W.cell? ⟨b, o + j * 15, none⟩ = some (.int .i64 l[j].K) ∧ W.cell? ⟨b, o + j * 15 + 1, none⟩ = some (.int .i64 l[j].id) ∧ W.cell? ⟨b, o + j * 15 + 2, none⟩ = some (.int .i64 l[j].k) ∧ W.cell? ⟨b, o + j * 15 + 3, none⟩ = some (.int .i64 l[j].n) ∧ W.cell? ⟨b, o + j * 15 + 4, none⟩ = some (.string l[j].s) ∧ W.cell? ⟨b, o + j * 15 + 5, none⟩ = some (.bool l[j].lo.has) ∧ W.cell? ⟨b, o + j * 15 + 6, none⟩ = some (.bool l[j].lo.incl) ∧ W.cell? ⟨b, o + j * 15 + 7, none⟩ = some (.int .i64 l[j].lo.k) ∧ W.cell? ⟨b, o + j * 15 + 8, none⟩ = some (.int .i64 l[j].lo.n) ∧ W.cell? ⟨b, o + j * 15 + 9, none⟩ = some (.string l[j].lo.s) ∧ W.cell? ⟨b, o + j * 15 + 10, none⟩ = some (.bool l[j].hi.has) ∧ W.cell? ⟨b, o + j * 15 + 11, none⟩ = some (.bool l[j].hi.incl) ∧ W.cell? ⟨b, o + j * 15 + 12, none⟩ = some (.int .i64 l[j].hi.k) ∧ W.cell? ⟨b, o + j * 15 + 13, none⟩ = some (.int .i64 l[j].hi.n) ∧ W.cell? ⟨b, o + j * 15 + 14, none⟩ = some (.string l[j].hi.s) := by
  obtain ⟨b, o, e, h1, h2⟩ := k j h
  exact ⟨b, o, e, h1, h2 0 _ rfl, h2 1 _ rfl, h2 2 _ rfl, h2 3 _ rfl, h2 4 _ rfl, h2 5 _ rfl, h2 6 _ rfl, h2 7 _ rfl, h2 8 _ rfl, h2 9 _ rfl, h2 10 _ rfl, h2 11 _ rfl, h2 12 _ rfl, h2 13 _ rfl, h2 14 _ rfl⟩

set_option maxRecDepth 100000 in
set_option maxHeartbeats 1000000 in
theorem great_walk {a : Option Addr} {l : List OpX} {c : Nat} {w : World} (h : OpsIn w a l) :
    Calls Tryz.prog 7 #[.slice a l.length c] w fun e w' => (∃ b, e = .returned (.bool b) ∧ (b = false → l.length ≤ 150)) ∧ Below w.heap.size w w' := by
  have HO := thid h
  clear h
  go_enter Tryz.func7, Tryz.ntmps7
  by_cases hl : 150 < l.length
  · have hl' : (150 : Int) < (l.length : Int) := by omega
    go_wp2
    go_ret
    exact ⟨⟨true, rfl, by simp⟩, Below.refl _ _⟩
  have hl' : ¬ (150 : Int) < (l.length : Int) := by omega
  go_wp2_with fail
  go_loopw [10] (fun i wr => ∃ j : Nat, j ≤ l.length ∧ i = .int .i64 (j : Int) ∧ Hid (Below w.heap.size w wr)) (fun i _ => l.length - (intOf i).toNat)
  case atStart => exact ⟨0, Nat.zero_le _, rfl, Below.refl _ _⟩
  case round =>
    obtain ⟨j, hj, rfl, HB⟩ := hrel
    by_cases hlt : j < l.length
    · have hlt' : (j : Int) < (l.length : Int) := by omega
      obtain ⟨b, o, rfl, hb, c0, c1, c2, c3, c4, c5, c6, c7, c8, c9, c10, c11, c12, c13, c14⟩ := (HO.out.on HB.out).at hlt
      generalize l[j] = x at *
      obtain ⟨K, id, k, n, s, ⟨lh, li, lk, ln, ls⟩, ⟨hh, hi, hk, hn, hs⟩⟩ := x
      dsimp only at *
      have HB2 := thid (tbelow_on HB.out (tbelow wr (.cells #[.int .i64 K, .int .i64 id, .int .i64 k, .int .i64 n, .string s, .bool lh, .bool li, .int .i64 lk, .int .i64 ln, .string ls, .bool hh, .bool hi, .int .i64 hk, .int .i64 hn, .string hs] 41)))
      cases g1 : decide (1000 < (s.size : Int)) with
      | true =>
        go_wp2
        go_ret
        exact ⟨⟨true, rfl, by simp⟩, HB2.out⟩
      | false =>
        cases g2 : decide (1000 < (ls.size : Int)) with
        | true =>
          go_wp2
          go_ret
          exact ⟨⟨true, rfl, by simp⟩, HB2.out⟩
        | false =>
          cases g3 : decide (1000 < (hs.size : Int)) with
          | true =>
            go_wp2
            go_ret
            exact ⟨⟨true, rfl, by simp⟩, HB2.out⟩
          | false =>
            go_wp2
            exact ⟨⟨j + 1, by omega, by go_num, HB2⟩, by simp [intOf]; omega⟩
    · have hlt' : (l.length : Int) ≤ (j : Int) := by omega
      go_wp2
      go_ret
      exact ⟨⟨false, rfl, fun _ => by omega⟩, HB.out⟩

theorem owns4_at {W : World} {B : Nat} {a : Option Addr} {c n : Nat} {xs : List Value} (h : W.ownsRow B 49 4 (.slice a n c) n xs) (hn : 0 < n) : ∃ g, a = some ⟨g, 0, none⟩ ∧ g < W.heap.size ∧ n ≤ c ∧ ∀ i v, xs[i]? = some v → W.cell? ⟨g, i, none⟩ = some v := by
  have h' := h
  obtain ⟨_, h2⟩ := h
  rcases h2 with ⟨e, h0⟩ | ⟨g, cap, cur, e, hg, hb, hc, _⟩
  · omega
  · injection e with e1 e2 e3
    subst e1; subst e3
    refine ⟨g, rfl, (Array.getElem?_eq_some_iff.1 hb).1, hc, fun i v hv => ?_⟩
    have := World.ownsRow.cells h' (g := g) rfl i v hv
    rwa [show (⟨g, 0, none⟩ : Addr).add i = ⟨g, i, none⟩ by unfold Addr.add; split <;> simp_all] at this

set_option maxRecDepth 100000 in
set_option maxHeartbeats 1000000 in
theorem xawake_walk {w : World} (hx : MxL w) : Calls Tryz.prog 6 #[] w fun e w' => e = .returned (.bool true) ∧ Below w.heap.size w w' := by
  have HX := thid hx
  clear hx
  go_enter Tryz.func6, Tryz.ntmps6
  go_wp2_with fail
  refine (L4.new_ok 20 (by decide) _).mono ?_
  rintro e w1 ⟨s, rfl, hF⟩
  have HN := thid (inew_ok hF (by decide) (by decide))
  clear hF
  unfold arV at HN ⊢
  go_wp2_with fail
  refine HN.out.mono ?_
  rintro e w2 ⟨x, rfl, s2, t, r2, p2, k2⟩
  have HK2 := thid k2
  clear HN k2
  go_wp2_with fail
  refine (num_walk 7 _).mono ?_
  rintro e w3 ⟨rfl, b3⟩
  have HK3 := thid (HK2.out.on b3)
  have HA1 := thid (HK3.out.add HX.out (k := 2) (n := 7) (b := ⟨#[]⟩) (id := 1) (by decide) (by decide) (by decide))
  rw [xadd1.1, xadd1.2] at HA1
  clear b3 HK2
  unfold valV at HA1 ⊢
  go_wp2_with fail
  refine HA1.out.mono ?_
  rintro e w4 ⟨rfl, s4, r4, h4, ps4, p4, k4⟩
  have HK4 := thid k4
  clear HK3 HA1 k4
  go_wp2_with fail
  refine (num_walk 3 _).mono ?_
  rintro e w5 ⟨rfl, b5⟩
  have HK5 := thid (HK4.out.on b5)
  have HA2 := thid (HK5.out.add HX.out (k := 2) (n := 3) (b := ⟨#[]⟩) (id := 2) (by decide) (by decide) (by decide))
  rw [xadd2.1, xadd2.2] at HA2
  clear b5 HK4
  unfold valV at HA2 ⊢
  go_wp2_with fail
  refine HA2.out.mono ?_
  rintro e w6 ⟨rfl, s6, r6, h6, ps6, p6, k6⟩
  have HK6 := thid k6
  clear HK5 HA2 k6
  go_wp2_with fail
  refine (num_walk 7 _).mono ?_
  rintro e w7 ⟨rfl, b7⟩
  have HK7 := thid (HK6.out.on b7)
  have HA3 := thid (HK7.out.add HX.out (k := 2) (n := 7) (b := ⟨#[]⟩) (id := 0) (by decide) (by decide) (by decide))
  rw [xadd3.1, xadd3.2] at HA3
  clear b7 HK6
  unfold valV at HA3 ⊢
  go_wp2_with fail
  refine HA3.out.mono ?_
  rintro e w8 ⟨rfl, s8, r8, h8, ps8, p8, k8⟩
  have HK8 := thid k8
  clear HK7 HA3 k8
  have hfw : ps8.length ≤ 7 := by have := HK8.out.fat.few HK8.out.tw.tp.sub; simp at this; omega
  have HP := thid (pairs_ok (eachC_ok (lo := noB) (hi := noB) HK8.out.ix HK8.out.tw (HX.out.on HK8.out.bel) (by decide) (by decide) (by simp; omega)))
  rw [xtold] at HP
  unfold Bd.v noB at HP
  go_wp2_with fail
  refine HP.out.mono ?_
  rintro e w9 ⟨a9, c9, rfl, o9, b9⟩
  have HK9 := thid (HK8.out.on b9)
  have HO9 := thid o9
  clear HP HK8 o9 b9
  go_wp2_with fail
  refine (num_walk 7 _).mono ?_
  rintro e w10 ⟨rfl, b10⟩
  have HK10 := thid (HK9.out.on b10)
  have HO10 := thid (L5.owns_of_block HO9.out fun q hq => b10.block q (HO9.out.lt q hq).2)
  have HFI := thid (first_ok (k := 2) (n := 7) (s := ⟨#[]⟩) (eachC_ok (lo := in7) (hi := in7) HK10.out.ix HK10.out.tw (HX.out.on HK10.out.bel) (by decide) (by decide) (by simp; omega)))
  have e7 : (⟨true, true, 2, 7, ⟨#[]⟩⟩ : Bd) = in7 := rfl
  rw [e7, xfirst] at HFI
  clear e7 HK9 HO9 b10
  unfold valV at HFI ⊢
  go_wp2_with fail
  refine HFI.out.mono ?_
  rintro e w11 ⟨rfl, b11⟩
  have HF : Hid (Below w.heap.size w w11) := tbelow_on HK10.out.bel b11
  have HO11 := thid (L5.owns_of_block HO10.out fun q hq => b11.block q (HO10.out.lt q hq).2)
  obtain ⟨g, rfl, gl, gc, gx⟩ := owns4_at HO11.out (by decide)
  have gc' : 3 ≤ c9 := gc
  have q0 : w11.cell? ⟨g, 3, none⟩ = some (.int .i64 2) := gx 3 _ rfl
  have q1 : w11.cell? ⟨g, 7, none⟩ = some (.int .i64 0) := gx 7 _ rfl
  clear HFI HK10 HO10 b11 HO11 gx gc
  go_wp2
  go_ret
  exact ⟨rfl, HF.out⟩
end Go.Proofs.YtjocopclgehciaaGreatDoor
