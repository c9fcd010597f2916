/-
  Expr: lists of nodes: are all true, the first error, plain; the document's All and Row.
-/
import Derived.Test.YtlckoenkogaibaaErE
import Derived.Test.YtlckoenkogaibaaEvC
namespace Go.Proofs.Ytlckoenkogaibaa
open Go.RowKit

def allStep (t : Int × Int) (r : Bool × Int) : Bool × Int := if t.2 == 0 then (if t.1 == 1 then r else (false, 0)) else (false, t.2)
/-- Are all true? -/
def allN (n : Nat) (rs : List RowL) : List NL → Bool × Int
  | [] => (true, 0)
  | x :: l => allStep (trE (evN n rs x)) (allN n rs l)
def errStep (c r : Int) : Int := if c == 0 then r else c
/-- The first error. -/
def errN (n : Nat) (rs : List RowL) : List NL → Int
  | [] => 0
  | x :: l => errStep (evN n rs x).2 (errN n rs l)

theorem drop_at {α : Type} {l : List α} {j : Nat} {x : α} (h : l[j]? = some x) : l.drop j = x :: l.drop (j + 1) := by
  obtain ⟨hj, e⟩ := List.getElem?_eq_some_iff.1 h
  rw [List.drop_eq_getElem_cons hj, e]
theorem allN_at {n : Nat} {rs : List RowL} {l : List NL} {j : Nat} {x : NL} (h : l[j]? = some x) : allN n rs (l.drop j) = allStep (trE (evN n rs x)) (allN n rs (l.drop (j + 1))) := by
  rw [drop_at h]; rfl
theorem errN_at {n : Nat} {rs : List RowL} {l : List NL} {j : Nat} {x : NL} (h : l[j]? = some x) : errN n rs (l.drop j) = errStep (evN n rs x).2 (errN n rs (l.drop (j + 1))) := by
  rw [drop_at h]; rfl
theorem allStep_err {t : Int × Int} {r : Bool × Int} (h : (t.2 != 0) = true) : allStep t r = (false, t.2) := by
  unfold allStep; rw [if_neg (by simpa using h)]
theorem allStep_no {t : Int} {r : Bool × Int} (h : (t != 1) = true) : allStep (t, 0) r = (false, 0) := by
  show (if t == 1 then r else (false, 0)) = _
  rw [if_neg (by simpa using h)]
theorem allStep_yes {t : Int} {r : Bool × Int} (h : (t != 1) = false) : allStep (t, 0) r = r := by
  show (if t == 1 then r else (false, 0)) = _
  rw [if_pos (by simpa using h)]
theorem errStep_no {c r : Int} (h : (c != 0) = true) : errStep c r = c := by
  unfold errStep; rw [if_neg (by simpa using h)]
theorem allN_like (rs : List RowL) {n : Nat} : ∀ {l m : List NL}, l.length = m.length → (∀ (j : Nat) k k', l[j]? = some k → m[j]? = some k' → LikeN n k k') → allN n rs l = allN n rs m ∧ errN n rs l = errN n rs m ∧ (l.map fun x => (evN n rs x).1) = (m.map fun x => (evN n rs x).1)
  | [], [], _, _ => ⟨rfl, rfl, rfl⟩
  | x :: l, y :: m, hl, h => by
    obtain ⟨h1, h2, h3⟩ := allN_like rs (l := l) (m := m) (by simpa using hl) fun j k k' a b => h (j + 1) k k' (by simpa using a) (by simpa using b)
    have e := (h 0 x y rfl rfl).ev rs
    refine ⟨?_, ?_, ?_⟩
    · rw [allN, allN, e, h1]
    · rw [errN, errN, e, h2]
    · rw [List.map_cons, List.map_cons, e, h3]
  | [], _ :: _, hl, _ => by simp at hl
  | _ :: _, [], hl, _ => by simp at hl

set_option maxRecDepth 100000 in
set_option maxHeartbeats 1000000 in
theorem rall_walk {n : Nat} {l : List NL} {a : Option Addr} {c : Nat} {ra : Option Addr} {rs : List RowL} {rc : Nat} {w : World} (hS : Rw.SlG nC 7 w a l) (hI : ∀ k ∈ l, InN n w k) (hd : ∀ k ∈ l, deepN n k = false) (hl : l.length ≤ 50) (hR : RowsIn w ra rs) (hF : RowsFit rs) :
    Calls Try.prog 12 #[.slice a l.length c, .slice ra rs.length rc] w fun e w' => e = .returned (.tuple #[.bool (allN n rs l).1, .int .i64 (allN n rs l).2]) ∧ Below w.heap.size w w' := by
  have HS := Rw.dh hS
  have HV := Rw.dh (fun k (hk : k ∈ l) W (hb : Below w.heap.size w W) => reval_walk (ra := ra) (rc := rc) hF n k W ((hI k hk).on hb) (hd k hk) (hR.on hb))
  have HRT := Rw.dh (fun k n s W => rtruth_walk k n s W)
  unfold valV at HRT
  clear hS hI hd hR hF
  go_enter Try.func12, Try.ntmps12
  go_wp2_with fail
  go_loopw [6] (fun i wr => ∃ j : Nat, j ≤ l.length ∧ i = .int .i64 (j : Int) ∧ Hid (Below w.heap.size w wr) ∧ Hid (allN n rs l = allN n rs (l.drop j))) (fun i _ => l.length - (intOf i).toNat)
  case atStart => exact ⟨0, Nat.zero_le _, rfl, Below.refl _ _, rfl⟩
  case round =>
    obtain ⟨j, hj, rfl, HB, HA⟩ := hrel
    by_cases hlt : j < l.length
    · obtain ⟨b, o, k, rfl, hb, hx, hc⟩ := (HS.out.below HB.out).at hlt
      have hv := HV.out k (List.mem_of_getElem? hx) wr HB.out
      have HA1 : Hid (allN n rs l = allStep (trE (evN n rs k)) (allN n rs (l.drop (j + 1)))) := HA.out.trans (allN_at hx)
      generalize evN n rs k = r at *
      have c0 : wr.cell? ⟨b, o + j * 7, none⟩ = some (.string k.op) := hc 0 _ rfl
      have c1 : wr.cell? ⟨b, o + j * 7 + 1, none⟩ = some (.int .i64 k.vk) := hc 1 _ rfl
      have c2 : wr.cell? ⟨b, o + j * 7 + 2, none⟩ = some (.int .i64 k.vn) := hc 2 _ rfl
      have c3 : wr.cell? ⟨b, o + j * 7 + 3, none⟩ = some (.string k.vs) := hc 3 _ rfl
      have c4 : wr.cell? ⟨b, o + j * 7 + 4, none⟩ = some (.int .i64 k.var) := hc 4 _ rfl
      have c5 : wr.cell? ⟨b, o + j * 7 + 5, none⟩ = some (.int .i64 k.col) := hc 5 _ rfl
      have c6 : wr.cell? ⟨b, o + j * 7 + 6, none⟩ = some (.slice k.a k.kids.length k.c) := hc 6 _ rfl
      clear hc hx HA
      unfold nV at hv
      go_wp2_with fail
      refine hv.mono ?_
      clear hv
      rintro e w1 ⟨rfl, hb1⟩
      have HB1 := Rw.dh (below_on HB.out hb1)
      clear hb1 c0 c1 c2 c3 c4 c5 c6 hb HB
      obtain ⟨⟨vk, vn, vs⟩, c⟩ := r
      unfold vvV valV
      cases hc : (c != 0)
      · obtain rfl : c = 0 := by simpa using hc
        clear hc
        have HB2 := Rw.dh (HB1.out.alloc HB1.out.size (.cells #[.int .i64 vk, .int .i64 vn, .string vs] 23))
        have HT : Hid (∀ c, truthE vk vn = c → trE (⟨vk, vn, vs⟩, 0) = if c == 0 then (truthT vk vn, 0) else (0, c)) := fun c hc => by rw [← hc]; rfl
        go_wp2_with fail
        refine (HRT.out vk vn vs _).mono ?_
        rintro e w3 ⟨rfl, hb⟩
        have HB3 := Rw.dh (below_on HB2.out hb)
        clear hb HB1 HB2
        generalize truthT vk vn = t at *
        generalize truthE vk vn = c at *
        cases hc : (c != 0)
        · obtain rfl : c = 0 := by simpa using hc
          have hT : trE (⟨vk, vn, vs⟩, 0) = (t, 0) := HT.out 0 rfl
          have hA2 := HA1.out
          rw [hT] at hA2
          clear HT hT HA1
          cases ht : (t != 1)
          · have HA2 : Hid (allN n rs l = allN n rs (l.drop (j + 1))) := hA2.trans (allStep_yes ht)
            clear hA2
            go_wp2
            go_roundw
            case rel => exact ⟨j + 1, hlt, by go_num, HB3, HA2⟩
            case measure => simp [intOf]; omega
          · have HE := Rw.dh (hA2.trans (allStep_no ht))
            clear hA2
            go_wp2
            go_ret2
            exact ⟨(by rw [HE.out]; rfl), HB3.out⟩
        · have hT : trE (⟨vk, vn, vs⟩, 0) = (0, c) := (HT.out c rfl).trans (if_neg (by simpa using hc))
          have hA2 := HA1.out
          rw [hT] at hA2
          have HE := Rw.dh (hA2.trans (allStep_err hc))
          clear HT hT HA1 hA2
          go_wp2
          go_ret2
          exact ⟨(by rw [HE.out]; rfl), HB3.out⟩
      · have hT : trE (⟨vk, vn, vs⟩, c) = (0, c) := trE_no (a := (⟨vk, vn, vs⟩, c)) hc
        have hA2 := HA1.out
        rw [hT] at hA2
        have HE := Rw.dh (hA2.trans (allStep_err hc))
        have HB2 := Rw.dh (HB1.out.alloc HB1.out.size (.cells #[.int .i64 vk, .int .i64 vn, .string vs] 23))
        clear hT HA1 hA2
        go_wp2
        go_ret2
        exact ⟨(by rw [HE.out]; rfl), HB2.out⟩
    · have hjs : j = l.length := by omega
      subst hjs
      have hA := HA.out
      rw [List.drop_length] at hA
      have HE := Rw.dh hA
      clear hA HA
      go_wp2
      go_ret2
      exact ⟨by rw [HE.out]; rfl, HB.out⟩

theorem infoVal : (Try.prog.info? 23).map (fun i => (i.zero, i.size, i.bytes)) = some (some (vvV vz), 3, 32) := by kernel_rfl

/-- What Row answers: the values, or nothing and the first error. -/
def RowP (vs : List Vv) (c : Int) (w : World) (e : Ending) (W : World) : Prop := Below w.heap.size w W ∧ (((c != 0) = true ∧ e = .returned (.tuple #[.slice none 0 0, .int .i64 c])) ∨ (c = 0 ∧ ∃ a cap, e = .returned (.tuple #[.slice a vs.length cap, .int .i64 0]) ∧ Rw.SlG vvC 3 W a vs))

set_option maxRecDepth 100000 in
set_option maxHeartbeats 1000000 in
theorem rrow_walk {n : Nat} {l : List NL} {a : Option Addr} {c : Nat} {ra : Option Addr} {rs : List RowL} {rc : Nat} {w : World} (hS : Rw.SlG nC 7 w a l) (hI : ∀ k ∈ l, InN n w k) (hd : ∀ k ∈ l, deepN n k = false) (hl : l.length ≤ 50) (hR : RowsIn w ra rs) (hF : RowsFit rs) :
    Calls Try.prog 14 #[.slice a l.length c, .slice ra rs.length rc] w (RowP (l.map fun x => (evN n rs x).1) (errN n rs l) w) := by
  have HS := Rw.dh hS
  have HV := Rw.dh (fun k (hk : k ∈ l) W (hb : Below w.heap.size w W) => reval_walk (ra := ra) (rc := rc) hF n k W ((hI k hk).on hb) (hd k hk) (hR.on hb))
  clear hS hI hd hR hF
  go_enter Try.func14, Try.ntmps14
  go_wp2_with fail
  refine Rw.to_letter (F := fun W => Below w.heap.size w W ∧ W.ownsRow w.heap.size 23 3 (.slice (some ⟨w.heap.size, 0, none⟩) 0 0) 0 []) ⟨Rw.below_alloc _ _, Rw.own_new (Rw.heap_new _ _) (Nat.le_refl _)⟩ ?_
  rintro W0 ⟨hB0, hO0⟩
  go_loopw [6, 7] (fun v i wr => ∃ j : Nat, j ≤ l.length ∧ i = .int .i64 (j : Int) ∧ Hid (Below w.heap.size w wr ∧ wr.ownsRow w.heap.size 23 3 v j (Rw.flat vvC ((l.take j).map fun x => (evN n rs x).1)) ∧ errN n rs l = errN n rs (l.drop j))) (fun _ i _ => l.length - (intOf i).toNat)
  case atStart => exact ⟨0, Nat.zero_le _, rfl, hB0, hO0, rfl⟩
  case round =>
    obtain ⟨j, hj, rfl, HR⟩ := hrel
    clear hB0 hO0
    by_cases hlt : j < l.length
    · obtain ⟨b, o, k, rfl, hb, hx, hc⟩ := (HS.out.below HR.out.1).at hlt
      have hv := HV.out k (List.mem_of_getElem? hx) wr HR.out.1
      have HA1 : Hid (errN n rs l = errStep (evN n rs k).2 (errN n rs (l.drop (j + 1)))) := HR.out.2.2.trans (errN_at hx)
      have HM : Hid (((l.take (j + 1)).map fun x => (evN n rs x).1) = ((l.take j).map fun x => (evN n rs x).1) ++ [(evN n rs k).1]) := by
        rw [Hid, List.take_add_one, hx]; simp
      generalize evN n rs k = r at HA1 HM hv
      have c0 : wr.cell? ⟨b, o + j * 7, none⟩ = some (.string k.op) := hc 0 _ rfl
      have c1 : wr.cell? ⟨b, o + j * 7 + 1, none⟩ = some (.int .i64 k.vk) := hc 1 _ rfl
      have c2 : wr.cell? ⟨b, o + j * 7 + 2, none⟩ = some (.int .i64 k.vn) := hc 2 _ rfl
      have c3 : wr.cell? ⟨b, o + j * 7 + 3, none⟩ = some (.string k.vs) := hc 3 _ rfl
      have c4 : wr.cell? ⟨b, o + j * 7 + 4, none⟩ = some (.int .i64 k.var) := hc 4 _ rfl
      have c5 : wr.cell? ⟨b, o + j * 7 + 5, none⟩ = some (.int .i64 k.col) := hc 5 _ rfl
      have c6 : wr.cell? ⟨b, o + j * 7 + 6, none⟩ = some (.slice k.a k.kids.length k.c) := hc 6 _ rfl
      clear hc hx
      unfold nV at hv
      go_wp2_with fail
      refine hv.mono ?_
      clear hv
      rintro e w1 ⟨rfl, hb1⟩
      have HB1 := Rw.dh hb1
      clear hb1 c0 c1 c2 c3 c4 c5 c6 hb
      obtain ⟨⟨vk, vn, vs⟩, c⟩ := r
      unfold vvV valV
      cases hc : (c != 0)
      · obtain rfl : c = 0 := by simpa using hc
        clear hc
        have hA2 : errN n rs l = errN n rs (l.drop (j + 1)) := HA1.out
        have HA2 := Rw.dh hA2
        clear hA2 HA1
        go_wp2_with (at_builtin; revert HR)
        intro HR
        refine Rw.to_letter (F := fun W => Below w1.heap.size w1 W ∧ Rw.Src W (some ⟨w1.heap.size + 1, 0, none⟩) 1 1 (vvC ⟨vk, vn, vs⟩)) ⟨below_two _ _ _, Rw.src_new _ (vvC ⟨vk, vn, vs⟩) _ 1 1 (by simp)⟩ ?_
        rintro U ⟨bU, sU⟩
        have bA := below_on HB1.out bU
        have o1 := Rw.owns_on HR.out.2.1 bA
        have bW := below_on HR.out.1 bA
        refine append_bigN Try.underlying45 infoVal rfl (by decide) rfl _ _ rfl w.heap.size bW.size _ j _ rfl o1 _ 1 1 (vvC ⟨vk, vn, vs⟩) rfl sU rfl (vvC_one _) (by unfold maxLen; omega) (by omega) ?_
        intro v2 W2 O2 G2 hv2
        have HR2 : Hid (Below w.heap.size w W2 ∧ W2.ownsRow w.heap.size 23 3 v2 (j + 1) (Rw.flat vvC ((l.take (j + 1)).map fun x => (evN n rs x).1)) ∧ errN n rs l = errN n rs (l.drop (j + 1))) :=
          ⟨bW.grown G2 bW.size fun p hp => (o1.lt p hp).1, by rw [HM.out, Rw.flat_append]; simpa [Rw.flat] using O2, HA2.out⟩
        clear O2 G2 hv2 o1 bA sU bU bW HR HM HB1 HA2
        go_wp2_with fail
        exact ⟨⟨j + 1, hlt, by go_num, HR2⟩, by simp [intOf]; omega⟩
      · have HE := Rw.dh (HA1.out.trans (errStep_no hc))
        have HB2 := Rw.dh (below_on HR.out.1 ((HB1.out).alloc HB1.out.size (.cells #[.int .i64 vk, .int .i64 vn, .string vs] 23)))
        clear HA1 HM HR HB1
        go_wp2
        go_ret2
        rw [HE.out]
        exact ⟨HB2.out, Or.inl ⟨hc, rfl⟩⟩
    · have hjs : j = l.length := by omega
      subst hjs
      have hA := HR.out.2.2
      rw [List.drop_length] at hA
      have HE0 : Hid (errN n rs l = 0) := hA
      have ho := HR.out.2.1
      rw [List.take_length] at ho
      obtain ⟨a', c', rfl⟩ := Rw.owns_slice ho
      have hs := (Rw.owns_slg vvC_len (by decide) ho).2.1
      have HE : Hid (RowP (l.map fun x => (evN n rs x).1) 0 w (.returned (.tuple #[.slice a' l.length c', .int .i64 0])) wr) := ⟨HR.out.1, Or.inr ⟨rfl, a', c', by rw [List.length_map], hs⟩⟩
      clear ho hs hA HR
      go_wp2
      go_ret2
      rw [HE0.out]
      exact HE.out
end Go.Proofs.Ytlckoenkogaibaa
