/-
  The walk of CodeRows.
-/
import Derived.Test.YtedlohapoafkjaaDoorRowW
import Derived.Test.YtedlohapoafkjaaDoorUnrowW
import Derived.Test.YtedlohapoafkjaaDoorOrdersK
import Derived.Test.YtedlohapoafkjaaDoorQuietB3
namespace Go.Proofs.YtedlohapoafkjaaDoor
open Go.RowKit

/-- What the walk keeps from call to call. -/
structure CtxR (w0 : World) (a : Option Addr) (n : Nat) (l : List Val) (b : Option Addr) (k : Nat) (l' : List Val) (m : Int) (W : World) : Prop where
  A : Sl W a n l
  D : Sl W b k l'
  B : Below w0.heap.size w0 W
  hl : 1 < W.heap.size
  hm : W.cell? ⟨1, 0, none⟩ = some (.int .i64 m)

theorem CtxR.step {w0 : World} {a : Option Addr} {n : Nat} {l : List Val} {b : Option Addr} {k : Nat} {l' : List Val} {m : Int} {W W' : World} (h : CtxR w0 a n l b k l' m W) (hb : Below W.heap.size W W') : CtxR w0 a n l b k l' m W' :=
  ⟨h.A.below hb, h.D.below hb, below_on h.B hb, Nat.lt_of_lt_of_le h.hl hb.size, by rw [hb.cell h.hl]; exact h.hm⟩

set_option maxRecDepth 100000 in
set_option maxHeartbeats 1000000 in
/-- 'great' of any slice. -/
theorem great_any (a : Option Addr) (n cap : Nat) (l : List Val) (hn : n ≤ maxLen) (w : World) (h : Sl w a n l) :
    Calls Tryd.prog 15 #[.slice a n cap] w fun e w' => (∃ x, e = .returned (.bool x)) ∧ Below w.heap.size w w' := by
  have H : Hid _ := h
  clear h
  unfold maxLen at hn
  go_enter Tryd.func15, Tryd.ntmps15
  by_cases h30 : 30 < n
  · go_wp2
    go_ret
    exact ⟨⟨_, rfl⟩, Below.refl _ _⟩
  have h30' : n ≤ 30 := by omega
  clear h30 hn
  go_wp2
  go_loopw [10] (fun i wr => ∃ j : Nat, j ≤ n ∧ i = .int .i64 j ∧ Below w.heap.size w wr) (fun i _ => n - (intOf i).toNat)
  case atStart => exact ⟨0, Nat.zero_le _, rfl, Below.refl _ _⟩
  case round =>
    obtain ⟨j, hj, rfl, B⟩ := hrel
    by_cases hlt : j < n
    · obtain ⟨b, o, v, rfl, hb, _, c0, c1, c2⟩ := Sl.at H.out hlt
      rw [← B.cell hb] at c0 c1 c2
      have B1 := below_on B (below_alloc wr (.cells #[.int .i64 v.k, .int .i64 v.n, .string v.s] 23))
      go_wp2
      · go_ret
        exact ⟨⟨_, rfl⟩, B1⟩
      · exact ⟨⟨j + 1, hlt, rfl, B1⟩, by simp [intOf]; omega⟩
    · have : j = n := by omega
      subst this
      go_wp2
      go_ret
      exact ⟨⟨_, rfl⟩, B⟩

theorem rowOrd_append (x : List Val) : ∀ x' y y' : List Val, x.length = x'.length → rowOrd (x ++ y) (x' ++ y') = if rowOrd x x' == 0 then rowOrd y y' else rowOrd x x' := by
  induction x with
  | nil => intro x' y y' h; have : x' = [] := List.length_eq_zero_iff.1 h.symm; subst this; rfl
  | cons u x ih =>
    intro x' y y' h
    cases x' with
    | nil => cases h
    | cons v x' =>
      have hl : x.length = x'.length := by simpa using h
      show (if u.ord v == 0 then rowOrd (x ++ y) (x' ++ y') else u.ord v) = if (if u.ord v == 0 then rowOrd x x' else u.ord v) == 0 then rowOrd y y' else (if u.ord v == 0 then rowOrd x x' else u.ord v)
      cases e : (u.ord v == 0)
      · simp only [Bool.false_eq_true, if_false]
        rw [e]; rfl
      · simp only [if_true]
        exact ih x' y y' hl

theorem rowOrd_one (u v : Val) : rowOrd [u] [v] = u.ord v := by
  show (if u.ord v == 0 then 0 else u.ord v) = u.ord v
  split
  · rename_i h; exact (by simpa using h : u.ord v = 0).symm
  · rfl

theorem rowOrd_next {l l' : List Val} {j : Nat} {u v : Val} (h : l[j]? = some u) (h' : l'[j]? = some v) (hz : rowOrd (l.take j) (l'.take j) = 0) (hlen : l.length = l'.length) : rowOrd (l.take (j + 1)) (l'.take (j + 1)) = u.ord v := by
  rw [take_next h, take_next h', rowOrd_append _ _ _ _ (by rw [List.length_take, List.length_take, hlen]), hz, rowOrd_one]
  rfl

theorem rowOrd_end {l l' : List Val} {j : Nat} (hz : ¬ rowOrd (l.take j) (l'.take j) = 0) (hlen : l.length = l'.length) : rowOrd l l' = rowOrd (l.take j) (l'.take j) := by
  have e := rowOrd_append (l.take j) (l'.take j) (l.drop j) (l'.drop j) (by rw [List.length_take, List.length_take, hlen])
  rw [List.take_append_drop, List.take_append_drop] at e
  have hz' : (rowOrd (l.take j) (l'.take j) == 0) = false := by simpa using hz
  rw [e, hz']
  rfl

set_option maxRecDepth 100000 in
set_option maxHeartbeats 8000000 in
theorem rows_walk (a : Option Addr) (n cap : Nat) (l : List Val) (b : Option Addr) (k cap' : Nat) (l' : List Val) (hn : n ≤ maxLen) (hk : k ≤ maxLen) (hf : ∀ v ∈ l, v.fit) (hf' : ∀ v ∈ l', v.fit) (m : Int) (w : World) (hA : Sl w a n l) (hD : Sl w b k l') (hl : 1 < w.heap.size) (hm : w.cell? ⟨1, 0, none⟩ = some (.int .i64 m)) :
    Calls Tryd.prog 7 #[.slice a n cap, .slice b k cap'] w fun e w' => e = .returned (.bool true) ∧ Below w.heap.size w w' := by
  have C : CtxR w a n l b k l' m w := ⟨hA, hD, Below.refl _ _, hl, hm⟩
  have hlen := hA.1
  have hlen' := hD.1
  have HF : Hid (∀ v ∈ l, v.fit) := hf
  have HF' : Hid (∀ v ∈ l', v.fit) := hf'
  clear hA hD hl hm hf hf'
  go_enter Tryd.func7, Tryd.ntmps7
  go_wp2_with fail
  refine (awake_walk m _ C.hl C.hm).mono ?_
  rintro e w1 ⟨rfl, hb⟩
  replace C := C.step hb
  clear hb
  go_wp2_with fail
  refine (great_any a n cap l hn _ C.A).mono ?_
  rintro e w2 ⟨⟨g, rfl⟩, hb⟩
  replace C := C.step hb
  clear hb
  cases g
  · go_wp2_with fail
    refine (great_any b k cap' l' hk _ C.D).mono ?_
    rintro e w3 ⟨⟨g, rfl⟩, hb⟩
    replace C := C.step hb
    clear hb
    cases g
    · go_wp2_with fail
      refine (row_walk a n cap hn l HF.out m _ C.A C.hl C.hm).mono ?_
      rintro e w4 ⟨rfl, hb⟩
      replace C := C.step hb
      clear hb
      go_wp2_with fail
      refine (row_walk b k cap' hk l' HF'.out m _ C.D C.hl C.hm).mono ?_
      rintro e w5 ⟨rfl, hb⟩
      replace C := C.step hb
      clear hb
      go_wp2_with fail
      refine (rrow_walk a n cap hn l HF.out _ C.A).mono ?_
      rintro e w6 ⟨rfl, hb⟩
      replace C := C.step hb
      clear hb
      go_wp2_with fail
      refine (rrow_walk b k cap' hk l' HF'.out _ C.D).mono ?_
      rintro e w7 ⟨rfl, hb⟩
      replace C := C.step hb
      clear hb
      have hss : ((rowS l).toList == (rowS l).toList) = true := beq_self_eq_true _
      have htt : ((rowS l').toList == (rowS l').toList) = true := beq_self_eq_true _
      cases ok : okRow l
      · obtain ⟨_, e2⟩ := row_no ok
        rw [e2]
        clear e2
        cases ok' : okRow l'
        · obtain ⟨_, e2'⟩ := row_no ok'
          rw [e2']
          clear e2'
          go_wp2
          go_ret
          exact ⟨rfl, C.B⟩
        · have e2' : rowE l' = 0 := by unfold rowE; rw [ok']; rfl
          rw [e2']
          clear e2'
          go_wp2
          go_ret
          exact ⟨rfl, C.B⟩
      · have e2 : rowE l = 0 := by unfold rowE; rw [ok]; rfl
        rw [e2]
        clear e2
        cases ok' : okRow l'
        · obtain ⟨_, e2'⟩ := row_no ok'
          rw [e2']
          clear e2'
          go_wp2
          go_ret
          exact ⟨rfl, C.B⟩
        · have e2' : rowE l' = 0 := by unfold rowE; rw [ok']; rfl
          rw [e2']
          clear e2'
          obtain ⟨h6, hok⟩ := (okRow_iff l HF.out).1 ok
          obtain ⟨h6', hok'⟩ := (okRow_iff l' HF'.out).1 ok'
          have es : rowS l = strB (rowK l) := by unfold rowS; rw [ok]; rfl
          have et : rowS l' = strB (rowK l') := by unfold rowS; rw [ok']; rfl
          have hsz := row_len l (fun v hv => (hok v hv).1)
          have hrow := row_order l l'
          have hunr := unr_row l 6 [] h6 hok
          rw [List.nil_append] at hunr
          have HO : Hid (l.length = l'.length → signL (rowK l) (rowK l') = rowOrd l l') := fun e => hrow e hok hok'
          have HU := unrow_walk (strB (rowK l)) (by show (rowK l).length ≤ 100000; omega)
          rw [strB_list] at HU
          have HG : ∀ w, Calls Tryd.prog 20 #[.string (strB (rowK l)), .string (strB (rowK l'))] w fun e w' => e = .returned (.int .i64 (signL (rowK l) (rowK l'))) ∧ w' = w := fun w => sign_walk _ _ w
          rw [es] at hss
          rw [et] at htt
          rw [es, et]
          clear es et hrow hok hok' hsz
          generalize strB (rowK l) = x at *
          generalize strB (rowK l') = y at *
          generalize signL (rowK l) (rowK l') = sg at *
          go_wp2_with fail
          refine (HU _).mono ?_
          rintro e w8 ⟨a2, n2, c2, rfl, hn2, hS2, hb⟩
          replace C := C.step hb
          clear hb HU
          rw [hunr] at hS2
          rw [hunr]
          replace hS2 : Sl w8 a2 n2 l := hS2
          have hnn : n2 = n := by rw [← hS2.1, hlen]
          subst hnn
          have HS2 : Hid _ := hS2
          clear hS2 hunr
          simp only [Option.isSome_some, errY, if_true]
          go_wp2_with fail
          refine (same_walk a2 a n2 c2 cap hn l _ HS2.out C.A).mono ?_
          rintro e w9 ⟨rfl, hb⟩
          replace C := C.step hb
          clear hb HS2
          by_cases hnk : n2 = k
          · subst hnk
            have hll : l.length = l'.length := by omega
            have HE : Hid _ := HO.out hll
            have HL : Hid _ := hll
            have hkk : ((n2 : Int) == (n2 : Int)) = true := beq_self_eq_true _
            clear HO hll
            unfold maxLen at hn
            go_wp2
            go_loopw [15, 16] (fun q i wr => ∃ j : Nat, j ≤ n2 ∧ i = .int .i64 (j : Int) ∧ q = .int .i64 (rowOrd (l.take j) (l'.take j)) ∧ CtxR w a n2 l b n2 l' m wr) (fun _ i _ => n2 - (intOf i).toNat)
            case atStart => exact ⟨0, Nat.zero_le _, rfl, rfl, C⟩
            case round =>
              obtain ⟨j, hj, rfl, rfl, C⟩ := hrel
              by_cases hlt : j < n2
              · by_cases hz : rowOrd (l.take j) (l'.take j) = 0
                · obtain ⟨b1, o1, u, rfl, hb1, hu, c0, c1, c2⟩ := Sl.at C.A hlt
                  obtain ⟨b2, o2, v, rfl, hb2, hv, d0, d1, d2⟩ := Sl.at C.D hlt
                  have HN : Hid _ := rowOrd_next hu hv hz HL.out
                  have hz' : (rowOrd (l.take j) (l'.take j) == 0) = true := by simpa using hz
                  have x0 : ∀ q : BelowW wr, q.w.cell? ⟨b1, o1 + j * 3, none⟩ = some (.int .i64 u.k) := fun q => by rw [q.below.cell hb1]; exact c0
                  have x1 : ∀ q : BelowW wr, q.w.cell? ⟨b1, o1 + j * 3 + 1, none⟩ = some (.int .i64 u.n) := fun q => by rw [q.below.cell hb1]; exact c1
                  have x2 : ∀ q : BelowW wr, q.w.cell? ⟨b1, o1 + j * 3 + 2, none⟩ = some (.string u.s) := fun q => by rw [q.below.cell hb1]; exact c2
                  have y0 : ∀ q : BelowW wr, q.w.cell? ⟨b2, o2 + j * 3, none⟩ = some (.int .i64 v.k) := fun q => by rw [q.below.cell hb2]; exact d0
                  have y1 : ∀ q : BelowW wr, q.w.cell? ⟨b2, o2 + j * 3 + 1, none⟩ = some (.int .i64 v.n) := fun q => by rw [q.below.cell hb2]; exact d1
                  have y2 : ∀ q : BelowW wr, q.w.cell? ⟨b2, o2 + j * 3 + 2, none⟩ = some (.string v.s) := fun q => by rw [q.below.cell hb2]; exact d2
                  have HR : ∀ w, Calls Tryd.prog 21 #[.agg #[.int .i64 u.k, .int .i64 u.n, .string u.s], .agg #[.int .i64 v.k, .int .i64 v.n, .string v.s]] w fun e w' => e = .returned (.int .i64 (u.ord v)) ∧ Below w.heap.size w w' := fun w => rorder_walk u.k u.n u.s v.k v.n v.s w
                  clear c0 c1 c2 d0 d1 d2 hu hv hz
                  generalize rowOrd (l.take j) (l'.take j) = r at *
                  go_wp2
                  refine wp_region_below (by kernel_rfl) (by kernel_rfl) (fun _ => ?_)
                  repeat (go_big_quiet_step (first | (go_at_call 21; exact quiet_of_below (HR _))))
                  refine wpQuiet_nil ?_
                  rintro _ ⟨q, rfl⟩
                  replace C := C.step q.below
                  go_wp2
                  exact ⟨⟨j + 1, hlt, by go_num, by rw [HN.out], C⟩, by simp [intOf]; omega⟩
                · have hr : sg = rowOrd (l.take j) (l'.take j) := HE.out.trans (rowOrd_end hz HL.out)
                  have hz' : (rowOrd (l.take j) (l'.take j) == 0) = false := by simpa using hz
                  clear hz
                  generalize rowOrd (l.take j) (l'.take j) = r at *
                  subst hr
                  have hgg : (sg == sg) = true := beq_self_eq_true _
                  go_wp2_with (go_at_call 20; refine (HG _).mono ?_; rintro e w' ⟨rfl, rfl⟩)
                  go_ret
                  exact ⟨rfl, C.B⟩
              · have hjn : j = n2 := by omega
                subst hjn
                have ht : l.take j = l := List.take_of_length_le (by omega)
                have ht' : l'.take j = l' := List.take_of_length_le (by omega)
                rw [ht, ht', ← HE.out]
                have hgg : (sg == sg) = true := beq_self_eq_true _
                go_wp2_with (go_at_call 20; refine (HG _).mono ?_; rintro e w' ⟨rfl, rfl⟩)
                go_ret
                exact ⟨rfl, C.B⟩
          · have hnk' : ((n2 : Int) == (k : Int)) = false := by rw [beq_eq_false_iff_ne]; omega
            go_wp2
            go_ret
            exact ⟨rfl, C.B⟩
    · go_wp2
      go_ret
      exact ⟨rfl, C.B⟩
  · go_wp2
    go_ret
    exact ⟨rfl, C.B⟩
end Go.Proofs.YtedlohapoafkjaaDoor
