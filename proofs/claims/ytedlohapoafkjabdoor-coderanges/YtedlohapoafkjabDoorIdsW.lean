/-
  The walk of CodeIds.
-/
import Derived.Test.YtedlohapoafkjabDoorCodeC
import Derived.Test.YtedlohapoafkjabDoorCodeD
import Derived.Test.YtedlohapoafkjabDoorNextsW
namespace Go.Proofs.YtedlohapoafkjabDoor
open Go.RowKit

theorem id_ok {n : Int} (h0 : 0 ≤ n) (h1 : n ≤ 1099511627776) : idS n = strB (beL 8 n.toNat) ∧ idE n = 0 ∧ unidN (idS n) = n ∧ unidE (idS n) = 0 := by
  have hn : ¬ (n < 0 ∨ 1099511627776 < n) := by omega
  have e : idS n = strB (beL 8 n.toNat) := by unfold idS; rw [if_neg hn]
  have e2 : idE n = 0 := by unfold idE; rw [if_neg hn]
  have hs : (strB (beL 8 n.toNat)).size = 8 := beL_length 8 _
  have hv : number (strB (beL 8 n.toNat)).data.toList = n.toNat := by rw [strB_list, number_eight (by omega)]
  refine ⟨e, e2, ?_, ?_⟩
  · rw [e]; unfold unidN; rw [hv, if_pos ⟨hs, by omega⟩]; omega
  · rw [e]; unfold unidE; rw [hv, if_pos ⟨hs, by omega⟩]

theorem id_no {n : Int} (h : n < 0 ∨ 1099511627776 < n) : idS n = ⟨#[]⟩ ∧ idE n = 15 := by
  constructor
  · unfold idS; rw [if_pos h]
  · unfold idE; rw [if_pos h]

/-- What ID tells of a number: the key and OK, or nothing and the error. -/
def Ids (n : Int) (x : ByteArray) (e : Int) : Prop :=
  (∃ u : Nat, n = u ∧ (u : Int) ≤ 1099511627776 ∧ x = strB (beL 8 u) ∧ e = 0 ∧ unidN x = u ∧ unidE x = 0) ∨ ((n < 0 ∨ 1099511627776 < n) ∧ x = ⟨#[]⟩ ∧ e = 15)

theorem ids_of (n : Int) : Ids n (idS n) (idE n) := by
  by_cases h : n < 0 ∨ 1099511627776 < n
  · exact Or.inr ⟨h, id_no h⟩
  · obtain ⟨e1, e2, e3, e4⟩ := id_ok (n := n) (by omega) (by omega)
    exact Or.inl ⟨n.toNat, by omega, by omega, e1, e2, by rw [e3]; omega, e4⟩

/-- Two ids' keys stand as they do. -/
theorem ids_order {a b : Int} {x y : ByteArray} {e f : Int} (h : Ids a x e) (k : Ids b y f) :
    (e = 0 ∧ f = 0 ∧ (decide (a < b) == Op.bytesLess x.toList y.toList) = true) ∨ (¬ e = 0) ∨ (¬ f = 0) := by
  rcases h with ⟨u, rfl, hu, rfl, rfl, _, _⟩ | ⟨_, _, rfl⟩
  · rcases k with ⟨v, rfl, hv, rfl, rfl, _, _⟩ | ⟨_, _, rfl⟩
    · refine Or.inl ⟨rfl, rfl, ?_⟩
      rw [strB_toList, strB_toList, bytesLess_lt, beq_iff_eq, decide_eq_decide, eight_lt u v (by omega) (by omega)]
      omega
    · exact Or.inr (Or.inr (by decide))
  · exact Or.inr (Or.inl (by decide))

set_option maxRecDepth 100000 in
set_option maxHeartbeats 4000000 in
theorem ids_walk (a b : Int) (s : ByteArray) (m : Int) (w : World) (hl : 0 < w.heap.size) (hm : w.cell? ⟨0, 0, none⟩ = some (.int .i64 m)) :
    Calls Tryd.prog 3 #[.int .i64 a, .int .i64 b, .string s] w fun e w' => e = .returned (.bool true) ∧ Below w.heap.size w w' := by
  go_enter Tryd.func3, Tryd.ntmps3
  go_wp2_with fail
  refine (awake_walk m _ hl hm).mono ?_
  rintro e w1 ⟨rfl, hb⟩
  clear hl hm
  go_wp2_with fail
  refine (id_walk a _).mono ?_
  rintro e w2 ⟨rfl, hb2⟩
  replace hb := below_on hb hb2
  clear hb2
  go_wp2_with fail
  refine (id_walk b _).mono ?_
  rintro e w3 ⟨rfl, hb2⟩
  replace hb := below_on hb hb2
  clear hb2
  have Fa : Hid (Ids a (idS a) (idE a)) := ids_of a
  have Fb : Hid (Ids b (idS b) (idE b)) := ids_of b
  have HO : Hid ((idE a = 0 ∧ idE b = 0 ∧ (decide (a < b) == Op.bytesLess (idS a).toList (idS b).toList) = true) ∨ (¬ idE a = 0) ∨ (¬ idE b = 0)) := ids_order Fa.out Fb.out
  generalize idS a = xa at *
  generalize idS b = xb at *
  generalize idE a = ea at *
  generalize idE b = eb at *
  go_wp2
  have c0 : (w3.alloc (.cells #[.int .i64 a, .int .i64 b] 3)).cell? ⟨w3.heap.size, 0, none⟩ = some (.int .i64 a) := by simp [go_sem]
  have c1 : (w3.alloc (.cells #[.int .i64 a, .int .i64 b] 3)).cell? ⟨w3.heap.size, 1, none⟩ = some (.int .i64 b) := by simp [go_sem]
  replace hb := below_on hb (below_alloc w3 (.cells #[.int .i64 a, .int .i64 b] 3))
  have hz : w3.heap.size < (w3.alloc (.cells #[.int .i64 a, .int .i64 b] 3)).heap.size := by simp
  generalize w3.alloc (.cells #[.int .i64 a, .int .i64 b] 3) = W at *
  generalize w3.heap.size = g at *
  go_loopw [35] (fun i wr => (i = .int .i64 0 ∨ i = .int .i64 1 ∨ i = .int .i64 2) ∧ Below W.heap.size W wr) (fun i _ => 2 - (intOf i).toNat)
  case atStart => exact ⟨Or.inl rfl, Below.refl _ _⟩
  case round =>
    obtain ⟨hi, L⟩ := hrel
    rw [← L.cell hz] at c0 c1
    rcases hi with rfl | rfl | rfl
    · clear c1 hb Fb HO
      rcases Fa.out with ⟨u, rfl, h1, hq, rfl, e3, e4⟩ | ⟨h', rfl, rfl⟩
      · have hq' : (xa.toList == (strB (beL 8 u)).toList) = true := by rw [hq]; simp
        have h0 : 0 ≤ (u : Int) := by omega
        clear hq
        go_wp2_with fail
        refine (unid_walk xa _).mono ?_
        rintro e w4 ⟨rfl, hb4⟩
        replace L := below_on L hb4
        clear hb4
        rw [e3, e4]
        clear e3 e4
        go_wp2_with fail
        refine (eight_walk u (by omega) _).mono ?_
        rintro e w5 ⟨rfl, hb5⟩
        replace L := below_on L hb5
        clear hb5
        go_wp2
        exact ⟨⟨Or.inr (Or.inl rfl), L⟩, by decide⟩
      · rcases h' with h' | h'
        · go_wp2
          exact ⟨⟨Or.inr (Or.inl rfl), L⟩, by decide⟩
        · have h0 : ¬ a < 0 := by omega
          go_wp2
          exact ⟨⟨Or.inr (Or.inl rfl), L⟩, by decide⟩
    · clear c0 hb Fa HO
      rcases Fb.out with ⟨u, rfl, h1, hq, rfl, e3, e4⟩ | ⟨h', rfl, rfl⟩
      · have hq' : (xb.toList == (strB (beL 8 u)).toList) = true := by rw [hq]; simp
        have h0 : 0 ≤ (u : Int) := by omega
        clear hq
        go_wp2_with fail
        refine (unid_walk xb _).mono ?_
        rintro e w4 ⟨rfl, hb4⟩
        replace L := below_on L hb4
        clear hb4
        rw [e3, e4]
        clear e3 e4
        go_wp2_with fail
        refine (eight_walk u (by omega) _).mono ?_
        rintro e w5 ⟨rfl, hb5⟩
        replace L := below_on L hb5
        clear hb5
        go_wp2
        exact ⟨⟨Or.inr (Or.inr rfl), L⟩, by decide⟩
      · rcases h' with h' | h'
        · go_wp2
          exact ⟨⟨Or.inr (Or.inr rfl), L⟩, by decide⟩
        · have h0 : ¬ b < 0 := by omega
          go_wp2
          exact ⟨⟨Or.inr (Or.inr rfl), L⟩, by decide⟩
    · replace hb := below_on hb L
      clear c0 c1 L hz Fa Fb
      go_wp2_with fail
      refine (unid_walk s _).mono ?_
      rintro e w4 ⟨rfl, hb4⟩
      replace hb := below_on hb hb4
      clear hb4
      have HF : ∀ x e, (s.size = 8 ∧ number s.data.toList ≤ 1099511627776 ∧ x = (number s.data.toList : Int) ∧ e = (0 : Int)) ∨ (s.size = 8 ∧ ¬ number s.data.toList ≤ 1099511627776 ∧ x = 0 ∧ e = 16) ∨ (¬ s.size = 8 ∧ x = 0 ∧ e = 16) → unidN s = x ∧ unidE s = e := by
        intro x e h
        unfold unidN unidE
        rcases h with ⟨h1, h2, rfl, rfl⟩ | ⟨h1, h2, rfl, rfl⟩ | ⟨h1, rfl, rfl⟩
        · rw [if_pos ⟨h1, h2⟩, if_pos ⟨h1, h2⟩]; exact ⟨rfl, rfl⟩
        · rw [if_neg (fun e => h2 e.2), if_neg (fun e => h2 e.2)]; exact ⟨rfl, rfl⟩
        · rw [if_neg (fun e => h1 e.1), if_neg (fun e => h1 e.1)]; exact ⟨rfl, rfl⟩
      by_cases h8 : s.size = 8
      · have hh : ((s.size : Int) == 8) = true := by rw [h8]; rfl
        have h80 : 0 ≤ number s.data.toList := Nat.zero_le _
        by_cases hx : number s.data.toList ≤ 1099511627776
        · obtain ⟨e1, e2⟩ := HF _ _ (Or.inl ⟨h8, hx, rfl, rfl⟩)
          rw [e1, e2]
          clear e1 e2 HF
          rcases HO.out with ⟨rfl, rfl, o3⟩ | o1 | o1
          all_goals
            go_wp2_with (go_at_call 10; refine (rnum_walk s h8 _).mono ?_; rintro e w' ⟨rfl, rfl⟩)
            all_goals (go_ret; exact ⟨rfl, hb⟩)
        · obtain ⟨e1, e2⟩ := HF _ _ (Or.inr (Or.inl ⟨h8, hx, rfl, rfl⟩))
          rw [e1, e2]
          clear e1 e2 HF
          have hx' : 1099511627776 < number s.data.toList := by omega
          rcases HO.out with ⟨rfl, rfl, o3⟩ | o1 | o1
          all_goals
            go_wp2_with (go_at_call 10; refine (rnum_walk s h8 _).mono ?_; rintro e w' ⟨rfl, rfl⟩)
            all_goals (go_ret; exact ⟨rfl, hb⟩)
      · obtain ⟨e1, e2⟩ := HF _ _ (Or.inr (Or.inr ⟨h8, rfl, rfl⟩))
        rw [e1, e2]
        clear e1 e2 HF
        have hh : ((s.size : Int) == 8) = false := by rw [beq_eq_false_iff_ne]; omega
        rcases HO.out with ⟨rfl, rfl, o3⟩ | o1 | o1
        all_goals
          go_wp2
          all_goals (go_ret; exact ⟨rfl, hb⟩)
end Go.Proofs.YtedlohapoafkjabDoor
