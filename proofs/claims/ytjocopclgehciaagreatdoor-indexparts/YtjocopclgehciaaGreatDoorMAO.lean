/-
  slices.Insert of one element into a row of the call's own.
-/
import Derived.Test.YtjocopclgehciaaGreatDoorMAN
import Derived.Test.YtjocopclgehciaaGreatDoorMAM
import Derived.Test.YtjocopclgehciaaGreatDoorMAI
import Derived.Shelf.Slices.Cells
import Derived.Test.YtjocopclgehciaaGreatDoorProg
namespace Go.Proofs.YtjocopclgehciaaGreatDoor
open Go.RowKit

theorem ov_in (L xs : List Value) (i n : Nat) (x : Value) (hn : xs.length = n) (hx : L.take n = xs) (hi : i ≤ n) (hL : n + 1 ≤ L.length) : (ov (ov L (i + 1) (xs.drop i)) i [x]).take (n + 1) = xs.take i ++ [x] ++ xs.drop i := by
  have hl1 : (xs.drop i).length = n - i := by simp; omega
  have e1 : (ov L (i + 1) (xs.drop i)).take i = xs.take i := by
    unfold ov
    rw [List.append_assoc, List.take_append_of_le_length (by simp; omega), List.take_take, Nat.min_eq_left (by omega), ← hx, List.take_take, Nat.min_eq_left hi]
  have e2 : (ov L (i + 1) (xs.drop i)).drop (i + 1) = xs.drop i ++ L.drop (n + 1) := by
    unfold ov
    rw [List.append_assoc, List.drop_append_of_le_length (by simp; omega), List.drop_of_length_le (by simp; omega), List.nil_append, hl1, show i + 1 + (n - i) = n + 1 by omega]
  have e3 : ov (ov L (i + 1) (xs.drop i)) i [x] = (xs.take i ++ [x] ++ xs.drop i) ++ L.drop (n + 1) := by
    show (ov L (i + 1) (xs.drop i)).take i ++ [x] ++ (ov L (i + 1) (xs.drop i)).drop (i + 1) = _
    rw [e1, e2]
    simp
  rw [e3]
  have hl : (xs.take i ++ [x] ++ xs.drop i).length = n + 1 := by simp; omega
  rw [← hl]
  exact List.take_left

theorem ov_end (L xs : List Value) (n : Nat) (x : Value) (hn : xs.length = n) (hx : L.take n = xs) : (ov L n [x]).take (n + 1) = xs ++ [x] := by
  unfold ov
  rw [hx]
  have hl : (xs ++ [x]).length = n + 1 := by simp; omega
  rw [← hl]
  exact List.take_left

theorem insS_end_grow (base : Option Addr) (n c vb : Nat) (cs : List Value) (x : Value) (w : World) (hnc : n ≤ c) (hroom : c < n + 1) (hn : n ≤ 100000)
    (hcl : cs.length = n) (hnil : base = none → n = 0) (hcs : ∀ a, base = some a → ∀ j v, cs[j]? = some v → w.cell? (a.add j) = some v)
    (hvs : ∀ j v, ([x] : List Value)[j]? = some v → w.cell? ⟨vb, 0 + j, none⟩ = some v) (h1v : ∀ v ∈ [x], v.oneCell' = true) :
    Calls Tryz.prog 77 #[.slice base n c, .int .i64 n, .slice (some ⟨vb, 0, none⟩) 1 1] w fun e w' =>
      e = .returned (.slice (some ⟨w.heap.size, 0, none⟩) (n + 1) (grownCap w (n + 1) c 9)) ∧
      w' = w.drew.alloc (.cells ((cs ++ [x]).toArray ++ Builtin.zeroCells (Value.string ⟨#[]⟩).cells (grownCap w (n + 1) c 9 - (n + 1))) 9) :=
  Any2.slices_Insert_string_end_grow insS_lays base n c vb 0 1 1 cs [x] w (by decide) hnc hroom (by omega) hcl rfl hnil hcs hvs h1v

theorem insS_grow (b n c i vb : Nat) (cs : List Value) (x : Value) (w : World) (hi : i < n) (hnc : n ≤ c) (hroom : c < n + 1) (hn : n ≤ 100000)
    (hcl : cs.length = n) (hcs : ∀ j v, cs[j]? = some v → w.cell? ⟨b, 0 + j, none⟩ = some v)
    (hvs : ∀ j v, ([x] : List Value)[j]? = some v → w.cell? ⟨vb, 0 + j, none⟩ = some v) (h1c : ∀ v ∈ cs, v.oneCell' = true) (h1v : ∀ v ∈ [x], v.oneCell' = true) :
    Calls Tryz.prog 77 #[.slice (some ⟨b, 0, none⟩) n c, .int .i64 i, .slice (some ⟨vb, 0, none⟩) 1 1] w fun e w' =>
      e = .returned (.slice (some ⟨w.heap.size, 0, none⟩) (n + 1) (grownCap w (n + 1) c 9)) ∧
      w' = (((w.alloc (.cells ((cs.take i).toArray ++ Builtin.zeroCells (Value.string ⟨#[]⟩).cells (n + 1 - i) ++ Builtin.zeroCells (Value.string ⟨#[]⟩).cells (grownCap w (n + 1) c 9 - (n + 1))) 9)).drew.setCells w.heap.size i [x]).drew).setCells w.heap.size (i + 1) (cs.drop i) :=
  Any2.slices_Insert_string_grow insS_lays b 0 n c i vb 0 1 1 cs [x] w hi (by decide) hnc hroom (by omega) hcl rfl hcs hvs h1c h1v

theorem insI_end_grow (base : Option Addr) (n c vb : Nat) (cs : List Value) (x : Value) (w : World) (hnc : n ≤ c) (hroom : c < n + 1) (hn : n ≤ 100000)
    (hcl : cs.length = n) (hnil : base = none → n = 0) (hcs : ∀ a, base = some a → ∀ j v, cs[j]? = some v → w.cell? (a.add j) = some v)
    (hvs : ∀ j v, ([x] : List Value)[j]? = some v → w.cell? ⟨vb, 0 + j, none⟩ = some v) (h1v : ∀ v ∈ [x], v.oneCell' = true) :
    Calls Tryz.prog 127 #[.slice base n c, .int .i64 n, .slice (some ⟨vb, 0, none⟩) 1 1] w fun e w' =>
      e = .returned (.slice (some ⟨w.heap.size, 0, none⟩) (n + 1) (grownCap w (n + 1) c 3)) ∧
      w' = w.drew.alloc (.cells ((cs ++ [x]).toArray ++ Builtin.zeroCells (Value.int .i64 0).cells (grownCap w (n + 1) c 3 - (n + 1))) 3) :=
  Any2.slices_Insert_int_end_grow insI_lays base n c vb 0 1 1 cs [x] w (by decide) hnc hroom (by omega) hcl rfl hnil hcs hvs h1v

theorem insI_grow (b n c i vb : Nat) (cs : List Value) (x : Value) (w : World) (hi : i < n) (hnc : n ≤ c) (hroom : c < n + 1) (hn : n ≤ 100000)
    (hcl : cs.length = n) (hcs : ∀ j v, cs[j]? = some v → w.cell? ⟨b, 0 + j, none⟩ = some v)
    (hvs : ∀ j v, ([x] : List Value)[j]? = some v → w.cell? ⟨vb, 0 + j, none⟩ = some v) (h1c : ∀ v ∈ cs, v.oneCell' = true) (h1v : ∀ v ∈ [x], v.oneCell' = true) :
    Calls Tryz.prog 127 #[.slice (some ⟨b, 0, none⟩) n c, .int .i64 i, .slice (some ⟨vb, 0, none⟩) 1 1] w fun e w' =>
      e = .returned (.slice (some ⟨w.heap.size, 0, none⟩) (n + 1) (grownCap w (n + 1) c 3)) ∧
      w' = (((w.alloc (.cells ((cs.take i).toArray ++ Builtin.zeroCells (Value.int .i64 0).cells (n + 1 - i) ++ Builtin.zeroCells (Value.int .i64 0).cells (grownCap w (n + 1) c 3 - (n + 1))) 3)).drew.setCells w.heap.size i [x]).drew).setCells w.heap.size (i + 1) (cs.drop i) :=
  Any2.slices_Insert_int_grow insI_lays b 0 n c i vb 0 1 1 cs [x] w hi (by decide) hnc hroom (by omega) hcl rfl hcs hvs h1c h1v

/-- One element more, at i. -/
theorem insert_str {w : World} {base n i vb : Nat} {v x : Value} {xs : List Value} (h : w.ownsRow base 9 1 v n xs) (hi : i ≤ n) (hn : n ≤ 100000) (hbase : base ≤ w.heap.size) (h1 : ∀ u ∈ xs, u.oneCell' = true) (hx1 : x.oneCell' = true) (hvb : w.heap[vb]? = some (.cells #[x] 9 (0, 0))) (hne : v.ownBlock ≠ some vb) :
    Calls Tryz.prog 77 #[v, .int .i64 (i : Int), .slice (some ⟨vb, 0, none⟩) 1 1] w fun e w' => ∃ v', e = .returned v' ∧ w'.ownsRow base 9 1 v' (n + 1) (xs.take i ++ [x] ++ xs.drop i) ∧ w.grownBy w' v.ownBlock ∧ (∀ k, v'.ownBlock = some k → v.ownBlock = some k ∨ w.heap.size ≤ k) := by
  have hxl : xs.length = n := by have := h.1; omega
  have hvs : ∀ j u, ([x] : List Value)[j]? = some u → w.cell? ⟨vb, 0 + j, none⟩ = some u := fun j u hj => by
    have hj0 : j = 0 := by
      have := (List.getElem?_eq_some_iff.1 hj).1
      simpa using this
    subst hj0
    simp at hj
    subst hj
    rw [cell_of_row _ _ _ _ _ _ hvb]
    rfl
  have h1v : ∀ u ∈ [x], u.oneCell' = true := fun u hu => by simp at hu; subst hu; exact hx1
  have hnew : ∀ c, n ≤ c → grownCap w (n + 1) c 9 ≤ maxLen := fun c _ => grownCap_le_maxLen w (n + 1) c 9 (by unfold maxLen; omega)
  rcases h.2 with ⟨rfl, rfl⟩ | ⟨g, cap, cur, rfl, hbg, hg, hnc, hcm, hcs, htake⟩
  · have hx0 : xs = [] := List.eq_nil_of_length_eq_zero hxl
    subst hx0
    obtain rfl : i = 0 := by omega
    refine (insS_end_grow none 0 0 vb [] x w (Nat.le_refl _) (by decide) (by decide) rfl (fun _ => rfl) (fun a ha => by cases ha) hvs h1v).mono ?_
    rintro e w' ⟨rfl, rfl⟩
    refine ⟨_, rfl, ?_, grown_alloc (grown_drew (grown_refl _ _)) _, fun k hk => Or.inr ?_⟩
    · have := own_new w.drew base hbase 9 (Value.string ⟨#[]⟩).cells rfl [x] 1 (grownCap w 1 0 9) rfl (grownCap_ge w 1 0 9) (hnew 0 (Nat.le_refl _))
      exact this
    · cases hk; exact Nat.le_refl _
  · have hcells : ∀ j u, xs[j]? = some u → w.cell? ⟨g, 0 + j, none⟩ = some u := fun j u hj => by
      have hlt := (List.getElem?_eq_some_iff.1 hj).1
      rw [cell_of_row _ _ _ _ _ _ hg, Nat.zero_add, ← hj, ← htake, List.getElem?_take, if_pos (by omega)]
      simp
    have hg' : w.heap[g]? = some (.cells cur.toList.toArray 9 (0, 0)) := by simpa using hg
    have hL : cur.toList.length = cap := by rw [Array.length_toList]; omega
    have hxt : cur.toList.take n = xs := by rw [← htake, Nat.mul_one]
    have hgl : g < w.heap.size := (Array.getElem?_eq_some_iff.1 hg).1
    have hsome : ∀ j, j < cap → (w.cell? ⟨g, j, none⟩).isSome = true := fun j hj => by
      rw [cell_of_row _ _ _ _ _ _ hg]
      simp
      omega
    have hfz : ∀ j, w.frozen? ⟨g, j, none⟩ = false := fun j => frozen_of_row _ _ _ _ _ hg
    by_cases hin : i = n
    · subst hin
      by_cases hroom : i + 1 ≤ cap
      · refine (Any2.slices_Insert_string_end_room insS_lays g 0 i cap vb 0 1 1 [x] w (by decide) hroom (by unfold maxLen at hcm; omega) rfl (fun j hj => hsome _ (by omega)) (fun j hj => hfz _) hvs h1v).mono ?_
        rintro e w' ⟨rfl, rfl⟩
        refine ⟨_, rfl, ?_, setCells_grown g _ _ _ _ (grown_refl _ _), fun k hk => Or.inl hk⟩
        have hb := setCells_blk [x] i w cur.toList hg' (by simp; omega)
        rw [Nat.zero_add]
        refine own_row hbg hb hroom hcm (by rw [ov_length _ _ _ (by simp; omega)]; exact hL) ?_
        rw [ov_end _ xs i x hxl hxt]
        simp [← hxl]
      · refine (insS_end_grow (some ⟨g, 0, none⟩) i cap vb xs x w hnc (by omega) hn hxl (fun ha => by cases ha) (fun a ha j u hj => by cases ha; rw [Addr.add_lit]; exact hcells j u hj) hvs h1v).mono ?_
        rintro e w' ⟨rfl, rfl⟩
        refine ⟨_, rfl, ?_, grown_alloc (grown_drew (grown_refl _ _)) _, fun k hk => Or.inr ?_⟩
        · have := own_new w.drew base hbase 9 (Value.string ⟨#[]⟩).cells rfl (xs ++ [x]) (i + 1) (grownCap w (i + 1) cap 9) (by simp [hxl]) (grownCap_ge w (i + 1) cap 9) (hnew cap hnc)
          rw [show xs.take i ++ [x] ++ xs.drop i = xs ++ [x] by simp [← hxl]]
          exact this
        · cases hk; exact Nat.le_refl _
    · by_cases hroom : n + 1 ≤ cap
      · have hvlt : vb < w.heap.size := (Array.getElem?_eq_some_iff.1 hvb).1
        refine (Any2.slices_Insert_string_shift insS_lays g 0 n cap i vb 0 1 1 xs [x] w (by omega) (by decide) hroom (by unfold maxLen at hcm; omega) (fun e => hne (by rw [e]; rfl)) hxl rfl hcells (fun j hj => hsome _ (by omega)) (fun j hj => hfz _) hvs h1 h1v 9 9 1 cap (by simp [World.shape?, hvb]) (by simp [World.shape?, hg]; omega) (by omega) (frozen_of_row _ _ _ _ _ hvb) (frozen_of_row _ _ _ _ _ hvb)).mono ?_
        rintro e w' ⟨rfl, rfl⟩
        refine ⟨_, rfl, ?_, setCells_grown g _ _ _ _ (setCells_grown g _ _ _ _ (grown_drew (grown_refl _ _))), fun k hk => Or.inl hk⟩
        have hb1 := setCells_blk (xs.drop i) (i + 1) w.drew cur.toList hg' (by simp; omega)
        have hb2 := setCells_blk [x] i _ _ hb1 (by rw [ov_length _ _ _ (by simp; omega)]; simp; omega)
        rw [Nat.zero_add, Nat.zero_add]
        refine own_row hbg hb2 hroom hcm ?_ (ov_in _ xs i n x hxl hxt hi (by omega))
        rw [ov_length _ _ _ (by rw [ov_length _ _ _ (by simp; omega)]; simp; omega), ov_length _ _ _ (by simp; omega)]
        exact hL
      · refine (insS_grow g n cap i vb xs x w (by omega) hnc (by omega) hn hxl hcells hvs h1 h1v).mono ?_
        rintro e w' ⟨rfl, rfl⟩
        have hcg := grownCap_ge w (n + 1) cap 9
        have hcm2 := hnew cap hnc
        generalize grownCap w (n + 1) cap 9 = C at hcg hcm2 ⊢
        obtain ⟨LL, hLL⟩ : ∃ LL : List Value, LL = xs.take i ++ (Builtin.zeroCells (Value.string ⟨#[]⟩).cells (n + 1 - i)).toList ++ (Builtin.zeroCells (Value.string ⟨#[]⟩).cells (C - (n + 1))).toList := ⟨_, rfl⟩
        have hz1 : (Builtin.zeroCells (Value.string ⟨#[]⟩).cells (n + 1 - i)).toList.length = n + 1 - i := by rw [Array.length_toList, size_zeroCells]; exact Nat.mul_one _
        have hz2 : (Builtin.zeroCells (Value.string ⟨#[]⟩).cells (C - (n + 1))).toList.length = C - (n + 1) := by rw [Array.length_toList, size_zeroCells]; exact Nat.mul_one _
        have hLl : LL.length = C := by rw [hLL]; simp only [List.length_append, List.length_take, hz1, hz2]; omega
        have hb0 : (w.alloc (.cells ((xs.take i).toArray ++ Builtin.zeroCells (Value.string ⟨#[]⟩).cells (n + 1 - i) ++ Builtin.zeroCells (Value.string ⟨#[]⟩).cells (C - (n + 1))) 9)).drew.heap[w.heap.size]? = some (.cells LL.toArray 9 (0, 0)) := by
          have e : ((xs.take i).toArray ++ Builtin.zeroCells (Value.string ⟨#[]⟩).cells (n + 1 - i) ++ Builtin.zeroCells (Value.string ⟨#[]⟩).cells (C - (n + 1))) = LL.toArray := by
            apply Array.ext'
            rw [hLL]
            simp
          rw [e]
          exact heap_alloc_new w _
        have hb1 := setCells_blk [x] i _ _ hb0 (by simp; omega)
        have hb2 := setCells_blk (xs.drop i) (i + 1) _ _ (show (World.setCells _ w.heap.size i [x]).drew.heap[w.heap.size]? = _ from hb1) (by rw [ov_length _ _ _ (by simp; omega)]; simp; omega)
        have hgr : w.grownBy (w.alloc (.cells ((xs.take i).toArray ++ Builtin.zeroCells (Value.string ⟨#[]⟩).cells (n + 1 - i) ++ Builtin.zeroCells (Value.string ⟨#[]⟩).cells (C - (n + 1))) 9)).drew (some w.heap.size) := grown_drew (grown_alloc (grown_refl _ _) _)
        have hgr2 := setCells_grown w.heap.size (xs.drop i) (i + 1) _ _ (grown_drew (setCells_grown w.heap.size [x] i _ _ hgr))
        refine ⟨_, rfl, ?_, ⟨hgr2.os, hgr2.tape, hgr2.output, hgr2.size, fun k hk _ => hgr2.block k hk (fun e => by cases e; omega)⟩, fun k hk => Or.inr ?_⟩
        · refine own_row hbase hb2 hcg hcm2 ?_ ?_
          · rw [ov_length _ _ _ (by rw [ov_length _ _ _ (by simp; omega)]; simp; omega), ov_length _ _ _ (by simp; omega)]
            exact hLl
          · have e1 : LL.take i = xs.take i := by
              rw [hLL, List.append_assoc, List.take_append_of_le_length (by simp; omega), List.take_take, Nat.min_self]
            have hlx : (xs.take i).length = i := by simp; omega
            have e2 : (ov LL i [x]).take (i + 1) = xs.take i ++ [x] := by
              unfold ov
              rw [e1]
              have hl : (xs.take i ++ [x]).length = i + 1 := by simp; omega
              rw [← hl]
              exact List.take_left
            unfold ov
            unfold ov at e2
            rw [e2]
            have hl : (xs.take i ++ [x] ++ xs.drop i).length = n + 1 := by simp; omega
            rw [← hl]
            exact List.take_left
        · cases hk; exact Nat.le_refl _

/-- One element more, at i. -/
theorem insert_int {w : World} {base n i vb : Nat} {v x : Value} {xs : List Value} (h : w.ownsRow base 3 1 v n xs) (hi : i ≤ n) (hn : n ≤ 100000) (hbase : base ≤ w.heap.size) (h1 : ∀ u ∈ xs, u.oneCell' = true) (hx1 : x.oneCell' = true) (hvb : w.heap[vb]? = some (.cells #[x] 3 (0, 0))) (hne : v.ownBlock ≠ some vb) :
    Calls Tryz.prog 127 #[v, .int .i64 (i : Int), .slice (some ⟨vb, 0, none⟩) 1 1] w fun e w' => ∃ v', e = .returned v' ∧ w'.ownsRow base 3 1 v' (n + 1) (xs.take i ++ [x] ++ xs.drop i) ∧ w.grownBy w' v.ownBlock ∧ (∀ k, v'.ownBlock = some k → v.ownBlock = some k ∨ w.heap.size ≤ k) := by
  have hxl : xs.length = n := by have := h.1; omega
  have hvs : ∀ j u, ([x] : List Value)[j]? = some u → w.cell? ⟨vb, 0 + j, none⟩ = some u := fun j u hj => by
    have hj0 : j = 0 := by
      have := (List.getElem?_eq_some_iff.1 hj).1
      simpa using this
    subst hj0
    simp at hj
    subst hj
    rw [cell_of_row _ _ _ _ _ _ hvb]
    rfl
  have h1v : ∀ u ∈ [x], u.oneCell' = true := fun u hu => by simp at hu; subst hu; exact hx1
  have hnew : ∀ c, n ≤ c → grownCap w (n + 1) c 3 ≤ maxLen := fun c _ => grownCap_le_maxLen w (n + 1) c 3 (by unfold maxLen; omega)
  rcases h.2 with ⟨rfl, rfl⟩ | ⟨g, cap, cur, rfl, hbg, hg, hnc, hcm, hcs, htake⟩
  · have hx0 : xs = [] := List.eq_nil_of_length_eq_zero hxl
    subst hx0
    obtain rfl : i = 0 := by omega
    refine (insI_end_grow none 0 0 vb [] x w (Nat.le_refl _) (by decide) (by decide) rfl (fun _ => rfl) (fun a ha => by cases ha) hvs h1v).mono ?_
    rintro e w' ⟨rfl, rfl⟩
    refine ⟨_, rfl, ?_, grown_alloc (grown_drew (grown_refl _ _)) _, fun k hk => Or.inr ?_⟩
    · have := own_new w.drew base hbase 3 (Value.int .i64 0).cells rfl [x] 1 (grownCap w 1 0 3) rfl (grownCap_ge w 1 0 3) (hnew 0 (Nat.le_refl _))
      exact this
    · cases hk; exact Nat.le_refl _
  · have hcells : ∀ j u, xs[j]? = some u → w.cell? ⟨g, 0 + j, none⟩ = some u := fun j u hj => by
      have hlt := (List.getElem?_eq_some_iff.1 hj).1
      rw [cell_of_row _ _ _ _ _ _ hg, Nat.zero_add, ← hj, ← htake, List.getElem?_take, if_pos (by omega)]
      simp
    have hg' : w.heap[g]? = some (.cells cur.toList.toArray 3 (0, 0)) := by simpa using hg
    have hL : cur.toList.length = cap := by rw [Array.length_toList]; omega
    have hxt : cur.toList.take n = xs := by rw [← htake, Nat.mul_one]
    have hgl : g < w.heap.size := (Array.getElem?_eq_some_iff.1 hg).1
    have hsome : ∀ j, j < cap → (w.cell? ⟨g, j, none⟩).isSome = true := fun j hj => by
      rw [cell_of_row _ _ _ _ _ _ hg]
      simp
      omega
    have hfz : ∀ j, w.frozen? ⟨g, j, none⟩ = false := fun j => frozen_of_row _ _ _ _ _ hg
    by_cases hin : i = n
    · subst hin
      by_cases hroom : i + 1 ≤ cap
      · refine (Any2.slices_Insert_int_end_room insI_lays g 0 i cap vb 0 1 1 [x] w (by decide) hroom (by unfold maxLen at hcm; omega) rfl (fun j hj => hsome _ (by omega)) (fun j hj => hfz _) hvs h1v).mono ?_
        rintro e w' ⟨rfl, rfl⟩
        refine ⟨_, rfl, ?_, setCells_grown g _ _ _ _ (grown_refl _ _), fun k hk => Or.inl hk⟩
        have hb := setCells_blk [x] i w cur.toList hg' (by simp; omega)
        rw [Nat.zero_add]
        refine own_row hbg hb hroom hcm (by rw [ov_length _ _ _ (by simp; omega)]; exact hL) ?_
        rw [ov_end _ xs i x hxl hxt]
        simp [← hxl]
      · refine (insI_end_grow (some ⟨g, 0, none⟩) i cap vb xs x w hnc (by omega) hn hxl (fun ha => by cases ha) (fun a ha j u hj => by cases ha; rw [Addr.add_lit]; exact hcells j u hj) hvs h1v).mono ?_
        rintro e w' ⟨rfl, rfl⟩
        refine ⟨_, rfl, ?_, grown_alloc (grown_drew (grown_refl _ _)) _, fun k hk => Or.inr ?_⟩
        · have := own_new w.drew base hbase 3 (Value.int .i64 0).cells rfl (xs ++ [x]) (i + 1) (grownCap w (i + 1) cap 3) (by simp [hxl]) (grownCap_ge w (i + 1) cap 3) (hnew cap hnc)
          rw [show xs.take i ++ [x] ++ xs.drop i = xs ++ [x] by simp [← hxl]]
          exact this
        · cases hk; exact Nat.le_refl _
    · by_cases hroom : n + 1 ≤ cap
      · have hvlt : vb < w.heap.size := (Array.getElem?_eq_some_iff.1 hvb).1
        refine (Any2.slices_Insert_int_shift insI_lays g 0 n cap i vb 0 1 1 xs [x] w (by omega) (by decide) hroom (by unfold maxLen at hcm; omega) (fun e => hne (by rw [e]; rfl)) hxl rfl hcells (fun j hj => hsome _ (by omega)) (fun j hj => hfz _) hvs h1 h1v 3 3 1 cap (by simp [World.shape?, hvb]) (by simp [World.shape?, hg]; omega) (by omega) (frozen_of_row _ _ _ _ _ hvb) (frozen_of_row _ _ _ _ _ hvb)).mono ?_
        rintro e w' ⟨rfl, rfl⟩
        refine ⟨_, rfl, ?_, setCells_grown g _ _ _ _ (setCells_grown g _ _ _ _ (grown_drew (grown_refl _ _))), fun k hk => Or.inl hk⟩
        have hb1 := setCells_blk (xs.drop i) (i + 1) w.drew cur.toList hg' (by simp; omega)
        have hb2 := setCells_blk [x] i _ _ hb1 (by rw [ov_length _ _ _ (by simp; omega)]; simp; omega)
        rw [Nat.zero_add, Nat.zero_add]
        refine own_row hbg hb2 hroom hcm ?_ (ov_in _ xs i n x hxl hxt hi (by omega))
        rw [ov_length _ _ _ (by rw [ov_length _ _ _ (by simp; omega)]; simp; omega), ov_length _ _ _ (by simp; omega)]
        exact hL
      · refine (insI_grow g n cap i vb xs x w (by omega) hnc (by omega) hn hxl hcells hvs h1 h1v).mono ?_
        rintro e w' ⟨rfl, rfl⟩
        have hcg := grownCap_ge w (n + 1) cap 3
        have hcm2 := hnew cap hnc
        generalize grownCap w (n + 1) cap 3 = C at hcg hcm2 ⊢
        obtain ⟨LL, hLL⟩ : ∃ LL : List Value, LL = xs.take i ++ (Builtin.zeroCells (Value.int .i64 0).cells (n + 1 - i)).toList ++ (Builtin.zeroCells (Value.int .i64 0).cells (C - (n + 1))).toList := ⟨_, rfl⟩
        have hz1 : (Builtin.zeroCells (Value.int .i64 0).cells (n + 1 - i)).toList.length = n + 1 - i := by rw [Array.length_toList, size_zeroCells]; exact Nat.mul_one _
        have hz2 : (Builtin.zeroCells (Value.int .i64 0).cells (C - (n + 1))).toList.length = C - (n + 1) := by rw [Array.length_toList, size_zeroCells]; exact Nat.mul_one _
        have hLl : LL.length = C := by rw [hLL]; simp only [List.length_append, List.length_take, hz1, hz2]; omega
        have hb0 : (w.alloc (.cells ((xs.take i).toArray ++ Builtin.zeroCells (Value.int .i64 0).cells (n + 1 - i) ++ Builtin.zeroCells (Value.int .i64 0).cells (C - (n + 1))) 3)).drew.heap[w.heap.size]? = some (.cells LL.toArray 3 (0, 0)) := by
          have e : ((xs.take i).toArray ++ Builtin.zeroCells (Value.int .i64 0).cells (n + 1 - i) ++ Builtin.zeroCells (Value.int .i64 0).cells (C - (n + 1))) = LL.toArray := by
            apply Array.ext'
            rw [hLL]
            simp
          rw [e]
          exact heap_alloc_new w _
        have hb1 := setCells_blk [x] i _ _ hb0 (by simp; omega)
        have hb2 := setCells_blk (xs.drop i) (i + 1) _ _ (show (World.setCells _ w.heap.size i [x]).drew.heap[w.heap.size]? = _ from hb1) (by rw [ov_length _ _ _ (by simp; omega)]; simp; omega)
        have hgr : w.grownBy (w.alloc (.cells ((xs.take i).toArray ++ Builtin.zeroCells (Value.int .i64 0).cells (n + 1 - i) ++ Builtin.zeroCells (Value.int .i64 0).cells (C - (n + 1))) 3)).drew (some w.heap.size) := grown_drew (grown_alloc (grown_refl _ _) _)
        have hgr2 := setCells_grown w.heap.size (xs.drop i) (i + 1) _ _ (grown_drew (setCells_grown w.heap.size [x] i _ _ hgr))
        refine ⟨_, rfl, ?_, ⟨hgr2.os, hgr2.tape, hgr2.output, hgr2.size, fun k hk _ => hgr2.block k hk (fun e => by cases e; omega)⟩, fun k hk => Or.inr ?_⟩
        · refine own_row hbase hb2 hcg hcm2 ?_ ?_
          · rw [ov_length _ _ _ (by rw [ov_length _ _ _ (by simp; omega)]; simp; omega), ov_length _ _ _ (by simp; omega)]
            exact hLl
          · have e1 : LL.take i = xs.take i := by
              rw [hLL, List.append_assoc, List.take_append_of_le_length (by simp; omega), List.take_take, Nat.min_self]
            have hlx : (xs.take i).length = i := by simp; omega
            have e2 : (ov LL i [x]).take (i + 1) = xs.take i ++ [x] := by
              unfold ov
              rw [e1]
              have hl : (xs.take i ++ [x]).length = i + 1 := by simp; omega
              rw [← hl]
              exact List.take_left
            unfold ov
            unfold ov at e2
            rw [e2]
            have hl : (xs.take i ++ [x] ++ xs.drop i).length = n + 1 := by simp; omega
            rw [← hl]
            exact List.take_left
        · cases hk; exact Nat.le_refl _

end Go.Proofs.YtjocopclgehciaaGreatDoor
/-
  Find, Kid; the document's Below.
-/
namespace Go.Proofs.YtjocopclgehciaaGreatDoor.L5
open Go.RowKit

def ltB (s r : ByteArray) : Bool := Op.bytesLess r.toList s.toList
def leB (s r : ByteArray) : Bool := Op.bytesLess r.toList s.toList || r.toList == s.toList
def isAt (l : List ByteArray) (s : ByteArray) (k : Nat) : Bool := match l[k]? with | some r => r.toList == s.toList | none => false
/-- How many entries are below s: the first ones. -/
def firstN (l : List ByteArray) (s : ByteArray) : Nat := (l.takeWhile (ltB s)).length

theorem firstN_le (l : List ByteArray) (s : ByteArray) : firstN l s ≤ l.length := List.takeWhile_sublist _ |>.length_le

theorem first_lt (l : List ByteArray) (s : ByteArray) : ∀ i (h : i < l.length), i < firstN l s → ltB s l[i] = true := by
  unfold firstN
  induction l with
  | nil => intro i h; simp at h
  | cons x l ih =>
    intro i h hi
    rw [List.takeWhile_cons] at hi
    split at hi
    · rename_i hx
      cases i with
      | zero => exact hx
      | succ i => exact ih i (by simpa using h) (by simpa using hi)
    · simp at hi

theorem first_ge (l : List ByteArray) (s : ByteArray) : ∀ (h : firstN l s < l.length), ltB s l[firstN l s] = false := by
  unfold firstN
  induction l with
  | nil => intro h; simp at h
  | cons x l ih =>
    intro h
    by_cases hx : ltB s x = true
    · simp only [List.takeWhile_cons, hx, if_true, List.length_cons] at h ⊢
      exact ih (by simpa using h)
    · simp only [List.takeWhile_cons, hx]
      simpa using hx

theorem count_cut (l : List ByteArray) (p : ByteArray → Bool) : ∀ k, k ≤ l.length → (∀ i (h : i < l.length), i < k → p l[i] = true) → (∀ i (h : i < l.length), k ≤ i → p l[i] = false) → l.countP p = k := by
  induction l with
  | nil => intro k hk _ _; simp at hk; simp [hk]
  | cons x l ih =>
    intro k hk h1 h2
    cases k with
    | zero =>
      rw [List.countP_eq_zero]
      intro y hy
      obtain ⟨i, hi, rfl⟩ := List.getElem_of_mem hy
      simp [h2 i hi (Nat.zero_le _)]
    | succ k =>
      have hx : p x = true := h1 0 (by simp) (by omega)
      rw [List.countP_cons, if_pos hx, ih k (by simpa using hk) (fun i hi hik => h1 (i + 1) (by simpa using hi) (by omega)) (fun i hi hik => h2 (i + 1) (by simpa using hi) (by omega))]

theorem lt_trans_b {x y z : List UInt8} (h1 : Op.bytesLess x y = true) (h2 : Op.bytesLess y z = true) : Op.bytesLess x z = true := by
  rw [bytesLess_lt, decide_eq_true_eq] at *
  exact List.lt_trans h1 h2

theorem lt_irrefl_b (x : List UInt8) : Op.bytesLess x x = false := by
  rw [bytesLess_lt]; exact decide_eq_false (List.lt_irrefl x)

theorem le_lt_b {x y z : List UInt8} (h1 : Op.bytesLess y x = false) (h2 : Op.bytesLess y z = true) : Op.bytesLess x z = true := by
  have := le_not_lt x y
  rw [h1] at this
  simp only [Bool.not_false, Bool.or_eq_true, beq_iff_eq] at this
  rcases this with h | h
  · exact lt_trans_b h h2
  · rw [h]; exact h2

/-- Entries that rise rise over any distance. -/
theorem rises_lt {l : List ByteArray} (h : risesB l = true) : ∀ j i (_ : i < j) (hj : j < l.length), Op.bytesLess l[i].toList l[j].toList = true := by
  have h0 : ∀ i (hi : i + 1 < l.length), Op.bytesLess l[i].toList l[i + 1].toList = true := fun i hi => by
    have := List.all_eq_true.1 h (i + 1) (by simpa using hi)
    rw [recOk_succ l i hi] at this
    simp only [Bool.and_eq_true] at this
    exact this.2
  intro j
  induction j with
  | zero => intro i hi; omega
  | succ j ih =>
    intro i hi hj
    by_cases e : i = j
    · subst e; exact h0 i hj
    · exact lt_trans_b (ih i (by omega) (by omega)) (h0 j hj)

theorem count_lt {l : List ByteArray} (h : risesB l = true) (s : ByteArray) : l.countP (ltB s) = firstN l s := by
  refine count_cut l _ _ (firstN_le l s) (first_lt l s) fun i hi hk => ?_
  have h1 := first_ge l s (by omega)
  by_cases e : i = firstN l s
  · subst e; exact h1
  · have h2 := rises_lt h i (firstN l s) (by omega) hi
    cases h3 : ltB s l[i]
    · rfl
    · have : ltB s l[firstN l s] = true := lt_trans_b h2 h3
      rw [h1] at this
      cases this

theorem count_le {l : List ByteArray} (h : risesB l = true) (s : ByteArray) : l.countP (leB s) = firstN l s + if isAt l s (firstN l s) then 1 else 0 := by
  have hlow : ∀ i (hi : i < l.length), i < firstN l s → leB s l[i] = true := fun i hi hk => by
    have h0 := first_lt l s i hi hk
    unfold ltB at h0
    unfold leB
    rw [h0]
    rfl
  by_cases hk : firstN l s < l.length
  · have h1 := first_ge l s hk
    have hat : isAt l s (firstN l s) = (l[firstN l s].toList == s.toList) := by
      unfold isAt; rw [List.getElem?_eq_getElem hk]
    have hle : leB s l[firstN l s] = (l[firstN l s].toList == s.toList) := by
      unfold leB
      unfold ltB at h1
      rw [h1]; rfl
    have hhigh : ∀ i (hi : i < l.length), firstN l s < i → leB s l[i] = false := fun i hi hik => by
      have h2 := rises_lt h i (firstN l s) hik hi
      unfold leB
      rw [le_not_lt]
      unfold ltB at h1
      rw [le_lt_b h1 h2]
      rfl
    cases hb : (l[firstN l s].toList == s.toList)
    · rw [hat, hb]
      refine count_cut l _ _ (by simp; omega) (fun i hi hik => hlow i hi (by simpa using hik)) fun i hi hik => ?_
      by_cases e : i = firstN l s
      · subst e; rw [hle, hb]
      · exact hhigh i hi (by simp at hik; omega)
    · rw [hat, hb]
      refine count_cut l _ _ (by simp; omega) (fun i hi hik => ?_) fun i hi hik => hhigh i hi (by simp at hik; omega)
      by_cases e : i = firstN l s
      · subst e; rw [hle, hb]
      · exact hlow i hi (by simp at hik; omega)
  · have hat : isAt l s (firstN l s) = false := by
      unfold isAt; rw [List.getElem?_eq_none (by omega)]
    rw [hat]
    have := firstN_le l s
    exact count_cut l _ _ (by simp; omega) (fun i hi hik => hlow i hi (by simpa using hik)) fun i hi hik => by simp at hik; omega

theorem countP_snoc (l : List ByteArray) (p : ByteArray → Bool) (j : Nat) (h : j < l.length) : (l.take (j + 1)).countP p = (l.take j).countP p + if p l[j] then 1 else 0 := by
  rw [List.take_succ_eq_append_getElem h, List.countP_append]
  simp [List.countP_cons]

theorem countP_take_le (l : List ByteArray) (p : ByteArray → Bool) (j : Nat) (h : l.length ≤ 1000) : (l.take j).countP p ≤ 1000 := by
  have := List.countP_le_length (p := p) (l := l.take j)
  simp at this
  omega

set_option maxRecDepth 100000 in
set_option maxHeartbeats 400000 in
theorem kid_walk {n : No} {a : Option Addr} {c : Nat} {a' : Option Addr} {c' : Nat} {w : World} (hr : NR w n a c a' c') (h1 : n.recs.length ≤ 1000) (s : ByteArray) :
    Calls Tryz.prog 99 #[nodeV n a c a' c', .string s] w fun e w' => e = .returned (.int .i64 (n.recs.countP (leB s) : Int)) ∧ Below w.heap.size w w' := by
  have HX := Bx.new w n a c a' c' 94
  have HR : Hid (Rd (w.alloc (.cells #[.bool n.leaf, .slice a n.recs.length c, .slice a' n.kids.length c'] 94)) a c (svs n.recs)) := hr.recs.below HX.below
  have x1 := HX.c1
  have xl := HX.lt
  have HB := HX.below
  clear HX
  go_enter Tryz.func99, Tryz.ntmps99
  unfold nodeV
  go_wp2
  generalize w.alloc (.cells #[.bool n.leaf, .slice a n.recs.length c, .slice a' n.kids.length c'] 94) = W at *
  go_loop [5, 11] (fun x i => ∃ j : Nat, j ≤ n.recs.length ∧ i = .int .i64 (j : Int) ∧ x = .int .i64 ((n.recs.take j).countP (leB s) : Int)) (fun _ i => n.recs.length - (intOf i).toNat)
  case atStart => exact ⟨0, Nat.zero_le _, rfl, by simp⟩
  case round =>
    obtain ⟨j, hj, rfl, rfl⟩ := hrel
    have hw := countP_take_le n.recs (leB s) j h1
    by_cases hlt : j < n.recs.length
    · obtain ⟨b, o, rfl, hb, hc⟩ := HR.out.str j hlt
      have HW : Hid _ := countP_snoc n.recs (leB s) j hlt
      have hlt' : (j : Int) < (n.recs.length : Int) := by omega
      generalize n.recs[j] = r at *
      cases hle : leB s r
      · have HW' : Hid ((n.recs.take (j + 1)).countP (leB s) = (n.recs.take j).countP (leB s)) := by have := HW.out; rw [hle] at this; exact this
        unfold leB at hle
        simp only [Bool.or_eq_false_iff] at hle
        obtain ⟨e1, e2⟩ := hle
        clear HW
        go_wp2
        go_round
        case rel => exact ⟨j + 1, hlt, by go_num, by rw [HW'.out]⟩
        case measure => simp [intOf]; omega
      · have HW' : Hid ((n.recs.take (j + 1)).countP (leB s) = (n.recs.take j).countP (leB s) + 1) := by have := HW.out; rw [hle] at this; exact this
        unfold leB at hle
        clear HW
        cases e1 : Op.bytesLess r.toList s.toList
        · rw [e1, Bool.false_or] at hle
          go_wp2
          go_round
          case rel => exact ⟨j + 1, hlt, by go_num, by rw [HW'.out]; go_num⟩
          case measure => simp [intOf]; omega
        · clear hle
          go_wp2
          go_round
          case rel => exact ⟨j + 1, hlt, by go_num, by rw [HW'.out]; go_num⟩
          case measure => simp [intOf]; omega
    · have hlt' : (n.recs.length : Int) ≤ (j : Int) := by omega
      go_wp2
      go_ret
      exact ⟨ret_int (by rw [List.take_of_length_le (by omega)]), HB⟩

set_option maxRecDepth 100000 in
set_option maxHeartbeats 400000 in
theorem find_walk {n : No} {a : Option Addr} {c : Nat} {a' : Option Addr} {c' : Nat} {w : World} (hr : NR w n a c a' c') (h1 : n.recs.length ≤ 1000) (s : ByteArray) :
    Calls Tryz.prog 75 #[nodeV n a c a' c', .string s] w fun e w' => e = .returned (.tuple #[.int .i64 (n.recs.countP (ltB s) : Int), .bool (isAt n.recs s (n.recs.countP (ltB s)))]) ∧ Below w.heap.size w w' := by
  have HX := Bx.new w n a c a' c' 94
  have HR : Hid (Rd (w.alloc (.cells #[.bool n.leaf, .slice a n.recs.length c, .slice a' n.kids.length c'] 94)) a c (svs n.recs)) := hr.recs.below HX.below
  have x1 := HX.c1
  have xl := HX.lt
  have HB := HX.below
  clear HX
  go_enter Tryz.func75, Tryz.ntmps75
  unfold nodeV
  go_wp2
  generalize w.alloc (.cells #[.bool n.leaf, .slice a n.recs.length c, .slice a' n.kids.length c'] 94) = W at *
  go_loop [6, 12] (fun x i => ∃ j : Nat, j ≤ n.recs.length ∧ i = .int .i64 (j : Int) ∧ x = .int .i64 ((n.recs.take j).countP (ltB s) : Int)) (fun _ i => n.recs.length - (intOf i).toNat)
  case atStart => exact ⟨0, Nat.zero_le _, rfl, by simp⟩
  case round =>
    obtain ⟨j, hj, rfl, rfl⟩ := hrel
    have hw := countP_take_le n.recs (ltB s) j h1
    by_cases hlt : j < n.recs.length
    · obtain ⟨b, o, rfl, hb, hc⟩ := HR.out.str j hlt
      have HW : Hid _ := countP_snoc n.recs (ltB s) j hlt
      have hlt' : (j : Int) < (n.recs.length : Int) := by omega
      generalize n.recs[j] = r at *
      cases hle : ltB s r
      · have HW' : Hid ((n.recs.take (j + 1)).countP (ltB s) = (n.recs.take j).countP (ltB s)) := by have := HW.out; rw [hle] at this; exact this
        unfold ltB at hle
        clear HW
        go_wp2
        go_round
        case rel => exact ⟨j + 1, hlt, by go_num, by rw [HW'.out]⟩
        case measure => simp [intOf]; omega
      · have HW' : Hid ((n.recs.take (j + 1)).countP (ltB s) = (n.recs.take j).countP (ltB s) + 1) := by have := HW.out; rw [hle] at this; exact this
        unfold ltB at hle
        clear HW
        go_wp2
        go_round
        case rel => exact ⟨j + 1, hlt, by go_num, by rw [HW'.out]; go_num⟩
        case measure => simp [intOf]; omega
    · have hjr : j = n.recs.length := by omega
      subst hjr
      obtain ⟨k, hk0⟩ : ∃ k, Hid (n.recs.countP (ltB s) = k) := ⟨_, rfl⟩
      rw [List.take_length, hk0.out] at hw ⊢
      by_cases hk : k < n.recs.length
      · obtain ⟨b, o, rfl, hb, hc⟩ := HR.out.str k hk
        have HA : Hid (isAt n.recs s k = (n.recs[k].toList == s.toList)) := by show _ = _; unfold isAt; rw [List.getElem?_eq_getElem hk]
        generalize n.recs[k] = r at *
        have hk' : (k : Int) < (n.recs.length : Int) := by omega
        go_wp2
        go_quiet (fail)
        go_wp2
        go_ret2
        exact ⟨by rw [hk0.out, HA.out]; rfl, below_drewN HB _⟩
      · have HA : Hid (isAt n.recs s k = false) := by show _ = _; unfold isAt; rw [List.getElem?_eq_none (by omega)]
        have hk' : decide (k < n.recs.length) = false := decide_eq_false hk
        go_wp2
        go_quiet (fail)
        go_wp2
        go_ret2
        exact ⟨by rw [hk0.out, HA.out]; rfl, below_drewN HB _⟩

end Go.Proofs.YtjocopclgehciaaGreatDoor.L5
/-
  Tree: insert into a leaf that has room.
-/
namespace Go.Proofs.YtjocopclgehciaaGreatDoor
open Go.RowKit
open L4 (Ar ArP Abs arV nv)

/-- A leaf with one more entry. -/
def withRec (n : L5.No) (i : Nat) (k : ByteArray) : L5.No := ⟨n.leaf, n.recs.take i ++ [k] ++ n.recs.drop i, n.kids⟩

/-- A row of one step is a way of one step. -/
theorem way1_of {w : World} {B b cp r kid : Nat} {n : L5.No} {vr vk : Value} (h : w.ownsRow B 118 5 (.slice (some ⟨b, 0, none⟩) 1 cp) 1 [nv r, .bool n.leaf, vr, vk, nv kid]) : Way1 w b cp r n vr vk kid ∧ (∃ cs, w.heap[b]? = some (.cells cs 118 (0, 0))) ∧ B ≤ b := by
  obtain ⟨g, cap, hv, hg, c0, c1, c2, c3, c4⟩ := row5 (Ld := [⟨r, n, vr, vk, kid⟩]) h (j := 0) (by simp)
  cases hv
  obtain ⟨_, _, hv, _, hc⟩ := L4.owns_slice h
  cases hv
  exact ⟨⟨hg, hc, c0, c1, c2, c3, c4⟩, L4.owns_tag h rfl, (h.lt b rfl).1⟩

/-- A way of one step, by its block. -/
theorem way1_blk {w : World} {b cp r kid : Nat} {n : L5.No} {vr vk : Value} {cs : Array Value} (h : w.heap[b]? = some (.cells cs 118 (0, 0))) (hcp : 1 ≤ cp) (c0 : cs[0]? = some (.int .i64 (r : Int))) (c1 : cs[1]? = some (.bool n.leaf)) (c2 : cs[2]? = some vr) (c3 : cs[3]? = some vk) (c4 : cs[4]? = some (.int .i64 (kid : Int))) : Way1 w b cp r n vr vk kid :=
  ⟨(Array.getElem?_eq_some_iff.1 h).1, hcp, (cell_of_row _ _ _ _ _ _ h).trans c0, (cell_of_row _ _ _ _ _ _ h).trans c1, (cell_of_row _ _ _ _ _ _ h).trans c2, (cell_of_row _ _ _ _ _ _ h).trans c3, (cell_of_row _ _ _ _ _ _ h).trans c4⟩

theorem withRec_len (n : L5.No) {i : Nat} (h : i ≤ n.recs.length) (k : ByteArray) : (withRec n i k).recs.length = n.recs.length + 1 := by
  simp [withRec]; omega

theorem withRec_svs (n : L5.No) (i : Nat) (k : ByteArray) : L5.svs (withRec n i k).recs = (L5.svs n.recs).take i ++ [.string k] ++ (L5.svs n.recs).drop i := by
  simp [withRec, L5.svs, List.map_take, List.map_drop]

set_option maxRecDepth 100000 in
set_option maxHeartbeats 1000000 in
theorem insert_fit {N : Nat} {s : Ar} {t x r l : Nat} {nd : L5.No} {k : ByteArray} {w : World} (hE : Es N s t x r 1 l r 1 l (.slice none 0 0) (.slice none 0 0) (.slice none 0 0) [] [] [] w) (ho : s.abs.Ok) (hn : s.abs.at (r : Int) = some (L5.pageL nd.toNd)) (hs : nd.shaped = true) (hz : nd.size ≤ 1024) (hlf : nd.leaf = true) (hsm : nd.small)
    (hno : L5.isAt nd.recs k (nd.recs.countP (L5.ltB k)) = false) (hl : 2 ≤ s.abs.left) (h2 : (withRec nd (nd.recs.countP (L5.ltB k)) k).small) (h3 : (withRec nd (nd.recs.countP (L5.ltB k)) k).shaped = true) (h4 : (withRec nd (nd.recs.countP (L5.ltB k)) k).size ≤ 1024) (hll : l ≤ 1000000) :
    Calls Tryz.prog 53 #[.pointer (some ⟨x, 0, none⟩), .string k] w fun e w1 => e = .returned (.tuple #[]) ∧ Done N s t x r 1 l r 1 (l + 1) (s.abs.lay r (some (L5.pageL (withRec nd (nd.recs.countP (L5.ltB k)) k).toNd))) w w1 := by
  have HE := thid hE
  obtain ⟨d0, d1, d2, d3, d4, d5, d6, dl, df⟩ := hE.ed.cells
  have HWY := thid (way_ok (k := k) hE.ar ho hE.tr hn hs hz hlf)
  clear hE
  go_enter Tryz.func53, Tryz.ntmps53
  go_wp2_with fail
  refine HWY.out.mono ?_
  rintro e w1 ⟨a, c, a', c', b, cp, rfl, o0, o1, o2, B1⟩
  have HO0 := thid o0
  have HO1 := thid o1
  have HO2 := thid o2
  have HB1 := thid B1
  have HE1 := thid (HE.out.below B1)
  clear HWY o0 o1 o2 B1 d0 d1 d2 d3 d4 d5 d6 dl df
  obtain ⟨d0, d1, d2, d3, d4, d5, d6, dl, df⟩ := HE1.out.ed.cells
  rw [show (Value.bool true) = .bool nd.leaf by rw [hlf]] at HO0
  obtain ⟨hW1, ⟨cs, hbk⟩, hbb⟩ := way1_of HO0.out
  have HW1 := thid hW1
  obtain ⟨lb, hcp, q0, q1, q2, q3, q4⟩ := hW1
  have HFN := thid (L5.find_walk (n := nd) (L5.NR.mk (L5.owns_rd_slice HO1.out) (L5.owns_rd_slice HO2.out)) hsm.recs k)
  rw [hno] at HFN
  have HLF := thid (L4.left_walk HE1.out.ar ho)
  clear HO0 HLF
  have HLE := thid hlf
  clear hlf
  unfold L5.nodeV at HFN
  go_wp2_with fail
  refine HFN.out.mono ?_
  rintro e w2 ⟨rfl, B2⟩
  have HB2 := thid B2
  have HE2 := thid (HE1.out.below B2)
  have HW2 := thid (HW1.out.on B2)
  have HP1 := thid (L5.owns_below HO1.out B2)
  have HP2 := thid (L5.owns_below HO2.out B2)
  have HLF := thid (L4.left_walk HE2.out.ar ho)
  have hbk2 : w2.heap[b]? = some (.cells cs 118 (0, 0)) := (B2.block _ lb).trans hbk
  clear HFN HO1 HO2 HW1 HE1 B2 hbk lb hcp q0 q1 q2 q3 q4 d0 d1 d2 d3 d4 d5 d6 dl df
  have x0 : ∀ q : L4.BelowW w2, q.w.cell? ⟨x, 0, none⟩ = some (.pointer (some ⟨t, 0, none⟩)) := fun q => (HE2.out.below q.below).ed.cells.1
  have x2 : ∀ q : L4.BelowW w2, q.w.cell? ⟨x, 2, none⟩ = some (.int .i64 1) := fun q => (HE2.out.below q.below).ed.cells.2.2.1
  have y0 : ∀ q : L4.BelowW w2, q.w.cell? ⟨t, 0, none⟩ = some (.pointer (some ⟨s.p, 0, none⟩)) := fun q => (HE2.out.below q.below).tr.cells.1
  have HL : ∀ q : L4.BelowW w2, Calls Tryz.prog 76 #[.pointer (some ⟨s.p, 0, none⟩)] q.w fun e w' => e = .returned (.int .i64 (s.abs.left : Int)) ∧ Below q.w.heap.size q.w w' := fun q => L4.left_walk (HE2.out.below q.below).ar ho
  have hl2 : decide ((s.abs.left : Int) < 2) = false := by simp; omega
  obtain ⟨i, hi⟩ : ∃ i, Hid (nd.recs.countP (L5.ltB k) = i) := ⟨_, rfl⟩
  rw [hi.out]
  go_wp2_with fail
  refine L4.wp_region_below (by kernel_rfl) (by kernel_rfl) (fun _ => ?_)
  repeat (go_big_quiet_step (first | (go_at_call 76; exact L4.quiet_of_below (HL _))))
  refine wpQuiet_nil ?_
  rintro _ ⟨q, rfl⟩
  have HE3 := thid (HE2.out.below q.below)
  have HW3 := thid (HW2.out.on q.below)
  have HQ1 := thid (L5.owns_below HP1.out q.below)
  have HQ2 := thid (L5.owns_below HP2.out q.below)
  have HB3 := thid (tbelow_on (tbelow_on HB1.out HB2.out) q.below)
  have hbk3 : q.w.heap[b]? = some (.cells cs 118 (0, 0)) := (q.below.block _ (Array.getElem?_eq_some_iff.1 hbk2).1).trans hbk2
  generalize q.w = w3 at *
  clear x0 x2 y0 HL HE2 HW2 HP1 HP2 HB2 HB1 q hbk2 HLF
  obtain ⟨d0, d1, d2, d3, d4, d5, d6, dl, df⟩ := HE3.out.ed.cells
  obtain ⟨lb, hcp, q0, q1, q2, q3, q4⟩ := HW3.out
  have qf : ∀ i, w3.frozen? ⟨b, i, none⟩ = false := fun i => frozen_of_row _ _ _ _ _ hbk3
  have il : i ≤ nd.recs.length := by rw [← hi.out]; exact List.countP_le_length
  have hA3 := tbelow w3 (.cells #[.string k] 9)
  have hvb := heap_alloc_new w3 (.cells #[.string k] 9)
  have HIN := thid (insert_str (i := i) (x := .string k) (L5.owns_below HQ1.out hA3) il (by have := hsm.recs; omega) (Nat.le_trans HB3.out.size hA3.size) (by
      intro u hu
      obtain ⟨y, _, rfl⟩ := List.mem_map.1 hu
      rfl) rfl hvb (fun e => by have := (HQ1.out.lt _ e).2; omega))
  have HA3 := thid hA3
  clear hA3 hvb
  go_wp2_with fail
  refine HIN.out.mono ?_
  rintro e w5 ⟨v', rfl, o5, hg5, _⟩
  have hnb := row_ne hbk3 HQ1.out (by decide)
  have hbk5 : w5.heap[b]? = some (.cells cs 118 (0, 0)) := (hg5.block b (Nat.lt_of_lt_of_le lb HA3.out.size) (fun e => hnb e.symm)).trans ((HA3.out.block b lb).trans hbk3)
  have hB5 : Below w.heap.size w w5 := ⟨hg5.os.trans (HA3.out.os.trans HB3.out.os), hg5.tape.trans (HA3.out.tape.trans HB3.out.tape), hg5.output.trans (HA3.out.output.trans HB3.out.output), Nat.le_trans HB3.out.size (Nat.le_trans HA3.out.size hg5.size), fun q hq => by
    have z3 := HB3.out.size
    have z4 := HA3.out.size
    rw [hg5.block q (by omega) (fun e => by have := (HQ1.out.lt q e.symm).1; omega), HA3.out.block q (by omega), HB3.out.block q hq]⟩
  have hbx : b ≠ x := tag_ne hbk3 HE3.out.ed (by decide)
  have hk5 : w5.ownsRow w.heap.size 3 1 (.slice a' nd.kids.length c') nd.kids.length (L5.ivs nd.kids) := L5.owns_of_block HQ2.out fun q hq => by
    have z := (HQ2.out.lt q hq).2
    rw [hg5.block q (Nat.lt_of_lt_of_le z HA3.out.size) (fun e => rows_ne HQ2.out HQ1.out (by decide) q hq e.symm), HA3.out.block q z]
  have e0 : cs[0]? = some (.int .i64 (r : Int)) := (cell_of_row _ _ _ _ _ _ hbk3).symm.trans q0
  have e1 : cs[1]? = some (.bool nd.leaf) := (cell_of_row _ _ _ _ _ _ hbk3).symm.trans q1
  have e2 : cs[2]? = some (.slice a nd.recs.length c) := (cell_of_row _ _ _ _ _ _ hbk3).symm.trans q2
  have e3 : cs[3]? = some (.slice a' nd.kids.length c') := (cell_of_row _ _ _ _ _ _ hbk3).symm.trans q3
  have e4 : cs[4]? = some (.int .i64 ((0 : Nat) : Int)) := (cell_of_row _ _ _ _ _ _ hbk3).symm.trans q4
  have HBE := thid HE.out.bs
  rw [← withRec_svs] at o5
  have hrl := withRec_len nd il k
  rw [← hrl] at o5
  obtain ⟨ra, rc, rfl⟩ := own_slice o5
  have HE5 := thid (HE.out.below hB5)
  have HB6 := thid (hB5.setCell (p := ⟨b, 2, none⟩) hbb (.slice ra (withRec nd i k).recs.length rc))
  have HE6 := thid (HE.out.below HB6.out)
  have hbk6 := heap_setCell_same w5 b 2 cs _ (.slice ra (withRec nd i k).recs.length rc) hbk5
  have HO6 := thid (ownsRow_setCell_other o5 (a := ⟨b, 2, none⟩) (row_ne hbk5 o5 (by decide)) (.slice ra (withRec nd i k).recs.length rc))
  have HK6 := thid (ownsRow_setCell_other hk5 (a := ⟨b, 2, none⟩) (row_ne hbk5 hk5 (by decide)) (.slice ra (withRec nd i k).recs.length rc))
  have own_lt : ∀ q, s.own q → q < w.heap.size := fun q hq => L4.arSt.lt s w q HE.out.ar hq
  have HKL := thid (fun q (hq : (Value.slice a' nd.kids.length c').ownBlock = some q) => (hk5.lt q hq).1)
  have g2 : w5.cell? ⟨b, 2, none⟩ = some (.slice a nd.recs.length c) := (cell_of_row _ _ _ _ _ _ hbk5).trans e2
  have gf : ∀ i, w5.frozen? ⟨b, i, none⟩ = false := fun i => frozen_of_row _ _ _ _ _ hbk5
  have gl := (Array.getElem?_eq_some_iff.1 hbk5).1
  obtain ⟨m0, m1, m2, m3, m4, m5, m6, ml, mf⟩ := HE6.out.ed.cells
  clear HIN o5 hg5 hB5 hk5 HE3 HW3 HQ1 HQ2 HB3 HA3 hbk3 hbk5 qf lb q0 q1 q2 q3 q4 d0 d1 d2 d3 d4 d5 d6 dl df HE5
  have HRL := thid hrl
  clear hrl
  go_wp2_with fail
  obtain ⟨hE7, hS7⟩ := HE6.out.lened (l + 1)
  have hbk7 := (show ((w5.setCell ⟨b, 2, none⟩ (.slice ra (withRec nd i k).recs.length rc)).setCell ⟨x, 3, none⟩ (.int .i64 ((l + 1 : Nat) : Int))).heap[b]? = (w5.setCell ⟨b, 2, none⟩ (.slice ra (withRec nd i k).recs.length rc)).heap[b]? from heap_setCell_other _ _ _ _ hbx).trans hbk6
  have hW7 : Way1 ((w5.setCell ⟨b, 2, none⟩ (.slice ra (withRec nd i k).recs.length rc)).setCell ⟨x, 3, none⟩ (.int .i64 ((l + 1 : Nat) : Int))) b cp r (withRec nd i k) (.slice ra (withRec nd i k).recs.length rc) (.slice a' (withRec nd i k).kids.length c') 0 := by
    have c2 : 2 < cs.size := by
      rcases Nat.lt_or_ge 2 cs.size with h | h
      · exact h
      · rw [Array.getElem?_eq_none h] at e2; cases e2
    refine way1_blk hbk7 hcp ?_ ?_ ?_ ?_ ?_
    · rw [Array.getElem?_setIfInBounds_ne (by decide)]; exact e0
    · rw [Array.getElem?_setIfInBounds_ne (by decide)]; exact e1
    · rw [Array.getElem?_setIfInBounds_self_of_lt c2]
    · rw [Array.getElem?_setIfInBounds_ne (by decide)]; exact e3
    · rw [Array.getElem?_setIfInBounds_ne (by decide)]; exact e4
  have o7 := ownsRow_setCell_other HO6.out (a := ⟨x, 3, none⟩) (row_ne HE6.out.ed HO6.out (by decide)) (.int .i64 ((l + 1 : Nat) : Int))
  have k7 := ownsRow_setCell_other HK6.out (a := ⟨x, 3, none⟩) (row_ne HE6.out.ed HK6.out (by decide)) (.int .i64 ((l + 1 : Nat) : Int))
  rw [hi.out] at h2 h3 h4
  have HG := thid (grow_fit hE7 (by simp) hW7 (owns_weak o7 HBE.out) (owns_weak k7 HBE.out) (fun q hq e => by have := own_lt q hq; have := HKL.out q e; omega) (fun q hq => by simp [Value.ownBlock] at hq) (fun q hq => by simp [Value.ownBlock] at hq) h2 h4)
  have HS7 := thid ((Stp.below (B := N) (s := s) (t := t) (x := x) (HB6.out)).trans hS7)
  rw [show (l : Int) + 1 = ((l + 1 : Nat) : Int) by omega]
  clear hE7 hS7 hW7 o7 k7 hbk6 hbk7 HE6 HO6 HK6 m0 m1 m2 m3 m4 m5 m6 ml mf g2 gf gl
  refine HG.out.mono ?_
  rintro e w8 ⟨rfl, ld', hE8, hS8⟩
  have HD : Hid (Done N s t x r 1 l r 1 (l + 1) (s.abs.lay r (some (L5.pageL (withRec nd i k).toNd))) w w8) := by
    refine ⟨s, .slice none 0 0, ld', .slice none 0 0, [], _, rfl, ho, hE8, by simp, fun y hy => ?_, fun y hy => ?_, rfl, HS7.out.trans hS8⟩
    · rcases List.mem_append.1 hy with hy | hy
      · simp at hy
      · cases List.mem_singleton.1 hy
        exact ⟨h2, h3, h4⟩
    · rcases List.mem_append.1 hy with hy | hy
      · simp at hy
      · cases List.mem_singleton.1 hy
        exact ⟨_, hn⟩
  clear HG HS7 hE8 hS8
  go_wp2
  go_end0
  exact ⟨rfl, by rw [hi.out]; exact HD.out⟩
end Go.Proofs.YtjocopclgehciaaGreatDoor
/-
  Tree: Insert into a tree of one leaf that has room.
-/
namespace Go.Proofs.YtjocopclgehciaaGreatDoor
open Go.RowKit
open L4 (Ar ArP Abs arV nv)

/-- A tree of one leaf: its pages, its node. -/
structure One (s : Ar) (t r l : Nat) (nd : L5.No) (w : World) : Prop where
  ar : ArP s w
  ok : s.abs.Ok
  tr : TrC w t s.p r 1 l
  at_ : s.abs.at (r : Int) = some (L5.pageL nd.toNd)
  shaped : nd.shaped = true
  size : nd.size ≤ 1024
  leaf : nd.leaf = true
  small : nd.small
  pos : r ≠ 0

theorem One.below {s : Ar} {t r l : Nat} {nd : L5.No} {w w' : World} (k : One s t r l nd w) (hb : Below w.heap.size w w') : One s t r l nd w' :=
  ⟨L4.arSt.below k.ar hb, k.ok, k.tr.on hb, k.at_, k.shaped, k.size, k.leaf, k.small, k.pos⟩

set_option maxRecDepth 100000 in
set_option maxHeartbeats 1000000 in
theorem tinsert1 {x b : Nat} {k : ByteArray} {w : World} {R : World → Prop} (hc : w.cell? ⟨b, 0, none⟩ = some (.string k)) (H : Calls Tryz.prog 53 #[.pointer (some ⟨x, 0, none⟩), .string k] w fun e w1 => e = .returned (.tuple #[]) ∧ R w1) :
    Calls Tryz.prog 52 #[.pointer (some ⟨x, 0, none⟩), .pointer (some ⟨b, 0, none⟩)] w fun e w1 => e = .returned (.tuple #[]) ∧ R w1 := by
  have HH := thid H
  clear H
  go_enter Tryz.func52, Tryz.ntmps52
  go_wp2_with fail
  refine HH.out.mono ?_
  rintro e w1 ⟨rfl, hR⟩
  have HR := thid hR
  clear hR HH hc
  go_wp2
  go_end0
  exact ⟨rfl, HR.out⟩

set_option maxRecDepth 100000 in
set_option maxHeartbeats 1000000 in
theorem tinsert_fit {s : Ar} {t r l : Nat} {nd : L5.No} {k : ByteArray} {w : World} (h1 : One s t r l nd w) (hk1 : 1 ≤ k.size) (hk2 : k.size ≤ 400)
    (hno : L5.isAt nd.recs k (nd.recs.countP (L5.ltB k)) = false) (hl : 2 ≤ s.abs.left) (h2 : (withRec nd (nd.recs.countP (L5.ltB k)) k).small) (h3 : (withRec nd (nd.recs.countP (L5.ltB k)) k).shaped = true) (h4 : (withRec nd (nd.recs.countP (L5.ltB k)) k).size ≤ 1024) (hll : l ≤ 1000000) :
    Calls Tryz.prog 30 #[.pointer (some ⟨t, 0, none⟩), .string k] w fun e w' => e = .returned (.int .i64 0) ∧ TrHas s t (s.abs.lay r (some (L5.pageL (withRec nd (nd.recs.countP (L5.ltB k)) k).toNd))) r 1 (l + 1) w w' := by
  have HB1 := thid (tbelow w (.cells #[.string k] 9))
  have H1 := thid (h1.below HB1.out)
  have hc1 : (w.alloc (.cells #[.string k] 9)).cell? ⟨w.heap.size, 0, none⟩ = some (.string k) := by simp [go_sem]
  have HOV := thid (over_ok H1.out.tr H1.out.pos)
  clear h1
  have hmf : ∀ (fn : Fn) (first cap : Array Value) (w : World), (Instr.makeFunc fn first cap).run Tryz.prog w = .ok (.func fn first cap) w := fun _ _ _ _ => rfl
  go_enter Tryz.func30, Tryz.ntmps30
  go_wp2_with fail
  refine HOV.out.mono ?_
  rintro e w2 ⟨rfl, B2⟩
  have hl2 : w.heap.size < (w.alloc (.cells #[.string k] 9)).heap.size := by simp
  have hc2 := (B2.cell (p := ⟨w.heap.size, 0, none⟩) hl2).trans hc1
  have HB2 := thid (tbelow_on HB1.out B2)
  have H2 := thid (H1.out.below B2)
  have hl3 : w.heap.size < w2.heap.size := Nat.lt_of_lt_of_le hl2 B2.size
  clear HOV B2 H1 HB1 hc1 hl2
  have he : k.toList.isEmpty = false := by rw [L5.isEmpty_size]; exact decide_eq_false (by omega)
  have hk4 : decide (400 < (k.size : Int)) = false := by simp; omega
  have HC := thid (change_ok H2.out.ar H2.out.tr 52 (fun _ _ => rfl) #[.pointer (some ⟨w.heap.size, 0, none⟩)] (fun N x W _ hb hE => by
    have hcW := (hb.cell (p := ⟨w.heap.size, 0, none⟩) hl3).trans hc2
    simpa using tinsert1 hcW (insert_fit hE H2.out.ok H2.out.at_ H2.out.shaped H2.out.size H2.out.leaf H2.out.small hno hl h2 h3 h4 hll)))
  clear H2 hno hl h2 h3 h4
  go_wp2_with fail
  refine HC.out.mono ?_
  rintro e w3 ⟨rfl, s', hp, hab, hok, hA3, hT3, hon, hown⟩
  have HF : Hid (TrHas s t (s.abs.lay r (some (L5.pageL (withRec nd (nd.recs.countP (L5.ltB k)) k).toNd))) r 1 (l + 1) w w3) := by
    refine ⟨s', hp, hab, hok, hA3, hT3, ?_, fun q hq => (hown q hq).imp id fun y => Nat.le_trans HB2.out.size y⟩
    exact ⟨hon.os.trans HB2.out.os, hon.tape.trans HB2.out.tape, hon.output.trans HB2.out.output, Nat.le_trans HB2.out.size hon.size, fun q hq hs => by
      rw [hon.block q (Nat.lt_of_lt_of_le hq HB2.out.size) hs]
      exact HB2.out.block q hq⟩
  clear hA3 hT3 hon hown HC HB2 hmf
  go_wp2
  go_ret
  exact ⟨rfl, HF.out⟩
end Go.Proofs.YtjocopclgehciaaGreatDoor
/-
  slices.Delete of one element of a row of the call's own.
-/
namespace Go.Proofs.YtjocopclgehciaaGreatDoor
open Go.Shelf Go.RowKit

def delS_ren : Go.Shelf.Ren := ⟨fun | 24 => 79 | n => n, fun | 24 => 92 | 9 => 9 | 3 => 3 | 4 => 4 | 0 => 0 | n => n, fun | n => n⟩
theorem delS_lays : Go.Proofs.Lays2.n24 Tryz.prog delS_ren := {
  mixed := by kernel_rfl
  f24 := Tryz.func79.trans (congrArg some (by kernel_rfl))
  t0 := Tryz.underlying0
  a0 := Tryz.isAgg0
  z0 := Tryz.sizeOf0
  v0 := Tryz.zeroValue0
  t3 := Tryz.underlying3
  a3 := Tryz.isAgg3
  z3 := Tryz.sizeOf3
  v3 := Tryz.zeroValue3
  t4 := Tryz.underlying4
  a4 := Tryz.isAgg4
  z4 := Tryz.sizeOf4
  v4 := Tryz.zeroValue4
  t9 := Tryz.underlying9
  a9 := Tryz.isAgg9
  z9 := Tryz.sizeOf9
  v9 := Tryz.zeroValue9
  t24 := Tryz.underlying92
  a24 := Tryz.isAgg92
  z24 := Tryz.sizeOf92
  v24 := Tryz.zeroValue92
  i9 := by kernel_rfl }

def delI_ren : Go.Shelf.Ren := ⟨fun | 23 => 160 | n => n, fun | 22 => 53 | 3 => 3 | 4 => 4 | 0 => 0 | n => n, fun | n => n⟩
theorem delI_lays : Go.Proofs.Lays2.n23 Tryz.prog delI_ren := {
  mixed := by kernel_rfl
  f23 := Tryz.func160.trans (congrArg some (by kernel_rfl))
  t0 := Tryz.underlying0
  a0 := Tryz.isAgg0
  z0 := Tryz.sizeOf0
  v0 := Tryz.zeroValue0
  t3 := Tryz.underlying3
  a3 := Tryz.isAgg3
  z3 := Tryz.sizeOf3
  v3 := Tryz.zeroValue3
  t4 := Tryz.underlying4
  a4 := Tryz.isAgg4
  z4 := Tryz.sizeOf4
  v4 := Tryz.zeroValue4
  t22 := Tryz.underlying53
  a22 := Tryz.isAgg53
  z22 := Tryz.sizeOf53
  v22 := Tryz.zeroValue53
  i3 := by kernel_rfl }

/-- What a deletion leaves in the row. -/
theorem del_row {w w' : World} {base g cap n i : Nat} {e : TypeId} {cur : Array Value} {xs ys : List Value} {z : Value} (hbg : base ≤ g) (hg : w.heap[g]? = some (.cells cur e (0, 0))) (hnc : n ≤ cap) (hcm : cap ≤ maxLen) (hcs : cur.size = cap) (hxl : xs.length = n) (hi : i < n) (q : Nat) (hys : ys = xs.take i ++ xs.drop (i + 1) ++ [z]) (hw : w' = (w.drewN q).setCells g 0 ys) :
    w'.ownsRow base e 1 (.slice (some ⟨g, 0, none⟩) (n - 1) cap) (n - 1) (xs.take i ++ xs.drop (i + 1)) ∧ w.grownBy w' (some g) := by
  have hyl : ys.length = n := by rw [hys]; simp; omega
  have hg' : (w.drewN q).heap[g]? = some (.cells cur.toList.toArray e (0, 0)) := by simpa using hg
  have hb := setCells_blk ys 0 (w.drewN q) cur.toList hg' (by rw [hyl, Array.length_toList]; omega)
  have hd : w.grownBy (w.drewN q) (some g) := ⟨rfl, rfl, rfl, Nat.le_refl _, fun _ _ _ => rfl⟩
  rw [hw]
  refine ⟨own_row hbg hb (by omega) hcm (by rw [ov_length _ _ _ (by rw [hyl, Array.length_toList]; omega), Array.length_toList]; omega) ?_, setCells_grown g _ _ _ _ hd⟩
  unfold ov
  rw [List.take_zero, List.nil_append, hys, List.append_assoc]
  have hl : (xs.take i ++ xs.drop (i + 1)).length = n - 1 := by simp; omega
  rw [← hl]
  exact List.take_left

theorem delete_str {w : World} {base n i : Nat} {v : Value} {l : List ByteArray} (h : w.ownsRow base 9 1 v n (l.map Value.string)) (hi : i < n) :
    Calls Tryz.prog 79 #[v, .int .i64 (i : Int), .int .i64 ((i + 1 : Nat) : Int)] w fun e w' => ∃ v', e = .returned v' ∧ w'.ownsRow base 9 1 v' (n - 1) ((l.take i ++ l.drop (i + 1)).map Value.string) ∧ w.grownBy w' v.ownBlock ∧ v'.ownBlock = v.ownBlock := by
  have hxl : l.length = n := by have := h.1; simpa using this
  rcases h.2 with ⟨rfl, rfl⟩ | ⟨g, cap, cur, rfl, hbg, hg, hnc, hcm, hcs, htake⟩
  · omega
  have hcell : ∀ j, j < n → w.cell? ⟨g, 0 + j, none⟩ = some (.string (l.getD j ⟨#[]⟩)) := fun j hj => by
    rw [cell_of_row _ _ _ _ _ _ hg, Nat.zero_add]
    have e : cur.toList[j]? = (l.map Value.string)[j]? := by rw [← htake, List.getElem?_take, if_pos (by omega)]
    rw [← Array.getElem?_toList, e, List.getElem?_map, List.getElem?_eq_getElem (by omega), List.getD_eq_getElem?_getD, List.getElem?_eq_getElem (by omega)]
    rfl
  refine (Any.slices_Delete_string_cells delS_lays g 0 n cap i (i + 1) (fun j => l.getD j ⟨#[]⟩) w hnc (by unfold maxLen at hcm; omega) (by omega) (by omega) hcell (fun j _ => frozen_of_row _ _ _ _ _ hg)).mono ?_
  rintro e w' ⟨rfl, q, hw⟩
  have hst : (Lib.strsOf (fun j => l.getD j ⟨#[]⟩) n).map Go.Proofs.encStr = l.map Value.string := by
    apply List.ext_getElem?
    intro j
    unfold Lib.strsOf
    rw [List.getElem?_map, List.getElem?_map, List.getElem?_map]
    by_cases hj : j < n
    · rw [List.getElem?_range hj, List.getElem?_eq_getElem (by omega)]
      simp [Go.Proofs.encStr, List.getD_eq_getElem?_getD, List.getElem?_eq_getElem (show j < l.length by omega)]
    · rw [List.getElem?_eq_none (by simpa using hj), List.getElem?_eq_none (by omega)]
      rfl
  obtain ⟨h1, h2⟩ := del_row (i := i) hbg hg hnc hcm (by omega) (xs := l.map Value.string) (by simpa using hxl) hi q (z := .string ⟨#[]⟩) (by
    rw [List.map_append, List.map_append, List.map_take, List.map_drop, hst, show i + 1 - i = 1 by omega]
    rfl) hw
  refine ⟨.slice (some ⟨g, 0, none⟩) (n - 1) cap, by rw [show i + 1 - i = 1 by omega], ?_, h2, rfl⟩
  rw [List.map_append, List.map_take, List.map_drop]
  exact h1

theorem delete_int {w : World} {base n i : Nat} {v : Value} {l : List Int} (h : w.ownsRow base 3 1 v n (l.map (Value.int .i64))) (hi : i < n) :
    Calls Tryz.prog 160 #[v, .int .i64 (i : Int), .int .i64 ((i + 1 : Nat) : Int)] w fun e w' => ∃ v', e = .returned v' ∧ w'.ownsRow base 3 1 v' (n - 1) ((l.take i ++ l.drop (i + 1)).map (Value.int .i64)) ∧ w.grownBy w' v.ownBlock ∧ v'.ownBlock = v.ownBlock := by
  have hxl : l.length = n := by have := h.1; simpa using this
  rcases h.2 with ⟨rfl, rfl⟩ | ⟨g, cap, cur, rfl, hbg, hg, hnc, hcm, hcs, htake⟩
  · omega
  have hcell : ∀ j, j < l.length → w.cell? ⟨g, 0 + j, none⟩ = some (.int .i64 (l.getD j 0)) := fun j hj => by
    rw [cell_of_row _ _ _ _ _ _ hg, Nat.zero_add]
    have e : cur.toList[j]? = (l.map (Value.int .i64))[j]? := by rw [← htake, List.getElem?_take, if_pos (by omega)]
    rw [← Array.getElem?_toList, e, List.getElem?_map, List.getElem?_eq_getElem (by omega), List.getD_eq_getElem?_getD, List.getElem?_eq_getElem (by omega)]
    rfl
  refine (Any.slices_Delete_int_cells delI_lays g 0 n cap i (i + 1) l w (by omega) hnc (by unfold maxLen at hcm; omega) (by omega) (by omega) hcell (fun j _ => frozen_of_row _ _ _ _ _ hg)).mono ?_
  rintro e w' ⟨rfl, q, hw⟩
  have hln : l.take n = l := List.take_of_length_le (by omega)
  obtain ⟨h1, h2⟩ := del_row (i := i) hbg hg hnc hcm (by omega) (xs := l.map (Value.int .i64)) (by simpa using hxl) hi q (z := .int .i64 0) (by
    rw [hln, List.map_append, List.map_append, List.map_take, List.map_drop, show i + 1 - i = 1 by omega]
    rfl) hw
  refine ⟨.slice (some ⟨g, 0, none⟩) (n - 1) cap, by rw [show i + 1 - i = 1 by omega], ?_, h2, rfl⟩
  rw [List.map_append, List.map_take, List.map_drop]
  exact h1
end Go.Proofs.YtjocopclgehciaaGreatDoor
/-
  Tree: delete from a tree of one leaf.
-/
namespace Go.Proofs.YtjocopclgehciaaGreatDoor
open Go.RowKit
open L4 (Ar ArP Abs arV nv)

set_option maxRecDepth 100000 in
set_option maxHeartbeats 1000000 in
theorem settle_leaf {B : Nat} {s : Ar} {t x r h l xr xh xl : Nat} {tk ld gn : Value} {T : List Nat} {Ld : List Lay} {G : List Nat} {w : World} (k : Es B s t x r h l xr xh xl tk ld gn T Ld G w) (hL : Ld.length ≤ 10000) {n : L5.No} {at_ kid : Nat} {ra ka : Option Addr} {rc kc : Nat}
    (yr : w.ownsRow B 9 1 (.slice ra n.recs.length rc) n.recs.length (L5.svs n.recs)) (yk : w.ownsRow B 3 1 (.slice ka n.kids.length kc) n.kids.length (L5.ivs n.kids)) (b1 : ∀ q, s.own q → (Value.slice ka n.kids.length kc).ownBlock ≠ some q) (b2 : ∀ q, tk.ownBlock = some q → (Value.slice ka n.kids.length kc).ownBlock ≠ some q) (b3 : ∀ q, gn.ownBlock = some q → (Value.slice ka n.kids.length kc).ownBlock ≠ some q) (hk : n.kids.length ≠ 1) :
    Calls Tryz.prog 106 #[.pointer (some ⟨x, 0, none⟩), .agg #[.int .i64 (at_ : Int), .bool n.leaf, .slice ra n.recs.length rc, .slice ka n.kids.length kc, .int .i64 (kid : Int)]] w fun e w' => e = .returned (.tuple #[]) ∧ ∃ ld', Es B s t x r h l xr xh xl tk ld' gn T (Ld ++ [⟨at_, n, .slice ra n.recs.length rc, .slice ka n.kids.length kc, 0⟩]) G w' ∧ Stp B s s t x w w' := by
  have HK := thid k
  have HR := thid yr
  have HKK := thid yk
  have hk1 : ((n.kids.length : Int) == 1) = false := by simp; omega
  clear k yr yk
  have HB1 := thid (tbelow w (.cells #[.int .i64 (at_ : Int), .bool n.leaf, .slice ra n.recs.length rc, .slice ka n.kids.length kc, .int .i64 (kid : Int)] 118))
  have a1 := heap_alloc_new w (.cells #[.int .i64 (at_ : Int), .bool n.leaf, .slice ra n.recs.length rc, .slice ka n.kids.length kc, .int .i64 (kid : Int)] 118)
  go_enter Tryz.func106, Tryz.ntmps106
  go_wp2_with fail
  have z3 : (w.alloc (.cells #[.int .i64 (at_ : Int), .bool n.leaf, .slice ra n.recs.length rc, .slice ka n.kids.length kc, .int .i64 (kid : Int)] 118)).heap.size = w.heap.size + 1 := by simp
  generalize w.alloc (.cells #[.int .i64 (at_ : Int), .bool n.leaf, .slice ra n.recs.length rc, .slice ka n.kids.length kc, .int .i64 (kid : Int)] 118) = W at *
  have z0 : W.cell? ⟨w.heap.size, 0, none⟩ = some (.int .i64 (at_ : Int)) := by rw [cell_of_row _ _ _ _ _ _ a1]; rfl
  have z1 : W.cell? ⟨w.heap.size, 1, none⟩ = some (.bool n.leaf) := by rw [cell_of_row _ _ _ _ _ _ a1]; rfl
  have z2 : W.cell? ⟨w.heap.size, 2, none⟩ = some (.slice ra n.recs.length rc) := by rw [cell_of_row _ _ _ _ _ _ a1]; rfl
  have z4 : W.cell? ⟨w.heap.size, 3, none⟩ = some (.slice ka n.kids.length kc) := by rw [cell_of_row _ _ _ _ _ _ a1]; rfl
  have lz : w.heap.size < W.heap.size := by omega
  go_region_held (fun w' => w'.cell? ⟨w.heap.size, 0, none⟩ = some (.int .i64 (at_ : Int)) ∧ w'.cell? ⟨w.heap.size, 1, none⟩ = some (.bool n.leaf) ∧ w'.cell? ⟨w.heap.size, 2, none⟩ = some (.slice ra n.recs.length rc) ∧ w'.cell? ⟨w.heap.size, 3, none⟩ = some (.slice ka n.kids.length kc)) (simp [go_sem, *]) (fail)
  have hb2 : Below W.heap.size W (W.alloc (.cells #[.bool n.leaf, .slice ra n.recs.length rc, .slice ka n.kids.length kc] 94)).drew := (tbelow W (.cells #[.bool n.leaf, .slice ra n.recs.length rc, .slice ka n.kids.length kc] 94)).drew
  have HB2 := thid (tbelow_on HB1.out hb2)
  have a2 : (W.alloc (.cells #[.bool n.leaf, .slice ra n.recs.length rc, .slice ka n.kids.length kc] 94)).drew.heap[w.heap.size + 1]? = some (.cells #[.bool n.leaf, .slice ra n.recs.length rc, .slice ka n.kids.length kc] 94 (0, 0)) := by
    have h := heap_alloc_new W (.cells #[.bool n.leaf, .slice ra n.recs.length rc, .slice ka n.kids.length kc] 94)
    rw [z3] at h
    exact h
  have z0' := (hb2.cell (p := ⟨w.heap.size, 0, none⟩) lz).trans z0
  have lz' := Nat.lt_of_lt_of_le lz hb2.size
  clear z0 z1 z2 z4 z3 lz hb2 HB1 a1
  generalize (W.alloc (.cells #[.bool n.leaf, .slice ra n.recs.length rc, .slice ka n.kids.length kc] 94)).drew = V at *
  have n0 : V.cell? ⟨w.heap.size + 1, 0, none⟩ = some (.bool n.leaf) := by rw [cell_of_row _ _ _ _ _ _ a2]; rfl
  have n1 : V.cell? ⟨w.heap.size + 1, 1, none⟩ = some (.slice ra n.recs.length rc) := by rw [cell_of_row _ _ _ _ _ _ a2]; rfl
  have n2 : V.cell? ⟨w.heap.size + 1, 2, none⟩ = some (.slice ka n.kids.length kc) := by rw [cell_of_row _ _ _ _ _ _ a2]; rfl
  have nl := (Array.getElem?_eq_some_iff.1 a2).1
  have HK2 := thid (HK.out.below HB2.out)
  have HR2 := thid (L5.owns_below HR.out HB2.out)
  have HKK2 := thid (L5.owns_below HKK.out HB2.out)
  clear HK HR HKK a2
  go_wp2_with fail
  go_loopw [4] (fun u4 w2 => u4 = .int .i64 (at_ : Int) ∧ w2 = V) (fun _ _ => 0)
  case atStart => exact ⟨rfl, rfl⟩
  case round =>
    obtain ⟨rfl, rfl⟩ := hrel
    go_wp2_with fail
    refine (put_ok HK2.out hL HR2.out HKK2.out b1 b2 b3).mono ?_
    rintro e w3 ⟨rfl, ld', hE, hS⟩
    have HF : Hid (∃ ld', Es B s t x r h l xr xh xl tk ld' gn T (Ld ++ [⟨at_, n, .slice ra n.recs.length rc, .slice ka n.kids.length kc, 0⟩]) G w3 ∧ Stp B s s t x w w3) := ⟨ld', hE, (Stp.below HB2.out).trans hS⟩
    clear hE hS HB2 HK2 HR2 HKK2 z0' n0 n1 n2 nl lz'
    go_wp2
    go_end0
    exact ⟨rfl, HF.out⟩

set_option maxRecDepth 100000 in
set_option maxHeartbeats 1000000 in
theorem shrink_one {B : Nat} {s : Ar} {t x r h l xr xh xl : Nat} {tk ld gn : Value} {T : List Nat} {Ld : List Lay} {G : List Nat} {w : World} (k : Es B s t x r h l xr xh xl tk ld gn T Ld G w) (hL : Ld.length ≤ 10000) {n : L5.No} {at_ b cp kid : Nat} {ra ka : Option Addr} {rc kc : Nat} (hw : Way1 w b cp at_ n (.slice ra n.recs.length rc) (.slice ka n.kids.length kc) kid)
    (yr : w.ownsRow B 9 1 (.slice ra n.recs.length rc) n.recs.length (L5.svs n.recs)) (yk : w.ownsRow B 3 1 (.slice ka n.kids.length kc) n.kids.length (L5.ivs n.kids)) (b1 : ∀ q, s.own q → (Value.slice ka n.kids.length kc).ownBlock ≠ some q) (b2 : ∀ q, tk.ownBlock = some q → (Value.slice ka n.kids.length kc).ownBlock ≠ some q) (b3 : ∀ q, gn.ownBlock = some q → (Value.slice ka n.kids.length kc).ownBlock ≠ some q) (hk : n.kids.length ≠ 1) :
    Calls Tryz.prog 80 #[.pointer (some ⟨x, 0, none⟩), .slice (some ⟨b, 0, none⟩) 1 cp] w fun e w' => e = .returned (.tuple #[]) ∧ ∃ ld', Es B s t x r h l xr xh xl tk ld' gn T (Ld ++ [⟨at_, n, .slice ra n.recs.length rc, .slice ka n.kids.length kc, 0⟩]) G w' ∧ Stp B s s t x w w' := by
  have HK := thid k
  have HW := thid hw
  have HR := thid yr
  have HKK := thid yk
  clear k hw yr yk
  go_enter Tryz.func80, Tryz.ntmps80
  go_wp2_with fail
  refine (parted_ok HW.out).mono ?_
  rintro e w1 ⟨rfl, hb1⟩
  have HB1 := thid hb1
  clear hb1
  go_wp2_with fail
  have HB2 := thid (tbelow_on HB1.out (tbelow w1 (.cells #[.int .i64 (at_ : Int), .bool n.leaf, .slice ra n.recs.length rc, .slice ka n.kids.length kc, .int .i64 (kid : Int)] 118)))
  refine (settle_leaf (HK.out.below HB2.out) hL (L5.owns_below HR.out HB2.out) (L5.owns_below HKK.out HB2.out) b1 b2 b3 hk).mono ?_
  rintro e w3 ⟨rfl, ld', hE, hS⟩
  have HF : Hid (∃ ld', Es B s t x r h l xr xh xl tk ld' gn T (Ld ++ [⟨at_, n, .slice ra n.recs.length rc, .slice ka n.kids.length kc, 0⟩]) G w3 ∧ Stp B s s t x w w3) := ⟨ld', hE, (Stp.below HB2.out).trans hS⟩
  clear hE hS HB1 HB2 HK HR HKK HW
  go_wp2
  refine bodyPost_ret (v := .tuple #[]) (by simp [results, Tryz.results80, go_sem]) rfl ⟨rfl, HF.out⟩

/-- A leaf with one entry less. -/
def lessRec (n : L5.No) (i : Nat) : L5.No := ⟨n.leaf, n.recs.take i ++ n.recs.drop (i + 1), n.kids⟩

theorem lessRec_len (n : L5.No) {i : Nat} (h : i < n.recs.length) : (lessRec n i).recs.length = n.recs.length - 1 := by
  simp [lessRec]; omega

set_option maxRecDepth 100000 in
set_option maxHeartbeats 1000000 in
theorem delete_one {N : Nat} {s : Ar} {t x r l : Nat} {nd : L5.No} {k : ByteArray} {w : World} (hE : Es N s t x r 1 (l + 1) r 1 (l + 1) (.slice none 0 0) (.slice none 0 0) (.slice none 0 0) [] [] [] w) (ho : s.abs.Ok) (hn : s.abs.at (r : Int) = some (L5.pageL nd.toNd)) (hs : nd.shaped = true) (hz : nd.size ≤ 1024) (hlf : nd.leaf = true) (hsm : nd.small)
    (hno : L5.isAt nd.recs k (nd.recs.countP (L5.ltB k)) = true) (hil : nd.recs.countP (L5.ltB k) < nd.recs.length) (hk0 : nd.kids.length ≠ 1) (h2 : (lessRec nd (nd.recs.countP (L5.ltB k))).small) (h3 : (lessRec nd (nd.recs.countP (L5.ltB k))).shaped = true) (h4 : (lessRec nd (nd.recs.countP (L5.ltB k))).size ≤ 1024) (hll : l ≤ 1000000) :
    Calls Tryz.prog 56 #[.pointer (some ⟨x, 0, none⟩), .string k] w fun e w1 => e = .returned (.tuple #[]) ∧ Done N s t x r 1 (l + 1) r 1 l (s.abs.lay r (some (L5.pageL (lessRec nd (nd.recs.countP (L5.ltB k))).toNd))) w w1 := by
  have HE := thid hE
  obtain ⟨d0, d1, d2, d3, d4, d5, d6, dl, df⟩ := hE.ed.cells
  have HWY := thid (way_ok (k := k) hE.ar ho hE.tr hn hs hz hlf)
  clear hE
  go_enter Tryz.func56, Tryz.ntmps56
  go_wp2_with fail
  refine HWY.out.mono ?_
  rintro e w1 ⟨a, c, a', c', b, cp, rfl, o0, o1, o2, B1⟩
  have HO0 := thid o0
  have HO1 := thid o1
  have HO2 := thid o2
  have HB1 := thid B1
  have HE1 := thid (HE.out.below B1)
  clear HWY o0 o1 o2 B1 d0 d1 d2 d3 d4 d5 d6 dl df
  obtain ⟨d0, d1, d2, d3, d4, d5, d6, dl, df⟩ := HE1.out.ed.cells
  rw [show (Value.bool true) = .bool nd.leaf by rw [hlf]] at HO0
  obtain ⟨hW1, ⟨cs, hbk⟩, hbb⟩ := way1_of HO0.out
  have HW1 := thid hW1
  obtain ⟨lb, hcp, q0, q1, q2, q3, q4⟩ := hW1
  have HFN := thid (L5.find_walk (n := nd) (L5.NR.mk (L5.owns_rd_slice HO1.out) (L5.owns_rd_slice HO2.out)) hsm.recs k)
  rw [hno] at HFN
  clear HO0
  have HLE := thid hlf
  clear hlf
  unfold L5.nodeV at HFN
  go_wp2_with fail
  refine HFN.out.mono ?_
  rintro e w2 ⟨rfl, B2⟩
  have HB2 := thid B2
  have HE2 := thid (HE1.out.below B2)
  have HW2 := thid (HW1.out.on B2)
  have HP1 := thid (L5.owns_below HO1.out B2)
  have HP2 := thid (L5.owns_below HO2.out B2)
  have hbk2 : w2.heap[b]? = some (.cells cs 118 (0, 0)) := (B2.block _ lb).trans hbk
  clear HFN HO1 HO2 HW1 HE1 B2 hbk lb hcp q0 q1 q2 q3 q4 d0 d1 d2 d3 d4 d5 d6 dl df
  obtain ⟨i, hi⟩ : ∃ i, Hid (nd.recs.countP (L5.ltB k) = i) := ⟨_, rfl⟩
  rw [hi.out]
  have HE3 := thid HE2.out
  have HW3 := thid HW2.out
  have HQ1 := thid HP1.out
  have HQ2 := thid HP2.out
  have HB3 := thid (tbelow_on HB1.out HB2.out)
  have hbk3 := hbk2
  clear HE2 HW2 HP1 HP2 HB2 HB1 hbk2
  revert HB3
  generalize w2 = w3 at *
  intro HB3
  obtain ⟨d0, d1, d2, d3, d4, d5, d6, dl, df⟩ := HE3.out.ed.cells
  obtain ⟨lb, hcp, q0, q1, q2, q3, q4⟩ := HW3.out
  have qf : ∀ i, w3.frozen? ⟨b, i, none⟩ = false := fun i => frozen_of_row _ _ _ _ _ hbk3
  have il : i < nd.recs.length := by rw [← hi.out]; exact hil
  have HIN := thid (delete_str (i := i) (l := nd.recs) HQ1.out il)
  rw [show ((i + 1 : Nat) : Int) = (i : Int) + 1 by omega] at HIN
  have HA3 := thid (Below.refl w3.heap.size w3)
  have hi2 : (i : Int) ≤ 1000 := by have := hsm.recs; omega
  go_wp2_with fail
  refine HIN.out.mono ?_
  rintro e w5 ⟨v', rfl, o5, hg5, _⟩
  have hnb := row_ne hbk3 HQ1.out (by decide)
  have hbk5 : w5.heap[b]? = some (.cells cs 118 (0, 0)) := (hg5.block b (Nat.lt_of_lt_of_le lb HA3.out.size) (fun e => hnb e.symm)).trans ((HA3.out.block b lb).trans hbk3)
  have hB5 : Below w.heap.size w w5 := ⟨hg5.os.trans (HA3.out.os.trans HB3.out.os), hg5.tape.trans (HA3.out.tape.trans HB3.out.tape), hg5.output.trans (HA3.out.output.trans HB3.out.output), Nat.le_trans HB3.out.size (Nat.le_trans HA3.out.size hg5.size), fun q hq => by
    have z3 := HB3.out.size
    have z4 := HA3.out.size
    rw [hg5.block q (by omega) (fun e => by have := (HQ1.out.lt q e.symm).1; omega), HA3.out.block q (by omega), HB3.out.block q hq]⟩
  have hbx : b ≠ x := tag_ne hbk3 HE3.out.ed (by decide)
  have hk5 : w5.ownsRow w.heap.size 3 1 (.slice a' nd.kids.length c') nd.kids.length (L5.ivs nd.kids) := L5.owns_of_block HQ2.out fun q hq => by
    have z := (HQ2.out.lt q hq).2
    rw [hg5.block q (Nat.lt_of_lt_of_le z HA3.out.size) (fun e => rows_ne HQ2.out HQ1.out (by decide) q hq e.symm), HA3.out.block q z]
  have e0 : cs[0]? = some (.int .i64 (r : Int)) := (cell_of_row _ _ _ _ _ _ hbk3).symm.trans q0
  have e1 : cs[1]? = some (.bool nd.leaf) := (cell_of_row _ _ _ _ _ _ hbk3).symm.trans q1
  have e2 : cs[2]? = some (.slice a nd.recs.length c) := (cell_of_row _ _ _ _ _ _ hbk3).symm.trans q2
  have e3 : cs[3]? = some (.slice a' nd.kids.length c') := (cell_of_row _ _ _ _ _ _ hbk3).symm.trans q3
  have e4 : cs[4]? = some (.int .i64 ((0 : Nat) : Int)) := (cell_of_row _ _ _ _ _ _ hbk3).symm.trans q4
  have HBE := thid HE.out.bs
  have hrl := lessRec_len nd il
  rw [← hrl] at o5
  have o5 : w5.ownsRow w.heap.size 9 1 v' (lessRec nd i).recs.length (L5.svs (lessRec nd i).recs) := o5
  obtain ⟨ra, rc, rfl⟩ := own_slice o5
  have HE5 := thid (HE.out.below hB5)
  have HB6 := thid (hB5.setCell (p := ⟨b, 2, none⟩) hbb (.slice ra (lessRec nd i).recs.length rc))
  have HE6 := thid (HE.out.below HB6.out)
  have hbk6 := heap_setCell_same w5 b 2 cs _ (.slice ra (lessRec nd i).recs.length rc) hbk5
  have HO6 := thid (ownsRow_setCell_other o5 (a := ⟨b, 2, none⟩) (row_ne hbk5 o5 (by decide)) (.slice ra (lessRec nd i).recs.length rc))
  have HK6 := thid (ownsRow_setCell_other hk5 (a := ⟨b, 2, none⟩) (row_ne hbk5 hk5 (by decide)) (.slice ra (lessRec nd i).recs.length rc))
  have own_lt : ∀ q, s.own q → q < w.heap.size := fun q hq => L4.arSt.lt s w q HE.out.ar hq
  have HKL := thid (fun q (hq : (Value.slice a' nd.kids.length c').ownBlock = some q) => (hk5.lt q hq).1)
  have g2 : w5.cell? ⟨b, 2, none⟩ = some (.slice a nd.recs.length c) := (cell_of_row _ _ _ _ _ _ hbk5).trans e2
  have gf : ∀ i, w5.frozen? ⟨b, i, none⟩ = false := fun i => frozen_of_row _ _ _ _ _ hbk5
  have gl := (Array.getElem?_eq_some_iff.1 hbk5).1
  obtain ⟨m0, m1, m2, m3, m4, m5, m6, ml, mf⟩ := HE6.out.ed.cells
  clear HIN o5 hg5 hB5 hk5 HE3 HW3 HQ1 HQ2 HB3 HA3 hbk3 hbk5 qf lb q0 q1 q2 q3 q4 d0 d1 d2 d3 d4 d5 d6 dl df HE5
  have HRL := thid hrl
  clear hrl
  go_wp2_with fail
  obtain ⟨hE7, hS7⟩ := HE6.out.lened l
  have hbk7 := (show ((w5.setCell ⟨b, 2, none⟩ (.slice ra (lessRec nd i).recs.length rc)).setCell ⟨x, 3, none⟩ (.int .i64 (l : Int))).heap[b]? = (w5.setCell ⟨b, 2, none⟩ (.slice ra (lessRec nd i).recs.length rc)).heap[b]? from heap_setCell_other _ _ _ _ hbx).trans hbk6
  have hW7 : Way1 ((w5.setCell ⟨b, 2, none⟩ (.slice ra (lessRec nd i).recs.length rc)).setCell ⟨x, 3, none⟩ (.int .i64 (l : Int))) b cp r (lessRec nd i) (.slice ra (lessRec nd i).recs.length rc) (.slice a' (lessRec nd i).kids.length c') 0 := by
    have c2 : 2 < cs.size := by
      rcases Nat.lt_or_ge 2 cs.size with h | h
      · exact h
      · rw [Array.getElem?_eq_none h] at e2; cases e2
    refine way1_blk hbk7 hcp ?_ ?_ ?_ ?_ ?_
    · rw [Array.getElem?_setIfInBounds_ne (by decide)]; exact e0
    · rw [Array.getElem?_setIfInBounds_ne (by decide)]; exact e1
    · rw [Array.getElem?_setIfInBounds_self_of_lt c2]
    · rw [Array.getElem?_setIfInBounds_ne (by decide)]; exact e3
    · rw [Array.getElem?_setIfInBounds_ne (by decide)]; exact e4
  have o7 := ownsRow_setCell_other HO6.out (a := ⟨x, 3, none⟩) (row_ne HE6.out.ed HO6.out (by decide)) (.int .i64 (l : Int))
  have k7 := ownsRow_setCell_other HK6.out (a := ⟨x, 3, none⟩) (row_ne HE6.out.ed HK6.out (by decide)) (.int .i64 (l : Int))
  rw [hi.out] at h2 h3 h4
  have HG := thid (shrink_one hE7 (by simp) hW7 (owns_weak o7 HBE.out) (owns_weak k7 HBE.out) (fun q hq e => by have := own_lt q hq; have := HKL.out q e; omega) (fun q hq => by simp [Value.ownBlock] at hq) (fun q hq => by simp [Value.ownBlock] at hq) hk0)
  have HS7 := thid ((Stp.below (B := N) (s := s) (t := t) (x := x) (HB6.out)).trans hS7)
  clear hE7 hS7 hW7 o7 k7 hbk6 hbk7 HE6 HO6 HK6 m0 m1 m2 m3 m4 m5 m6 ml mf g2 gf gl
  refine HG.out.mono ?_
  rintro e w8 ⟨rfl, ld', hE8, hS8⟩
  have HD : Hid (Done N s t x r 1 (l + 1) r 1 l (s.abs.lay r (some (L5.pageL (lessRec nd i).toNd))) w w8) := by
    refine ⟨s, .slice none 0 0, ld', .slice none 0 0, [], _, rfl, ho, hE8, by simp, fun y hy => ?_, fun y hy => ?_, rfl, HS7.out.trans hS8⟩
    · rcases List.mem_append.1 hy with hy | hy
      · simp at hy
      · cases List.mem_singleton.1 hy
        exact ⟨h2, h3, h4⟩
    · rcases List.mem_append.1 hy with hy | hy
      · simp at hy
      · cases List.mem_singleton.1 hy
        exact ⟨_, hn⟩
  clear HG HS7 hE8 hS8
  go_wp2
  go_end0
  exact ⟨rfl, by rw [hi.out]; exact HD.out⟩
end Go.Proofs.YtjocopclgehciaaGreatDoor
/-
  Tree: Delete from a tree of one leaf.
-/
namespace Go.Proofs.YtjocopclgehciaaGreatDoor
open Go.RowKit
open L4 (Ar ArP Abs arV nv)

set_option maxRecDepth 100000 in
set_option maxHeartbeats 1000000 in
theorem tdelete1 {x b : Nat} {k : ByteArray} {w : World} {R : World → Prop} (hc : w.cell? ⟨b, 0, none⟩ = some (.string k)) (H : Calls Tryz.prog 56 #[.pointer (some ⟨x, 0, none⟩), .string k] w fun e w1 => e = .returned (.tuple #[]) ∧ R w1) :
    Calls Tryz.prog 55 #[.pointer (some ⟨x, 0, none⟩), .pointer (some ⟨b, 0, none⟩)] w fun e w1 => e = .returned (.tuple #[]) ∧ R w1 := by
  have HH := thid H
  clear H
  go_enter Tryz.func55, Tryz.ntmps55
  go_wp2_with fail
  refine HH.out.mono ?_
  rintro e w1 ⟨rfl, hR⟩
  have HR := thid hR
  clear hR HH hc
  go_wp2
  go_end0
  exact ⟨rfl, HR.out⟩

set_option maxRecDepth 100000 in
set_option maxHeartbeats 1000000 in
theorem tdelete_one {s : Ar} {t r l : Nat} {nd : L5.No} {k : ByteArray} {w : World} (h1 : One s t r (l + 1) nd w)
    (hno : L5.isAt nd.recs k (nd.recs.countP (L5.ltB k)) = true) (hil : nd.recs.countP (L5.ltB k) < nd.recs.length) (hk0 : nd.kids.length ≠ 1) (h2 : (lessRec nd (nd.recs.countP (L5.ltB k))).small) (h3 : (lessRec nd (nd.recs.countP (L5.ltB k))).shaped = true) (h4 : (lessRec nd (nd.recs.countP (L5.ltB k))).size ≤ 1024) (hll : l ≤ 1000000) :
    Calls Tryz.prog 33 #[.pointer (some ⟨t, 0, none⟩), .string k] w fun e w' => e = .returned (.int .i64 0) ∧ TrHas s t (s.abs.lay r (some (L5.pageL (lessRec nd (nd.recs.countP (L5.ltB k))).toNd))) r 1 l w w' := by
  have HB1 := thid (tbelow w (.cells #[.string k] 9))
  have H1 := thid (h1.below HB1.out)
  have hc1 : (w.alloc (.cells #[.string k] 9)).cell? ⟨w.heap.size, 0, none⟩ = some (.string k) := by simp [go_sem]
  have HOV := thid (over_ok H1.out.tr H1.out.pos)
  clear h1
  have hmf : ∀ (fn : Fn) (first cap : Array Value) (w : World), (Instr.makeFunc fn first cap).run Tryz.prog w = .ok (.func fn first cap) w := fun _ _ _ _ => rfl
  go_enter Tryz.func33, Tryz.ntmps33
  go_wp2_with fail
  refine HOV.out.mono ?_
  rintro e w2 ⟨rfl, B2⟩
  have hl2 : w.heap.size < (w.alloc (.cells #[.string k] 9)).heap.size := by simp
  have hc2 := (B2.cell (p := ⟨w.heap.size, 0, none⟩) hl2).trans hc1
  have HB2 := thid (tbelow_on HB1.out B2)
  have H2 := thid (H1.out.below B2)
  have hl3 : w.heap.size < w2.heap.size := Nat.lt_of_lt_of_le hl2 B2.size
  clear HOV B2 H1 HB1 hc1 hl2
  have HC := thid (change_ok H2.out.ar H2.out.tr 55 (fun _ _ => rfl) #[.pointer (some ⟨w.heap.size, 0, none⟩)] (fun N x W _ hb hE => by
    have hcW := (hb.cell (p := ⟨w.heap.size, 0, none⟩) hl3).trans hc2
    simpa using tdelete1 hcW (delete_one hE H2.out.ok H2.out.at_ H2.out.shaped H2.out.size H2.out.leaf H2.out.small hno hil hk0 h2 h3 h4 hll)))
  clear H2 hno hil hk0 h2 h3 h4
  go_wp2_with fail
  refine HC.out.mono ?_
  rintro e w3 ⟨rfl, s', hp, hab, hok, hA3, hT3, hon, hown⟩
  have HF : Hid (TrHas s t (s.abs.lay r (some (L5.pageL (lessRec nd (nd.recs.countP (L5.ltB k))).toNd))) r 1 l w w3) := by
    refine ⟨s', hp, hab, hok, hA3, hT3, ?_, fun q hq => (hown q hq).imp id fun y => Nat.le_trans HB2.out.size y⟩
    exact ⟨hon.os.trans HB2.out.os, hon.tape.trans HB2.out.tape, hon.output.trans HB2.out.output, Nat.le_trans HB2.out.size hon.size, fun q hq hs => by
      rw [hon.block q (Nat.lt_of_lt_of_le hq HB2.out.size) hs]
      exact HB2.out.block q hq⟩
  clear hA3 hT3 hon hown HC HB2 hmf
  go_wp2
  go_ret
  exact ⟨rfl, HF.out⟩
end Go.Proofs.YtjocopclgehciaaGreatDoor
/-
  Tree: telling a leaf's entries into a list.
-/
namespace Go.Proofs.YtjocopclgehciaaGreatDoor
open Go.RowKit
open L4 (Ar ArP Abs arV nv)

/-- A list under way: its variable in block o, its row from B on. -/
structure Lst (B o : Nat) (v : Value) (xs : List ByteArray) (w : World) : Prop where
  blk : w.heap[o]? = some (.cells #[v] 92 (0, 0))
  row : w.ownsRow B 9 1 v xs.length (L5.svs xs)
  lt : o < B
  bs : B ≤ w.heap.size

theorem Lst.on {B o : Nat} {v : Value} {xs : List ByteArray} {w w' : World} (k : Lst B o v xs w) (hb : Below w.heap.size w w') : Lst B o v xs w' :=
  ⟨(hb.block _ (Nat.lt_of_lt_of_le k.lt k.bs)).trans k.blk, L5.owns_below k.row hb, k.lt, Nat.le_trans k.bs hb.size⟩

end Go.Proofs.YtjocopclgehciaaGreatDoor
