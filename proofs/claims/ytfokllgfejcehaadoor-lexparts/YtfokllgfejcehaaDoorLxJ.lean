/-
  Lex: the document's sym.
-/
import Derived.Test.YtfokllgfejcehaaDoorLxI
import Derived.Deep.QuietTactic
import Derived.BigQuiet
namespace Go.Proofs.YtfokllgfejcehaaDoor
open Go.RowKit

theorem jhid {p : Prop} (h : p) : Hid p := h
def oneB : ByteArray := ⟨#[60, 62, 61, 43, 45, 42, 40, 41, 44, 46, 59]⟩

theorem oneB_at {k : Nat} (hk : k < 11) : oneB[k]'(hk) = oneL[k]'(hk) := rfl

theorem contains_at {c : UInt8} : ∀ {q : List UInt8} {k : Nat} (hk : k < q.length), (q.drop k).contains c = (c == q[k] || (q.drop (k + 1)).contains c)
  | [], k, hk => by simp at hk
  | x :: q, 0, hk => by rw [List.drop_zero, List.contains_cons]; rfl
  | x :: q, k + 1, hk => by
    have := contains_at (c := c) (q := q) (k := k) (by simpa using hk)
    simpa using this

theorem two_list (s : ByteArray) (p : Nat) : (s.extract p (p + 2)).toList = (s.data.toList.drop p).take 2 := by
  rw [ByteArray.toList_eq, ByteArray.data_extract, Array.toList_extract, List.extract_eq_take_drop]
  congr 1
  omega

set_option maxRecDepth 100000 in
set_option maxHeartbeats 1000000 in
theorem sym_one (s : ByteArray) (p : Nat) (hp : p < s.size) (hs : s.size ≤ 1000000) (w : World) (h1 : (((s.data.toList.drop p).take 2) == [60, 62]) = false) (h2 : (((s.data.toList.drop p).take 2) == [60, 61]) = false) (h3 : (((s.data.toList.drop p).take 2) == [62, 61]) = false) :
    Calls Tryd.prog 21 #[.string s, .int .i64 p] w fun e w' => e = .returned (.int .i64 (symP (s.data.toList.drop p)).2) ∧ ∃ q, w' = w.drewN q := by
  have hlen := bsz s
  have hd : s.data.toList.drop p = s[p] :: s.data.toList.drop (p + 1) := List.drop_eq_getElem_cons (by rw [hlen]; exact hp)
  have HR : Hid ((symP (s.data.toList.drop p)).2 = if oneL.contains s[p] then 1 else 0) := by
    show _ = _
    rw [hd] at h1 h2 h3 ⊢
    exact symP_one h1 h2 h3
  by_cases hx : p + 2 ≤ s.size
  · rw [← two_list] at h1 h2 h3
    have hsl : ∀ W, (Instr.slice 9 (.string s) (some (.int .i64 (p : Int))) (some (.int .i64 ((p : Int) + 2))) none).run Tryd.prog W = .ok (.string (s.extract p (p + 2))) W := fun W => by
      rw [run_slice_string W 9 s .i64 .i64 (p : Int) ((p : Int) + 2) Tryd.underlying9 (by omega) (by omega) (by omega)]
      rw [show (p : Int).toNat = p by omega, show ((p : Int) + 2).toNat = p + 2 by omega]
    have hx' : (p : Int) + 2 ≤ s.size := by omega
    clear hd
    generalize (symP (s.data.toList.drop p)).2 = N at *
    generalize s.extract p (p + 2) = two at *
    go_enter Tryd.func21, Tryd.ntmps21
    go_wp2
    go_loopw [7] (fun i wr => ∃ k : Nat, k ≤ 11 ∧ i = .int .i64 k ∧ Hid ((oneL.drop k).contains s[p] = oneL.contains s[p] ∧ ∃ q, wr = w.drewN q)) (fun i _ => 11 - (intOf i).toNat)
    case atStart => exact ⟨0, Nat.zero_le _, rfl, rfl, 0, rfl⟩
    case round =>
      obtain ⟨k, hk, rfl, HI⟩ := hrel
      by_cases hlt : k < 11
      · have hob : oneB[k]'hlt = oneL[k]'hlt := oneB_at hlt
        have hct := contains_at (c := s[p]) (q := oneL) (k := k) hlt
        unfold oneB at hob
        have hki : (k : Int) < 11 := by omega
        cases hc : ((s[p].toNat : Int) == ((oneL[k]'hlt).toNat : Int))
        · have HC : Hid ((oneL.drop (k + 1)).contains s[p] = oneL.contains s[p] ∧ ∃ q, wr = w.drewN q) := by
            refine ⟨?_, HI.out.2⟩
            rw [← HI.out.1, hct]
            have : (s[p] == oneL[k]'hlt) = false := by
              rw [beq_eq_false_iff_ne] at hc ⊢
              intro e
              exact hc (by rw [e])
            rw [this, Bool.false_or]
          rw [← hob] at hc
          clear hct hob
          go_wp2
          go_quiet (fail)
          go_wp2
          refine ⟨⟨k + 1, by omega, by go_num, HC.out.1, ?_⟩, by simp [intOf]; omega⟩
          obtain ⟨q, e⟩ := HC.out.2
          rw [e]
          exact ⟨_, World.drewN_drewN _ _ _⟩
        · have HN : Hid (N = 1) := by
            show _ = _
            rw [HR.out, ← HI.out.1, hct]
            have : (s[p] == oneL[k]'hlt) = true := by
              rw [beq_iff_eq] at hc ⊢
              exact UInt8.toNat_inj.1 (by omega)
            rw [this]
            rfl
          rw [← hob] at hc
          clear hct hob
          go_wp2
          go_quiet (fail)
          go_wp2
          go_ret
          refine ⟨ret_intL (by rw [HN.out]; rfl), ?_⟩
          obtain ⟨q, e⟩ := HI.out.2
          rw [e]
          exact ⟨_, World.drewN_drewN _ _ _⟩
      · have hk11 : k = 11 := by omega
        subst hk11
        have HN : Hid (N = 0) := by
          show _ = _
          rw [HR.out, ← HI.out.1]
          rfl
        go_wp2
        go_ret
        exact ⟨ret_intL (by rw [HN.out]; rfl), HI.out.2⟩
  · have hx' : ¬ ((p : Int) + 2 ≤ s.size) := by omega
    clear h1 h2 h3 hd
    generalize (symP (s.data.toList.drop p)).2 = N at *
    go_enter Tryd.func21, Tryd.ntmps21
    go_wp2
    go_loopw [7] (fun i wr => ∃ k : Nat, k ≤ 11 ∧ i = .int .i64 k ∧ Hid ((oneL.drop k).contains s[p] = oneL.contains s[p] ∧ ∃ q, wr = w.drewN q)) (fun i _ => 11 - (intOf i).toNat)
    case atStart => exact ⟨0, Nat.zero_le _, rfl, rfl, 0, rfl⟩
    case round =>
      obtain ⟨k, hk, rfl, HI⟩ := hrel
      by_cases hlt : k < 11
      · have hob : oneB[k]'hlt = oneL[k]'hlt := oneB_at hlt
        have hct := contains_at (c := s[p]) (q := oneL) (k := k) hlt
        unfold oneB at hob
        have hki : (k : Int) < 11 := by omega
        cases hc : ((s[p].toNat : Int) == ((oneL[k]'hlt).toNat : Int))
        · have HC : Hid ((oneL.drop (k + 1)).contains s[p] = oneL.contains s[p] ∧ ∃ q, wr = w.drewN q) := by
            refine ⟨?_, HI.out.2⟩
            rw [← HI.out.1, hct]
            have : (s[p] == oneL[k]'hlt) = false := by
              rw [beq_eq_false_iff_ne] at hc ⊢
              intro e
              exact hc (by rw [e])
            rw [this, Bool.false_or]
          rw [← hob] at hc
          clear hct hob
          go_wp2
          go_quiet (fail)
          go_wp2
          refine ⟨⟨k + 1, by omega, by go_num, HC.out.1, ?_⟩, by simp [intOf]; omega⟩
          obtain ⟨q, e⟩ := HC.out.2
          rw [e]
          exact ⟨_, World.drewN_drewN _ _ _⟩
        · have HN : Hid (N = 1) := by
            show _ = _
            rw [HR.out, ← HI.out.1, hct]
            have : (s[p] == oneL[k]'hlt) = true := by
              rw [beq_iff_eq] at hc ⊢
              exact UInt8.toNat_inj.1 (by omega)
            rw [this]
            rfl
          rw [← hob] at hc
          clear hct hob
          go_wp2
          go_quiet (fail)
          go_wp2
          go_ret
          refine ⟨ret_intL (by rw [HN.out]; rfl), ?_⟩
          obtain ⟨q, e⟩ := HI.out.2
          rw [e]
          exact ⟨_, World.drewN_drewN _ _ _⟩
      · have hk11 : k = 11 := by omega
        subst hk11
        have HN : Hid (N = 0) := by
          show _ = _
          rw [HR.out, ← HI.out.1]
          rfl
        go_wp2
        go_ret
        exact ⟨ret_intL (by rw [HN.out]; rfl), HI.out.2⟩

set_option maxRecDepth 100000 in
set_option maxHeartbeats 1000000 in
theorem sym_two (s : ByteArray) (p : Nat) (hp : p < s.size) (hs : s.size ≤ 1000000) (w : World) (h : (((s.data.toList.drop p).take 2) == [60, 62]) = true ∨ (((s.data.toList.drop p).take 2) == [60, 61]) = true ∨ (((s.data.toList.drop p).take 2) == [62, 61]) = true) :
    Calls Tryd.prog 21 #[.string s, .int .i64 p] w fun e w' => e = .returned (.int .i64 (symP (s.data.toList.drop p)).2) ∧ ∃ q, w' = w.drewN q := by
  have hlen := bsz s
  have HN := jhid (symP_two h)
  have hx : p + 2 ≤ s.size := by
    have h2 : ((s.data.toList.drop p).take 2).length = 2 := by
      rcases h with h | h | h <;> rw [beq_iff_eq] at h <;> rw [h] <;> rfl
    rw [List.length_take, List.length_drop, hlen] at h2
    omega
  rw [← two_list] at h
  have hsl : ∀ W, (Instr.slice 9 (.string s) (some (.int .i64 (p : Int))) (some (.int .i64 ((p : Int) + 2))) none).run Tryd.prog W = .ok (.string (s.extract p (p + 2))) W := fun W => by
    rw [run_slice_string W 9 s .i64 .i64 (p : Int) ((p : Int) + 2) Tryd.underlying9 (by omega) (by omega) (by omega)]
    rw [show (p : Int).toNat = p by omega, show ((p : Int) + 2).toNat = p + 2 by omega]
  have hx' : (p : Int) + 2 ≤ s.size := by omega
  generalize (symP (s.data.toList.drop p)).2 = N at *
  generalize s.extract p (p + 2) = two at *
  cases h1 : (two.toList == [60, 62])
  · cases h2 : (two.toList == [60, 61])
    · have h3 : (two.toList == [62, 61]) = true := by simpa [h1, h2] using h
      clear h
      go_enter Tryd.func21, Tryd.ntmps21
      go_wp2
      go_ret
      exact ⟨ret_intL (by rw [HN.out]; rfl), 0, rfl⟩
    · clear h
      go_enter Tryd.func21, Tryd.ntmps21
      go_wp2
      go_ret
      exact ⟨ret_intL (by rw [HN.out]; rfl), 0, rfl⟩
  · clear h
    go_enter Tryd.func21, Tryd.ntmps21
    go_wp2
    go_ret
    exact ⟨ret_intL (by rw [HN.out]; rfl), 0, rfl⟩

theorem sym_walk (s : ByteArray) (p : Nat) (hp : p < s.size) (hs : s.size ≤ 1000000) (w : World) :
    Calls Tryd.prog 21 #[.string s, .int .i64 p] w fun e w' => e = .returned (.int .i64 (symP (s.data.toList.drop p)).2) ∧ ∃ q, w' = w.drewN q := by
  cases h1 : (((s.data.toList.drop p).take 2) == [60, 62])
  · cases h2 : (((s.data.toList.drop p).take 2) == [60, 61])
    · cases h3 : (((s.data.toList.drop p).take 2) == [62, 61])
      · exact sym_one s p hp hs w h1 h2 h3
      · exact sym_two s p hp hs w (Or.inr (Or.inr h3))
    · exact sym_two s p hp hs w (Or.inr (Or.inl h2))
  · exact sym_two s p hp hs w (Or.inl h1)
end Go.Proofs.YtfokllgfejcehaaDoor
