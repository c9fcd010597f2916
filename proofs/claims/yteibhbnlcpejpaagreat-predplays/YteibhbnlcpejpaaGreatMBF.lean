import Derived.Test.YteibhbnlcpejpaaGreatMBC
import Derived.Test.YteibhbnlcpejpaaGreatMBE
namespace Go.Proofs.YteibhbnlcpejpaaGreat
open Go.RowKit
theorem nkids_le (s: ByteArray): kidsN s <= 2 := by
 unfold kidsN
 repeat' split
 all_goals decide
theorem nkids_one {s: ByteArray} (h: kidsN s = 1): s.toList = nNEG \/ s.toList = nNOT \/ s.toList = nNULL := by
 unfold kidsN at h
 split at h
 · cases h
 split at h
 · rename_i e; simpa [nops1] using e
 split at h
 · cases h
 · cases h
theorem nkids_two {s: ByteArray} (h: kidsN s = 2): s.toList ∈ nops2 := by
 unfold kidsN at h
 split at h
 · cases h
 split at h
 · cases h
 split at h
 · rename_i e; simpa using e
 · cases h
theorem eval_walk {ra: Option Addr} {rs: List RowL} {rc: Nat} (hF: RowsFit rs): ∀ n: Nat,EvIH n ra rs rc
 | 0 => fun k W left _ h => by cases h
 | n + 1 => fun k W left hI hd h1 h2 hR => by
  have IH := eval_walk (ra := ra) (rc := rc) hF n
  obtain ⟨xo,xk,xn,xs,xv,xc,xa,xp,l⟩ := k
  have hd': ∀ k ∈ l,deepN n k = false := fun k hk => by
   have: l.any (deepN n) = false := hd
   exact Bool.eq_false_iff.2 (List.any_eq_false.1 this k hk)
  have hS: Rw.SlG nC 7 W xa l := hI.2.1
  have hK: ∀ k ∈ l,InN n W k := hI.2.2
  have hE: evN (n + 1) rs (.mk xo xk xn xs xv xc xa xp l) = (if (l.length: Int) == kidsN xo then
   (if xo.toList == nVALUE then (⟨xk,xn,xs⟩,0)
   else if xo.toList == nCOLUMN then evCol rs xv xc
   else if xo.toList == nAND then evBoth 0 tAnd (evN n rs (l.headD zNL)) (evN n rs (l.tail.headD zNL))
   else if xo.toList == nOR then evBoth 1 tOr (evN n rs (l.headD zNL)) (evN n rs (l.tail.headD zNL))
   else if l.length == 1 then oneE xo.toList (evN n rs (l.headD zNL))
   else twoE xo (evN n rs (l.headD zNL)) (evN n rs (l.tail.headD zNL)))
  else (vz,15)) := rfl
  rw [hE]
  cases hk: ((l.length: Int) == kidsN xo)
  · exact eval_bad hk (by omega)
  cases k1: (xo.toList == nVALUE)
  · cases k2: (xo.toList == nCOLUMN)
    · have hk0: 1 <= kidsN xo := by
       unfold kidsN at hk ⊢
       rw [k1,k2] at hk ⊢
       simp only [Bool.or_false,Bool.false_eq_true,if_false] at hk ⊢
       split
       · decide
       split
       · decide
       · rename_i h3 h4
         rw [if_neg h3,if_neg h4] at hk
         simp at hk
      have hle := nkids_le xo
      have hle2: l.length = 1 \/ l.length = 2 := by
       have := eq_of_beq hk
       omega
      cases k3: (xo.toList == nAND)
      · cases k4: (xo.toList == nOR)
        · rcases hle2 with h | h
          · match l,h with
            | [k0],_ =>
             exact eval_one (by simpa using (eq_of_beq hk).symm) h1 h2 (nkids_one (by simpa using (eq_of_beq hk).symm)) IH (evN_fit (hK k0 (by simp)) hF) hR hS (hK k0 (by simp)) (hd' k0 (by simp))
          · match l,h with
            | [k0,k1'],_ =>
             exact eval_two (by simpa using (eq_of_beq hk).symm) h1 h2 k1 k2 k3 k4 IH (evN_fit (hK k0 (by simp)) hF) (evN_fit (hK k1' (by simp)) hF) hR hS (hK k0 (by simp)) (hd' k0 (by simp)) (hK k1' (by simp)) (hd' k1' (by simp))
        · have hk2: kidsN xo = 2 := by unfold kidsN; rw [eq_of_beq k4]; decide
          have hl: l.length = 2 := by have := eq_of_beq hk; omega
          match l,hl with
          | [k0,k1'],_ => exact eval_or hk2 h1 h2 (eq_of_beq k4) IH hR hS (hK k0 (by simp)) (hK k1' (by simp)) (hd' k0 (by simp)) (hd' k1' (by simp))
      · have hk2: kidsN xo = 2 := by unfold kidsN; rw [eq_of_beq k3]; decide
        have hl: l.length = 2 := by have := eq_of_beq hk; omega
        match l,hl with
        | [k0,k1'],_ => exact eval_and hk2 h1 h2 (eq_of_beq k3) IH hR hS (hK k0 (by simp)) (hK k1' (by simp)) (hd' k0 (by simp)) (hd' k1' (by simp))
    · exact eval_column hk (by omega) h2 (eq_of_beq k2) hR hF
  · exact eval_value hk (by omega) h2 (eq_of_beq k1)
theorem over_walk (a: Option Addr) (k c: Nat) (w: World): Calls Tryz.prog 133 #[.slice a k c] w fun e w' => e = .returned (scV a k c 65536) /\ Below w.heap.size w w' := by
 go_enter Tryz.func133,Tryz.ntmps133
 go_wp2
 exact bodyPost_ret (v := .agg #[.slice a k c, .int .i64 65536]) (by simp [results,Tryz.results133,go_sem]) rfl ⟨rfl,Rw.below_alloc _ _⟩
theorem came_ret {e: Ending} {c a: Int} {t: Bool} (h: Came e c a t) (he: e = .returned (.tuple #[])): c = 0 /\ a = 0 := by
 cases h with
 | done => exact ⟨rfl,rfl⟩
 | stop c a => cases he
theorem came_pan {e: Ending} {c a x: Int} {t: Bool} (h: Came e c a t) (he: e = .panicked (stopped x 0)): c = x /\ a = 0 := by
 cases h with
 | done => cases he
 | stop c a =>
  injection he with he
  injection he with h1 _
  injection h1 with h1 _
  injection h1 with _ h1
  unfold faultV at h1
  injection h1 with h1
  simp at h1
  exact h1
end Go.Proofs.YteibhbnlcpejpaaGreat
