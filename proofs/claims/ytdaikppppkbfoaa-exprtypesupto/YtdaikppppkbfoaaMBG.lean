import Derived.Test.YtdaikppppkbfoaaMBF
set_option maxRecDepth 100000
set_option maxHeartbeats 4000000
namespace Go.Proofs.Ytdaikppppkbfoaa
open Go.RowKit
theorem nkids_le (s: ByteArray): kidsN s <= 2 := by
 unfold kidsN
 repeat' split
 all_goals decide
theorem nkids_one {s: ByteArray} (h: kidsN s = 1): s.toList = nNEG \/ s.toList = nNOT \/ s.toList = nNULL := by
 unfold kidsN at h
 split at h
 · cases h
 split at h
 · rename_i e; simpa [nops1] using e
 split at h
 · cases h
 · cases h
theorem eval_walk {ra: Option Addr} {rs: List RowL} {rc: Nat} (hF: RowsFit rs): ∀ n: Nat,EvIH n ra rs rc
 | 0 => fun k W left _ h => by cases h
 | n + 1 => fun k W left hI hd h1 h2 hR => by
  have IH := eval_walk (ra := ra) (rc := rc) hF n
  obtain ⟨xo,xk,xn,xs,xv,xc,xa,xp,l⟩ := k
  have hd': ∀ k ∈ l,deepN n k = false := fun k hk => by
   have: l.any (deepN n) = false := hd
   exact Bool.eq_false_iff.2 (List.any_eq_false.1 this k hk)
  have hS: Rw.SlG nC 7 W xa l := hI.2.1
  have hK: ∀ k ∈ l,InN n W k := hI.2.2
  have hE: evN (n + 1) rs (.mk xo xk xn xs xv xc xa xp l) = (if (l.length: Int) == kidsN xo then
   (if xo.toList == nVALUE then (⟨xk,xn,xs⟩,0)
   else if xo.toList == nCOLUMN then evCol rs xv xc
   else if xo.toList == nAND then evBoth 0 tAnd (evN n rs (l.headD zNL)) (evN n rs (l.tail.headD zNL))
   else if xo.toList == nOR then evBoth 1 tOr (evN n rs (l.headD zNL)) (evN n rs (l.tail.headD zNL))
   else if l.length == 1 then oneE xo.toList (evN n rs (l.headD zNL))
   else twoE xo (evN n rs (l.headD zNL)) (evN n rs (l.tail.headD zNL)))
  else (vz,15)) := rfl
  rw [hE]
  cases hk: ((l.length: Int) == kidsN xo)
  · exact eval_bad hk (by omega)
  cases k1: (xo.toList == nVALUE)
  · cases k2: (xo.toList == nCOLUMN)
    · have hk0: 1 <= kidsN xo := by
       unfold kidsN at hk ⊢
       rw [k1,k2] at hk ⊢
       simp only [Bool.or_false,Bool.false_eq_true,if_false] at hk ⊢
       split
       · decide
       split
       · decide
       · rename_i h3 h4
         rw [if_neg h3,if_neg h4] at hk
         simp at hk
      have hle := nkids_le xo
      have hle2: l.length = 1 \/ l.length = 2 := by
       have := eq_of_beq hk
       omega
      cases k3: (xo.toList == nAND)
      · cases k4: (xo.toList == nOR)
        · rcases hle2 with h | h
          · match l,h with
            | [k0],_ =>
             exact eval_one (by simpa using (eq_of_beq hk).symm) h1 h2 (nkids_one (by simpa using (eq_of_beq hk).symm)) IH (evN_fit (hK k0 (by simp)) hF) hR hS (hK k0 (by simp)) (hd' k0 (by simp))
          · match l,h with
            | [k0,k1'],_ =>
             exact eval_two (by simpa using (eq_of_beq hk).symm) h1 h2 k1 k2 k3 k4 IH (evN_fit (hK k0 (by simp)) hF) (evN_fit (hK k1' (by simp)) hF) hR hS (hK k0 (by simp)) (hd' k0 (by simp)) (hK k1' (by simp)) (hd' k1' (by simp))
        · have hk2: kidsN xo = 2 := by unfold kidsN; rw [eq_of_beq k4]; decide
          have hl: l.length = 2 := by have := eq_of_beq hk; omega
          match l,hl with
          | [k0,k1'],_ => exact eval_or hk2 h1 h2 (eq_of_beq k4) IH hR hS (hK k0 (by simp)) (hK k1' (by simp)) (hd' k0 (by simp)) (hd' k1' (by simp))
      · have hk2: kidsN xo = 2 := by unfold kidsN; rw [eq_of_beq k3]; decide
        have hl: l.length = 2 := by have := eq_of_beq hk; omega
        match l,hl with
        | [k0,k1'],_ => exact eval_and hk2 h1 h2 (eq_of_beq k3) IH hR hS (hK k0 (by simp)) (hK k1' (by simp)) (hd' k0 (by simp)) (hd' k1' (by simp))
    · exact eval_column hk (by omega) h2 (eq_of_beq k2) hR hF
  · exact eval_value hk (by omega) h2 (eq_of_beq k1)
theorem evN_z (n: Nat) (rs: List RowL) (x: NL): (evN n rs x).2 = 0 \/ (evN n rs x).1 = vz := by
 cases n with
 | zero => exact Or.inr rfl
 | succ n =>
  unfold evN
  split
  · split
    · exact Or.inl rfl
    split
    · unfold evCol
      repeat' split
      all_goals first | exact Or.inr rfl | exact Or.inl rfl
    split
    · unfold evBoth
      repeat' split
      all_goals first | exact Or.inr rfl | exact Or.inl rfl
    split
    · unfold evBoth
      repeat' split
      all_goals first | exact Or.inr rfl | exact Or.inl rfl
    split
    · unfold oneE oneV errOr
      repeat' split
      all_goals first | exact Or.inr rfl | exact Or.inl rfl
    · unfold twoE twoV errOr
      repeat' split
      all_goals first | exact Or.inr rfl | exact Or.inl rfl
  · exact Or.inr rfl
theorem over_walk (a: Option Addr) (k c: Nat) (w: World): Calls Try.prog 56 #[.slice a k c] w fun e w' => e = .returned (scV a k c 65536) /\ Below w.heap.size w w' := by
 go_enter Try.func56,Try.ntmps56
 go_wp2
 exact bodyPost_ret (v := .agg #[.slice a k c, .int .i64 65536]) (by simp [results,Try.results56,go_sem]) rfl ⟨rfl,Rw.below_alloc _ _⟩
theorem only_set3 {w w2: World} {p: Nat} (hB: Below w.heap.size w w2) (x y z: Value): Only (fun k => k = p) w (((w2.setCell ⟨p,0,none⟩ x).setCell ⟨p,1,none⟩ y).setCell ⟨p,2,none⟩ z) :=
 (((Only.of_below (S := fun k => k = p) hB).setCell (p := ⟨p,0,none⟩) (Or.inr rfl) x).setCell (p := ⟨p,1,none⟩) (Or.inr rfl) y).setCell (p := ⟨p,2,none⟩) (Or.inr rfl) z
def Ev1P (r: VE) (p: Nat) (w: World) (e: Ending) (W: World): Prop :=
 ((r.2 = 0 /\ e = .returned (.tuple #[]) /\ W.heap[p]? = some (.cells #[.int .i64 r.1.k, .int .i64 r.1.n, .string r.1.s] 44 (0,0))) \/
  ((r.2 != 0) = true /\ e = .panicked (stopped r.2 0) /\ W.heap[p]? = some (.cells #[.int .i64 0, .int .i64 0, .string ⟨#[]⟩] 44 (0,0)))) /\ Only (· = p) w W
theorem eval1_walk {n: Nat} (hn: n <= 65536) {ra: Option Addr} {rs: List RowL} {rc: Nat} (hF: RowsFit rs) (x: NL) {w: World} (hI: InN n w x) (hd: deepN n x = false) (hR: RowsIn w ra rs) {p1 p0 p2: Nat}
 (h1: w.heap[p1]? = some (.cells #[.slice ra rs.length rc] 57 (0,0))) (h0: w.heap[p0]? = some (.cells (nC x).toArray 67 (0,0))) (h2: w.heap[p2]? = some (.cells #[.int .i64 0, .int .i64 0, .string ⟨#[]⟩] 44 (0,0))) :
 Calls Try.prog 54 #[.pointer (some ⟨p1,0,none⟩), .pointer (some ⟨p0,0,none⟩), .pointer (some ⟨p2,0,none⟩)] w (Ev1P (evN n rs x) p2 w) := by
 have hO := fun W => over_walk ra rs.length rc W
 have hV := fun W (hb: Below w.heap.size w W) => eval_walk (ra := ra) (rc := rc) hF n x W 65536 (hI.on hb) hd (by omega) (by omega) (hR.on hb)
 have hfit := (evN_fit hI hF).2.2
 have hW := fun W => own_walk (evN n rs x).1 hfit W
 clear hI hd hR hfit
 generalize evN n rs x = r at *
 obtain ⟨xo,xk,xn,xs,xv,xc,xa,xp,l⟩ := x
 obtain ⟨⟨uk,un,us⟩,c⟩ := r
 have l1 := (Array.getElem?_eq_some_iff.1 h1).1
 have l0 := (Array.getElem?_eq_some_iff.1 h0).1
 have l2 := (Array.getElem?_eq_some_iff.1 h2).1
 have n1: p1 ≠ p2 := fun e => by rw [e,h2] at h1; injection h1 with h1; injection h1 with _ h1 _; exact absurd h1 (by decide)
 have n0: p0 ≠ p2 := fun e => by rw [e,h2] at h0; injection h0 with h0; injection h0 with _ h0 _; exact absurd h0 (by decide)
 have KS: Hid (∀ W: World,(∀ q,q < w.heap.size -> q ≠ p2 -> W.heap[q]? = w.heap[q]?) -> (W.cell? ⟨p1,0,none⟩ = some (.slice ra rs.length rc) /\ W.cell? ⟨p0,0,none⟩ = some (.string xo) /\ W.cell? ⟨p0,1,none⟩ = some (.int .i64 xk) /\ W.cell? ⟨p0,2,none⟩ = some (.int .i64 xn) /\ W.cell? ⟨p0,3,none⟩ = some (.string xs) /\ W.cell? ⟨p0,4,none⟩ = some (.int .i64 xv) /\ W.cell? ⟨p0,5,none⟩ = some (.int .i64 xc) /\ W.cell? ⟨p0,6,none⟩ = some (.slice xa l.length xp))) := fun W hW => by
  have e1 := (hW p1 l1 n1).trans h1
  have e0 := (hW p0 l0 n0).trans h0
  refine ⟨?_, ?_, ?_, ?_, ?_, ?_, ?_, ?_⟩
  · rw [cell_of_row _ _ _ _ _ _ e1]; rfl
  all_goals (rw [cell_of_row _ _ _ _ _ _ e0]; rfl)
 have KB: Hid (∀ W: World,Below w.heap.size w W -> ∀ q,q < w.heap.size -> q ≠ p2 -> W.heap[q]? = w.heap[q]?) := fun W hW q h1 _ => hW.block q h1
 have KZ: Hid (∀ (W: World) x y z,Below w.heap.size w W -> ∀ q,q < w.heap.size -> q ≠ p2 -> (((W.setCell ⟨p2,0,none⟩ x).setCell ⟨p2,1,none⟩ y).setCell ⟨p2,2,none⟩ z).heap[q]? = w.heap[q]?) := fun W x y z hW q h1 h2 => by
  rw [heap_setCell_other _ _ _ _ h2,heap_setCell_other _ _ _ _ h2,heap_setCell_other _ _ _ _ h2]; exact hW.block q h1
 have HO: Hid (∀ W,Below w.heap.size w W -> Calls Try.prog 56 #[.slice ra rs.length rc] W fun e w2 => e = .returned (.agg #[.slice ra rs.length rc, .int .i64 65536]) /\ Hid (Below w.heap.size w w2)) := fun W hb => (hO W).mono (by
  rintro e w2 ⟨rfl,hb2⟩
  exact ⟨rfl,below_on hb hb2⟩)
 have HV: Hid (∀ W,Below w.heap.size w W -> Calls Try.prog 57 #[.agg #[.slice ra rs.length rc, .int .i64 65536], .agg #[.string xo, .int .i64 xk, .int .i64 xn, .string xs, .int .i64 xv, .int .i64 xc, .slice xa l.length xp]] W fun e w2 => (e = .returned (.agg #[.int .i64 uk, .int .i64 un, .string us]) /\ Hid (c = 0) /\ Hid (Below w.heap.size w w2)) \/ (e = .panicked (stopped c 0) /\ Hid (Ev1P (⟨uk,un,us⟩,c) p2 w (.panicked (stopped c 0)) w2))) := fun W hb => (hV W hb).mono (by
  rintro e w2 ⟨hWo,hb2⟩
  have hB := below_on hb hb2
  generalize hr: ((⟨uk,un,us⟩,c): VE) = r at hWo
  cases hWo with
  | ok v => cases hr; exact Or.inl ⟨rfl,rfl,hB⟩
  | no v c' h => cases hr; exact Or.inr ⟨rfl,Or.inr ⟨h,rfl,(hB.block _ l2).trans h2⟩,Only.of_below hB⟩)
 have HW: Hid (∀ W,Below w.heap.size w W -> Calls Try.prog 55 #[.agg #[.int .i64 uk, .int .i64 un, .string us]] W fun e w2 => e = .returned (.agg #[.int .i64 uk, .int .i64 un, .string us]) /\ Hid (Below w.heap.size w w2) /\ (w2.cell? ⟨p2,0,none⟩ = some (.int .i64 0) /\ w2.cell? ⟨p2,1,none⟩ = some (.int .i64 0) /\ w2.cell? ⟨p2,2,none⟩ = some (.string ⟨#[]⟩) /\ w2.frozen? ⟨p2,0,none⟩ = false /\ w2.frozen? ⟨p2,1,none⟩ = false /\ w2.frozen? ⟨p2,2,none⟩ = false)) := fun W hb => (hW W).mono (by
  rintro e w2 ⟨rfl,hb2⟩
  have hB := below_on hb hb2
  have h := vbox h2 hB
  exact ⟨rfl,hB,h.1,h.2.1,h.2.2.1,h.2.2.2.1,h.2.2.2.2.1,h.2.2.2.2.2.1⟩)
 have HEnd: Hid (∀ w2,Below w.heap.size w w2 -> c = 0 -> Ev1P (⟨uk,un,us⟩,c) p2 w (.returned (.tuple #[])) (((w2.setCell ⟨p2,0,none⟩ (.int .i64 uk)).setCell ⟨p2,1,none⟩ (.int .i64 un)).setCell ⟨p2,2,none⟩ (.string us))) := fun w2 hB hc =>
  ⟨Or.inl ⟨hc,rfl,heap_set3 ((hB.block _ l2).trans h2) _ _ _⟩,only_set3 hB _ _ _⟩
 clear hO hV hW h0 h1 h2 l0 l1 l2 n0 n1
 go_enter Try.func54,Try.ntmps54
 go_region_held (fun W => W.cell? ⟨p1,0,none⟩ = some (.slice ra rs.length rc) /\ W.cell? ⟨p0,0,none⟩ = some (.string xo) /\ W.cell? ⟨p0,1,none⟩ = some (.int .i64 xk) /\ W.cell? ⟨p0,2,none⟩ = some (.int .i64 xn) /\ W.cell? ⟨p0,3,none⟩ = some (.string xs) /\ W.cell? ⟨p0,4,none⟩ = some (.int .i64 xv) /\ W.cell? ⟨p0,5,none⟩ = some (.int .i64 xc) /\ W.cell? ⟨p0,6,none⟩ = some (.slice xa l.length xp)) (exact KS.out _ (by with_reducible (first
  | exact KB.out _ (Below.refl _ _).drew
  | exact KB.out _ HBc.out
  | exact KZ.out _ _ _ _ HBc.out))) (first
  | (go_at_call 56
     refine (HO.out _ (by with_reducible (first | exact (Below.refl _ _).drew))).mono ?_
     rintro e w2 ⟨rfl,HBc⟩)
  | (go_at_call 57
     refine (HV.out _ HBc.out).mono ?_
     rintro e w3 (⟨rfl,H0,HBc⟩ | ⟨rfl,hE⟩)
     rotate_left
     · exact ⟨rfl,hE.out⟩)
  | (go_at_call 55
     refine (HW.out _ HBc.out).mono ?_
     rintro e w4 ⟨rfl,HBc,z0,z1,z2,z3,z4,z5⟩))
 go_end0
 exact HEnd.out _ HBc.out H0.out
theorem calls_eval1 (args: Array Value) (w: World): (callFunc 54 args).run Try.prog w = .ok (.enter 54 args) w := by
 simp [go_sem]
theorem came_ret {e: Ending} {c a: Int} {t: Bool} (h: Came e c a t) (he: e = .returned (.tuple #[])): c = 0 /\ a = 0 := by
 cases h with
 | done => exact ⟨rfl,rfl⟩
 | stop c a => cases he
theorem came_pan {e: Ending} {c a x: Int} {t: Bool} (h: Came e c a t) (he: e = .panicked (stopped x 0)): c = x /\ a = 0 := by
 cases h with
 | done => cases he
 | stop c a =>
  injection he with he
  injection he with h1 _
  injection h1 with h1 _
  injection h1 with _ h1
  unfold faultV at h1
  injection h1 with h1
  simp at h1
  exact h1
theorem evCatch_walk {n: Nat} (hn: n <= 65536) {ra: Option Addr} {rs: List RowL} {rc: Nat} (hF: RowsFit rs) (x: NL) {w: World} (hI: InN n w x) (hd: deepN n x = false) (hR: RowsIn w ra rs) {p1 p0 p2: Nat}
 (h1: w.heap[p1]? = some (.cells #[.slice ra rs.length rc] 57 (0,0))) (h0: w.heap[p0]? = some (.cells (nC x).toArray 67 (0,0))) (h2: w.heap[p2]? = some (.cells #[.int .i64 0, .int .i64 0, .string ⟨#[]⟩] 44 (0,0))) :
 Calls Try.prog 51 #[.func (.func 54) #[] #[.pointer (some ⟨p1,0,none⟩), .pointer (some ⟨p0,0,none⟩), .pointer (some ⟨p2,0,none⟩)]] w fun e w' => e = .returned (faultV (evN n rs x).2 0) /\
  w'.heap[p2]? = some (.cells #[.int .i64 (evN n rs x).1.k, .int .i64 (evN n rs x).1.n, .string (evN n rs x).1.s] 44 (0,0)) /\ Only (· = p2) w w' := by
 have hb := below_catchW w
 have l2 := (Array.getElem?_eq_some_iff.1 h2).1
 have H := eval1_walk (rc := rc) hn hF x (hI.on hb) hd (hR.on hb) ((hb.block _ (Array.getElem?_eq_some_iff.1 h1).1).trans h1) ((hb.block _ (Array.getElem?_eq_some_iff.1 h0).1).trans h0) ((hb.block _ l2).trans h2)
 have hz := evN_z n rs x
 generalize evN n rs x = r at *
 refine (catch_any 54 calls_eval1 _ w (· = p2) (fun k hk e => by omega) (Ev1P r p2 (catchW w)) (H.mono ?_)).mono ?_
 · rintro e w1 ⟨hE,ho⟩
   refine ⟨⟨hE,ho⟩,ho, ?_⟩
   rcases hE with ⟨_,rfl,_⟩ | ⟨_,rfl,_⟩
   · exact ⟨_,_,_, .done⟩
   · exact ⟨_,_,_, .stop _ _⟩
 · rintro e w' ⟨e1,w1,c,a,t,⟨hE,_⟩,hc,rfl,ho,hat⟩
   have hs := hb.size
   have hs1 := ho.size
   have hp: w'.heap[p2]? = w1.heap[p2]? := hat.block _ (by omega) (by omega)
   refine ⟨?_, ?_,Only.through hb ho hat⟩
   · rcases hE with ⟨h,he,_⟩ | ⟨h,he,_⟩
     · obtain ⟨rfl,rfl⟩ := came_ret hc he
       rw [h]
     · obtain ⟨rfl,rfl⟩ := came_pan hc he
       rfl
   · rw [hp]
     rcases hE with ⟨h,he,hv⟩ | ⟨h,he,hv⟩
     · exact hv
     · rcases hz with hz | hz
       · rw [hz] at h; cases h
       · rw [hz]; exact hv
theorem evalF_walk {n: Nat} (hn: n <= 65536) {ra: Option Addr} {rs: List RowL} {rc: Nat} (hF: RowsFit rs) (x: NL) {w: World} (hI: InN n w x) (hd: deepN n x = false) (hR: RowsIn w ra rs) :
 Calls Try.prog 20 #[nV x, .slice ra rs.length rc] w fun e w' => e = .returned (.tuple #[vvV (evN n rs x).1, .int .i64 (evN n rs x).2]) /\ Below w.heap.size w w' := by
 have hmf: ∀ (fn: Fn) (first cap: Array Value) (w: World),(Instr.makeFunc fn first cap).run Try.prog w = .ok (.func fn first cap) w := fun _ _ _ _ => rfl
 have HC: Hid (∀ (W: World),Below w.heap.size w W -> W.heap[w.heap.size + 1]? = some (.cells #[.slice ra rs.length rc] 57 (0,0)) -> W.heap[w.heap.size]? = some (.cells (nC x).toArray 67 (0,0)) -> W.heap[w.heap.size + 1 + 1]? = some (.cells #[.int .i64 0, .int .i64 0, .string ⟨#[]⟩] 44 (0,0)) -> W.heap[w.heap.size + 1 + 1 + 1]? = some (.cells #[.int .i64 0, .int .i64 0, .string ⟨#[]⟩] 44 (0,0)) ->
  Calls Try.prog 51 #[.func (.func 54) #[] #[.pointer (some ⟨w.heap.size + 1,0,none⟩), .pointer (some ⟨w.heap.size,0,none⟩), .pointer (some ⟨w.heap.size + 1 + 1 + 1,0,none⟩)]] W fun e w' => e = .returned (.agg #[.int .i64 (evN n rs x).2, .int .i64 0]) /\ Hid (Below w.heap.size w w' /\
  w'.heap[w.heap.size + 1 + 1 + 1]? = some (.cells #[.int .i64 (evN n rs x).1.k, .int .i64 (evN n rs x).1.n, .string (evN n rs x).1.s] 44 (0,0)) /\ w'.heap[w.heap.size + 1 + 1]? = some (.cells #[.int .i64 0, .int .i64 0, .string ⟨#[]⟩] 44 (0,0)))) := fun W hb h1 h0 hr hv => (evCatch_walk hn hF x (hI.on hb) hd (hR.on hb) h1 h0 hv).mono (by
  rintro e w' ⟨rfl,hv',ho⟩
  have hl := (Array.getElem?_eq_some_iff.1 hr).1
  exact ⟨rfl,hb.trans (ho.below hb.size fun k hk e => by omega),hv',(ho.block _ hl (by omega)).trans hr⟩)
 clear hI hd hR
 generalize evN n rs x = r at *
 obtain ⟨⟨uk,un,us⟩,c⟩ := r
 go_enter Try.func20,Try.ntmps20
 unfold nV
 go_wp2_with fail
 refine (HC.out _ ?_ ?_ ?_ ?_ ?_).mono ?_
 · exact (below_three w _ _ _).alloc (by simp; omega) _
 · exact (Below.heap_alloc _ _ _ (by simp)).trans ((Below.heap_alloc _ _ _ (by simp)).trans (heap_two w _ _))
 · exact (Below.heap_alloc _ _ _ (by simp; omega)).trans ((Below.heap_alloc _ _ _ (by simp; omega)).trans ((Below.heap_alloc _ _ _ (by simp)).trans (Rw.heap_new w _)))
 · exact (Below.heap_alloc _ _ _ (by simp)).trans (heap_three w _ _ _)
 · rw [show w.heap.size + 1 + 1 + 1 = (((w.alloc (.cells #[.string x.op, .int .i64 x.vk, .int .i64 x.vn, .string x.vs, .int .i64 x.var, .int .i64 x.col, .slice x.a x.kids.length x.c] 67)).alloc (.cells #[.slice ra rs.length rc] 57)).alloc (.cells #[.int .i64 0, .int .i64 0, .string ⟨#[]⟩] 44)).heap.size by simp]; exact Rw.heap_new _ _
 rintro e w1 ⟨rfl,H1⟩
 clear HC
 go_wp2_with fail
 refine Rw.to_letter (F := fun W => Below w.heap.size w W /\ W.heap[w.heap.size + 1 + 1 + 1]? = some (.cells #[.int .i64 uk, .int .i64 un, .string us] 44 (0,0)) /\ W.heap[w.heap.size + 1 + 1]? = some (.cells #[.int .i64 0, .int .i64 0, .string ⟨#[]⟩] 44 (0,0)) /\ W.heap[w1.heap.size]? = some (.cells #[.int .i64 c, .int .i64 0] 123 (0,0)))
  ⟨H1.out.1.alloc H1.out.1.size _,(Below.heap_alloc _ _ _ (Array.getElem?_eq_some_iff.1 H1.out.2.1).1).trans H1.out.2.1,(Below.heap_alloc _ _ _ (Array.getElem?_eq_some_iff.1 H1.out.2.2).1).trans H1.out.2.2,Rw.heap_new _ _⟩ ?_
 rintro W ⟨hB,hv,hr,hx⟩
 have HB := Rw.dh hB
 have HR := Rw.dh hr
 have l1: w.heap.size + 1 + 1 + 1 < w1.heap.size := (Array.getElem?_eq_some_iff.1 H1.out.2.1).1
 have KS: Hid (∀ W': World,(∀ q,q ≠ w.heap.size + 1 + 1 -> W'.heap[q]? = W.heap[q]?) -> (W'.cell? ⟨w.heap.size + 1 + 1 + 1,0,none⟩ = some (.int .i64 uk) /\ W'.cell? ⟨w.heap.size + 1 + 1 + 1,1,none⟩ = some (.int .i64 un) /\ W'.cell? ⟨w.heap.size + 1 + 1 + 1,2,none⟩ = some (.string us) /\ W'.cell? ⟨w1.heap.size,0,none⟩ = some (.int .i64 c))) := fun W' hW => by
  have e1 := (hW _ (by omega)).trans hv
  have e2 := (hW _ (by omega)).trans hx
  refine ⟨?_, ?_, ?_, ?_⟩
  · rw [cell_of_row _ _ _ _ _ _ e1]; rfl
  · rw [cell_of_row _ _ _ _ _ _ e1]; rfl
  · rw [cell_of_row _ _ _ _ _ _ e1]; rfl
  · rw [cell_of_row _ _ _ _ _ _ e2]; rfl
 have KZ: Hid (∀ (x y z: Value) (q: Nat),q ≠ w.heap.size + 1 + 1 -> (((W.setCell ⟨w.heap.size + 1 + 1,0,none⟩ x).setCell ⟨w.heap.size + 1 + 1,1,none⟩ y).setCell ⟨w.heap.size + 1 + 1,2,none⟩ z).drew.heap[q]? = W.heap[q]?) := fun x y z q h2 => by
  show (((W.setCell ⟨w.heap.size + 1 + 1,0,none⟩ x).setCell ⟨w.heap.size + 1 + 1,1,none⟩ y).setCell ⟨w.heap.size + 1 + 1,2,none⟩ z).heap[q]? = _
  rw [heap_setCell_other _ _ _ _ h2,heap_setCell_other _ _ _ _ h2,heap_setCell_other _ _ _ _ h2]
 have KD: Hid (∀ (q: Nat),q ≠ w.heap.size + 1 + 1 -> W.drew.heap[q]? = W.heap[q]?) := fun _ _ => rfl
 obtain ⟨z0,z1,z2,z3,z4,z5,z6⟩ := vbox hr (Below.refl _ _)
 clear hB hr hv hx H1 HR l1
 go_region_held (fun W => W.cell? ⟨w.heap.size + 1 + 1 + 1,0,none⟩ = some (.int .i64 uk) /\ W.cell? ⟨w.heap.size + 1 + 1 + 1,1,none⟩ = some (.int .i64 un) /\ W.cell? ⟨w.heap.size + 1 + 1 + 1,2,none⟩ = some (.string us) /\ W.cell? ⟨w1.heap.size,0,none⟩ = some (.int .i64 c)) (exact KS.out _ (by with_reducible (first
  | exact KD.out
  | exact KZ.out _ _ _))) (fail)
 go_wp2
 exact bodyPost_ret (v := .tuple #[.agg #[.int .i64 uk, .int .i64 un, .string us], .int .i64 c]) (by simp [results,Try.results20,go_sem,z0,z1,z2]) rfl ⟨rfl,(below_set3 (by omega) HB.out _ _ _).drew⟩
end Go.Proofs.Ytdaikppppkbfoaa
