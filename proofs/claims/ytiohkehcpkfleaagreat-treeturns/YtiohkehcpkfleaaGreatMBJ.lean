import Derived.Test.YtiohkehcpkfleaaGreatMBH
import Derived.Test.YtiohkehcpkfleaaGreatMBI
set_option maxRecDepth 100000
set_option maxHeartbeats 4000000
namespace Go.Proofs.YtiohkehcpkfleaaGreat
open Go.RowKit
open L4 (Ar ArP Abs arV nv)
theorem lost_any {N B : Nat} {s : Ar} {t x r h l xr xh xl : Nat} {tk ld gn : Value} {T : List Nat} {Ld : List Lay} {G : List Nat} {w : World} {g off : Nat} {cs : Array Value} {u : Pl} {vr vk : Value} {n : L5.No} {at_ kid : Nat} {la lb : Option Addr} {lc ld' : Nat} (hE : Es B s t x r h l xr xh xl tk ld gn T Ld G w) (ho : s.abs.Ok) (hL : Ld.length <= 10000) (hG : G.length <= 10000) (k : UpS N w g off cs u vr vk) (hNR : L5.NR w n la lc lb ld') (hus : u.n.shaped = true) (huz : u.n.size <= 1024) (hnz : n.size <= 1024) (hat : u.n.kids[u.kid]? = some (at_ : Int)) (hkr : u.kid <= u.n.recs.length) (hbs : Beside s.abs u n.leaf) (zg : g < B) (zr : ∀ q, vr.ownBlock = some q -> q < B) (zk : ∀ q, vk.ownBlock = some q -> q < B /\ ¬ s.own q) :
 Calls Tryz.prog 85 #[.pointer (some ⟨x, 0, none⟩), .pointer (some ⟨g, off, none⟩), .agg #[.int .i64 (at_ : Int), .bool n.leaf, .slice la n.recs.length lc, .slice lb n.kids.length ld', .int .i64 (kid : Int)]] w fun e w' => ∃ b, e = .returned (.bool b) /\ LostQ N B s t x r h l xr xh xl tk ld gn T Ld G g off cs u vr vk at_ n w b w' := by
 by_cases h0 : n.recs.length + n.kids.length = 0
 · have e1 : n.recs.length = 0 := by omega
   have e2 : n.kids.length = 0 := by omega
   rw [e1, e2]
   refine (lost_gone (lf := n.leaf) (at_ := at_) (v4 := .int .i64 (kid : Int)) hE hG k zg zr zk (List.getElem?_eq_some_iff.1 hat).1 (fun h => by omega) (small_size huz)).mono ?_
   rintro e w' ⟨rfl, gn', vr', vk', hg⟩
   exact ⟨true, rfl, [], at_, _, .gone h0, (fun e => by cases e), fun _ => ⟨Ld, ld, gn', vr', vk', by simp, by omega, hg.lose⟩⟩
 · exact lost_full hE ho hL hG k hNR h0 hus huz hnz hat hbs zg zr zk
theorem shrink_step {N t x r h l xl : Nat} {tk : Value} {T : List Nat} (m : Nat) (IH : ∀ m', m' < m -> ShrinkP N t x r h l xl tk T m') : ShrinkP N t x r h l xl tk T m := by
 intro B s xr xh ld gn Ld G Lw w n at_ g cp kid ra ka rc kc hlw hm hN hE hL hG hWS hW yr yk b1 b2 b3 ho hU hz hxh hset
 have HK := thid hE
 have HW := thid hW
 have HWS := thid hWS
 have HR := thid yr
 have HKK := thid yk
 have HIH := thid IH
 have HB0 := thid (And.intro b1 (And.intro b2 b3))
 have HCAP := thid hW.cap
 have HU := thid hU
 have HSET := thid hset
 clear hE hW yr yk hWS IH b1 b2 b3 hU hset
 go_enter Tryz.func59, Tryz.ntmps59
 go_wp2_with fail
 refine (parted_any hm HW.out).mono ?_
 rintro e w1 ⟨rfl, hb1⟩
 have HB1 := thid hb1
 clear hb1
 have HA1 := thid (tbelow w1 (.cells #[.int .i64 (at_ : Int), .bool n.leaf, .slice ra n.recs.length rc, .slice ka n.kids.length kc, .int .i64 (kid : Int)] 99))
 have a1 : (w1.alloc (.cells #[.int .i64 (at_ : Int), .bool n.leaf, .slice ra n.recs.length rc, .slice ka n.kids.length kc, .int .i64 (kid : Int)] 99)).heap[w1.heap.size]? = some (.cells #[.int .i64 (at_ : Int), .bool n.leaf, .slice ra n.recs.length rc, .slice ka n.kids.length kc, .int .i64 (kid : Int)] 99 (0, 0)) := heap_alloc_new _ _
 have HB2 := thid (tbelow_on HB1.out HA1.out)
 rcases Nat.eq_zero_or_pos m with hm0 | hm0
 · subst hm0
   have hlz : Lw = [] := List.length_eq_zero_iff.1 hlw
   subst hlz
   obtain ⟨hx1, hx2⟩ := HSET.out [] [] at_ n .root
   subst hx1
   rw [List.append_nil] at hx2
   have HST := thid (settle_any (kid := kid) (HK.out.weaken hN |>.below HB2.out) ho (by omega) (by omega) hxh (L5.owns_below HR.out HB2.out) (L5.owns_below HKK.out HB2.out) HB0.out.1 HB0.out.2.1 HB0.out.2.2 hx2)
   clear HK HW HWS HR HKK HIH HB0 HU HSET hx2
   go_wp2_with fail
   refine HST.out.mono ?_
   rintro e w2 ⟨rfl, ld', gn', Ld', G2, r', n2, hr, q1, q2, q3, q4, q5, q6⟩
   have HF : Hid (ShrQ N s t x r h l xl tk T (([] : List Lay).reverse.map Lay.pl) at_ n at_ xh Ld G w w2) := by
    refine ⟨ld', gn', Ld', _, r', hr + 1, q1, (Stp.below HB2.out).trans q2, Or.inr ⟨[], [], G2, n, n2, hr, .root, by simpa using q3, by simp, rfl, by simpa using q4⟩, by omega, by simp; omega⟩
   clear q1 q2 q3 q4 HST HB1 HB2 HA1 a1
   go_wp2
   refine bodyPost_ret (v := .tuple #[]) (by simp [results, Tryz.results59, go_sem]) rfl ⟨rfl, HF.out⟩
 · obtain ⟨m', rfl⟩ : ∃ m', m = m' + 1 := ⟨m - 1, by omega⟩
   have hmz : (((m' + 1 : Nat) : Int) == 0) = false := by rw [beq_eq_false_iff_ne]; omega
   obtain ⟨Lw', y, rfl⟩ : ∃ Lw' y, Lw = Lw' ++ [y] := ⟨Lw.dropLast, Lw.getLast (by intro e; rw [e] at hlw; simp at hlw), (List.dropLast_concat_getLast _).symm⟩
   have hlw' : Lw'.length = m' := by simpa using hlw
   have hrv : (Lw' ++ [y]).reverse.map Lay.pl = y.pl :: Lw'.reverse.map Lay.pl := by simp
   have HRV := thid hrv
   rw [hrv] at HU HSET
   clear hrv
   obtain ⟨⟨hul, hus, huz, hat, hkr, hbs⟩, hU'⟩ := HU.out
   obtain ⟨cs, hb, hc⟩ := HWS.out.blk
   obtain ⟨c0, c1, c2, c3, c4⟩ := hc m' y (by rw [List.getElem?_append_right (by omega), hlw']; simp)
   have glt := (Array.getElem?_eq_some_iff.1 hb).1
   have HLO := thid (fun (W : World) (hbW : Below w.heap.size w W) => lost_any (N := N) (kid := kid) (at_ := at_) (u := y.pl) (vr := y.vr) (vk := y.vk) (cs := cs) (off := m' * 5) (HK.out.below hbW) ho (by omega) (by omega) ⟨(hbW.block _ glt).trans hb, c0, c1, c2, c3, c4, (HWS.out.on hbW).rr y (by simp), (HWS.out.on hbW).rk y (by simp)⟩ (L5.NR.mk (n := n) (L5.owns_rd_slice (L5.owns_below HR.out hbW)) (L5.owns_rd_slice (L5.owns_below HKK.out hbW))) hus huz hz hat hkr hbs HWS.out.g2 (HWS.out.r1 y (by simp)) (HWS.out.r2 y (by simp)))
   have hgl : g < (w1.alloc (.cells #[.int .i64 (at_ : Int), .bool n.leaf, .slice ra n.recs.length rc, .slice ka n.kids.length kc, .int .i64 (kid : Int)] 99)).heap.size := Nat.lt_of_lt_of_le glt HB2.out.size
   have HCS := thid (And.intro hb hc)
   have HUU := thid (And.intro hul (And.intro huz hU'))
   have hcap := HCAP.out
   clear hul hus huz hat hkr hbs hU' hb hc c0 c1 c2 c3 c4 HU
   have hwm : wrap64 (((m' + 1 : Nat) : Int) - 1) = (m' : Int) := by unfold wrap64; omega
   go_wp2_with fail
   generalize w1.alloc (.cells #[.int .i64 (at_ : Int), .bool n.leaf, .slice ra n.recs.length rc, .slice ka n.kids.length kc, .int .i64 (kid : Int)] 99) = W1 at *
   have z0 : W1.cell? ⟨w1.heap.size, 0, none⟩ = some (.int .i64 (at_ : Int)) := by rw [cell_of_row _ _ _ _ _ _ a1]; rfl
   have z1 : W1.cell? ⟨w1.heap.size, 1, none⟩ = some (.bool n.leaf) := by rw [cell_of_row _ _ _ _ _ _ a1]; rfl
   have z2 : W1.cell? ⟨w1.heap.size, 2, none⟩ = some (.slice ra n.recs.length rc) := by rw [cell_of_row _ _ _ _ _ _ a1]; rfl
   have z3 : W1.cell? ⟨w1.heap.size, 3, none⟩ = some (.slice ka n.kids.length kc) := by rw [cell_of_row _ _ _ _ _ _ a1]; rfl
   have z4 : W1.cell? ⟨w1.heap.size, 4, none⟩ = some (.int .i64 (kid : Int)) := by rw [cell_of_row _ _ _ _ _ _ a1]; rfl
   have lz := (Array.getElem?_eq_some_iff.1 a1).1
   have HA := thid a1
   clear a1
   refine wp_region_quiet_tail (fun w' => ∃ n, w' = World.drewN W1 n) 7 (by kernel_rfl) (by kernel_rfl) ⟨1, rfl⟩ ?_
   simp only [List.take_succ_cons, List.take_zero, List.drop_succ_cons, List.drop_zero]
   repeat (go_big_quiet_step (first | rfl | fail))
   refine wpQuiet_nil ?_
   rintro _ ⟨nq, rfl⟩
   have HBn := thid (below_drewN HB2.out nq)
   have HAn : Hid ((W1.drewN nq).heap[w1.heap.size]? = some (.cells #[.int .i64 (at_ : Int), .bool n.leaf, .slice ra n.recs.length rc, .slice ka n.kids.length kc, .int .i64 (kid : Int)] 99 (0, 0))) := HA.out
   clear z0 z1 z2 z3 z4 lz HA HA1 HB1 HB2 hgl glt hwm
   generalize W1.drewN nq = W2 at *
   go_wp2_with fail
   refine (HLO.out _ HBn.out).mono ?_
   rintro e w3 ⟨b, rfl, yl, z, c, hLo, hf, ht⟩
   have HE2 := thid (HK.out.below HBn.out)
   have HS2 := thid (HWS.out.on HBn.out)
   have HR2 := thid (L5.owns_below HR.out HBn.out)
   have HK2 := thid (L5.owns_below HKK.out HBn.out)
   have HLO2 := thid hLo
   cases b with
   | false =>
    have hb3 := hf rfl
    have HB3 := thid (tbelow_on HBn.out hb3)
    have a3 := (hb3.block _ (Array.getElem?_eq_some_iff.1 HAn.out).1).trans HAn.out
    have z0 : w3.cell? ⟨w1.heap.size, 0, none⟩ = some (.int .i64 (at_ : Int)) := by rw [cell_of_row _ _ _ _ _ _ a3]; rfl
    have z1 : w3.cell? ⟨w1.heap.size, 1, none⟩ = some (.bool n.leaf) := by rw [cell_of_row _ _ _ _ _ _ a3]; rfl
    have z2 : w3.cell? ⟨w1.heap.size, 2, none⟩ = some (.slice ra n.recs.length rc) := by rw [cell_of_row _ _ _ _ _ _ a3]; rfl
    have z3 : w3.cell? ⟨w1.heap.size, 3, none⟩ = some (.slice ka n.kids.length kc) := by rw [cell_of_row _ _ _ _ _ _ a3]; rfl
    have lz := (Array.getElem?_eq_some_iff.1 a3).1
    have HPU := thid (put_ok (at_ := at_) ((HK.out.below HB3.out).weaken hN) (by omega) (L5.owns_below HR.out HB3.out) (L5.owns_below HKK.out HB3.out) HB0.out.1 HB0.out.2.1 HB0.out.2.2)
    clear hf ht hLo hb3 a3 HAn HLO HIH HSET HE2 HS2 HR2 HK2
    go_wp2_with fail
    refine HPU.out.mono ?_
    rintro e w4 ⟨rfl, ld4, hE4, hS4⟩
    have HF : Hid (ShrQ N s t x r h l xl tk T ((Lw' ++ [y]).reverse.map Lay.pl) at_ n xr xh Ld G w w4) := by
     rw [Hid, HRV.out]
     have hsh : Shr s.abs (y.pl :: Lw'.reverse.map Lay.pl) at_ n [(at_, n)] [] none := by
      have := HLO2.out
      cases this with
      | none h0 hf => exact .stay h0 hf
     exact ⟨ld4, gn, _, G, xr, xh, hE4, (Stp.below HB3.out).trans hS4, Or.inl ⟨_, _, hsh, prs_snoc _ _ _ _ _ _, by simp, rfl, rfl⟩, by simp; omega, by omega⟩
    clear hE4 hS4 HPU HLO2 HB3 z0 z1 z2 z3 lz
    go_wp2
    go_end0
    exact ⟨rfl, HF.out⟩
   | true =>
    obtain ⟨Ld', ld', gn', vr', vk', e1, e2, hLs⟩ := ht rfl
    have hcu := hLo.cut
    obtain ⟨q1, q2, q3, q4, q5, q6⟩ := lost_way (cp := cp) HE2.out hN HS2.out hlw' (by omega) ((HBn.out.block _ (Array.getElem?_eq_some_iff.1 HCS.out.1).1).trans HCS.out.1) HCS.out.2 hLs hcu.2
    obtain ⟨ra8, rc8, rfl⟩ := own_slice hLs.rr
    obtain ⟨ka8, kc8, rfl⟩ := own_slice hLs.rk
    have HI := thid (HIH.out m' (by omega) B s xr xh ld' gn' Ld' (G ++ [z]) Lw' w3 c y.at_ g cp y.kid ra8 ka8 rc8 kc8 hlw' (by omega) hN hLs.es (by omega) (by simp; omega) q1 q2 hLs.rr hLs.rk q4 q5 q6 ho (by have : c.leaf = false := hcu.2.trans HUU.out.1; rw [this]; exact HUU.out.2.2) (Nat.le_trans hcu.1 HUU.out.2.1) hxh (fun L1 G1 r1 n1 hs => by
     have := HSET.out _ _ _ _ (hLo.shr _ _ _ hs)
     rw [e1, List.append_assoc]
     exact this))
    have HST := thid ((Stp.below (B := N) (s := s) (t := t) (x := x) HBn.out).trans q3)
    have HEQ := thid e1
    clear hf ht hLo hLs hcu q1 q2 q3 q4 q5 q6 e1 e2 HAn HLO HIH HSET HE2 HS2 HR2 HK2 HUU HCS
    go_wp2_with fail
    refine HI.out.mono ?_
    rintro e w4 ⟨rfl, ld4, gn4, Ld4, G4, xr4, xh4, hE4, hS4, hD4, l4, g4⟩
    have HF : Hid (ShrQ N s t x r h l xl tk T ((Lw' ++ [y]).reverse.map Lay.pl) at_ n xr xh Ld G w w4) := by
     rw [Hid, HRV.out]
     rw [HEQ.out] at hD4
     exact ⟨ld4, gn4, Ld4, G4, xr4, xh4, hE4, HST.out.trans hS4, hD4.step fun L1 G1 o hs => HLO2.out.shr _ _ _ hs, l4, g4⟩
    clear hE4 hS4 hD4 HI HST HLO2 HEQ
    go_wp2
    refine bodyPost_ret (v := .tuple #[]) (by simp [results, Tryz.results59, go_sem]) rfl ⟨rfl, HF.out⟩
theorem shrink_any {N t x r h l xl : Nat} {tk : Value} {T : List Nat} (m : Nat) : ShrinkP N t x r h l xl tk T m := Nat.strongRecOn m fun m ih => shrink_step m ih
end Go.Proofs.YtiohkehcpkfleaaGreat
