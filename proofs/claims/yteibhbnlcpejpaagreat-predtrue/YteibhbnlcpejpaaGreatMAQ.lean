import Derived.Deep.RegionHeld
import Derived.Test.YteibhbnlcpejpaaGreatMAP
set_option maxRecDepth 100000
set_option maxHeartbeats 4000000
namespace Go.Proofs.YteibhbnlcpejpaaGreat
open Go.RowKit
def EvIH (n: Nat) (ra: Option Addr) (rs: List RowL) (rc: Nat): Prop := ∀ (k: NL) (W: World) (left: Int),InN n W k -> deepN n k = false -> (n: Int) <= left -> left <= 65536 -> RowsIn W ra rs -> Calls Tryz.prog 180 #[scV ra rs.length rc left,nV k] W (EvP (evN n rs k) W)
inductive WorthT: Int × Int -> Ending -> Prop
 | ok (t: Int): WorthT (t,0) (.returned (.int .i64 t))
 | no (t e: Int) (h: (e != 0) = true): WorthT (t,e) (.panicked (stopped e 0))
def TrP (r: Int × Int) (w: World) (e: Ending) (W: World): Prop := WorthT r e /\ Below w.heap.size w W
theorem truth_of {n: Nat} {ra: Option Addr} {rs: List RowL} {rc: Nat} (IH0: EvIH n ra rs rc) (k: NL) (w: World) (left: Int) (hI: InN n w k) (hd: deepN n k = false) (h1: (n: Int) <= left) (h2: left <= 65536) (hR: RowsIn w ra rs) :
 Calls Tryz.prog 137 #[scV ra rs.length rc left,nV k] w (TrP (trE (evN n rs k)) w) := by
 have IH := Rw.dh (fun W (hb: Below w.heap.size w W) => IH0 k W left (hI.on hb) hd h1 h2 (hR.on hb))
 have HT := Rw.dh truth_walk
 clear IH0 hI hd h1 h2 hR
 generalize evN n rs k = r at IH ⊢
 obtain ⟨R,hR⟩: ∃ R,R = trE r := ⟨_,rfl⟩
 rw [<- hR]
 have HR0 := Rw.dh hR
 clear hR
 obtain ⟨xo,xk,xn,xs,xv,xc,xa,xp,l⟩ := k
 unfold scV nV at IH ⊢
 dsimp only [NL.op,NL.vk,NL.vn,NL.vs,NL.var,NL.col,NL.a,NL.c,NL.kids] at IH ⊢
 go_enter Tryz.func137,Tryz.ntmps137
 go_wp2_with fail
 refine (IH.out _ (by first | exact Below.refl _ _ | exact Rw.below_alloc _ _ | exact below_two _ _ _)).mono ?_
 rintro e w1 ⟨hW,hb⟩
 have HB := Rw.dh (below_on (by first | exact Below.refl w _ | exact Rw.below_alloc w _ | exact below_two w _ _) hb)
 clear hb
 cases hW with
 | ok v =>
  have HR: Hid (R = (if truthE v.k v.n == 0 then (truthT v.k v.n,0) else (0,truthE v.k v.n))) := HR0.out
  clear HR0
  obtain ⟨vk,vn,vs⟩ := v
  unfold vvV valV
  dsimp only at HR ⊢
  go_wp2_with fail
  refine (HT.out vk vn vs _).mono ?_
  rintro e w2 ⟨rfl,hb⟩
  have HB2 := Rw.dh (below_on HB.out hb)
  clear hb
  generalize truthT vk vn = t at HR ⊢
  generalize truthE vk vn = c at HR ⊢
  cases hc: (c != 0)
  · have hc0: c = 0 := by simpa using hc
    subst hc0
    have hE: R = (t,0) := HR.out
    subst hE
    clear HR
    go_wp2_with fail
    refine (mustI_ok _ _).mono ?_
    rintro e w' ⟨rfl,rfl⟩
    go_wp2
    go_ret
    exact ⟨.ok t,HB2.out⟩
  · have hE: WorthT R (.panicked (stopped c 0)) := by
     rw [HR.out,if_neg (by simpa using hc)]
     exact .no _ _ hc
    go_wp2_with fail
    refine (mustI_no _ c hc _).mono ?_
    rintro e w' ⟨rfl,rfl⟩
    go_wp2
    exact ⟨rfl,hE,HB2.out⟩
 | no v c h =>
  have hE: WorthT R (.panicked (stopped c 0)) := by
   rw [HR0.out]
   unfold trE
   rw [if_neg (by simpa using h)]
   exact .no _ _ h
  go_wp2
  exact ⟨rfl,hE,HB.out⟩
theorem both_of {n: Nat} {ra: Option Addr} {rs: List RowL} {rc: Nat} (IH0: EvIH n ra rs rc) (gf: FuncId) (join: Int -> Int -> Int) (settle: Int)
 (hent: ∀ args w,(callFunc gf args).run Tryz.prog w = .ok (.enter gf args) w) (hp: ∀ (a b: Int) (w: World),Calls Tryz.prog gf #[.int .i64 a, .int .i64 b] w fun e w' => e = .returned (.int .i64 (join a b)) /\ w' = w)
 (k0 k1: NL) (a: Option Addr) (c: Nat) (w: World) (left: Int) (hS: Rw.SlG nC 7 w a [k0,k1]) (hI0: InN n w k0) (hI1: InN n w k1) (hd0: deepN n k0 = false) (hd1: deepN n k1 = false) (h1: (n: Int) <= left) (h2: left <= 65536) (hR: RowsIn w ra rs) :
 Calls Tryz.prog 203 #[scV ra rs.length rc left, .slice a 2 c, .int .i64 settle, .func (.func gf) #[] #[]] w (EvP (evBoth settle join (evN n rs k0) (evN n rs k1)) w) := by
 have HT0 := Rw.dh (fun W (hb: Below w.heap.size w W) => truth_of IH0 k0 W left (hI0.on hb) hd0 h1 h2 (hR.on hb))
 have HT1 := Rw.dh (fun W (hb: Below w.heap.size w W) => truth_of IH0 k1 W left (hI1.on hb) hd1 h1 h2 (hR.on hb))
 have HS := Rw.dh (fun W (hb: Below w.heap.size w W) => hS.below hb)
 have hSw := Rw.dh hS
 have HJ := Rw.dh hp
 clear IH0 hI0 hI1 hd0 hd1 h1 h2 hR hS hp
 obtain ⟨R,hRR⟩: ∃ R,R = evBoth settle join (evN n rs k0) (evN n rs k1) := ⟨_,rfl⟩
 rw [<- hRR]
 have HR := Rw.dh hRR
 clear hRR
 unfold evBoth at HR
 generalize trE (evN n rs k0) = t0 at HT0 HR
 generalize trE (evN n rs k1) = t1 at HT1 HR
 unfold scV at HT0 HT1 ⊢
 go_enter Tryz.func203,Tryz.ntmps203
 go_wp2_with fail
 have hS0 := HS.out _ (below_two w (.cells #[.slice ra rs.length rc, .int .i64 left] 255) (.cells #[.int .i64 0, .int .i64 0, .string ⟨#[]⟩] 27))
 have hz := heap_two w (.cells #[.slice ra rs.length rc, .int .i64 left] 255) (.cells #[.int .i64 0, .int .i64 0, .string ⟨#[]⟩] 27)
 have hy: ((w.alloc (.cells #[.slice ra rs.length rc, .int .i64 left] 255)).alloc (.cells #[.int .i64 0, .int .i64 0, .string ⟨#[]⟩] 27)).heap[w.heap.size]? = some (.cells #[.slice ra rs.length rc, .int .i64 left] 255 (0,0)) := (Below.heap_alloc _ _ _ (by simp)).trans (Rw.heap_new w _)
 have HB := Rw.dh (below_two w (.cells #[.slice ra rs.length rc, .int .i64 left] 255) (.cells #[.int .i64 0, .int .i64 0, .string ⟨#[]⟩] 27))
 generalize (w.alloc (.cells #[.slice ra rs.length rc, .int .i64 left] 255)).alloc (.cells #[.int .i64 0, .int .i64 0, .string ⟨#[]⟩] 27) = W at *
 obtain ⟨b,o,x0,rfl,hb,hx,hc⟩ := hS0.at (j := 0) (by simp)
 obtain rfl: k0 = x0 := by simpa using hx
 have y0: W.cell? ⟨w.heap.size,0,none⟩ = some (.slice ra rs.length rc) := by rw [cell_of_row _ _ _ _ _ _ hy]; rfl
 have y1: W.cell? ⟨w.heap.size,1,none⟩ = some (.int .i64 left) := by rw [cell_of_row _ _ _ _ _ _ hy]; rfl
 have c0: W.cell? ⟨b,o,none⟩ = some (.string k0.op) := hc 0 _ rfl
 have c1: W.cell? ⟨b,o + 1,none⟩ = some (.int .i64 k0.vk) := by simpa using hc 1 _ rfl
 have c2: W.cell? ⟨b,o + 2,none⟩ = some (.int .i64 k0.vn) := by simpa using hc 2 _ rfl
 have c3: W.cell? ⟨b,o + 3,none⟩ = some (.string k0.vs) := by simpa using hc 3 _ rfl
 have c4: W.cell? ⟨b,o + 4,none⟩ = some (.int .i64 k0.var) := by simpa using hc 4 _ rfl
 have c5: W.cell? ⟨b,o + 5,none⟩ = some (.int .i64 k0.col) := by simpa using hc 5 _ rfl
 have c6: W.cell? ⟨b,o + 6,none⟩ = some (.slice k0.a k0.kids.length k0.c) := by simpa using hc 6 _ rfl
 have HY := Rw.dh hy
 have HZ := Rw.dh hz
 clear hy hz hc hx hS0
 refine wp_region_quiet_tail (fun w' => ∃ n,w' = World.drewN W n) 4 (by kernel_rfl) (by kernel_rfl) ⟨1,rfl⟩ ?_
 simp only [List.take_succ_cons,List.take_zero,List.drop_succ_cons,List.drop_zero]
 repeat (go_big_quiet_step (first | rfl | fail))
 refine wpQuiet_nil ?_
 rintro _ ⟨nq,rfl⟩
 have HBn := Rw.dh (below_drewN HB.out nq)
 have HYn: Hid ((W.drewN nq).heap[w.heap.size]? = some (.cells #[.slice ra rs.length rc, .int .i64 left] 255 (0,0))) := HY.out
 have HZn: Hid ((W.drewN nq).heap[w.heap.size + 1]? = some (.cells #[.int .i64 0, .int .i64 0, .string ⟨#[]⟩] 27 (0,0))) := HZ.out
 clear y0 y1 c0 c1 c2 c3 c4 c5 c6 hb HY HZ HB
 generalize W.drewN nq = W2 at *
 go_wp2_with fail
 refine (HT0.out _ HBn.out).mono ?_
 rintro e w1 ⟨hW,hb⟩
 have HB1 := Rw.dh (below_on HBn.out hb)
 have HY1 := Rw.dh ((hb.block _ (Array.getElem?_eq_some_iff.1 HYn.out).1).trans HYn.out)
 have HZ1 := Rw.dh ((hb.block _ (Array.getElem?_eq_some_iff.1 HZn.out).1).trans HZn.out)
 clear hb HYn HZn HBn
 cases hW with
 | no t c h =>
  have hE: Worth vvV R (.panicked (stopped c 0)) := by
   rw [HR.out,if_neg (by simpa using h)]
   exact .no _ _ h
  go_wp2
  exact ⟨rfl,hE,HB1.out⟩
 | ok t =>
  have HO := Rw.dh (fun t W => of_walk t W)
  cases ht: (t == settle)
  · have hR1: R = if t1.2 == 0 then (ofVv (join t t1.1),0) else (vz,t1.2) := by rw [HR.out]; simp only [ht]; rfl
    have HR1 := Rw.dh hR1
    clear hR1 HR
    go_wp2_with fail
    have y0: w1.cell? ⟨w.heap.size,0,none⟩ = some (.slice ra rs.length rc) := by rw [cell_of_row _ _ _ _ _ _ HY1.out]; rfl
    have y1: w1.cell? ⟨w.heap.size,1,none⟩ = some (.int .i64 left) := by rw [cell_of_row _ _ _ _ _ _ HY1.out]; rfl
    obtain ⟨b',o',x1,hbo,hb,hx,hc⟩ := (HS.out _ HB1.out).at (j := 1) (by simp)
    cases hbo
    obtain rfl: k1 = x1 := by simpa using hx
    have c0: w1.cell? ⟨b,o + 7,none⟩ = some (.string k1.op) := by simpa using hc 0 _ rfl
    have c1: w1.cell? ⟨b,o + 7 + 1,none⟩ = some (.int .i64 k1.vk) := by simpa using hc 1 _ rfl
    have c2: w1.cell? ⟨b,o + 7 + 2,none⟩ = some (.int .i64 k1.vn) := by simpa using hc 2 _ rfl
    have c3: w1.cell? ⟨b,o + 7 + 3,none⟩ = some (.string k1.vs) := by simpa using hc 3 _ rfl
    have c4: w1.cell? ⟨b,o + 7 + 4,none⟩ = some (.int .i64 k1.var) := by simpa using hc 4 _ rfl
    have c5: w1.cell? ⟨b,o + 7 + 5,none⟩ = some (.int .i64 k1.col) := by simpa using hc 5 _ rfl
    have c6: w1.cell? ⟨b,o + 7 + 6,none⟩ = some (.slice k1.a k1.kids.length k1.c) := by simpa using hc 6 _ rfl
    clear hc hx hb
    have hbl: b < w.heap.size := by
     rcases hSw.out with e | ⟨b',o',e,h,_⟩
     · cases e
     · cases e; exact h
    have hw1: w.heap.size + 1 < w1.heap.size := (Array.getElem?_eq_some_iff.1 HZ1.out).1
    have KS: Hid (∀ W,Below (w.heap.size + 1) w1 W -> (W.cell? ⟨w.heap.size,0,none⟩ = some (.slice ra rs.length rc) /\ W.cell? ⟨w.heap.size,1,none⟩ = some (.int .i64 left) /\ W.cell? ⟨b,o + 7,none⟩ = some (.string k1.op) /\ W.cell? ⟨b,o + 7 + 1,none⟩ = some (.int .i64 k1.vk) /\ W.cell? ⟨b,o + 7 + 2,none⟩ = some (.int .i64 k1.vn) /\ W.cell? ⟨b,o + 7 + 3,none⟩ = some (.string k1.vs) /\ W.cell? ⟨b,o + 7 + 4,none⟩ = some (.int .i64 k1.var) /\ W.cell? ⟨b,o + 7 + 5,none⟩ = some (.int .i64 k1.col) /\ W.cell? ⟨b,o + 7 + 6,none⟩ = some (.slice k1.a k1.kids.length k1.c))) := fun W hb => by
     refine ⟨?_, ?_, ?_, ?_, ?_, ?_, ?_, ?_, ?_⟩ <;> rw [hb.cell (by simp <;> omega)] <;> assumption
    clear y0 y1 c0 c1 c2 c3 c4 c5 c6 HS
    have HC1: Hid (Calls Tryz.prog 137 #[.agg #[.slice ra rs.length rc, .int .i64 left], .agg #[.string k1.op, .int .i64 k1.vk, .int .i64 k1.vn, .string k1.vs, .int .i64 k1.var, .int .i64 k1.col, .slice k1.a k1.kids.length k1.c]] w1.drew fun e w2 => ((Hid (R = (ofVv (join t t1.1),0)) /\ e = .returned (.int .i64 t1.1)) \/ (Hid (Worth vvV R (.panicked (stopped t1.2 0))) /\ e = .panicked (stopped t1.2 0))) /\ Hid (Below w1.heap.size w1 w2)) := (HT1.out _ HB1.out.drew).mono (by
     rintro e w2 ⟨hW,hb⟩
     refine ⟨?_,(Below.refl _ w1).drew.trans (hb.mono (Nat.le_refl _))⟩
     have hR := HR1.out
     cases hW with
     | ok t' => exact Or.inl ⟨hR,rfl⟩
     | no t' c h =>
      rw [if_neg (by simpa using h)] at hR
      exact Or.inr ⟨by rw [Hid,hR]; exact .no _ _ h,rfl⟩)
    clear HR1 HT1
    obtain ⟨t',c'⟩ := t1
    dsimp only at HC1
    have HO1: Hid (∀ W,Below w1.heap.size w1 W -> Calls Tryz.prog 210 #[.int .i64 (join t t')] W fun e w2 => e = .returned (vvV (ofVv (join t t'))) /\ Hid (Below w1.heap.size w1 w2) /\ (w2.cell? ⟨w.heap.size + 1,0,none⟩ = some (.int .i64 0) /\ w2.cell? ⟨w.heap.size + 1,1,none⟩ = some (.int .i64 0) /\ w2.cell? ⟨w.heap.size + 1,2,none⟩ = some (.string ⟨#[]⟩) /\ w2.frozen? ⟨w.heap.size + 1,0,none⟩ = false /\ w2.frozen? ⟨w.heap.size + 1,1,none⟩ = false /\ w2.frozen? ⟨w.heap.size + 1,2,none⟩ = false)) := fun W hb => (HO.out (join t t') W).mono (by
     rintro e w2 ⟨rfl,hb2⟩
     have h2 := below_on hb hb2
     have h := Rb.of HZ1.out HB1.out (Nat.le_succ _) h2
     exact ⟨by rw [ofVv_ofV],h2,h.z⟩)
    have HZl: Hid (∀ W,Below w1.heap.size w1 W -> w.heap.size + 1 < W.heap.size) := fun W hb => Nat.lt_of_lt_of_le hw1 hb.size
    clear HO HZ1
    generalize ofVv (join t t') = r at *
    obtain ⟨rk,rn,rs'⟩ := r
    unfold vvV valV at HO1
    dsimp only at HO1
    go_region_held (fun W => W.cell? ⟨w.heap.size,0,none⟩ = some (.slice ra rs.length rc) /\ W.cell? ⟨w.heap.size,1,none⟩ = some (.int .i64 left) /\ W.cell? ⟨b,o + 7,none⟩ = some (.string k1.op) /\ W.cell? ⟨b,o + 7 + 1,none⟩ = some (.int .i64 k1.vk) /\ W.cell? ⟨b,o + 7 + 2,none⟩ = some (.int .i64 k1.vn) /\ W.cell? ⟨b,o + 7 + 3,none⟩ = some (.string k1.vs) /\ W.cell? ⟨b,o + 7 + 4,none⟩ = some (.int .i64 k1.var) /\ W.cell? ⟨b,o + 7 + 5,none⟩ = some (.int .i64 k1.col) /\ W.cell? ⟨b,o + 7 + 6,none⟩ = some (.slice k1.a k1.kids.length k1.c)) (exact KS.out _ (by with_reducible (first | exact (Below.refl _ _).drew | exact HBb.out.mono (Nat.le_of_lt hw1) | exact below_set3 (Nat.le_refl _) (HBb.out.mono (Nat.le_of_lt hw1)) _ _ _))) (first
     | (go_at_call 137
        refine HC1.out.mono ?_
        rintro e w2 ⟨⟨HR2,rfl⟩ | ⟨hE,rfl⟩,HBb⟩
        rotate_left
        · exact ⟨rfl,hE.out,below_on HB1.out HBb.out⟩)
     | (go_at_fn gf
        refine (HJ.out _ _ _).mono ?_
        rintro e w' ⟨rfl,rfl⟩)
     | (go_at_call 210
        refine (HO1.out _ HBb.out).mono ?_
        rintro e w3 ⟨rfl,HBb,z0,z1,z2,z3,z4,z5⟩))
    go_wp2
    exact bodyPost_ret (v := .agg #[.int .i64 rk, .int .i64 rn, .string rs']) (by simp [results,Tryz.results203,go_sem,z0,z1,z2]) rfl ⟨by rw [HR2.out]; exact .ok ⟨rk,rn,rs'⟩,below_set3 (Nat.le_succ _) (below_on HB1.out HBb.out) _ _ _⟩
  · have hR1: R = (ofVv t,0) := by rw [HR.out]; simp only [ht]; rfl
    have HR1 := Rw.dh hR1
    clear hR1 HR
    go_wp2_with fail
    refine (HO.out _ _).mono ?_
    rintro e w2 ⟨rfl,hb⟩
    have HB2 := Rw.dh (Rb.of HZ1.out HB1.out (Nat.le_succ _) hb)
    clear hb
    rw [<- ofVv_ofV]
    generalize ofVv t = r at *
    obtain ⟨z0,z1,z2,z3,z4,z5⟩ := HB2.out.z
    have hlt := HB2.out.lt
    obtain ⟨rk,rn,rs⟩ := r
    unfold vvV valV
    go_wp2
    exact bodyPost_ret (v := .agg #[.int .i64 rk, .int .i64 rn, .string rs]) (by simp [results,Tryz.results203,go_sem,z0,z1,z2]) rfl ⟨by rw [HR1.out]; exact .ok ⟨rk,rn,rs⟩,below_set3 HB2.out.le HB2.out.bel _ _ _⟩
structure Ebx (w W: World) (ra: Option Addr) (m rc: Nat) (left: Int) (xo: ByteArray) (xk xn: Int) (xs: ByteArray) (xv xc: Int) (xa: Option Addr) (k xp: Nat): Prop where
 bel: Below w.heap.size w W
 s: W.heap[w.heap.size]? = some (.cells #[.slice ra m rc, .int .i64 left] 255 (0,0))
 n: W.heap[w.heap.size + 1]? = some (.cells #[.string xo, .int .i64 xk, .int .i64 xn, .string xs, .int .i64 xv, .int .i64 xc, .slice xa k xp] 44 (0,0))
 z: W.heap[w.heap.size + 1 + 1]? = some (.cells #[.int .i64 0, .int .i64 0, .string ⟨#[]⟩] 27 (0,0))
section
variable {w W: World} {n: Nat} {ra: Option Addr} {rs: List RowL} {m rc: Nat} {xo: ByteArray} {xk xn: Int} {xs: ByteArray} {xv xc: Int} {xa: Option Addr} {k xp: Nat} {l: List NL} {left: Int}
theorem Ebx.new (nq: Nat): Ebx w ((((w.alloc (.cells #[.slice ra m rc, .int .i64 left] 255)).alloc (.cells #[.string xo, .int .i64 xk, .int .i64 xn, .string xs, .int .i64 xv, .int .i64 xc, .slice xa k xp] 44)).alloc (.cells #[.int .i64 0, .int .i64 0, .string ⟨#[]⟩] 27)).drewN nq) ra m rc left xo xk xn xs xv xc xa k xp :=
 ⟨below_drewN (below_three w _ _ _) nq,
  ((Below.heap_alloc _ _ _ (by simp; omega)).trans (Below.heap_alloc _ _ _ (by simp))).trans (Rw.heap_new w _),
  (Below.heap_alloc _ _ _ (by simp)).trans (heap_two w _ _),heap_three w _ _ _⟩
theorem Ebx.on {w1: World} (h: Ebx w W ra m rc left xo xk xn xs xv xc xa k xp) (hb: Below W.heap.size W w1): Ebx w w1 ra m rc left xo xk xn xs xv xc xa k xp :=
 ⟨below_on h.bel hb,(hb.block _ (Array.getElem?_eq_some_iff.1 h.s).1).trans h.s,(hb.block _ (Array.getElem?_eq_some_iff.1 h.n).1).trans h.n,(hb.block _ (Array.getElem?_eq_some_iff.1 h.z).1).trans h.z⟩
theorem Ebx.dec (h: Ebx w W ra m rc left xo xk xn xs xv xc xa k xp) (left': Int): Ebx w (W.setCell ⟨w.heap.size,1,none⟩ (.int .i64 left')) ra m rc left' xo xk xn xs xv xc xa k xp :=
 ⟨h.bel.setCell (Nat.le_refl _) _,heap_setCell_same _ _ _ _ _ _ h.s,(heap_setCell_other _ _ _ _ (by simp)).trans h.n,(heap_setCell_other _ _ _ _ (by simp; omega)).trans h.z⟩
theorem Ebx.cs (h: Ebx w W ra m rc left xo xk xn xs xv xc xa k xp): W.cell? ⟨w.heap.size,0,none⟩ = some (.slice ra m rc) /\ W.cell? ⟨w.heap.size,1,none⟩ = some (.int .i64 left) /\ W.frozen? ⟨w.heap.size,1,none⟩ = false /\ w.heap.size < W.heap.size :=
 ⟨by rw [cell_of_row _ _ _ _ _ _ h.s]; rfl,by rw [cell_of_row _ _ _ _ _ _ h.s]; rfl,frozen_of_row _ _ _ _ _ h.s,(Array.getElem?_eq_some_iff.1 h.s).1⟩
theorem Ebx.cn (h: Ebx w W ra m rc left xo xk xn xs xv xc xa k xp): W.cell? ⟨w.heap.size + 1,0,none⟩ = some (.string xo) /\ W.cell? ⟨w.heap.size + 1,1,none⟩ = some (.int .i64 xk) /\ W.cell? ⟨w.heap.size + 1,2,none⟩ = some (.int .i64 xn) /\ W.cell? ⟨w.heap.size + 1,3,none⟩ = some (.string xs) /\ W.cell? ⟨w.heap.size + 1,4,none⟩ = some (.int .i64 xv) /\ W.cell? ⟨w.heap.size + 1,5,none⟩ = some (.int .i64 xc) /\ W.cell? ⟨w.heap.size + 1,6,none⟩ = some (.slice xa k xp) := by
 refine ⟨?_, ?_, ?_, ?_, ?_, ?_, ?_⟩ <;> (rw [cell_of_row _ _ _ _ _ _ h.n]; rfl)
theorem Ebx.cz (h: Ebx w W ra m rc left xo xk xn xs xv xc xa k xp): W.cell? ⟨w.heap.size + 1 + 1,0,none⟩ = some (.int .i64 0) /\ W.cell? ⟨w.heap.size + 1 + 1,1,none⟩ = some (.int .i64 0) /\ W.cell? ⟨w.heap.size + 1 + 1,2,none⟩ = some (.string ⟨#[]⟩) /\ W.frozen? ⟨w.heap.size + 1 + 1,0,none⟩ = false /\ W.frozen? ⟨w.heap.size + 1 + 1,1,none⟩ = false /\ W.frozen? ⟨w.heap.size + 1 + 1,2,none⟩ = false := by
 refine ⟨?_, ?_, ?_, ?_, ?_, ?_⟩
 · rw [cell_of_row _ _ _ _ _ _ h.z]; rfl
 · rw [cell_of_row _ _ _ _ _ _ h.z]; rfl
 · rw [cell_of_row _ _ _ _ _ _ h.z]; rfl
 all_goals exact frozen_of_row _ _ _ _ _ h.z
theorem eval_bad (h: ((l.length: Int) == kidsN xo) = false) (h1: 1 <= left) :
 Calls Tryz.prog 180 #[scV ra rs.length rc left,nV (.mk xo xk xn xs xv xc xa xp l)] w (EvP (vz,15) w) := by
 have HK := Rw.dh (fun W => nkids_walk xo W)
 have hz: (left == 0) = false := beq_eq_false_iff_ne.2 (by omega)
 unfold scV nV
 dsimp only [NL.op,NL.vk,NL.vn,NL.vs,NL.var,NL.col,NL.a,NL.c,NL.kids]
 generalize kidsN xo = K at *
 have hne: ((l.length: Int) != K) = true := by simpa [bne] using h
 go_enter Tryz.func180,Tryz.ntmps180
 go_wp2_with fail
 go_quiet (first | (go_at_call 201; exact Calls.quiet_of_same (HK.out _)))
 go_wp2_with (go_at_call 151; refine (check_no 15 rfl _).mono ?_; rintro e w' ⟨rfl,rfl⟩)
 exact ⟨rfl, .no _ _ rfl,below_drewN (below_three w _ _ _) _⟩
theorem eval_value (h: ((l.length: Int) == kidsN xo) = true) (h1: 1 <= left) (h2: left <= 65536) (ho: xo.toList = nVALUE) :
 Calls Tryz.prog 180 #[scV ra rs.length rc left,nV (.mk xo xk xn xs xv xc xa xp l)] w (EvP (⟨xk,xn,xs⟩,0) w) := by
 have HK := Rw.dh (fun W => nkids_walk xo W)
 have hz: (left == 0) = false := beq_eq_false_iff_ne.2 (by omega)
 have k1: (xo.toList == [118,97,108,117,101]) = true := by rw [ho]; rfl
 unfold scV nV
 dsimp only [NL.op,NL.vk,NL.vn,NL.vs,NL.var,NL.col,NL.a,NL.c,NL.kids]
 generalize kidsN xo = K at *
 have hne: ((l.length: Int) != K) = false := by simpa [bne] using h
 clear h ho
 go_enter Tryz.func180,Tryz.ntmps180
 go_wp2_with fail
 go_quiet (first | (go_at_call 201; exact Calls.quiet_of_same (HK.out _)))
 refine Rw.to_letter (F := fun W => Ebx w W ra rs.length rc left xo xk xn xs xv xc xa l.length xp) (Ebx.new _) ?_
 intro W hE
 have HE := Rw.dh hE
 obtain ⟨s0,s1,s2,s3⟩ := hE.cs
 obtain ⟨n0,n1,n2,n3,n4,n5,n6⟩ := hE.cn
 obtain ⟨z0,z1,z2,z3,z4,z5⟩ := hE.cz
 clear hE
 go_wp2
 exact bodyPost_ret (v := .agg #[.int .i64 xk, .int .i64 xn, .string xs]) (by simp [results,Tryz.results180,go_sem,z0,z1,z2]) rfl ⟨.ok ⟨xk,xn,xs⟩,below_set3 (by omega) (HE.out.dec _).bel _ _ _⟩
theorem eval_column (h: ((l.length: Int) == kidsN xo) = true) (h1: 1 <= left) (h2: left <= 65536) (ho: xo.toList = nCOLUMN) (hR: RowsIn w ra rs) (hF: RowsFit rs) :
 Calls Tryz.prog 180 #[scV ra rs.length rc left,nV (.mk xo xk xn xs xv xc xa xp l)] w (EvP (evCol rs xv xc) w) := by
 have HK := Rw.dh (fun W => nkids_walk xo W)
 have hz: (left == 0) = false := beq_eq_false_iff_ne.2 (by omega)
 have k1: (xo.toList == [118,97,108,117,101]) = false := by rw [ho]; rfl
 have k2: (xo.toList == [99,111,108,117,109,110]) = true := by rw [ho]; rfl
 have HC := Rw.dh (fun W (hb: Below w.heap.size w W) => column_walk (c := rc) (left := left - 1) (hR.on hb) hF xv xc)
 unfold scV at HC
 unfold scV nV
 dsimp only [NL.op,NL.vk,NL.vn,NL.vs,NL.var,NL.col,NL.a,NL.c,NL.kids]
 generalize kidsN xo = K at *
 have hne: ((l.length: Int) != K) = false := by simpa [bne] using h
 clear h ho hR hF
 generalize evCol rs xv xc = R at *
 go_enter Tryz.func180,Tryz.ntmps180
 go_wp2_with fail
 go_quiet (first | (go_at_call 201; exact Calls.quiet_of_same (HK.out _)))
 refine Rw.to_letter (F := fun W => Ebx w W ra rs.length rc left xo xk xn xs xv xc xa l.length xp) (Ebx.new _) ?_
 intro W hE
 have HE := Rw.dh hE
 obtain ⟨s0,s1,s2,s3⟩ := hE.cs
 obtain ⟨n0,n1,n2,n3,n4,n5,n6⟩ := hE.cn
 clear hE
 go_wp2_with fail
 refine (HC.out _ (HE.out.dec _).bel).mono ?_
 rintro e w1 ⟨hW,hb⟩
 have HE1 := Rw.dh ((HE.out.dec _).on hb)
 clear hb HE HC
 cases hW with
 | no v c h =>
  go_wp2
  exact ⟨rfl, .no _ _ h,HE1.out.bel⟩
 | ok v =>
  obtain ⟨z0,z1,z2,z3,z4,z5⟩ := HE1.out.cz
  obtain ⟨vk,vn,vs⟩ := v
  unfold vvV valV
  go_wp2
  exact bodyPost_ret (v := .agg #[.int .i64 vk, .int .i64 vn, .string vs]) (by simp [results,Tryz.results180,go_sem,z0,z1,z2]) rfl ⟨.ok ⟨vk,vn,vs⟩,below_set3 (by omega) HE1.out.bel _ _ _⟩
end
end Go.Proofs.YteibhbnlcpejpaaGreat
