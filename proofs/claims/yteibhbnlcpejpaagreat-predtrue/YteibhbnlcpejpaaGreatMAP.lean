import Derived.Test.YteibhbnlcpejpaaGreatMAK
import Derived.Test.YteibhbnlcpejpaaGreatMAO
import Derived.Test.YteibhbnlcpejpaaGreatMAL
set_option maxRecDepth 100000
set_option maxHeartbeats 4000000
namespace Go.Proofs.YteibhbnlcpejpaaGreat
open Go.RowKit
inductive Worth (V: Vv -> Value): VE -> Ending -> Prop
 | ok (v: Vv): Worth V (v,0) (.returned (V v))
 | no (v: Vv) (e: Int) (h: (e != 0) = true): Worth V (v,e) (.panicked (stopped e 0))
def EvP (r: VE) (w: World) (e: Ending) (W: World): Prop := Worth vvV r e /\ Below w.heap.size w W
theorem mustV_ok (v: Vv) (w: World): Calls Tryz.prog 212 #[vvV v, .int .i64 0] w fun e w' => e = .returned (vvV v) /\ Below w.heap.size w w' := by
 obtain ⟨k,n,s⟩ := v
 unfold vvV valV
 go_enter Tryz.func212,Tryz.ntmps212
 go_wp2_with (go_at_call 151; refine (check_ok _).mono ?_; rintro e w' ⟨rfl,rfl⟩)
 exact bodyPost_ret (v := .agg #[.int .i64 k, .int .i64 n, .string s]) (by simp [results,Tryz.results212,go_sem]) rfl ⟨rfl,below_two _ _ _⟩
theorem mustV_no (v: Vv) (c: Int) (hc: (c != 0) = true) (w: World): Calls Tryz.prog 212 #[vvV v, .int .i64 c] w fun e w' => e = .panicked (stopped c 0) /\ Below w.heap.size w w' := by
 obtain ⟨k,n,s⟩ := v
 unfold vvV valV
 go_enter Tryz.func212,Tryz.ntmps212
 go_wp2_with (go_at_call 151; refine (check_no _ hc _).mono ?_; rintro e w' ⟨rfl,rfl⟩)
 exact ⟨rfl,rfl,below_two _ _ _⟩
theorem mustI_ok (v: Int) (w: World): Calls Tryz.prog 178 #[.int .i64 v, .int .i64 0] w fun e w' => e = .returned (.int .i64 v) /\ w' = w := by
 go_enter Tryz.func178,Tryz.ntmps178
 go_wp2_with (go_at_call 151; refine (check_ok _).mono ?_; rintro e w' ⟨rfl,rfl⟩)
 go_ret
 exact ⟨rfl,rfl⟩
theorem mustI_no (v: Int) (c: Int) (hc: (c != 0) = true) (w: World): Calls Tryz.prog 178 #[.int .i64 v, .int .i64 c] w fun e w' => e = .panicked (stopped c 0) /\ w' = w := by
 go_enter Tryz.func178,Tryz.ntmps178
 go_wp2_with (go_at_call 151; refine (check_no _ hc _).mono ?_; rintro e w' ⟨rfl,rfl⟩)
 exact ⟨rfl,rfl,rfl⟩
def scV (a: Option Addr) (n c: Nat) (left: Int): Value := .agg #[.slice a n c, .int .i64 left]
theorem column_walk {rs: List RowL} {a: Option Addr} {c: Nat} {left: Int} {w: World} (hS: RowsIn w a rs) (hF: RowsFit rs) (v k: Int) :
 Calls Tryz.prog 202 #[scV a rs.length c left, .int .i64 v, .int .i64 k] w (EvP (evCol rs v k) w) := by
 have hl: rs.length <= 9223372036854775807 := hF.1
 have hB := fun o1 o2 => Rw.dh (below_two w o1 o2)
 unfold scV
 by_cases h0: v < 0
 · rw [evCol_lo h0]
   go_enter Tryz.func202,Tryz.ntmps202
   go_wp2_with (go_at_call 151; refine (check_no 15 rfl _).mono ?_; rintro e w' ⟨rfl,rfl⟩)
   exact ⟨rfl, .no _ _ rfl,(hB _ _).out⟩
 by_cases h1: (rs.length: Int) <= v
 · rw [evCol_hi h0 h1]
   go_enter Tryz.func202,Tryz.ntmps202
   go_wp2_with (go_at_call 151; refine (check_no 15 rfl _).mono ?_; rintro e w' ⟨rfl,rfl⟩)
   exact ⟨rfl, .no _ _ rfl,(hB _ _).out⟩
 obtain ⟨j,rfl⟩: ∃ j: Nat,v = (j: Int) := ⟨v.toNat,by omega⟩
 have hj: j < rs.length := by omega
 obtain ⟨b,o,r,rfl,hb,hr,hc⟩ := hS.rows.at hj
 have hrl: r.l.length <= 9223372036854775807 := (hF.2 r (List.mem_of_getElem? hr)).1
 have hv := hS.vals r (List.mem_of_getElem? hr)
 have c0: w.cell? ⟨b,o + j,none⟩ = some (.slice r.a r.l.length r.c) := by have := hc 0 _ rfl; simpa using this
 clear hc
 by_cases h2: k < 0
 · rw [evCol_clo hr h2]
   have HR := Rw.dh hr
   clear hr
   go_enter Tryz.func202,Tryz.ntmps202
   go_wp2_with (go_at_call 151; refine (check_no 15 rfl _).mono ?_; rintro e w' ⟨rfl,rfl⟩)
   exact ⟨rfl, .no _ _ rfl,(hB _ _).out⟩
 by_cases h3: (r.l.length: Int) <= k
 · rw [evCol_chi hr h2 h3]
   have HR := Rw.dh hr
   clear hr
   go_enter Tryz.func202,Tryz.ntmps202
   go_wp2_with (go_at_call 151; refine (check_no 15 rfl _).mono ?_; rintro e w' ⟨rfl,rfl⟩)
   exact ⟨rfl, .no _ _ rfl,(hB _ _).out⟩
 obtain ⟨i,rfl⟩: ∃ i: Nat,k = (i: Int) := ⟨k.toNat,by omega⟩
 have hi: i < r.l.length := by omega
 obtain ⟨b',o',u,hra,hb',hu,hc'⟩ := hv.at hi
 rw [evCol_at hr hu]
 have d0: w.cell? ⟨b',o' + i * 3,none⟩ = some (.int .i64 u.k) := hc' 0 _ rfl
 have d1: w.cell? ⟨b',o' + i * 3 + 1,none⟩ = some (.int .i64 u.n) := hc' 1 _ rfl
 have d2: w.cell? ⟨b',o' + i * 3 + 2,none⟩ = some (.string u.s) := hc' 2 _ rfl
 rw [hra] at c0
 have HR := Rw.dh hr
 have HU := Rw.dh hu
 clear hr hu hc' hv hra
 go_enter Tryz.func202,Tryz.ntmps202
 go_wp2
 exact bodyPost_ret (v := vvV u) (by simp [results,Tryz.results202,go_sem,vvV,valV]) rfl ⟨.ok u,(hB _ _).out⟩
theorem null_walk (v: Vv) (w: World): Calls Tryz.prog 214 #[vvV v] w fun e w' => e = .returned (vvV (ofVv (if isZ v then 1 else 0))) /\ Below w.heap.size w w' := by
 obtain ⟨k,n,s⟩ := v
 have H1: Hid (∀ W,Calls Tryz.prog 210 #[.int .i64 1] W fun e w' => e = .returned (.agg #[.int .i64 1, .int .i64 1, .string ⟨#[]⟩]) /\ Below W.heap.size W w') := fun W => (of_walk 1 W).mono (by rintro e w' ⟨rfl,hb⟩; exact ⟨by simp [ofV,valV],hb⟩)
 have H0: Hid (∀ W,Calls Tryz.prog 210 #[.int .i64 0] W fun e w' => e = .returned (.agg #[.int .i64 1, .int .i64 0, .string ⟨#[]⟩]) /\ Below W.heap.size W w') := fun W => (of_walk 0 W).mono (by rintro e w' ⟨rfl,hb⟩; exact ⟨by simp [ofV,valV],hb⟩)
 have hz: isZ ⟨k,n,s⟩ = (k == 0 && n == 0 && s.toList == []) := rfl
 rw [hz]
 clear hz
 have fin: ∀ (b: Bool) W w',Hid (Below w.heap.size w W) -> Below W.heap.size W w' -> Below w.heap.size w w' := fun _ W w' h1 h2 => h1.out.trans (h2.mono h1.out.size)
 have hB := fun o1 o2 => Rw.dh (below_two w o1 o2)
 unfold vvV valV
 cases h1: (k == 0) <;> cases h2: (n == 0) <;> cases h3: (s.toList == [])
 case true.true.true =>
  go_enter Tryz.func214,Tryz.ntmps214
  go_wp2_with fail
  refine (H1.out _).mono ?_
  rintro e w1 ⟨rfl,hb⟩
  have HB := Rw.dh (fin true _ _ (hB _ _) hb)
  obtain ⟨z0,z1,z2,f0,f1,f2,hlt⟩ := vbox (heap_two w _ _) hb
  clear hb
  go_wp2
  exact bodyPost_ret (v := .agg #[.int .i64 1, .int .i64 1, .string ⟨#[]⟩]) (by simp [results,Tryz.results214,go_sem,z0,z1,z2]) rfl ⟨by simp [ofVv],below_set3 (Nat.le_succ _) HB.out _ _ _⟩
 all_goals
  go_enter Tryz.func214,Tryz.ntmps214
  go_wp2_with fail
  refine (H0.out _).mono ?_
  rintro e w1 ⟨rfl,hb⟩
  have HB := Rw.dh (fin true _ _ (hB _ _) hb)
  obtain ⟨z0,z1,z2,f0,f1,f2,hlt⟩ := vbox (heap_two w _ _) hb
  clear hb
  go_wp2
  exact bodyPost_ret (v := .agg #[.int .i64 1, .int .i64 0, .string ⟨#[]⟩]) (by simp [results,Tryz.results214,go_sem,z0,z1,z2]) rfl ⟨by simp [ofVv],below_set3 (Nat.le_succ _) HB.out _ _ _⟩
theorem nsclone_walk (s: ByteArray) (w: World) (h: s.size <= 281474976710656): Calls Tryz.prog 85 #[.string s] w fun e w' => e = .returned (.string s) /\ Below w.heap.size w w' := by
 have HC := Tryz.stringslite_Clone s w h
 go_enter Tryz.func85,Tryz.ntmps85
 go_wp2_with (go_at_call 123; refine HC.mono ?_; rintro e w' ⟨rfl,hb⟩)
 go_ret
 exact ⟨rfl,hb⟩
structure Bx (w w1: World) (k n: Int) (s: ByteArray): Prop where
 bel: Below w.heap.size w w1
 a: w1.cell? ⟨w.heap.size,0,none⟩ = some (.int .i64 k) /\ w1.cell? ⟨w.heap.size,1,none⟩ = some (.int .i64 n) /\ w1.cell? ⟨w.heap.size,2,none⟩ = some (.string s) /\ w1.frozen? ⟨w.heap.size,0,none⟩ = false /\ w1.frozen? ⟨w.heap.size,1,none⟩ = false /\ w1.frozen? ⟨w.heap.size,2,none⟩ = false
 z: w1.cell? ⟨w.heap.size + 1,0,none⟩ = some (.int .i64 0) /\ w1.cell? ⟨w.heap.size + 1,1,none⟩ = some (.int .i64 0) /\ w1.cell? ⟨w.heap.size + 1,2,none⟩ = some (.string ⟨#[]⟩) /\ w1.frozen? ⟨w.heap.size + 1,0,none⟩ = false /\ w1.frozen? ⟨w.heap.size + 1,1,none⟩ = false /\ w1.frozen? ⟨w.heap.size + 1,2,none⟩ = false
 lt: w.heap.size + 1 < w1.heap.size
theorem Bx.of {w w1: World} {k n: Int} {s: ByteArray} (hb: Below ((w.alloc (.cells #[.int .i64 k, .int .i64 n, .string s] 27)).alloc (.cells #[.int .i64 0, .int .i64 0, .string ⟨#[]⟩] 27)).heap.size ((w.alloc (.cells #[.int .i64 k, .int .i64 n, .string s] 27)).alloc (.cells #[.int .i64 0, .int .i64 0, .string ⟨#[]⟩] 27)) w1): Bx w w1 k n s := by
 have h0 := vbox (p := w.heap.size) ((Below.heap_alloc _ _ _ (by simp)).trans (Rw.heap_new w _)) hb
 have h1 := vbox (heap_two w _ _) hb
 exact ⟨below_on (below_two w _ _) hb,⟨h0.1,h0.2.1,h0.2.2.1,h0.2.2.2.1,h0.2.2.2.2.1,h0.2.2.2.2.2.1⟩,⟨h1.1,h1.2.1,h1.2.2.1,h1.2.2.2.1,h1.2.2.2.2.1,h1.2.2.2.2.2.1⟩,h1.2.2.2.2.2.2⟩
theorem Bx.on {w w1 w2: World} {k n: Int} {s: ByteArray} (h: Bx w w1 k n s) (hb: Below w1.heap.size w1 w2): Bx w w2 k n s := by
 have hl := h.lt
 have hs := hb.size
 have c := fun b o (hb': b < w1.heap.size) => hb.cell (p := ⟨b,o,none⟩) hb'
 have f := fun b o (hb': b < w1.heap.size) => hb.frozen (p := ⟨b,o,none⟩) hb'
 obtain ⟨a0,a1,a2,a3,a4,a5⟩ := h.a
 obtain ⟨z0,z1,z2,z3,z4,z5⟩ := h.z
 refine ⟨below_on h.bel hb,⟨?_, ?_, ?_, ?_, ?_, ?_⟩,⟨?_, ?_, ?_, ?_, ?_, ?_⟩,by omega⟩
 · rw [c _ _ (by omega)]; exact a0
 · rw [c _ _ (by omega)]; exact a1
 · rw [c _ _ (by omega)]; exact a2
 · rw [f _ _ (by omega)]; exact a3
 · rw [f _ _ (by omega)]; exact a4
 · rw [f _ _ (by omega)]; exact a5
 · rw [c _ _ (by omega)]; exact z0
 · rw [c _ _ (by omega)]; exact z1
 · rw [c _ _ (by omega)]; exact z2
 · rw [f _ _ (by omega)]; exact z3
 · rw [f _ _ (by omega)]; exact z4
 · rw [f _ _ (by omega)]; exact z5
structure Rb (w w1: World) (p: Nat): Prop where
 bel: Below w.heap.size w w1
 z: w1.cell? ⟨p,0,none⟩ = some (.int .i64 0) /\ w1.cell? ⟨p,1,none⟩ = some (.int .i64 0) /\ w1.cell? ⟨p,2,none⟩ = some (.string ⟨#[]⟩) /\ w1.frozen? ⟨p,0,none⟩ = false /\ w1.frozen? ⟨p,1,none⟩ = false /\ w1.frozen? ⟨p,2,none⟩ = false
 le: w.heap.size <= p
 lt: p < w1.heap.size
theorem Rb.of {w W w1: World} {p: Nat} (h: W.heap[p]? = some (.cells #[.int .i64 0, .int .i64 0, .string ⟨#[]⟩] 27 (0,0))) (hW: Below w.heap.size w W) (hp: w.heap.size <= p) (hb: Below W.heap.size W w1): Rb w w1 p := by
 have h1 := vbox h hb
 exact ⟨below_on hW hb,⟨h1.1,h1.2.1,h1.2.2.1,h1.2.2.2.1,h1.2.2.2.2.1,h1.2.2.2.2.2.1⟩,hp,h1.2.2.2.2.2.2⟩
theorem Rb.on {w w1 w2: World} {p: Nat} (h: Rb w w1 p) (hb: Below w1.heap.size w1 w2): Rb w w2 p := by
 have hl := h.lt
 have hs := hb.size
 have c := fun o => hb.cell (p := ⟨p,o,none⟩) hl
 have f := fun o => hb.frozen (p := ⟨p,o,none⟩) hl
 obtain ⟨z0,z1,z2,z3,z4,z5⟩ := h.z
 exact ⟨below_on h.bel hb,⟨(c _).trans z0,(c _).trans z1,(c _).trans z2,(f _).trans z3,(f _).trans z4,(f _).trans z5⟩,h.le,by omega⟩
theorem one_neg (op: ByteArray) (h1: op.toList = nNEG) (v: Vv) (hv: VFit v) (w: World): Calls Tryz.prog 206 #[.string op,vvV v] w (EvP (oneV op.toList v) w) := by
 obtain ⟨k,n,s⟩ := v
 have HR: Hid (∀ W,Calls Tryz.prog 213 #[.string ⟨#[45]⟩, .agg #[.int .i64 2, .int .i64 0, .string ⟨#[]⟩], .agg #[.int .i64 k, .int .i64 n, .string s]] W fun e w' => e = .returned (.tuple #[vvV (reckVv minusB ⟨2,0,⟨#[]⟩⟩ ⟨k,n,s⟩), .int .i64 (reckE minusB 2 0 ⟨#[]⟩ k n s)]) /\ Below W.heap.size W w') := fun W => by
  have := reckon_walk minusB 2 0 ⟨#[]⟩ k n s (by decide) hv.2.1 W
  rw [show reckV minusB 2 0 ⟨#[]⟩ k n s = _ from reckVv_eq minusB ⟨2,0,⟨#[]⟩⟩ ⟨k,n,s⟩] at this
  exact this
 have hE: oneV op.toList ⟨k,n,s⟩ = errOr (reckVv minusB ⟨2,0,⟨#[]⟩⟩ ⟨k,n,s⟩) (reckE minusB 2 0 ⟨#[]⟩ k n s) := by rw [h1]; rfl
 rw [hE]
 clear hE
 have k1: (op.toList == [110,101,103]) = true := by rw [h1]; rfl
 clear h1
 generalize reckVv minusB ⟨2,0,⟨#[]⟩⟩ ⟨k,n,s⟩ = r at HR ⊢
 generalize reckE minusB 2 0 ⟨#[]⟩ k n s = c at HR ⊢
 unfold vvV valV
 go_enter Tryz.func206,Tryz.ntmps206
 go_wp2_with fail
 refine (HR.out _).mono ?_
 rintro e w1 ⟨rfl,hb⟩
 have HB := Rw.dh (Bx.of hb)
 clear hb
 cases hc: (c != 0)
 · have hc0: c = 0 := by simpa using hc
   subst hc0
   go_wp2_with fail
   refine (mustV_ok r _).mono ?_
   rintro e w2 ⟨rfl,hb⟩
   have HB2 := Rw.dh (HB.out.on hb)
   clear hb HB
   obtain ⟨z0,z1,z2,z3,z4,z5⟩ := HB2.out.z
   have hlt := HB2.out.lt
   obtain ⟨rk,rn,rs⟩ := r
   unfold vvV valV
   go_wp2
   exact bodyPost_ret (v := .agg #[.int .i64 rk, .int .i64 rn, .string rs]) (by simp [results,Tryz.results206,go_sem,z0,z1,z2]) rfl ⟨.ok ⟨rk,rn,rs⟩,below_set3 (Nat.le_succ _) HB2.out.bel _ _ _⟩
 · have hE: Worth vvV (errOr r c) (.panicked (stopped c 0)) := by
    unfold errOr
    rw [if_neg (by simpa using hc)]
    exact .no _ _ hc
   go_wp2_with fail
   refine (mustV_no r c hc _).mono ?_
   rintro e w2 ⟨rfl,hb⟩
   have HB2 := Rw.dh (HB.out.on hb).bel
   go_wp2
   exact ⟨rfl,hE,HB2.out⟩
theorem one_not (op: ByteArray) (h1: op.toList = nNOT) (v: Vv) (w: World): Calls Tryz.prog 206 #[.string op,vvV v] w (EvP (oneV op.toList v) w) := by
 obtain ⟨k,n,s⟩ := v
 have HT: Hid (∀ W,Calls Tryz.prog 179 #[.agg #[.int .i64 k, .int .i64 n, .string s]] W fun e w' => e = .returned (.tuple #[.int .i64 (truthT k n), .int .i64 (truthE k n)]) /\ Below W.heap.size W w') := fun W => truth_walk k n s W
 have hE: oneV op.toList ⟨k,n,s⟩ = (if truthE k n == 0 then (ofVv (tNot (truthT k n)),0) else (vz,truthE k n)) := by rw [h1]; rfl
 rw [hE]
 clear hE
 have k1: (op.toList == [110,101,103]) = false := by rw [h1]; rfl
 have k2: (op.toList == [110,111,116]) = true := by rw [h1]; rfl
 clear h1
 generalize truthT k n = t at HT ⊢
 generalize truthE k n = c at HT ⊢
 have HO: Hid (∀ W,Calls Tryz.prog 210 #[.int .i64 (tNot t)] W fun e w' => e = .returned (vvV (ofVv (tNot t))) /\ Below W.heap.size W w') := fun W => by rw [ofVv_ofV]; exact of_walk _ W
 generalize ofVv (tNot t) = r at HO ⊢
 obtain ⟨R,hR⟩: ∃ R: VE,R = if c == 0 then (r,0) else (vz,c) := ⟨_,rfl⟩
 rw [<- hR]
 have HRR := Rw.dh hR
 clear hR
 unfold vvV valV
 go_enter Tryz.func206,Tryz.ntmps206
 go_wp2_with fail
 refine (HT.out _).mono ?_
 rintro e w1 ⟨rfl,hb⟩
 have HB := Rw.dh (Rb.of (heap_two w _ _) (below_two w _ _) (Nat.le_succ _) hb)
 clear hb
 cases hc: (c != 0)
 · have hc0: c = 0 := by simpa using hc
   subst hc0
   go_wp2_with (first
    | (go_at_call 178; refine (mustI_ok _ _).mono ?_; rintro e w' ⟨rfl,rfl⟩)
    | (go_at_call 211; refine (not_walk _ _).mono ?_; rintro e w' ⟨rfl,rfl⟩))
   refine (HO.out _).mono ?_
   rintro e w2 ⟨rfl,hb⟩
   have HB2 := Rw.dh (HB.out.on hb)
   have hE: R = (r,0) := HRR.out
   subst hE
   clear hb HB HO HT HRR
   obtain ⟨z0,z1,z2,z3,z4,z5⟩ := HB2.out.z
   have hlt := HB2.out.lt
   obtain ⟨rk,rn,rs⟩ := r
   unfold vvV valV
   go_wp2
   exact bodyPost_ret (v := .agg #[.int .i64 rk, .int .i64 rn, .string rs]) (by simp [results,Tryz.results206,go_sem,z0,z1,z2]) rfl ⟨.ok ⟨rk,rn,rs⟩,below_set3 (Nat.le_succ _) HB2.out.bel _ _ _⟩
 · have hE: Worth vvV R (.panicked (stopped c 0)) := by
    rw [HRR.out,if_neg (by simpa using hc)]
    exact .no _ _ hc
   go_wp2_with (go_at_call 178; refine (mustI_no _ c hc _).mono ?_; rintro e w' ⟨rfl,rfl⟩)
   exact ⟨rfl,hE,HB.out.bel⟩
theorem one_null (op: ByteArray) (h1: op.toList = nNULL) (v: Vv) (w: World): Calls Tryz.prog 206 #[.string op,vvV v] w (EvP (oneV op.toList v) w) := by
 have HN := Rw.dh (fun W => null_walk v W)
 have hE: oneV op.toList v = (ofVv (if isZ v then 1 else 0),0) := by rw [h1]; rfl
 rw [hE]
 clear hE
 have k1: (op.toList == [110,101,103]) = false := by rw [h1]; rfl
 have k2: (op.toList == [110,111,116]) = false := by rw [h1]; rfl
 clear h1
 generalize ofVv (if isZ v then 1 else 0) = r at HN ⊢
 obtain ⟨k,n,s⟩ := v
 unfold vvV valV at HN ⊢
 go_enter Tryz.func206,Tryz.ntmps206
 go_wp2_with fail
 refine (HN.out _).mono ?_
 rintro e w2 ⟨rfl,hb⟩
 have HB2 := Rw.dh (Rb.of (heap_two w _ _) (below_two w _ _) (Nat.le_succ _) hb)
 clear hb
 obtain ⟨z0,z1,z2,z3,z4,z5⟩ := HB2.out.z
 have hlt := HB2.out.lt
 obtain ⟨rk,rn,rs⟩ := r
 go_wp2
 exact bodyPost_ret (v := .agg #[.int .i64 rk, .int .i64 rn, .string rs]) (by simp [results,Tryz.results206,go_sem,z0,z1,z2]) rfl ⟨.ok ⟨rk,rn,rs⟩,below_set3 (Nat.le_succ _) HB2.out.bel _ _ _⟩
theorem one_walk (op: ByteArray) (h: op.toList = nNEG \/ op.toList = nNOT \/ op.toList = nNULL) (v: Vv) (hv: VFit v) (w: World): Calls Tryz.prog 206 #[.string op,vvV v] w (EvP (oneV op.toList v) w) := by
 rcases h with h | h | h
 · exact one_neg op h v hv w
 · exact one_not op h v w
 · exact one_null op h v w
theorem two_reck (op: ByteArray) (h1: op.toList = [43] \/ op.toList = [45] \/ op.toList = [42]) (a b: Vv) (ha: VFit a) (hb: VFit b) (w: World): Calls Tryz.prog 207 #[.string op,vvV a,vvV b] w (EvP (twoV op a b) w) := by
 have hE: twoV op a b = errOr (reckVv op a b) (reckE op a.k a.n a.s b.k b.n b.s) := by
  unfold twoV
  rw [if_pos (by rcases h1 with h | h | h <;> rw [h] <;> rfl)]
 have HR: Hid (∀ W,Calls Tryz.prog 213 #[.string op,vvV a,vvV b] W fun e w' => e = .returned (.tuple #[vvV (reckVv op a b), .int .i64 (reckE op a.k a.n a.s b.k b.n b.s)]) /\ Below W.heap.size W w') := fun W => by
  rw [<- reckVv_eq]
  exact reckon_walk op a.k a.n a.s b.k b.n b.s ha.2.1 hb.2.1 W
 rw [hE]
 clear hE
 generalize reckVv op a b = r at HR ⊢
 generalize reckE op a.k a.n a.s b.k b.n b.s = c at HR ⊢
 obtain ⟨k,n,s⟩ := a
 obtain ⟨k',n',s'⟩ := b
 unfold vvV valV at HR
 unfold vvV valV
 dsimp only at HR ⊢
 have hcs: (op.toList == [43]) = true \/ ((op.toList == [43]) = false /\ (op.toList == [45]) = true) \/ ((op.toList == [43]) = false /\ (op.toList == [45]) = false /\ (op.toList == [42]) = true) := by
  rcases h1 with h | h | h <;> rw [h] <;> simp
 clear h1
 have fin: ∀ (P: Prop),((op.toList == [43]) = true -> P) -> ((op.toList == [43]) = false -> (op.toList == [45]) = true -> P) -> ((op.toList == [43]) = false -> (op.toList == [45]) = false -> (op.toList == [42]) = true -> P) -> P := fun P f1 f2 f3 => by
  rcases hcs with h | ⟨h,h'⟩ | ⟨h,h',h''⟩
  · exact f1 h
  · exact f2 h h'
  · exact f3 h h' h''
 clear hcs
 apply fin
 all_goals
  intros
  go_enter Tryz.func207,Tryz.ntmps207
  go_wp2_with fail
  refine (HR.out _).mono ?_
  rintro e w1 ⟨rfl,hb⟩
  have HB := Rw.dh (Rb.of (heap_three w _ _ _) (below_three w _ _ _) (by omega) hb)
  clear hb
  cases hc: (c != 0)
  · have hc0: c = 0 := by simpa using hc
    subst hc0
    go_wp2_with fail
    refine (mustV_ok r _).mono ?_
    rintro e w2 ⟨rfl,hb⟩
    have HB2 := Rw.dh (HB.out.on hb)
    clear hb HB
    obtain ⟨z0,z1,z2,z3,z4,z5⟩ := HB2.out.z
    have hlt := HB2.out.lt
    obtain ⟨rk,rn,rs⟩ := r
    unfold vvV valV
    go_wp2
    exact bodyPost_ret (v := .agg #[.int .i64 rk, .int .i64 rn, .string rs]) (by simp [results,Tryz.results207,go_sem,z0,z1,z2]) rfl ⟨.ok ⟨rk,rn,rs⟩,below_set3 HB2.out.le HB2.out.bel _ _ _⟩
  · have hE: Worth vvV (errOr r c) (.panicked (stopped c 0)) := by
     unfold errOr
     rw [if_neg (by simpa using hc)]
     exact .no _ _ hc
    go_wp2_with fail
    refine (mustV_no r c hc _).mono ?_
    rintro e w2 ⟨rfl,hb⟩
    have HB2 := Rw.dh (HB.out.on hb).bel
    go_wp2
    exact ⟨rfl,hE,HB2.out⟩
theorem two_holds (op: ByteArray) (k1: (op.toList == [43]) = false) (k2: (op.toList == [45]) = false) (k3: (op.toList == [42]) = false) (a b: Vv) (w: World): Calls Tryz.prog 207 #[.string op,vvV a,vvV b] w (EvP (twoV op a b) w) := by
 have hE: twoV op a b = errOr (ofVv (holdsT op a.k a.n a.s b.k b.n b.s)) (holdsE op a.k a.n a.s b.k b.n b.s) := by
  unfold twoV
  rw [k1,k2,k3]; rfl
 have HR: Hid (∀ W,Calls Tryz.prog 215 #[.string op,vvV a,vvV b] W fun e w' => e = .returned (.tuple #[.int .i64 (holdsT op a.k a.n a.s b.k b.n b.s), .int .i64 (holdsE op a.k a.n a.s b.k b.n b.s)]) /\ Below W.heap.size W w') := fun W => holds_walk op a.k a.n a.s b.k b.n b.s W
 rw [hE]
 clear hE
 generalize holdsT op a.k a.n a.s b.k b.n b.s = t at HR ⊢
 generalize holdsE op a.k a.n a.s b.k b.n b.s = c at HR ⊢
 have HO: Hid (∀ W,Calls Tryz.prog 210 #[.int .i64 t] W fun e w' => e = .returned (vvV (ofVv t)) /\ Below W.heap.size W w') := fun W => by rw [ofVv_ofV]; exact of_walk _ W
 generalize ofVv t = r at HO ⊢
 obtain ⟨k,n,s⟩ := a
 obtain ⟨k',n',s'⟩ := b
 unfold vvV valV at HR
 unfold vvV valV
 dsimp only at HR ⊢
 go_enter Tryz.func207,Tryz.ntmps207
 go_wp2_with fail
 refine (HR.out _).mono ?_
 rintro e w1 ⟨rfl,hb⟩
 have HB := Rw.dh (Rb.of (heap_three w _ _ _) (below_three w _ _ _) (by omega) hb)
 clear hb
 cases hc: (c != 0)
 · have hc0: c = 0 := by simpa using hc
   subst hc0
   go_wp2_with (go_at_call 178; refine (mustI_ok _ _).mono ?_; rintro e w' ⟨rfl,rfl⟩)
   refine (HO.out _).mono ?_
   rintro e w2 ⟨rfl,hb⟩
   have HB2 := Rw.dh (HB.out.on hb)
   clear hb HB HO HR
   obtain ⟨z0,z1,z2,z3,z4,z5⟩ := HB2.out.z
   have hlt := HB2.out.lt
   obtain ⟨rk,rn,rs⟩ := r
   unfold vvV valV
   go_wp2
   exact bodyPost_ret (v := .agg #[.int .i64 rk, .int .i64 rn, .string rs]) (by simp [results,Tryz.results207,go_sem,z0,z1,z2]) rfl ⟨.ok ⟨rk,rn,rs⟩,below_set3 HB2.out.le HB2.out.bel _ _ _⟩
 · have hE: Worth vvV (errOr r c) (.panicked (stopped c 0)) := by
    unfold errOr
    rw [if_neg (by simpa using hc)]
    exact .no _ _ hc
   go_wp2_with (go_at_call 178; refine (mustI_no _ c hc _).mono ?_; rintro e w' ⟨rfl,rfl⟩)
   exact ⟨rfl,hE,HB.out.bel⟩
theorem two_any (op: ByteArray) (a b: Vv) (ha: VFit a) (hb: VFit b) (w: World): Calls Tryz.prog 207 #[.string op,vvV a,vvV b] w (EvP (twoV op a b) w) := by
 cases k1: (op.toList == [43])
 · cases k2: (op.toList == [45])
   · cases k3: (op.toList == [42])
     · exact two_holds op k1 k2 k3 a b w
     · exact two_reck op (Or.inr (Or.inr (eq_of_beq k3))) a b ha hb w
   · exact two_reck op (Or.inr (Or.inl (eq_of_beq k2))) a b ha hb w
 · exact two_reck op (Or.inl (eq_of_beq k1)) a b ha hb w
end Go.Proofs.YteibhbnlcpejpaaGreat
