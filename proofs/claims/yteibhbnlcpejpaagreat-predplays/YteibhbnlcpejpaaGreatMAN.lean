import Derived.Test.YteibhbnlcpejpaaGreatMAJ
import Derived.Test.YteibhbnlcpejpaaGreatMAM
set_option maxRecDepth 100000
set_option maxHeartbeats 4000000
namespace Go.Proofs.YteibhbnlcpejpaaGreat
open Go.RowKit
inductive Worth (V: Vv -> Value): VE -> Ending -> Prop
 | ok (v: Vv): Worth V (v,0) (.returned (V v))
 | no (v: Vv) (e: Int) (h: (e != 0) = true): Worth V (v,e) (.panicked (stopped e 0))
def EvP (r: VE) (w: World) (e: Ending) (W: World): Prop := Worth vvV r e /\ Below w.heap.size w W
theorem mustV_ok (v: Vv) (w: World): Calls Tryz.prog 212 #[vvV v, .int .i64 0] w fun e w' => e = .returned (vvV v) /\ Below w.heap.size w w' := by
 obtain ⟨k,n,s⟩ := v
 unfold vvV valV
 go_enter Tryz.func212,Tryz.ntmps212
 go_wp2_with (go_at_call 151; refine (check_ok _).mono ?_; rintro e w' ⟨rfl,rfl⟩)
 exact bodyPost_ret (v := .agg #[.int .i64 k, .int .i64 n, .string s]) (by simp [results,Tryz.results212,go_sem]) rfl ⟨rfl,below_two _ _ _⟩
theorem mustV_no (v: Vv) (c: Int) (hc: (c != 0) = true) (w: World): Calls Tryz.prog 212 #[vvV v, .int .i64 c] w fun e w' => e = .panicked (stopped c 0) /\ Below w.heap.size w w' := by
 obtain ⟨k,n,s⟩ := v
 unfold vvV valV
 go_enter Tryz.func212,Tryz.ntmps212
 go_wp2_with (go_at_call 151; refine (check_no _ hc _).mono ?_; rintro e w' ⟨rfl,rfl⟩)
 exact ⟨rfl,rfl,below_two _ _ _⟩
theorem mustI_ok (v: Int) (w: World): Calls Tryz.prog 178 #[.int .i64 v, .int .i64 0] w fun e w' => e = .returned (.int .i64 v) /\ w' = w := by
 go_enter Tryz.func178,Tryz.ntmps178
 go_wp2_with (go_at_call 151; refine (check_ok _).mono ?_; rintro e w' ⟨rfl,rfl⟩)
 go_ret
 exact ⟨rfl,rfl⟩
theorem mustI_no (v: Int) (c: Int) (hc: (c != 0) = true) (w: World): Calls Tryz.prog 178 #[.int .i64 v, .int .i64 c] w fun e w' => e = .panicked (stopped c 0) /\ w' = w := by
 go_enter Tryz.func178,Tryz.ntmps178
 go_wp2_with (go_at_call 151; refine (check_no _ hc _).mono ?_; rintro e w' ⟨rfl,rfl⟩)
 exact ⟨rfl,rfl,rfl⟩
def scV (a: Option Addr) (n c: Nat) (left: Int): Value := .agg #[.slice a n c, .int .i64 left]
theorem column_walk {rs: List RowL} {a: Option Addr} {c: Nat} {left: Int} {w: World} (hS: RowsIn w a rs) (hF: RowsFit rs) (v k: Int) :
 Calls Tryz.prog 202 #[scV a rs.length c left, .int .i64 v, .int .i64 k] w (EvP (evCol rs v k) w) := by
 have hl: rs.length <= 9223372036854775807 := hF.1
 have hB := fun o1 o2 => Rw.dh (below_two w o1 o2)
 unfold scV
 by_cases h0: v < 0
 · rw [evCol_lo h0]
   go_enter Tryz.func202,Tryz.ntmps202
   go_wp2_with (go_at_call 151; refine (check_no 15 rfl _).mono ?_; rintro e w' ⟨rfl,rfl⟩)
   exact ⟨rfl, .no _ _ rfl,(hB _ _).out⟩
 by_cases h1: (rs.length: Int) <= v
 · rw [evCol_hi h0 h1]
   go_enter Tryz.func202,Tryz.ntmps202
   go_wp2_with (go_at_call 151; refine (check_no 15 rfl _).mono ?_; rintro e w' ⟨rfl,rfl⟩)
   exact ⟨rfl, .no _ _ rfl,(hB _ _).out⟩
 obtain ⟨j,rfl⟩: ∃ j: Nat,v = (j: Int) := ⟨v.toNat,by omega⟩
 have hj: j < rs.length := by omega
 obtain ⟨b,o,r,rfl,hb,hr,hc⟩ := hS.rows.at hj
 have hrl: r.l.length <= 9223372036854775807 := (hF.2 r (List.mem_of_getElem? hr)).1
 have hv := hS.vals r (List.mem_of_getElem? hr)
 have c0: w.cell? ⟨b,o + j,none⟩ = some (.slice r.a r.l.length r.c) := by have := hc 0 _ rfl; simpa using this
 clear hc
 by_cases h2: k < 0
 · rw [evCol_clo hr h2]
   have HR := Rw.dh hr
   clear hr
   go_enter Tryz.func202,Tryz.ntmps202
   go_wp2_with (go_at_call 151; refine (check_no 15 rfl _).mono ?_; rintro e w' ⟨rfl,rfl⟩)
   exact ⟨rfl, .no _ _ rfl,(hB _ _).out⟩
 by_cases h3: (r.l.length: Int) <= k
 · rw [evCol_chi hr h2 h3]
   have HR := Rw.dh hr
   clear hr
   go_enter Tryz.func202,Tryz.ntmps202
   go_wp2_with (go_at_call 151; refine (check_no 15 rfl _).mono ?_; rintro e w' ⟨rfl,rfl⟩)
   exact ⟨rfl, .no _ _ rfl,(hB _ _).out⟩
 obtain ⟨i,rfl⟩: ∃ i: Nat,k = (i: Int) := ⟨k.toNat,by omega⟩
 have hi: i < r.l.length := by omega
 obtain ⟨b',o',u,hra,hb',hu,hc'⟩ := hv.at hi
 rw [evCol_at hr hu]
 have d0: w.cell? ⟨b',o' + i * 3,none⟩ = some (.int .i64 u.k) := hc' 0 _ rfl
 have d1: w.cell? ⟨b',o' + i * 3 + 1,none⟩ = some (.int .i64 u.n) := hc' 1 _ rfl
 have d2: w.cell? ⟨b',o' + i * 3 + 2,none⟩ = some (.string u.s) := hc' 2 _ rfl
 rw [hra] at c0
 have HR := Rw.dh hr
 have HU := Rw.dh hu
 clear hr hu hc' hv hra
 go_enter Tryz.func202,Tryz.ntmps202
 go_wp2
 exact bodyPost_ret (v := vvV u) (by simp [results,Tryz.results202,go_sem,vvV,valV]) rfl ⟨.ok u,(hB _ _).out⟩
theorem null_walk (v: Vv) (w: World): Calls Tryz.prog 214 #[vvV v] w fun e w' => e = .returned (vvV (ofVv (if isZ v then 1 else 0))) /\ Below w.heap.size w w' := by
 obtain ⟨k,n,s⟩ := v
 have H1: Hid (∀ W,Calls Tryz.prog 210 #[.int .i64 1] W fun e w' => e = .returned (.agg #[.int .i64 1, .int .i64 1, .string ⟨#[]⟩]) /\ Below W.heap.size W w') := fun W => (of_walk 1 W).mono (by rintro e w' ⟨rfl,hb⟩; exact ⟨by simp [ofV,valV],hb⟩)
 have H0: Hid (∀ W,Calls Tryz.prog 210 #[.int .i64 0] W fun e w' => e = .returned (.agg #[.int .i64 1, .int .i64 0, .string ⟨#[]⟩]) /\ Below W.heap.size W w') := fun W => (of_walk 0 W).mono (by rintro e w' ⟨rfl,hb⟩; exact ⟨by simp [ofV,valV],hb⟩)
 have hz: isZ ⟨k,n,s⟩ = (k == 0 && n == 0 && s.toList == []) := rfl
 rw [hz]
 clear hz
 have fin: ∀ (b: Bool) W w',Hid (Below w.heap.size w W) -> Below W.heap.size W w' -> Below w.heap.size w w' := fun _ W w' h1 h2 => h1.out.trans (h2.mono h1.out.size)
 have hB := fun o1 o2 => Rw.dh (below_two w o1 o2)
 unfold vvV valV
 cases h1: (k == 0) <;> cases h2: (n == 0) <;> cases h3: (s.toList == [])
 case true.true.true =>
  go_enter Tryz.func214,Tryz.ntmps214
  go_wp2_with fail
  refine (H1.out _).mono ?_
  rintro e w1 ⟨rfl,hb⟩
  have HB := Rw.dh (fin true _ _ (hB _ _) hb)
  obtain ⟨z0,z1,z2,f0,f1,f2,hlt⟩ := vbox (heap_two w _ _) hb
  clear hb
  go_wp2
  exact bodyPost_ret (v := .agg #[.int .i64 1, .int .i64 1, .string ⟨#[]⟩]) (by simp [results,Tryz.results214,go_sem,z0,z1,z2]) rfl ⟨by simp [ofVv],below_set3 (Nat.le_succ _) HB.out _ _ _⟩
 all_goals
  go_enter Tryz.func214,Tryz.ntmps214
  go_wp2_with fail
  refine (H0.out _).mono ?_
  rintro e w1 ⟨rfl,hb⟩
  have HB := Rw.dh (fin true _ _ (hB _ _) hb)
  obtain ⟨z0,z1,z2,f0,f1,f2,hlt⟩ := vbox (heap_two w _ _) hb
  clear hb
  go_wp2
  exact bodyPost_ret (v := .agg #[.int .i64 1, .int .i64 0, .string ⟨#[]⟩]) (by simp [results,Tryz.results214,go_sem,z0,z1,z2]) rfl ⟨by simp [ofVv],below_set3 (Nat.le_succ _) HB.out _ _ _⟩
end Go.Proofs.YteibhbnlcpejpaaGreat
