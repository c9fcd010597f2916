import Derived.Test.YteibhbnlcpejpaaGreatMAU
set_option maxRecDepth 100000
set_option maxHeartbeats 4000000
namespace Go.Proofs.YteibhbnlcpejpaaGreat
open Go.RowKit
def CloP (t: Int × Int) (w: World) (e: Ending) (W: World): Prop := ((t.2 = 0 /\ e = .returned (.bool (t.1 != 1))) \/ ((t.2 != 0) = true /\ e = .panicked (stopped t.2 0))) /\ Below w.heap.size w W
theorem clo_walk {n: Nat} (hn: n <= 65536) {ra: Option Addr} {rs: List RowL} {rc: Nat} (hF: RowsFit rs) (k: NL) {w: World} (hI: InN n w k) (hd: deepN n k = false) (hR: RowsIn w ra rs) {p: Nat} (hp: w.heap[p]? = some (.cells #[.slice ra rs.length rc, .int .i64 65536] 255 (0,0))) :
 Calls Tryz.prog 136 #[nV k, .pointer (some ⟨p,0,none⟩)] w (CloP (trE (evN n rs k)) w) := by
 have HT := Rw.dh (fun W (hb: Below w.heap.size w W) => truth_of (eval_walk (ra := ra) (rc := rc) hF n) k W 65536 (hI.on hb) hd (by omega) (by omega) (hR.on hb))
 have hpl := (Array.getElem?_eq_some_iff.1 hp).1
 have s0: w.cell? ⟨p,0,none⟩ = some (.slice ra rs.length rc) := by rw [cell_of_row _ _ _ _ _ _ hp]; rfl
 have s1: w.cell? ⟨p,1,none⟩ = some (.int .i64 65536) := by rw [cell_of_row _ _ _ _ _ _ hp]; rfl
 clear hI hd hR hp
 generalize trE (evN n rs k) = t at *
 unfold scV at HT
 unfold nV at HT ⊢
 go_enter Tryz.func136,Tryz.ntmps136
 go_wp2_with fail
 refine (HT.out _ (Rw.below_alloc _ _)).mono ?_
 rintro e w1 ⟨hW,hb⟩
 have HB := Rw.dh (below_on (Rw.below_alloc _ _) hb)
 clear hb HT
 cases hW with
 | ok t =>
  go_wp2
  go_ret
  exact ⟨Or.inl ⟨rfl,rfl⟩,HB.out⟩
 | no t c h =>
  go_wp2
  exact ⟨rfl,Or.inr ⟨h,rfl⟩,HB.out⟩
inductive IdxP: Bool × Int -> Ending -> Prop
 | none: IdxP (true,0) (.returned (.int .i64 (-1)))
 | at (j: Nat): IdxP (false,0) (.returned (.int .i64 (j: Int)))
 | err (c: Int) (h: (c != 0) = true): IdxP (false,c) (.panicked (stopped c 0))
theorem idxN_walk {n: Nat} (hn: n <= 65536) {ra: Option Addr} {rs: List RowL} {rc: Nat} (hF: RowsFit rs) {l: List NL} {a: Option Addr} {c: Nat} {w: World} (hS: Rw.SlG nC 7 w a l) (hI: ∀ k ∈ l,InN n w k) (hd: ∀ k ∈ l,deepN n k = false) (hl: l.length <= 600000) (hR: RowsIn w ra rs) {p: Nat} (hp: w.heap[p]? = some (.cells #[.slice ra rs.length rc, .int .i64 65536] 255 (0,0))) :
 Calls Tryz.prog 177 #[.slice a l.length c, .func (.func 136) #[] #[.pointer (some ⟨p,0,none⟩)]] w fun e W => IdxP (allN n rs l) e /\ Below w.heap.size w W := by
 have HS := Rw.dh hS
 have HC := Rw.dh (fun k (hk: k ∈ l) W (hb: Below w.heap.size w W) => clo_walk hn (ra := ra) (rc := rc) hF k (w := W) ((hI k hk).on hb) (hd k hk) (hR.on hb) (p := p) ((hb.block _ (Array.getElem?_eq_some_iff.1 hp).1).trans hp))
 clear hS hI hd hR hp hF
 go_enter Tryz.func177,Tryz.ntmps177
 go_wp2_with fail
 go_loopw [8] (fun i wr => ∃ j: Nat,j <= l.length /\ i = .int .i64 (j: Int) /\ Hid (Below w.heap.size w wr) /\ Hid (allN n rs l = allN n rs (l.drop j))) (fun i _ => l.length - (intOf i).toNat)
 case atStart => exact ⟨0,Nat.zero_le _,rfl,Below.refl _ _,rfl⟩
 case round =>
  obtain ⟨j,hj,rfl,HB,HA⟩ := hrel
  by_cases hlt: j < l.length
  · obtain ⟨b,o,k,rfl,hb,hx,hc⟩ := (HS.out.below HB.out).at hlt
    have hv := HC.out k (List.mem_of_getElem? hx) wr HB.out
    have HA1: Hid (allN n rs l = allStep (trE (evN n rs k)) (allN n rs (l.drop (j + 1)))) := HA.out.trans (allN_at hx)
    generalize trE (evN n rs k) = t at *
    have c0: wr.cell? ⟨b,o + j * 7,none⟩ = some (.string k.op) := hc 0 _ rfl
    have c1: wr.cell? ⟨b,o + j * 7 + 1,none⟩ = some (.int .i64 k.vk) := hc 1 _ rfl
    have c2: wr.cell? ⟨b,o + j * 7 + 2,none⟩ = some (.int .i64 k.vn) := hc 2 _ rfl
    have c3: wr.cell? ⟨b,o + j * 7 + 3,none⟩ = some (.string k.vs) := hc 3 _ rfl
    have c4: wr.cell? ⟨b,o + j * 7 + 4,none⟩ = some (.int .i64 k.var) := hc 4 _ rfl
    have c5: wr.cell? ⟨b,o + j * 7 + 5,none⟩ = some (.int .i64 k.col) := hc 5 _ rfl
    have c6: wr.cell? ⟨b,o + j * 7 + 6,none⟩ = some (.slice k.a k.kids.length k.c) := hc 6 _ rfl
    clear hc hx HA
    unfold nV at hv
    go_wp2_with fail
    refine hv.mono ?_
    clear hv
    rintro e w1 ⟨hW,hb1⟩
    have HB1 := Rw.dh (below_on HB.out hb1)
    clear hb1 c0 c1 c2 c3 c4 c5 c6 hb HB
    obtain ⟨t,c⟩ := t
    rcases hW with ⟨h0,rfl⟩ | ⟨h0,rfl⟩
    · obtain rfl: c = 0 := h0
      cases ht: (t != 1)
      · have HA2: Hid (allN n rs l = allN n rs (l.drop (j + 1))) := HA1.out.trans (allStep_yes ht)
        clear HA1
        go_wp2
        go_roundw
        case rel => exact ⟨j + 1,hlt,by go_num,HB1,HA2⟩
        case measure => simp [intOf]; omega
      · have HE := Rw.dh (HA1.out.trans (allStep_no ht))
        clear HA1
        go_wp2
        go_ret
        exact ⟨by rw [HE.out]; exact .at j,HB1.out⟩
    · have HE := Rw.dh (HA1.out.trans (allStep_err h0))
      clear HA1
      go_wp2
      exact ⟨rfl,by rw [HE.out]; exact .err _ h0,HB1.out⟩
  · have hjs: j = l.length := by omega
    subst hjs
    have hA := HA.out
    rw [List.drop_length] at hA
    have HE: Hid (allN n rs l = (true,0)) := hA
    clear hA HA
    go_wp2
    go_ret
    exact ⟨by rw [HE.out]; exact .none,HB.out⟩
inductive ConP: Bool × Int -> Ending -> Prop
 | ok (b: Bool): ConP (b,0) (.returned (.bool !b))
 | err (c: Int) (h: (c != 0) = true): ConP (false,c) (.panicked (stopped c 0))
theorem conN_walk {n: Nat} (hn: n <= 65536) {ra: Option Addr} {rs: List RowL} {rc: Nat} (hF: RowsFit rs) {l: List NL} {a: Option Addr} {c: Nat} {w: World} (hS: Rw.SlG nC 7 w a l) (hI: ∀ k ∈ l,InN n w k) (hd: ∀ k ∈ l,deepN n k = false) (hl: l.length <= 600000) (hR: RowsIn w ra rs) {p: Nat} (hp: w.heap[p]? = some (.cells #[.slice ra rs.length rc, .int .i64 65536] 255 (0,0))) :
 Calls Tryz.prog 135 #[.slice a l.length c, .func (.func 136) #[] #[.pointer (some ⟨p,0,none⟩)]] w fun e W => ConP (allN n rs l) e /\ Below w.heap.size w W := by
 have hX := idxN_walk hn hF (c := c) (rc := rc) hS hI hd hl hR hp
 generalize allN n rs l = r at *
 clear hS hI hd hR hp hF
 go_enter Tryz.func135,Tryz.ntmps135
 go_wp2_with fail
 refine hX.mono ?_
 clear hX
 rintro e w1 ⟨hW,hb⟩
 have HB := Rw.dh hb
 clear hb
 cases hW with
 | none =>
  go_wp2
  go_ret
  exact ⟨.ok true,HB.out⟩
 | «at» j =>
  have h0: decide ((j: Int) ≥ 0) = true := by simp
  have h1: decide (0 <= (j: Int)) = true := by simp
  go_wp2
  go_ret
  exact ⟨.ok false,HB.out⟩
 | err c h =>
  go_wp2
  exact ⟨rfl, .err c h,HB.out⟩
def All1P (r: Bool × Int) (p: Nat) (w: World) (e: Ending) (W: World): Prop :=
 ((r.2 = 0 /\ e = .returned (.tuple #[])) \/ ((r.2 != 0) = true /\ e = .panicked (stopped r.2 0))) /\ W.heap[p]? = some (.cells #[.bool r.1] 4 (0,0)) /\ Only (· = p) w W
theorem all1_walk {n: Nat} (hn: n <= 65536) {ra: Option Addr} {rs: List RowL} {rc: Nat} (hF: RowsFit rs) {l: List NL} {a: Option Addr} {c: Nat} {w: World} (hS: Rw.SlG nC 7 w a l) (hI: ∀ k ∈ l,InN n w k) (hd: ∀ k ∈ l,deepN n k = false) (hl: l.length <= 600000) (hR: RowsIn w ra rs) {pl ps pb: Nat}
 (h0: w.heap[pl]? = some (.cells #[.slice a l.length c] 42 (0,0))) (h1: w.heap[ps]? = some (.cells #[.slice ra rs.length rc, .int .i64 65536] 255 (0,0))) (h2: w.heap[pb]? = some (.cells #[.bool false] 4 (0,0))) :
 Calls Tryz.prog 134 #[.pointer (some ⟨pl,0,none⟩), .pointer (some ⟨ps,0,none⟩), .pointer (some ⟨pb,0,none⟩)] w (All1P (allN n rs l) pb w) := by
 have hmf: ∀ (fn: Fn) (first cap: Array Value) (w: World),(Instr.makeFunc fn first cap).run Tryz.prog w = .ok (.func fn first cap) w := fun _ _ _ _ => rfl
 have hX := conN_walk hn hF (c := c) (rc := rc) hS hI hd hl hR h1
 generalize allN n rs l = r at *
 have d0: w.cell? ⟨pl,0,none⟩ = some (.slice a l.length c) := by rw [cell_of_row _ _ _ _ _ _ h0]; rfl
 have hpl := (Array.getElem?_eq_some_iff.1 h0).1
 have H2 := Rw.dh h2
 clear hS hI hd hR h0 h1 h2 hF
 go_enter Tryz.func134,Tryz.ntmps134
 go_wp2_with fail
 refine hX.mono ?_
 clear hX
 rintro e w1 ⟨hW,hb⟩
 have HB := Rw.dh hb
 have HP := Rw.dh ((hb.block _ (Array.getElem?_eq_some_iff.1 H2.out).1).trans H2.out)
 clear hb d0
 cases hW with
 | ok b =>
  have y0: w1.cell? ⟨pb,0,none⟩ = some (.bool false) := by rw [cell_of_row _ _ _ _ _ _ HP.out]; rfl
  have y1: w1.frozen? ⟨pb,0,none⟩ = false := frozen_of_row _ _ _ _ _ HP.out
  have y2 := (Array.getElem?_eq_some_iff.1 HP.out).1
  go_wp2
  go_end0
  refine ⟨Or.inl ⟨rfl,rfl⟩, ?_,Only.setCell (S := fun k => k = pb) (Only.of_below HB.out) (p := ⟨pb,0,none⟩) (Or.inr rfl) _⟩
  have := heap_setCell_same w1 pb 0 #[.bool false] 4 (.bool b) HP.out
  simpa using this
 | err c h =>
  go_wp2
  exact ⟨rfl,Or.inr ⟨h,rfl⟩,HP.out,Only.of_below HB.out⟩
theorem calls_all1 (args: Array Value) (w: World): (callFunc 134 args).run Tryz.prog w = .ok (.enter 134 args) w := by
 simp [go_sem]
theorem allCatch_walk {n: Nat} (hn: n <= 65536) {ra: Option Addr} {rs: List RowL} {rc: Nat} (hF: RowsFit rs) {l: List NL} {a: Option Addr} {c: Nat} {w: World} (hS: Rw.SlG nC 7 w a l) (hI: ∀ k ∈ l,InN n w k) (hd: ∀ k ∈ l,deepN n k = false) (hl: l.length <= 600000) (hR: RowsIn w ra rs) {pl ps pb: Nat}
 (h0: w.heap[pl]? = some (.cells #[.slice a l.length c] 42 (0,0))) (h1: w.heap[ps]? = some (.cells #[.slice ra rs.length rc, .int .i64 65536] 255 (0,0))) (h2: w.heap[pb]? = some (.cells #[.bool false] 4 (0,0))) :
 Calls Tryz.prog 62 #[.func (.func 134) #[] #[.pointer (some ⟨pl,0,none⟩), .pointer (some ⟨ps,0,none⟩), .pointer (some ⟨pb,0,none⟩)]] w fun e w' => e = .returned (faultV (allN n rs l).2 0) /\
  w'.heap[pb]? = some (.cells #[.bool (allN n rs l).1] 4 (0,0)) /\ Only (· = pb) w w' := by
 have hb := below_catchW w
 have l2 := (Array.getElem?_eq_some_iff.1 h2).1
 have H := all1_walk (rc := rc) (c := c) hn hF (hS.below hb) (fun k hk => (hI k hk).on hb) hd hl (hR.on hb) ((hb.block _ (Array.getElem?_eq_some_iff.1 h0).1).trans h0) ((hb.block _ (Array.getElem?_eq_some_iff.1 h1).1).trans h1) ((hb.block _ l2).trans h2)
 generalize allN n rs l = r at *
 refine (catch_any 134 calls_all1 _ w (· = pb) (fun k hk e => by omega) (All1P r pb (catchW w)) (H.mono ?_)).mono ?_
 · rintro e w1 ⟨hE,hv,ho⟩
   refine ⟨⟨hE,hv,ho⟩,ho, ?_⟩
   rcases hE with ⟨_,rfl⟩ | ⟨_,rfl⟩
   · exact ⟨_,_,_, .done⟩
   · exact ⟨_,_,_, .stop _ _⟩
 · rintro e w' ⟨e1,w1,c,a,t,⟨hE,hv,_⟩,hc,rfl,ho,hat⟩
   have hs := hb.size
   have hs1 := ho.size
   have hp: w'.heap[pb]? = w1.heap[pb]? := hat.block _ (by omega) (by omega)
   refine ⟨?_,by rw [hp]; exact hv,Only.through hb ho hat⟩
   rcases hE with ⟨h,he⟩ | ⟨h,he⟩
   · obtain ⟨rfl,rfl⟩ := came_ret hc he
     rw [h]
   · obtain ⟨rfl,rfl⟩ := came_pan hc he
     rfl
theorem allB_walk {n: Nat} (hn: n <= 65536) {ra: Option Addr} {rs: List RowL} {rc: Nat} (hF: RowsFit rs) {l: List NL} {a: Option Addr} {c: Nat} {w: World} (hS: Rw.SlG nC 7 w a l) (hI: ∀ k ∈ l,InN n w k) (hd: ∀ k ∈ l,deepN n k = false) (hl: l.length <= 600000) (hR: RowsIn w ra rs) :
 Calls Tryz.prog 93 #[.slice a l.length c, .slice ra rs.length rc] w fun e w' => e = .returned (.tuple #[.bool (allN n rs l).1, .int .i64 (allN n rs l).2]) /\ Below w.heap.size w w' := by
 have hmf: ∀ (fn: Fn) (first cap: Array Value) (w: World),(Instr.makeFunc fn first cap).run Tryz.prog w = .ok (.func fn first cap) w := fun _ _ _ _ => rfl
 have HO := Rw.dh (fun W => over_walk ra rs.length rc W)
 have HC := Rw.dh (fun W (hb: Below w.heap.size w W) pl ps pb h0 h1 h2 => allCatch_walk (w := W) (rc := rc) (c := c) (pl := pl) (ps := ps) (pb := pb) hn hF (hS.below hb) (fun k hk => (hI k hk).on hb) hd hl (hR.on hb) h0 h1 h2)
 clear hS hI hd hR hF
 generalize allN n rs l = r at *
 unfold scV at HO
 go_enter Tryz.func93,Tryz.ntmps93
 go_wp2_with fail
 refine (HO.out _).mono ?_
 rintro e w1 ⟨rfl,hb⟩
 have hp := (hb.block w.heap.size (by simp)).trans (Rw.heap_new w (.cells #[.slice a l.length c] 42))
 have HP := Rw.dh hp
 have HB := Rw.dh (below_on (Rw.below_alloc w _) hb)
 clear hb hp
 go_wp2_with fail
 have hlp := (Array.getElem?_eq_some_iff.1 HP.out).1
 have hC := HC.out ((w1.alloc (.cells #[.slice ra rs.length rc, .int .i64 65536] 255)).alloc (.cells #[.bool false] 4)) ((HB.out.alloc HB.out.size _).alloc (by have := HB.out.size; simp; omega) _) w.heap.size w1.heap.size (w1.heap.size + 1) ((Below.heap_alloc _ _ _ (by simp; omega)).trans ((Below.heap_alloc _ _ _ hlp).trans HP.out)) ((Below.heap_alloc _ _ _ (by simp)).trans (Rw.heap_new _ _)) (heap_two _ _ _)
 refine hC.mono ?_
 clear hC HC
 rintro e w2 ⟨rfl,hv,ho⟩
 have HV := Rw.dh hv
 have HB2: Hid (Below w.heap.size w w2) := ((HB.out.alloc HB.out.size _).alloc (by have := HB.out.size; simp; omega) _).trans (ho.below (by have := HB.out.size; simp; omega) fun k hk e => by have := HB.out.size; omega)
 clear hv ho
 unfold faultV
 go_wp2_with fail
 have HB3 := Rw.dh (HB2.out.alloc HB2.out.size (.cells #[.int .i64 r.2, .int .i64 0] 155))
 have hv3 := (Below.heap_alloc w2 (.cells #[.int .i64 r.2, .int .i64 0] 155) _ (Array.getElem?_eq_some_iff.1 HV.out).1).trans HV.out
 have y0: (w2.alloc (.cells #[.int .i64 r.2, .int .i64 0] 155)).cell? ⟨w1.heap.size + 1,0,none⟩ = some (.bool r.1) := by rw [cell_of_row _ _ _ _ _ _ hv3]; rfl
 clear hv3
 go_quiet (fail)
 go_wp2
 go_ret2
 exact ⟨rfl,below_drewN HB3.out _⟩
end Go.Proofs.YteibhbnlcpejpaaGreat
