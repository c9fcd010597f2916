import Derived.Test.YtdaikppppkbfoaaMAR
set_option maxRecDepth 100000
set_option maxHeartbeats 4000000
namespace Go.Proofs.Ytdaikppppkbfoaa
open Go.RowKit
structure TabsIn (w: World) (a: Option Addr) (l: List TabL): Prop where
 rows: Rw.SlG tabC 2 w a l
 cols: ∀ t ∈ l,Rw.SlG colC 4 w t.a t.cols
theorem TabsIn.on {w W: World} {a: Option Addr} {l: List TabL} (h: TabsIn w a l) (hb: Below w.heap.size w W): TabsIn W a l := ⟨h.rows.below hb,fun t ht => (h.cols t ht).below hb⟩
def TabsOk (l: List TabL): Prop := l.length <= 1048576 /\ ∀ t ∈ l,TabOk t
def findTI (l: List TabL) (s: ByteArray): Int := match l.findIdx? (fun t => eqS t.name s) with
 | some i => i
 | none => -1
theorem findTI_at {l: List TabL} {s: ByteArray} {k: Nat} (hk: k < l.length) (h: (l.take k).any (fun v => eqS v.name s) = false) (he: eqS l[k].name s = true): findTI l s = k := by
 have: l.findIdx? (fun v => eqS v.name s) = some k := by
  rw [List.findIdx?_eq_some_iff_getElem]
  refine ⟨hk,he,fun j hj => ?_⟩
  have h' := List.any_eq_false.1 h (l[j]'(by omega)) (by
   rw [List.mem_take_iff_getElem]
   exact ⟨j,by omega,rfl⟩)
  simpa using h'
 unfold findTI; rw [this]
theorem findTI_none {l: List TabL} {s: ByteArray} {k: Nat} (hk: l.length <= k) (h: (l.take k).any (fun v => eqS v.name s) = false): findTI l s = -1 := by
 rw [List.take_of_length_le hk] at h
 have: l.findIdx? (fun v => eqS v.name s) = none := by
  rw [List.findIdx?_eq_none_iff]
  intro x hx
  have := List.any_eq_false.1 h x hx
  simpa using this
 unfold findTI; rw [this]
theorem findTI_lt {l: List TabL} {s: ByteArray} (h: ¬ findTI l s < 0): ∃ j t,findTI l s = (j: Nat) /\ l[j]? = some t := by
 unfold findTI at h ⊢
 cases hf: l.findIdx? (fun t => eqS t.name s) with
 | none => rw [hf] at h; exact absurd (by decide: (-1: Int) < 0) h
 | some i =>
  obtain ⟨hi,_⟩ := List.findIdx?_eq_some_iff_getElem.1 hf
  exact ⟨i,l[i],rfl,List.getElem?_eq_getElem hi⟩
def findTab (l: List TabL) (s: ByteArray): Option TabL := if findTI l s < 0 then none else l[(findTI l s).toNat]?
theorem find1t_walk (v: TabL) (s: ByteArray) (g: Nat) {w: World} (hg: g < w.heap.size) (hc: w.cell? ⟨g,0,none⟩ = some (.string s)) :
 Calls Try.prog 106 #[.agg #[.string v.name, .slice v.a v.cols.length v.c], .pointer (some ⟨g,0,none⟩)] w fun e w' => e = .returned (.bool (eqS v.name s)) /\ Below w.heap.size w w' := by
 obtain ⟨nm,a,c,cols⟩ := v
 dsimp only
 go_enter Try.func106,Try.ntmps106
 go_wp2
 go_ret
 exact ⟨rfl,Rw.below_alloc _ _⟩
theorem idxt_walk (l: List TabL) (s: ByteArray) {a: Option Addr} {c g: Nat} {w: World} (hl: Rw.SlG tabC 2 w a l) (h1: l.length <= 1048576) (hg: g < w.heap.size) (hc: w.cell? ⟨g,0,none⟩ = some (.string s)) :
 Calls Try.prog 105 #[.slice a l.length c, .func (.func 106) #[] #[.pointer (some ⟨g,0,none⟩)]] w fun e w' => e = .returned (.int .i64 (findTI l s)) /\ Below w.heap.size w w' := by
 have HL := Rw.dh hl
 clear hl
 go_enter Try.func105,Try.ntmps105
 go_wp2
 go_loopw [8] (fun i wx => ∃ k: Nat,k <= l.length /\ i = .int .i64 k /\ Below w.heap.size w wx /\ Hid ((l.take k).any (fun v => eqS v.name s) = false)) (fun i _ => l.length - (intOf i).toNat)
 case atStart => exact ⟨0,Nat.zero_le _,rfl,Below.refl _ _,by simp [Hid]⟩
 case round =>
  obtain ⟨k,hk,rfl,HB,HF⟩ := hrel
  by_cases hlt: k < l.length
  · obtain ⟨b,o,v,rfl,hb,hx,hcs⟩ := (HL.out.below HB).at hlt
    have HA := Rw.dh (fun (he: eqS v.name s = false) => kany_snoc hx HF.out he)
    have HT: Hid (eqS v.name s = true -> findTI l s = k) := fun he => findTI_at hlt HF.out (by
     have: l[k] = v := (List.getElem?_eq_some_iff.1 hx).2
     rw [this]; exact he)
    have C1 := find1t_walk v s g (w := wr) (by have := HB.size; omega) (by rw [HB.cell (p := ⟨g,0,none⟩) hg]; exact hc)
    have c0: wr.cell? ⟨b,o + k * 2,none⟩ = some (.string v.name) := hcs 0 _ rfl
    have c1: wr.cell? ⟨b,o + k * 2 + 1,none⟩ = some (.slice v.a v.cols.length v.c) := hcs 1 _ rfl
    clear hcs hx
    go_wp2_with fail
    refine C1.mono ?_
    rintro e w1 ⟨rfl,B1⟩
    have HB1 := Rw.dh (HB.trans (B1.mono HB.size))
    clear C1 B1 HB c0 c1 hb
    cases he: eqS v.name s
    · go_wp2
      go_roundw
      case rel => exact ⟨k + 1,hlt,by go_num,HB1.out,HA.out he⟩
      case measure => simp [intOf]; omega
    · go_wp2
      go_ret
      exact ⟨Rw.ret_int (HT.out he).symm,HB1.out⟩
  · have hlt': (l.length: Int) <= (k: Int) := by omega
    go_wp2
    go_ret
    exact ⟨Rw.ret_int (findTI_none (by omega) HF.out).symm,HB⟩
def FoundP (t: Option TabL) (w: World) (e: Ending) (W: World): Prop := Below w.heap.size w W /\ ((t = none /\ e = .returned (.tuple #[.agg #[.string ⟨#[]⟩, .slice none 0 0], .int .i64 2])) \/
 ∃ x a c,t = some x /\ e = .returned (.tuple #[.agg #[.string x.name, .slice a x.cols.length c], .int .i64 0]) /\ Rw.SlG colC 4 W a x.cols /\ (a = none -> c = 0) /\ ∀ b o,a = some ⟨b,o,none⟩ -> w.heap.size <= b)
theorem tbox {W w1: World} {p: Nat} {a b: Value} (h: W.heap[p]? = some (.cells #[a,b] 89 (0,0))) (hb: Below W.heap.size W w1) :
 w1.cell? ⟨p,0,none⟩ = some a /\ w1.cell? ⟨p,1,none⟩ = some b /\ w1.frozen? ⟨p,0,none⟩ = false /\ w1.frozen? ⟨p,1,none⟩ = false /\ p < w1.heap.size := by
 have h1: w1.heap[p]? = some (.cells #[a,b] 89 (0,0)) := (hb.block p (Array.getElem?_eq_some_iff.1 h).1).trans h
 exact ⟨by rw [cell_of_row _ _ _ _ _ _ h1]; rfl,by rw [cell_of_row _ _ _ _ _ _ h1]; rfl,frozen_of_row _ _ _ _ _ h1,frozen_of_row _ _ _ _ _ h1,(Array.getElem?_eq_some_iff.1 h1).1⟩
theorem below_set2 {B p: Nat} {a w: World} (hb: B <= p) (h: Below B a w) (v0 v1: Value): Below B a ((w.setCell ⟨p,0,none⟩ v0).setCell ⟨p,1,none⟩ v1) :=
 (h.setCell hb v0).setCell hb v1
theorem slg_set2 {W: World} {a: Option Addr} {l: List Col} {p: Nat} (h: Rw.SlG colC 4 W a l) (hp: ∀ b o,a = some ⟨b,o,none⟩ -> b ≠ p) (u0 u1: Value): Rw.SlG colC 4 ((W.setCell ⟨p,0,none⟩ u0).setCell ⟨p,1,none⟩ u1) a l :=
 h.turn (by simp) fun b o e _ => by rw [heap_setCell_other _ _ _ _ (hp b o e),heap_setCell_other _ _ _ _ (hp b o e)]
theorem ktfind_walk {l: List TabL} (s: ByteArray) {a: Option Addr} {c: Nat} {w: World} (hl: TabsIn w a l) (hok: TabsOk l) :
 Calls Try.prog 73 #[.slice a l.length c, .string s] w (FoundP (findTab l s) w) := by
 have hmf: ∀ (fn: Fn) (first cap: Array Value) (w: World),(Instr.makeFunc fn first cap).run Try.prog w = .ok (.func fn first cap) w := fun _ _ _ _ => rfl
 have C1 := idxt_walk l s (c := c) (g := w.heap.size) (w := (w.alloc (.cells #[.string s] 9)).alloc (.cells #[.string ⟨#[]⟩, .slice none 0 0] 89)) (hl.rows.below (below_two w _ _)) hok.1 (by simp; omega) (by simp [go_sem])
 have HL := Rw.dh hl
 have HOk := Rw.dh hok.2
 have hlen := hok.1
 clear hl hok
 have HX: Hid (findTI l s < 0 \/ ∃ j t,findTI l s = ((j: Nat): Int) /\ l[j]? = some t) := by
  by_cases h: findTI l s < 0
  · exact Or.inl h
  · exact Or.inr (findTI_lt h)
 have HR: Hid (findTab l s = if findTI l s < 0 then none else l[(findTI l s).toNat]?) := rfl
 generalize findTI l s = i at *
 generalize findTab l s = R at *
 go_enter Try.func73,Try.ntmps73
 go_wp2_with fail
 refine C1.mono ?_
 clear C1
 rintro e w1 ⟨rfl,hb⟩
 have hz := tbox (heap_two w (.cells #[.string s] 9) (.cells #[.string ⟨#[]⟩, .slice none 0 0] 89)) hb
 have HB := Rw.dh (below_on (below_two w _ _) hb)
 have HZ := Rw.dh ((hb.block _ (Array.getElem?_eq_some_iff.1 (heap_two w (.cells #[.string s] 9) (.cells #[.string ⟨#[]⟩, .slice none 0 0] 89))).1).trans (heap_two w _ _))
 clear hb
 obtain ⟨z0,z1,z2,z3,z4⟩ := hz
 rcases HX.out with h0 | ⟨j,t,rfl,hj⟩
 · have hR: R = none := by rw [HR.out,if_pos h0]
   subst hR
   clear HR HX
   have d0: decide (i < 0) = true := decide_eq_true h0
   go_wp2
   exact bodyPost_ret (v := .tuple #[.agg #[.string ⟨#[]⟩, .slice none 0 0], .int .i64 2]) (by simp [results,Try.results73,go_sem,z0,z1]) rfl ⟨below_set2 (by omega) HB.out _ _,Or.inl ⟨rfl,rfl⟩⟩
 · have hR: R = some t := by rw [HR.out,if_neg (by omega),Int.toNat_natCast,hj]
   subst hR
   have hjl: j < l.length := (List.getElem?_eq_some_iff.1 hj).1
   have htm := List.mem_of_getElem? hj
   have hto := HOk.out t htm
   obtain ⟨b,o,x,rfl,hb,hx,hcs⟩ := (HL.out.on HB.out).rows.at hjl
   rw [hj] at hx
   cases hx
   have c0: w1.cell? ⟨b,o + j * 2,none⟩ = some (.string t.name) := hcs 0 _ rfl
   have c1: w1.cell? ⟨b,o + j * 2 + 1,none⟩ = some (.slice t.a t.cols.length t.c) := hcs 1 _ rfl
   have hbw: b < w.heap.size := by
    rcases HL.out.rows with h | ⟨b',o',h,h',_⟩
    · rw [h] at hj; simp at hj
    · cases h; exact h'
   have HS := Rw.dh (fun W (hb: Below w.heap.size w W) => (HL.out.cols t htm).below hb)
   have HC1: Hid (∀ W,Below w1.heap.size w1 W -> Calls Try.prog 49 #[.string t.name] W fun e w2 => e = .returned (.string t.name) /\ Hid (Below w1.heap.size w1 w2)) := fun W hb => (kclone_walk t.name W hto.1).mono (by rintro e w2 ⟨rfl,hb2⟩; exact ⟨rfl,below_on hb hb2⟩)
   have HC2: Hid (∀ W,Below w1.heap.size w1 W -> Calls Try.prog 107 #[.slice t.a t.cols.length t.c] W fun e w2 => ∃ a' c',e = .returned (.slice a' t.cols.length c') /\ Hid (Below w1.heap.size w1 w2) /\ Hid (Rw.SlG colC 4 w2 a' t.cols /\ (a' = none -> c' = 0) /\ ∀ b o,a' = some ⟨b,o,none⟩ -> w1.heap.size <= b) /\ (w2.cell? ⟨w.heap.size + 1,0,none⟩ = some (.string ⟨#[]⟩) /\ w2.cell? ⟨w.heap.size + 1,1,none⟩ = some (.slice none 0 0) /\ w2.frozen? ⟨w.heap.size + 1,0,none⟩ = false /\ w2.frozen? ⟨w.heap.size + 1,1,none⟩ = false)) := fun W hb => (kcolumns_walk (HS.out W (below_on HB.out hb)) hto.2.1 hto.2.2).mono (by
    rintro e w2 ⟨a',c',rfl,hS2,hn2,hlo,hb2⟩
    have hb3 := below_on hb hb2
    have hz := tbox HZ.out hb3
    exact ⟨a',c',rfl,hb3,⟨hS2,hn2,fun b o e => by have := hlo b o e; have := hb.size; omega⟩,hz.1,hz.2.1,hz.2.2.1,hz.2.2.2.1⟩)
   have KS: Hid (∀ W,Below (w.heap.size + 1) w1 W -> (W.cell? ⟨b,o + j * 2,none⟩ = some (.string t.name) /\ W.cell? ⟨b,o + j * 2 + 1,none⟩ = some (.slice t.a t.cols.length t.c))) := fun W hW => by
    refine ⟨?_, ?_⟩ <;> rw [hW.cell (by simp; omega)] <;> assumption
   have hw1: w.heap.size + 1 < w1.heap.size := z4
   clear hcs hj HOk HL HS HX HR z0 z1 z2 z3 hb
   go_wp2_with fail
   go_region_held (fun W => W.cell? ⟨b,o + j * 2,none⟩ = some (.string t.name) /\ W.cell? ⟨b,o + j * 2 + 1,none⟩ = some (.slice t.a t.cols.length t.c)) (exact KS.out _ (by with_reducible (first
    | exact (Below.refl _ _).drew
    | exact HBb.out.mono (Nat.le_of_lt hw1)
    | exact below_set2 (Nat.le_refl _) (HBb.out.mono (Nat.le_of_lt hw1)) _ _))) (first
    | (go_at_call 49
       refine (HC1.out _ (by with_reducible (first | exact (Below.refl _ _).drew | exact HBb.out))).mono ?_
       rintro e w2 ⟨rfl,HBb⟩)
    | (go_at_call 107
       refine (HC2.out _ (by with_reducible (first | exact (Below.refl _ _).drew | exact HBb.out))).mono ?_
       rintro e w3 ⟨a',c',rfl,HBb,HCs,z0,z1,z2,z3⟩))
   have HS3 := Rw.dh (fun u0 u1 => slg_set2 HCs.out.1 (p := w.heap.size + 1) (fun b o e => by have := HCs.out.2.2 b o e; omega) u0 u1)
   have HLo: Hid (∀ b o,a' = some ⟨b,o,none⟩ -> w.heap.size <= b) := fun b o e => by have := HCs.out.2.2 b o e; omega
   have HB3 := Rw.dh (below_on HB.out HBb.out)
   go_wp2
   exact bodyPost_ret (v := .tuple #[.agg #[.string t.name, .slice a' t.cols.length c'], .int .i64 0]) (by simp [results,Try.results73,go_sem,z0,z1]) rfl ⟨below_set2 (by omega) HB3.out _ _,Or.inr ⟨t,a',c',rfl,rfl,HS3.out _ _,HCs.out.2.1,HLo.out⟩⟩
def tabO (l: List TabL) (s: SrcL) (own: ByteArray): Option TabL := if s.k == 0 then findTab l s.t else if own.toList == [] then none else if (transB s.k).toList == [] then none else findTab l own
theorem tableOf_walk {l: List TabL} (s: SrcL) (own: ByteArray) {a: Option Addr} {c: Nat} {w: World} (hl: TabsIn w a l) (hok: TabsOk l) :
 Calls Try.prog 46 #[.slice a l.length c,srcV s, .string own] w (FoundP (tabO l s own) w) := by
 have HF := Rw.dh (fun x W (hb: Below w.heap.size w W) => ktfind_walk x (c := c) (hl.on hb) hok)
 have HK := Rw.dh (fun k W => trans_walk k W)
 obtain ⟨k,t,v⟩ := s
 have HR: Hid (tabO l ⟨k,t,v⟩ own = if k == 0 then findTab l t else if own.toList == [] then none else if (transB k).toList == [] then none else findTab l own) := rfl
 clear hl hok
 generalize tabO l ⟨k,t,v⟩ own = R at *
 unfold srcV
 dsimp only
 have fin: ∀ P: Prop,((k == 0) = true -> R = findTab l t -> P) -> ((k == 0) = false -> (own.toList == []) = true -> R = none -> P) -> ((k == 0) = false -> (own.toList == []) = false -> ((transB k).toList == []) = true -> R = none -> P) -> ((k == 0) = false -> (own.toList == []) = false -> ((transB k).toList == []) = false -> R = findTab l own -> P) -> P := by
  intro P f1 f2 f3 f4
  have hR := HR.out
  cases h1: (k == 0)
  · cases h2: (own.toList == [])
    · cases h3: ((transB k).toList == [])
      · exact f4 h1 h2 h3 (by rw [hR,h1,h2,h3]; rfl)
      · exact f3 h1 h2 h3 (by rw [hR,h1,h2,h3]; rfl)
    · exact f2 h1 h2 (by rw [hR,h1,h2]; rfl)
  · exact f1 h1 (by rw [hR,h1]; rfl)
 clear HR
 have hbx := below_two w (.cells #[.int .i64 k, .string t, .string v] 61) (.cells #[.string ⟨#[]⟩, .slice none 0 0] 89)
 have hz0 := heap_two w (.cells #[.int .i64 k, .string t, .string v] 61) (.cells #[.string ⟨#[]⟩, .slice none 0 0] 89)
 apply fin
 · intro h1 hR
   subst hR
   clear fin
   have HB0 := Rw.dh hbx
   have HZ0 := Rw.dh hz0
   clear hbx hz0
   go_enter Try.func46,Try.ntmps46
   go_wp2_with fail
   refine (HF.out t _ HB0.out).mono ?_
   rintro e w1 ⟨hb,hW⟩
   have HB := Rw.dh (below_on HB0.out hb)
   obtain ⟨z0,z1,z2,z3,z4⟩ := tbox HZ0.out hb
   clear hb HB0 HZ0 HF
   rcases hW with ⟨h,rfl⟩ | ⟨x,a',c',h,rfl,hS,hn,hlo⟩
   · go_wp2
     exact bodyPost_ret (v := .tuple #[.agg #[.string ⟨#[]⟩, .slice none 0 0], .int .i64 2]) (by simp [results,Try.results46,go_sem,z0,z1]) rfl ⟨below_set2 (by omega) HB.out _ _,Or.inl ⟨h,rfl⟩⟩
   · have HS := Rw.dh (fun u0 u1 => slg_set2 hS (p := w.heap.size + 1) (fun b o e => by have := hlo b o e; simp at this; omega) u0 u1)
     have HLo: Hid (∀ b o,a' = some ⟨b,o,none⟩ -> w.heap.size <= b) := fun b o e => by have := hlo b o e; simp at this; omega
     clear hS hlo
     go_wp2
     exact bodyPost_ret (v := .tuple #[.agg #[.string x.name, .slice a' x.cols.length c'], .int .i64 0]) (by simp [results,Try.results46,go_sem,z0,z1]) rfl ⟨below_set2 (by omega) HB.out _ _,Or.inr ⟨x,a',c',h,rfl,HS.out _ _,hn,HLo.out⟩⟩
 · intro h1 h2 hR
   subst hR
   clear fin HF
   have HB0 := Rw.dh hbx
   obtain ⟨z0,z1,z2,z3,z4⟩ := tbox hz0 (Below.refl _ _)
   go_enter Try.func46,Try.ntmps46
   go_wp2
   exact bodyPost_ret (v := .tuple #[.agg #[.string ⟨#[]⟩, .slice none 0 0], .int .i64 2]) (by simp [results,Try.results46,go_sem,z0,z1]) rfl ⟨HB0.out,Or.inl ⟨rfl,rfl⟩⟩
 · intro h1 h2 h3 hR
   subst hR
   clear fin HF
   have HB0 := Rw.dh hbx
   obtain ⟨z0,z1,z2,z3,z4⟩ := tbox hz0 (Below.refl _ _)
   go_enter Try.func46,Try.ntmps46
   go_wp2_with (go_at_call 74; refine (HK.out _ _).mono ?_; rintro e w' ⟨rfl,rfl⟩)
   exact bodyPost_ret (v := .tuple #[.agg #[.string ⟨#[]⟩, .slice none 0 0], .int .i64 2]) (by simp [results,Try.results46,go_sem,z0,z1]) rfl ⟨HB0.out,Or.inl ⟨rfl,rfl⟩⟩
 · intro h1 h2 h3 hR
   subst hR
   clear fin
   have HB0 := Rw.dh hbx
   have HZ0 := Rw.dh hz0
   clear hbx hz0
   go_enter Try.func46,Try.ntmps46
   go_wp2_with (go_at_call 74; refine (HK.out _ _).mono ?_; rintro e w' ⟨rfl,rfl⟩)
   refine (HF.out own _ HB0.out).mono ?_
   rintro e w1 ⟨hb,hW⟩
   have HB := Rw.dh (below_on HB0.out hb)
   obtain ⟨z0,z1,z2,z3,z4⟩ := tbox HZ0.out hb
   clear hb HB0 HZ0 HF
   rcases hW with ⟨h,rfl⟩ | ⟨x,a',c',h,rfl,hS,hn,hlo⟩
   · go_wp2
     exact bodyPost_ret (v := .tuple #[.agg #[.string ⟨#[]⟩, .slice none 0 0], .int .i64 2]) (by simp [results,Try.results46,go_sem,z0,z1]) rfl ⟨below_set2 (by omega) HB.out _ _,Or.inl ⟨h,rfl⟩⟩
   · have HS := Rw.dh (fun u0 u1 => slg_set2 hS (p := w.heap.size + 1) (fun b o e => by have := hlo b o e; simp at this; omega) u0 u1)
     have HLo: Hid (∀ b o,a' = some ⟨b,o,none⟩ -> w.heap.size <= b) := fun b o e => by have := hlo b o e; simp at this; omega
     clear hS hlo
     go_wp2
     exact bodyPost_ret (v := .tuple #[.agg #[.string x.name, .slice a' x.cols.length c'], .int .i64 0]) (by simp [results,Try.results46,go_sem,z0,z1]) rfl ⟨below_set2 (by omega) HB.out _ _,Or.inr ⟨x,a',c',h,rfl,HS.out _ _,hn,HLo.out⟩⟩
end Go.Proofs.Ytdaikppppkbfoaa
