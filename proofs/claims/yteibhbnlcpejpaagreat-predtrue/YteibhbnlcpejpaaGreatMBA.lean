import Derived.Lib.LazyBuf
import Derived.Test.YteibhbnlcpejpaaGreatMAZ
import Derived.Test.YteibhbnlcpejpaaGreatMAR
set_option maxRecDepth 100000
set_option maxHeartbeats 4000000
namespace Go.Proofs.YteibhbnlcpejpaaGreat
open Go.RowKit
structure SrcL where
 k: Int
 t: ByteArray
 v: ByteArray
def srcC (s: SrcL): List Value := [.int .i64 s.k, .string s.t, .string s.v]
theorem srcC_len (s: SrcL): (srcC s).length = 3 := rfl
def srcV (s: SrcL): Value := .agg #[.int .i64 s.k, .string s.t, .string s.v]
def SrcOk (s: SrcL): Prop := s.t.size <= 140737488355328 /\ s.v.size <= 140737488355328
structure TabL where
 name: ByteArray
 a: Option Addr
 c: Nat
 cols: List Col
def tabC (t: TabL): List Value := [.string t.name, .slice t.a t.cols.length t.c]
theorem tabC_len (t: TabL): (tabC t).length = 2 := rfl
def ColsOk (l: List Col): Prop := l.length <= 1048576 /\ ∀ c ∈ l,c.s.size <= 140737488355328
def TabOk (t: TabL): Prop := t.name.size <= 140737488355328 /\ ColsOk t.cols /\ (t.a = none -> t.c = 0)
def colC (c: Col): List Value := [.string c.s, .int .i64 c.t, .bool c.nn, .bool c.uq]
theorem colC_len (c: Col): (colC c).length = 4 := rfl
theorem colC_one (c: Col): ∀ u ∈ colC c,u.oneCell' = true := by
 intro u hu
 simp only [colC,List.mem_cons,List.not_mem_nil,or_false] at hu
 rcases hu with rfl | rfl | rfl | rfl <;> rfl
theorem slC_slg {W: World} {a: Option Addr} {l: List Col} (h: Rw.SlG colC 4 W a l): SlC W a l := by
 rcases h with h | ⟨b,o,e,hlt,hc⟩
 · exact Or.inl h
 · refine Or.inr ⟨b,o,e,hlt,fun j c hj => ⟨?_, ?_, ?_, ?_⟩⟩
   · simpa using hc j c hj 0 _ rfl
   · simpa using hc j c hj 1 _ rfl
   · simpa using hc j c hj 2 _ rfl
   · simpa using hc j c hj 3 _ rfl
def varC (v: VarL): List Value := [.string v.name, .int .i64 v.sk, .string v.st, .string v.sv, .slice v.a v.cols.length v.c]
theorem varC_len (v: VarL): (varC v).length = 5 := rfl
theorem varC_one (v: VarL): ∀ u ∈ varC v,u.oneCell' = true := by
 intro u hu
 simp only [varC,List.mem_cons,List.not_mem_nil,or_false] at hu
 rcases hu with rfl | rfl | rfl | rfl | rfl <;> rfl
def varV (v: VarL): Value := .agg #[.string v.name, .int .i64 v.sk, .string v.st, .string v.sv, .slice v.a v.cols.length v.c]
def wINS: ByteArray := ⟨#[105,110,115,101,114,116,101,100]⟩
def wDEL: ByteArray := ⟨#[100,101,108,101,116,101,100]⟩
def wOLD: ByteArray := ⟨#[111,108,100]⟩
def wNEW: ByteArray := ⟨#[110,101,119]⟩
def transB (k: Int): ByteArray := if k == 1 then wINS else if k == 2 then wDEL else if k == 3 then wOLD else if k == 4 then wNEW else ⟨#[]⟩
theorem trans_walk (k: Int) (w: World): Calls Tryz.prog 120 #[.int .i64 k] w fun e w' => e = .returned (.string (transB k)) /\ w' = w := by
 by_cases h1: k = 1
 · subst h1
   go_enter Tryz.func120,Tryz.ntmps120
   go_wp2
   go_ret
   exact ⟨rfl,rfl⟩
 by_cases h2: k = 2
 · subst h2
   go_enter Tryz.func120,Tryz.ntmps120
   go_wp2
   go_ret
   exact ⟨rfl,rfl⟩
 by_cases h3: k = 3
 · subst h3
   go_enter Tryz.func120,Tryz.ntmps120
   go_wp2
   go_ret
   exact ⟨rfl,rfl⟩
 by_cases h4: k = 4
 · subst h4
   go_enter Tryz.func120,Tryz.ntmps120
   go_wp2
   go_ret
   exact ⟨rfl,rfl⟩
 have e1: (k == 1) = false := beq_eq_false_iff_ne.2 h1
 have e2: (k == 2) = false := beq_eq_false_iff_ne.2 h2
 have e3: (k == 3) = false := beq_eq_false_iff_ne.2 h3
 have e4: (k == 4) = false := beq_eq_false_iff_ne.2 h4
 have HE: Hid (transB k = ⟨#[]⟩) := by unfold transB; rw [e1,e2,e3,e4]; rfl
 clear h1 h2 h3 h4
 go_enter Tryz.func120,Tryz.ntmps120
 go_wp2
 go_ret
 exact ⟨(by rw [HE.out]; rfl),rfl⟩
theorem transB_size (k: Int): (transB k).size <= 8 := by
 unfold transB
 repeat' split
 all_goals decide
theorem kclone_walk (s: ByteArray) (w: World) (h: s.size <= 140737488355328): Calls Tryz.prog 85 #[.string s] w fun e w' => e = .returned (.string s) /\ Below w.heap.size w w' := by
 have HC := Tryz.stringslite_Clone s w (by omega)
 go_enter Tryz.func85,Tryz.ntmps85
 go_wp2_with (go_at_call 123; refine HC.mono ?_; rintro e w' ⟨rfl,hb⟩)
 go_ret
 exact ⟨rfl,hb⟩
def nameO (s: SrcL): ByteArray := if s.v.toList == [] then (if s.k == 0 then s.t else transB s.k) else s.v
theorem nameOf_walk (s: SrcL) (hs: SrcOk s) (w: World): Calls Tryz.prog 83 #[srcV s] w fun e w' => e = .returned (.string (nameO s)) /\ Below w.heap.size w w' := by
 obtain ⟨k,t,v⟩ := s
 have HT := Rw.dh (fun W => kclone_walk t W hs.1)
 have HV := Rw.dh (fun W => kclone_walk v W hs.2)
 have HK := Rw.dh (fun W => trans_walk k W)
 unfold srcV
 dsimp only
 cases h1: (v.toList == [])
 · have HE: Hid (nameO ⟨k,t,v⟩ = v) := by unfold nameO; rw [h1]; rfl
   have h1': (v.toList != []) = true := by simp [bne,h1]
   go_enter Tryz.func83,Tryz.ntmps83
   go_wp2_with fail
   refine (HV.out _).mono ?_
   rintro e w1 ⟨rfl,hb⟩
   have HB := Rw.dh (below_on (Rw.below_alloc _ _) hb)
   clear hb
   go_wp2
   go_ret
   exact ⟨(by rw [HE.out]; rfl),HB.out⟩
 · have h1': (v.toList != []) = false := by simp [bne,h1]
   cases h2: (k == 0)
   · have HE: Hid (nameO ⟨k,t,v⟩ = transB k) := by unfold nameO; simp only [h1,h2]; rfl
     go_enter Tryz.func83,Tryz.ntmps83
     go_wp2_with fail
     refine (HK.out _).mono ?_
     rintro e w1 ⟨rfl,hw1⟩
     have HB := Rw.dh (hw1 ▸ Rw.below_alloc w _)
     clear hw1
     go_wp2
     go_ret
     exact ⟨(by rw [HE.out]; rfl),HB.out⟩
   · have HE: Hid (nameO ⟨k,t,v⟩ = t) := by unfold nameO; simp only [h1,h2]; rfl
     go_enter Tryz.func83,Tryz.ntmps83
     go_wp2_with fail
     refine (HT.out _).mono ?_
     rintro e w1 ⟨rfl,hb⟩
     have HB := Rw.dh (below_on (Rw.below_alloc _ _) hb)
     clear hb
     go_wp2
     go_ret
     exact ⟨(by rw [HE.out]; rfl),HB.out⟩
theorem named1_walk (v: VarL) (s: ByteArray) (g: Nat) {w: World} (hg: g < w.heap.size) (hc: w.cell? ⟨g,0,none⟩ = some (.string s)) :
 Calls Tryz.prog 122 #[varV v, .pointer (some ⟨g,0,none⟩)] w fun e w' => e = .returned (.bool (eqS v.name s)) /\ Below w.heap.size w w' := by
 obtain ⟨nm,sk,st,sv,a,c,cols⟩ := v
 unfold varV
 dsimp only
 go_enter Tryz.func122,Tryz.ntmps122
 go_wp2
 go_ret
 exact ⟨rfl,Rw.below_alloc _ _⟩
theorem namedI_at {l: List VarL} {s: ByteArray} {k: Nat} (hk: k < l.length) (h: (l.take k).any (fun v => eqS v.name s) = false) (he: eqS l[k].name s = true): namedI l s = k := by
 have: l.findIdx? (fun v => eqS v.name s) = some k := by
  rw [List.findIdx?_eq_some_iff_getElem]
  refine ⟨hk,he,fun j hj => ?_⟩
  have h' := List.any_eq_false.1 h (l[j]'(by omega)) (by
   rw [List.mem_take_iff_getElem]
   exact ⟨j,by omega,rfl⟩)
  simpa using h'
 unfold namedI; rw [this]
theorem namedI_none {l: List VarL} {s: ByteArray} {k: Nat} (hk: l.length <= k) (h: (l.take k).any (fun v => eqS v.name s) = false): namedI l s = -1 := by
 rw [List.take_of_length_le hk] at h
 have: l.findIdx? (fun v => eqS v.name s) = none := by
  rw [List.findIdx?_eq_none_iff]
  intro x hx
  have := List.any_eq_false.1 h x hx
  simpa using this
 unfold namedI; rw [this]
theorem kany_snoc {α: Type} {l: List α} {p: α -> Bool} {k: Nat} {x: α} (hx: l[k]? = some x) (h: (l.take k).any p = false) (hp: p x = false): (l.take (k + 1)).any p = false := by
 rw [List.take_add_one,hx,List.any_append,h]; simp [hp]
theorem idxv_walk (l: List VarL) (s: ByteArray) {a: Option Addr} {c g: Nat} {w: World} (hl: Rw.SlG varC 5 w a l) (h1: l.length <= 1048576) (hg: g < w.heap.size) (hc: w.cell? ⟨g,0,none⟩ = some (.string s)) :
 Calls Tryz.prog 121 #[.slice a l.length c, .func (.func 122) #[] #[.pointer (some ⟨g,0,none⟩)]] w fun e w' => e = .returned (.int .i64 (namedI l s)) /\ Below w.heap.size w w' := by
 have HL := Rw.dh hl
 clear hl
 go_enter Tryz.func121,Tryz.ntmps121
 go_wp2
 go_loopw [8] (fun i wx => ∃ k: Nat,k <= l.length /\ i = .int .i64 k /\ Below w.heap.size w wx /\ Hid ((l.take k).any (fun v => eqS v.name s) = false)) (fun i _ => l.length - (intOf i).toNat)
 case atStart => exact ⟨0,Nat.zero_le _,rfl,Below.refl _ _,by simp [Hid]⟩
 case round =>
  obtain ⟨k,hk,rfl,HB,HF⟩ := hrel
  by_cases hlt: k < l.length
  · obtain ⟨b,o,v,rfl,hb,hx,hcs⟩ := (HL.out.below HB).at hlt
    have HA := Rw.dh (fun (he: eqS v.name s = false) => kany_snoc hx HF.out he)
    have HT: Hid (eqS v.name s = true -> namedI l s = k) := fun he => namedI_at hlt HF.out (by
     have: l[k] = v := (List.getElem?_eq_some_iff.1 hx).2
     rw [this]; exact he)
    have C1 := named1_walk v s g (w := wr) (by have := HB.size; omega) (by rw [HB.cell (p := ⟨g,0,none⟩) hg]; exact hc)
    have c0: wr.cell? ⟨b,o + k * 5,none⟩ = some (.string v.name) := hcs 0 _ rfl
    have c1: wr.cell? ⟨b,o + k * 5 + 1,none⟩ = some (.int .i64 v.sk) := hcs 1 _ rfl
    have c2: wr.cell? ⟨b,o + k * 5 + 2,none⟩ = some (.string v.st) := hcs 2 _ rfl
    have c3: wr.cell? ⟨b,o + k * 5 + 3,none⟩ = some (.string v.sv) := hcs 3 _ rfl
    have c4: wr.cell? ⟨b,o + k * 5 + 4,none⟩ = some (.slice v.a v.cols.length v.c) := hcs 4 _ rfl
    clear hcs hx
    unfold varV at C1
    go_wp2_with fail
    refine C1.mono ?_
    rintro e w1 ⟨rfl,B1⟩
    have HB1 := Rw.dh (HB.trans (B1.mono HB.size))
    clear C1 B1 HB c0 c1 c2 c3 c4 hb
    cases he: eqS v.name s
    · go_wp2
      go_roundw
      case rel => exact ⟨k + 1,hlt,by go_num,HB1.out,HA.out he⟩
      case measure => simp [intOf]; omega
    · go_wp2
      go_ret
      exact ⟨Rw.ret_int (HT.out he).symm,HB1.out⟩
  · have hlt': (l.length: Int) <= (k: Int) := by omega
    go_wp2
    go_ret
    exact ⟨Rw.ret_int (namedI_none (by omega) HF.out).symm,HB⟩
theorem named_walk (l: List VarL) (s: ByteArray) {a: Option Addr} {c: Nat} {w: World} (hl: Rw.SlG varC 5 w a l) (h1: l.length <= 1048576) :
 Calls Tryz.prog 84 #[.slice a l.length c, .string s] w fun e w' => e = .returned (.int .i64 (namedI l s)) /\ Below w.heap.size w w' := by
 have hmf: ∀ (fn: Fn) (first cap: Array Value) (w: World),(Instr.makeFunc fn first cap).run Tryz.prog w = .ok (.func fn first cap) w := fun _ _ _ _ => rfl
 have C1 := idxv_walk l s (c := c) (g := w.heap.size) (w := w.alloc (.cells #[.string s] 9)) (hl.below (Rw.below_alloc _ _)) h1 (by simp) (by simp [go_sem])
 go_enter Tryz.func84,Tryz.ntmps84
 go_wp2_with fail
 refine C1.mono ?_
 rintro e w1 ⟨rfl,B1⟩
 have HB := (Rw.below_alloc w (.cells #[.string s] 9)).trans (B1.mono (by simp))
 clear C1 B1
 go_wp2
 go_ret
 exact ⟨rfl,HB⟩
theorem infoCol: (Tryz.prog.info? 138).map (fun i => (i.zero,i.size,i.bytes)) = some (some (colVS ⟨⟨#[]⟩,0,false,false⟩),4,32) := by kernel_rfl
theorem cclone_walk {l: List Col} {a: Option Addr} {c: Nat} {w: World} (hl: Rw.SlG colC 4 w a l) (h1: l.length <= 1048576) (hc: a = none -> c = 0) :
 Calls Tryz.prog 199 #[.slice a l.length c] w fun e w' => ∃ v,e = .returned v /\ w'.ownsRow w.heap.size 138 4 v l.length (Rw.flat colC l) /\ Below w.heap.size w w' := by
 have hsrc: Rw.Src w a l.length c (Rw.flat colC l) := hl.src colC_len (by decide) rfl hc
 have hfl: (Rw.flat colC l).length = l.length * 4 := Rw.flat_length colC_len l
 have HF := Rw.dh hfl
 cases a with
 | none =>
  have hl0: l = [] := by
   rcases hl with h | ⟨b,o,e,_⟩
   · exact h
   · cases e
  subst hl0
  obtain rfl := hc rfl
  have heq: ∀ w: World,(binOp .eql 37 (.slice none 0 0) (.slice none 0 0)).run Tryz.prog w = .ok (.bool true) w := fun w => run_eql_slice_nil w 37 138 none 0 0 Tryz.underlying37
  go_enter Tryz.func199,Tryz.ntmps199
  go_wp2
  go_ret
  exact ⟨_,rfl,World.ownsRow_nil _ _ _ _,Below.refl _ _⟩
 | some ad =>
  have HS := Rw.dh hsrc
  have HO: Hid (∀ u ∈ Rw.flat colC l,u.oneCell' = true) := Rw.flat_one colC_one
  clear hsrc hl hc hfl
  generalize Rw.flat colC l = xs at *
  generalize l.length = n at *
  have heq: ∀ w: World,(binOp .eql 37 (.slice (some ad) n c) (.slice none 0 0)).run Tryz.prog w = .ok (.bool false) w := fun w => run_eql_slice_nil w 37 138 (some ad) n c Tryz.underlying37
  go_enter Tryz.func199,Tryz.ntmps199
  go_wp2_with (at_builtin; revert HS)
  intro HS
  have o1: (w.alloc (.cells #[] 138)).ownsRow w.heap.size 138 4 (.slice (some ⟨w.heap.size,0,none⟩) 0 0) 0 [] := Rw.own_new (Rw.heap_new _ _) (Nat.le_refl _)
  have s1: Rw.Src (w.alloc (.cells #[] 138)) (some ad) n c xs := by
   rcases HS.out with ⟨h,_⟩ | ⟨ad',h,hcs⟩
   · cases h
   · cases h
     exact Or.inr ⟨ad,rfl,fun j u hu => by
      have h0 := hcs j u hu
      rw [(Rw.below_alloc w _).cell (World.block_lt_of_cell? _ _ h0)]
      exact h0⟩
  refine append_bigN Tryz.underlying37 infoCol rfl (by decide) rfl _ _ rfl w.heap.size (by simp) _ 0 [] rfl o1 _ n c xs rfl s1 HF.out HO.out (by unfold maxLen; omega) (by omega) ?_
  intro v2 W2 O2 G2 hv2
  have HB: Hid (Below w.heap.size w W2) := (Rw.below_alloc w _).grown G2 (by simp) fun p hp => (o1.lt p hp).1
  have HR: Hid (W2.ownsRow w.heap.size 138 4 v2 n xs) := by rw [Hid]; simpa using O2
  clear O2 G2 hv2 o1 s1
  go_wp2
  go_ret
  exact ⟨v2,rfl,HR.out,HB.out⟩
theorem kcolumns_walk {l: List Col} {a: Option Addr} {c: Nat} {w: World} (hl: Rw.SlG colC 4 w a l) (hok: ColsOk l) (hc: a = none -> c = 0) :
 Calls Tryz.prog 170 #[.slice a l.length c] w fun e w' => ∃ a' c',e = .returned (.slice a' l.length c') /\ Rw.SlG colC 4 w' a' l /\ (a' = none -> c' = 0) /\ (∀ b o,a' = some ⟨b,o,none⟩ -> w.heap.size <= b) /\ Below w.heap.size w w' := by
 have C1 := cclone_walk hl hok.1 hc
 have HK := Rw.dh (fun k (hk: k ∈ l) W => kclone_walk k.s W (hok.2 k hk))
 have h1 := hok.1
 clear hl hc hok
 go_enter Tryz.func170,Tryz.ntmps170
 go_wp2_with fail
 refine C1.mono ?_
 rintro e w1 ⟨v,rfl,hO,hB⟩
 obtain ⟨a',c',rfl⟩ := Rw.owns_slice hO
 have HO := Rw.dh hO
 have HB := Rw.dh hB
 clear C1 hO hB
 go_wp2_with fail
 go_loopw [8] (fun i wr => ∃ j: Nat,j <= l.length /\ i = .int .i64 (j: Int) /\ Hid (Below w.heap.size w wr /\ wr.ownsRow w.heap.size 138 4 (.slice a' l.length c') l.length (Rw.flat colC l))) (fun i _ => l.length - (intOf i).toNat)
 case atStart => exact ⟨0,Nat.zero_le _,rfl,HB.out,HO.out⟩
 case round =>
  obtain ⟨j,hj,rfl,HR⟩ := hrel
  clear HO HB
  by_cases hlt: j < l.length
  · have hx := List.getElem?_eq_getElem hlt
    generalize l[j] = k at hx
    have hkm := List.mem_of_getElem? hx
    rcases Rw.owns_addr HR.out.2 with ⟨_,h0,_⟩ | ⟨g,rfl⟩
    · omega
    have c0: wr.cell? ⟨g,j * 4,none⟩ = some (.string k.s) := by simpa using Rw.own_at colC_len HR.out.2 hx (i := 0) rfl
    have hg := Rw.own_fro HR.out.2 (j * 4)
    have hK := HK.out k hkm wr
    go_wp2_with fail
    refine hK.mono ?_
    clear hK
    rintro e w2 ⟨rfl,hb⟩
    have hO2 := Rw.owns_on HR.out.2 hb
    have f0 := (Rw.own_fro hO2 (j * 4)).1
    have f1 := (Rw.own_fro hO2 (j * 4)).2
    have d0: w2.cell? ⟨g,j * 4,none⟩ = some (.string k.s) := by simpa using Rw.own_at colC_len hO2 hx (i := 0) rfl
    have HR2: Hid (Below w.heap.size w (w2.setCell ⟨g,j * 4,none⟩ (.string k.s)) /\ (w2.setCell ⟨g,j * 4,none⟩ (.string k.s)).ownsRow w.heap.size 138 4 (.slice (some ⟨g,0,none⟩) l.length c') l.length (Rw.flat colC l)) := by
     refine ⟨(below_on HR.out.1 hb).setCell (hO2.lt g rfl).1 _, ?_⟩
     have h := Rw.own_set hO2 (j * 4) (.string k.s)
     have h2: (Rw.flat colC l)[j * 4]? = some (.string k.s) := by simpa using Rw.flat_at colC_len l j k hx 0 _ rfl
     have h3: (Rw.flat colC l).set (j * 4) (.string k.s) = Rw.flat colC l := by
      obtain ⟨h4,h5⟩ := List.getElem?_eq_some_iff.1 h2
      rw [<- h5]; exact List.set_getElem_self h4
     rw [h3] at h
     exact h
    clear hb hO2 HR c0 hg hx hkm
    go_wp2
    go_roundw
    case rel => exact ⟨j + 1,hlt,by go_num,HR2⟩
    case measure => simp [intOf]; omega
  · have hjs: j = l.length := by omega
    subst hjs
    have hs := Rw.owns_slg colC_len (by decide) HR.out.2
    have HE := Rw.dh (And.intro hs.2.1 hs.2.2)
    have HLo: Hid (∀ b o,a' = some ⟨b,o,none⟩ -> w.heap.size <= b) := fun b o e => by
     rcases Rw.owns_addr HR.out.2 with ⟨h,_,_⟩ | ⟨g,h⟩
     · rw [h] at e; cases e
     · have hl := (HR.out.2.lt g (by rw [h]; rfl)).1
       rw [h] at e; cases e; exact hl
    clear hs
    go_wp2
    go_ret
    exact ⟨a',c',rfl,HE.out.1,HE.out.2,HLo.out,HR.out.1⟩
structure TabsIn (w: World) (a: Option Addr) (l: List TabL): Prop where
 rows: Rw.SlG tabC 2 w a l
 cols: ∀ t ∈ l,Rw.SlG colC 4 w t.a t.cols
theorem TabsIn.on {w W: World} {a: Option Addr} {l: List TabL} (h: TabsIn w a l) (hb: Below w.heap.size w W): TabsIn W a l := ⟨h.rows.below hb,fun t ht => (h.cols t ht).below hb⟩
def TabsOk (l: List TabL): Prop := l.length <= 1048576 /\ ∀ t ∈ l,TabOk t
def findTI (l: List TabL) (s: ByteArray): Int := match l.findIdx? (fun t => eqS t.name s) with
 | some i => i
 | none => -1
theorem findTI_at {l: List TabL} {s: ByteArray} {k: Nat} (hk: k < l.length) (h: (l.take k).any (fun v => eqS v.name s) = false) (he: eqS l[k].name s = true): findTI l s = k := by
 have: l.findIdx? (fun v => eqS v.name s) = some k := by
  rw [List.findIdx?_eq_some_iff_getElem]
  refine ⟨hk,he,fun j hj => ?_⟩
  have h' := List.any_eq_false.1 h (l[j]'(by omega)) (by
   rw [List.mem_take_iff_getElem]
   exact ⟨j,by omega,rfl⟩)
  simpa using h'
 unfold findTI; rw [this]
theorem findTI_none {l: List TabL} {s: ByteArray} {k: Nat} (hk: l.length <= k) (h: (l.take k).any (fun v => eqS v.name s) = false): findTI l s = -1 := by
 rw [List.take_of_length_le hk] at h
 have: l.findIdx? (fun v => eqS v.name s) = none := by
  rw [List.findIdx?_eq_none_iff]
  intro x hx
  have := List.any_eq_false.1 h x hx
  simpa using this
 unfold findTI; rw [this]
theorem findTI_lt {l: List TabL} {s: ByteArray} (h: ¬ findTI l s < 0): ∃ j t,findTI l s = (j: Nat) /\ l[j]? = some t := by
 unfold findTI at h ⊢
 cases hf: l.findIdx? (fun t => eqS t.name s) with
 | none => rw [hf] at h; exact absurd (by decide: (-1: Int) < 0) h
 | some i =>
  obtain ⟨hi,_⟩ := List.findIdx?_eq_some_iff_getElem.1 hf
  exact ⟨i,l[i],rfl,List.getElem?_eq_getElem hi⟩
def findTab (l: List TabL) (s: ByteArray): Option TabL := if findTI l s < 0 then none else l[(findTI l s).toNat]?
theorem find1t_walk (v: TabL) (s: ByteArray) (g: Nat) {w: World} (hg: g < w.heap.size) (hc: w.cell? ⟨g,0,none⟩ = some (.string s)) :
 Calls Tryz.prog 169 #[.agg #[.string v.name, .slice v.a v.cols.length v.c], .pointer (some ⟨g,0,none⟩)] w fun e w' => e = .returned (.bool (eqS v.name s)) /\ Below w.heap.size w w' := by
 obtain ⟨nm,a,c,cols⟩ := v
 dsimp only
 go_enter Tryz.func169,Tryz.ntmps169
 go_wp2
 go_ret
 exact ⟨rfl,Rw.below_alloc _ _⟩
theorem idxt_walk (l: List TabL) (s: ByteArray) {a: Option Addr} {c g: Nat} {w: World} (hl: Rw.SlG tabC 2 w a l) (h1: l.length <= 1048576) (hg: g < w.heap.size) (hc: w.cell? ⟨g,0,none⟩ = some (.string s)) :
 Calls Tryz.prog 168 #[.slice a l.length c, .func (.func 169) #[] #[.pointer (some ⟨g,0,none⟩)]] w fun e w' => e = .returned (.int .i64 (findTI l s)) /\ Below w.heap.size w w' := by
 have HL := Rw.dh hl
 clear hl
 go_enter Tryz.func168,Tryz.ntmps168
 go_wp2
 go_loopw [8] (fun i wx => ∃ k: Nat,k <= l.length /\ i = .int .i64 k /\ Below w.heap.size w wx /\ Hid ((l.take k).any (fun v => eqS v.name s) = false)) (fun i _ => l.length - (intOf i).toNat)
 case atStart => exact ⟨0,Nat.zero_le _,rfl,Below.refl _ _,by simp [Hid]⟩
 case round =>
  obtain ⟨k,hk,rfl,HB,HF⟩ := hrel
  by_cases hlt: k < l.length
  · obtain ⟨b,o,v,rfl,hb,hx,hcs⟩ := (HL.out.below HB).at hlt
    have HA := Rw.dh (fun (he: eqS v.name s = false) => kany_snoc hx HF.out he)
    have HT: Hid (eqS v.name s = true -> findTI l s = k) := fun he => findTI_at hlt HF.out (by
     have: l[k] = v := (List.getElem?_eq_some_iff.1 hx).2
     rw [this]; exact he)
    have C1 := find1t_walk v s g (w := wr) (by have := HB.size; omega) (by rw [HB.cell (p := ⟨g,0,none⟩) hg]; exact hc)
    have c0: wr.cell? ⟨b,o + k * 2,none⟩ = some (.string v.name) := hcs 0 _ rfl
    have c1: wr.cell? ⟨b,o + k * 2 + 1,none⟩ = some (.slice v.a v.cols.length v.c) := hcs 1 _ rfl
    clear hcs hx
    go_wp2_with fail
    refine C1.mono ?_
    rintro e w1 ⟨rfl,B1⟩
    have HB1 := Rw.dh (HB.trans (B1.mono HB.size))
    clear C1 B1 HB c0 c1 hb
    cases he: eqS v.name s
    · go_wp2
      go_roundw
      case rel => exact ⟨k + 1,hlt,by go_num,HB1.out,HA.out he⟩
      case measure => simp [intOf]; omega
    · go_wp2
      go_ret
      exact ⟨Rw.ret_int (HT.out he).symm,HB1.out⟩
  · have hlt': (l.length: Int) <= (k: Int) := by omega
    go_wp2
    go_ret
    exact ⟨Rw.ret_int (findTI_none (by omega) HF.out).symm,HB⟩
def FoundP (t: Option TabL) (w: World) (e: Ending) (W: World): Prop := Below w.heap.size w W /\ ((t = none /\ e = .returned (.tuple #[.agg #[.string ⟨#[]⟩, .slice none 0 0], .int .i64 2])) \/
 ∃ x a c,t = some x /\ e = .returned (.tuple #[.agg #[.string x.name, .slice a x.cols.length c], .int .i64 0]) /\ Rw.SlG colC 4 W a x.cols /\ (a = none -> c = 0) /\ ∀ b o,a = some ⟨b,o,none⟩ -> w.heap.size <= b)
theorem tbox {W w1: World} {p: Nat} {a b: Value} (h: W.heap[p]? = some (.cells #[a,b] 96 (0,0))) (hb: Below W.heap.size W w1) :
 w1.cell? ⟨p,0,none⟩ = some a /\ w1.cell? ⟨p,1,none⟩ = some b /\ w1.frozen? ⟨p,0,none⟩ = false /\ w1.frozen? ⟨p,1,none⟩ = false /\ p < w1.heap.size := by
 have h1: w1.heap[p]? = some (.cells #[a,b] 96 (0,0)) := (hb.block p (Array.getElem?_eq_some_iff.1 h).1).trans h
 exact ⟨by rw [cell_of_row _ _ _ _ _ _ h1]; rfl,by rw [cell_of_row _ _ _ _ _ _ h1]; rfl,frozen_of_row _ _ _ _ _ h1,frozen_of_row _ _ _ _ _ h1,(Array.getElem?_eq_some_iff.1 h1).1⟩
theorem below_set2 {B p: Nat} {a w: World} (hb: B <= p) (h: Below B a w) (v0 v1: Value): Below B a ((w.setCell ⟨p,0,none⟩ v0).setCell ⟨p,1,none⟩ v1) :=
 (h.setCell hb v0).setCell hb v1
theorem slg_set2 {W: World} {a: Option Addr} {l: List Col} {p: Nat} (h: Rw.SlG colC 4 W a l) (hp: ∀ b o,a = some ⟨b,o,none⟩ -> b ≠ p) (u0 u1: Value): Rw.SlG colC 4 ((W.setCell ⟨p,0,none⟩ u0).setCell ⟨p,1,none⟩ u1) a l :=
 h.turn (by simp) fun b o e _ => by rw [heap_setCell_other _ _ _ _ (hp b o e),heap_setCell_other _ _ _ _ (hp b o e)]
theorem ktfind_walk {l: List TabL} (s: ByteArray) {a: Option Addr} {c: Nat} {w: World} (hl: TabsIn w a l) (hok: TabsOk l) :
 Calls Tryz.prog 119 #[.slice a l.length c, .string s] w (FoundP (findTab l s) w) := by
 have hmf: ∀ (fn: Fn) (first cap: Array Value) (w: World),(Instr.makeFunc fn first cap).run Tryz.prog w = .ok (.func fn first cap) w := fun _ _ _ _ => rfl
 have C1 := idxt_walk l s (c := c) (g := w.heap.size) (w := (w.alloc (.cells #[.string s] 9)).alloc (.cells #[.string ⟨#[]⟩, .slice none 0 0] 96)) (hl.rows.below (below_two w _ _)) hok.1 (by simp; omega) (by simp [go_sem])
 have HL := Rw.dh hl
 have HOk := Rw.dh hok.2
 have hlen := hok.1
 clear hl hok
 have HX: Hid (findTI l s < 0 \/ ∃ j t,findTI l s = ((j: Nat): Int) /\ l[j]? = some t) := by
  by_cases h: findTI l s < 0
  · exact Or.inl h
  · exact Or.inr (findTI_lt h)
 have HR: Hid (findTab l s = if findTI l s < 0 then none else l[(findTI l s).toNat]?) := rfl
 generalize findTI l s = i at *
 generalize findTab l s = R at *
 go_enter Tryz.func119,Tryz.ntmps119
 go_wp2_with fail
 refine C1.mono ?_
 clear C1
 rintro e w1 ⟨rfl,hb⟩
 have hz := tbox (heap_two w (.cells #[.string s] 9) (.cells #[.string ⟨#[]⟩, .slice none 0 0] 96)) hb
 have HB := Rw.dh (below_on (below_two w _ _) hb)
 have HZ := Rw.dh ((hb.block _ (Array.getElem?_eq_some_iff.1 (heap_two w (.cells #[.string s] 9) (.cells #[.string ⟨#[]⟩, .slice none 0 0] 96))).1).trans (heap_two w _ _))
 clear hb
 obtain ⟨z0,z1,z2,z3,z4⟩ := hz
 rcases HX.out with h0 | ⟨j,t,rfl,hj⟩
 · have hR: R = none := by rw [HR.out,if_pos h0]
   subst hR
   clear HR HX
   have d0: decide (i < 0) = true := decide_eq_true h0
   go_wp2
   exact bodyPost_ret (v := .tuple #[.agg #[.string ⟨#[]⟩, .slice none 0 0], .int .i64 2]) (by simp [results,Tryz.results119,go_sem,z0,z1]) rfl ⟨below_set2 (by omega) HB.out _ _,Or.inl ⟨rfl,rfl⟩⟩
 · have hR: R = some t := by rw [HR.out,if_neg (by omega),Int.toNat_natCast,hj]
   subst hR
   have hjl: j < l.length := (List.getElem?_eq_some_iff.1 hj).1
   have htm := List.mem_of_getElem? hj
   have hto := HOk.out t htm
   obtain ⟨b,o,x,rfl,hb,hx,hcs⟩ := (HL.out.on HB.out).rows.at hjl
   rw [hj] at hx
   cases hx
   have c0: w1.cell? ⟨b,o + j * 2,none⟩ = some (.string t.name) := hcs 0 _ rfl
   have c1: w1.cell? ⟨b,o + j * 2 + 1,none⟩ = some (.slice t.a t.cols.length t.c) := hcs 1 _ rfl
   have hbw: b < w.heap.size := by
    rcases HL.out.rows with h | ⟨b',o',h,h',_⟩
    · rw [h] at hj; simp at hj
    · cases h; exact h'
   have HS := Rw.dh (fun W (hb: Below w.heap.size w W) => (HL.out.cols t htm).below hb)
   have HC1: Hid (∀ W,Below w1.heap.size w1 W -> Calls Tryz.prog 85 #[.string t.name] W fun e w2 => e = .returned (.string t.name) /\ Hid (Below w1.heap.size w1 w2)) := fun W hb => (kclone_walk t.name W hto.1).mono (by rintro e w2 ⟨rfl,hb2⟩; exact ⟨rfl,below_on hb hb2⟩)
   have HC2: Hid (∀ W,Below w1.heap.size w1 W -> Calls Tryz.prog 170 #[.slice t.a t.cols.length t.c] W fun e w2 => ∃ a' c',e = .returned (.slice a' t.cols.length c') /\ Hid (Below w1.heap.size w1 w2) /\ Hid (Rw.SlG colC 4 w2 a' t.cols /\ (a' = none -> c' = 0) /\ ∀ b o,a' = some ⟨b,o,none⟩ -> w1.heap.size <= b) /\ (w2.cell? ⟨w.heap.size + 1,0,none⟩ = some (.string ⟨#[]⟩) /\ w2.cell? ⟨w.heap.size + 1,1,none⟩ = some (.slice none 0 0) /\ w2.frozen? ⟨w.heap.size + 1,0,none⟩ = false /\ w2.frozen? ⟨w.heap.size + 1,1,none⟩ = false)) := fun W hb => (kcolumns_walk (HS.out W (below_on HB.out hb)) hto.2.1 hto.2.2).mono (by
    rintro e w2 ⟨a',c',rfl,hS2,hn2,hlo,hb2⟩
    have hb3 := below_on hb hb2
    have hz := tbox HZ.out hb3
    exact ⟨a',c',rfl,hb3,⟨hS2,hn2,fun b o e => by have := hlo b o e; have := hb.size; omega⟩,hz.1,hz.2.1,hz.2.2.1,hz.2.2.2.1⟩)
   have KS: Hid (∀ W,Below (w.heap.size + 1) w1 W -> (W.cell? ⟨b,o + j * 2,none⟩ = some (.string t.name) /\ W.cell? ⟨b,o + j * 2 + 1,none⟩ = some (.slice t.a t.cols.length t.c))) := fun W hW => by
    refine ⟨?_, ?_⟩ <;> rw [hW.cell (by simp; omega)] <;> assumption
   have hw1: w.heap.size + 1 < w1.heap.size := z4
   clear hcs hj HOk HL HS HX HR z0 z1 z2 z3 hb
   go_wp2_with fail
   go_region_held (fun W => W.cell? ⟨b,o + j * 2,none⟩ = some (.string t.name) /\ W.cell? ⟨b,o + j * 2 + 1,none⟩ = some (.slice t.a t.cols.length t.c)) (exact KS.out _ (by with_reducible (first
    | exact (Below.refl _ _).drew
    | exact HBb.out.mono (Nat.le_of_lt hw1)
    | exact below_set2 (Nat.le_refl _) (HBb.out.mono (Nat.le_of_lt hw1)) _ _))) (first
    | (go_at_call 85
       refine (HC1.out _ (by with_reducible (first | exact (Below.refl _ _).drew | exact HBb.out))).mono ?_
       rintro e w2 ⟨rfl,HBb⟩)
    | (go_at_call 170
       refine (HC2.out _ (by with_reducible (first | exact (Below.refl _ _).drew | exact HBb.out))).mono ?_
       rintro e w3 ⟨a',c',rfl,HBb,HCs,z0,z1,z2,z3⟩))
   have HS3 := Rw.dh (fun u0 u1 => slg_set2 HCs.out.1 (p := w.heap.size + 1) (fun b o e => by have := HCs.out.2.2 b o e; omega) u0 u1)
   have HLo: Hid (∀ b o,a' = some ⟨b,o,none⟩ -> w.heap.size <= b) := fun b o e => by have := HCs.out.2.2 b o e; omega
   have HB3 := Rw.dh (below_on HB.out HBb.out)
   go_wp2
   exact bodyPost_ret (v := .tuple #[.agg #[.string t.name, .slice a' t.cols.length c'], .int .i64 0]) (by simp [results,Tryz.results119,go_sem,z0,z1]) rfl ⟨below_set2 (by omega) HB3.out _ _,Or.inr ⟨t,a',c',rfl,rfl,HS3.out _ _,HCs.out.2.1,HLo.out⟩⟩
def tabO (l: List TabL) (s: SrcL) (own: ByteArray): Option TabL := if s.k == 0 then findTab l s.t else if own.toList == [] then none else if (transB s.k).toList == [] then none else findTab l own
theorem heap_one (w: World) (o1 o2: Obj): ((w.alloc o1).alloc o2).heap[w.heap.size]? = some o1 := (Below.heap_alloc _ _ _ (by simp)).trans (Rw.heap_new _ _)
theorem tableOf_walk {l: List TabL} (s: SrcL) (own: ByteArray) {a: Option Addr} {c: Nat} {w: World} (hl: TabsIn w a l) (hok: TabsOk l) :
 Calls Tryz.prog 82 #[.slice a l.length c,srcV s, .string own] w (FoundP (tabO l s own) w) := by
 have HF := Rw.dh (fun x W (hb: Below w.heap.size w W) => ktfind_walk x (c := c) (hl.on hb) hok)
 have HK := Rw.dh (fun k W => trans_walk k W)
 obtain ⟨k,t,v⟩ := s
 have HR: Hid (tabO l ⟨k,t,v⟩ own = if k == 0 then findTab l t else if own.toList == [] then none else if (transB k).toList == [] then none else findTab l own) := rfl
 clear hl hok
 generalize tabO l ⟨k,t,v⟩ own = R at *
 unfold srcV
 dsimp only
 have fin: ∀ P: Prop,((k == 0) = true -> R = findTab l t -> P) -> ((k == 0) = false -> (own.toList == []) = true -> R = none -> P) -> ((k == 0) = false -> (own.toList == []) = false -> ((transB k).toList == []) = true -> R = none -> P) -> ((k == 0) = false -> (own.toList == []) = false -> ((transB k).toList == []) = false -> R = findTab l own -> P) -> P := by
  intro P f1 f2 f3 f4
  have hR := HR.out
  cases h1: (k == 0)
  · cases h2: (own.toList == [])
    · cases h3: ((transB k).toList == [])
      · exact f4 h1 h2 h3 (by rw [hR,h1,h2,h3]; rfl)
      · exact f3 h1 h2 h3 (by rw [hR,h1,h2,h3]; rfl)
    · exact f2 h1 h2 (by rw [hR,h1,h2]; rfl)
  · exact f1 h1 (by rw [hR,h1]; rfl)
 clear HR
 have hbx := below_two w (.cells #[.int .i64 k, .string t, .string v] 101) (.cells #[.string ⟨#[]⟩, .slice none 0 0] 96)
 have hz0 := heap_two w (.cells #[.int .i64 k, .string t, .string v] 101) (.cells #[.string ⟨#[]⟩, .slice none 0 0] 96)
 apply fin
 · intro h1 hR
   subst hR
   clear fin
   have HB0 := Rw.dh hbx
   have HZ0 := Rw.dh hz0
   clear hbx hz0
   go_enter Tryz.func82,Tryz.ntmps82
   go_wp2_with fail
   refine (HF.out t _ HB0.out).mono ?_
   rintro e w1 ⟨hb,hW⟩
   have HB := Rw.dh (below_on HB0.out hb)
   obtain ⟨z0,z1,z2,z3,z4⟩ := tbox HZ0.out hb
   clear hb HB0 HZ0 HF
   rcases hW with ⟨h,rfl⟩ | ⟨x,a',c',h,rfl,hS,hn,hlo⟩
   · go_wp2
     exact bodyPost_ret (v := .tuple #[.agg #[.string ⟨#[]⟩, .slice none 0 0], .int .i64 2]) (by simp [results,Tryz.results82,go_sem,z0,z1]) rfl ⟨below_set2 (by omega) HB.out _ _,Or.inl ⟨h,rfl⟩⟩
   · have HS := Rw.dh (fun u0 u1 => slg_set2 hS (p := w.heap.size + 1) (fun b o e => by have := hlo b o e; simp at this; omega) u0 u1)
     have HLo: Hid (∀ b o,a' = some ⟨b,o,none⟩ -> w.heap.size <= b) := fun b o e => by have := hlo b o e; simp at this; omega
     clear hS hlo
     go_wp2
     exact bodyPost_ret (v := .tuple #[.agg #[.string x.name, .slice a' x.cols.length c'], .int .i64 0]) (by simp [results,Tryz.results82,go_sem,z0,z1]) rfl ⟨below_set2 (by omega) HB.out _ _,Or.inr ⟨x,a',c',h,rfl,HS.out _ _,hn,HLo.out⟩⟩
 · intro h1 h2 hR
   subst hR
   clear fin HF
   have HB0 := Rw.dh hbx
   obtain ⟨z0,z1,z2,z3,z4⟩ := tbox hz0 (Below.refl _ _)
   go_enter Tryz.func82,Tryz.ntmps82
   go_wp2
   exact bodyPost_ret (v := .tuple #[.agg #[.string ⟨#[]⟩, .slice none 0 0], .int .i64 2]) (by simp [results,Tryz.results82,go_sem,z0,z1]) rfl ⟨HB0.out,Or.inl ⟨rfl,rfl⟩⟩
 · intro h1 h2 h3 hR
   subst hR
   clear fin HF
   have HB0 := Rw.dh hbx
   obtain ⟨z0,z1,z2,z3,z4⟩ := tbox hz0 (Below.refl _ _)
   go_enter Tryz.func82,Tryz.ntmps82
   go_wp2_with (go_at_call 120; refine (HK.out _ _).mono ?_; rintro e w' ⟨rfl,rfl⟩)
   exact bodyPost_ret (v := .tuple #[.agg #[.string ⟨#[]⟩, .slice none 0 0], .int .i64 2]) (by simp [results,Tryz.results82,go_sem,z0,z1]) rfl ⟨HB0.out,Or.inl ⟨rfl,rfl⟩⟩
 · intro h1 h2 h3 hR
   subst hR
   clear fin
   have HB0 := Rw.dh hbx
   have HZ0 := Rw.dh hz0
   clear hbx hz0
   go_enter Tryz.func82,Tryz.ntmps82
   go_wp2_with (go_at_call 120; refine (HK.out _ _).mono ?_; rintro e w' ⟨rfl,rfl⟩)
   refine (HF.out own _ HB0.out).mono ?_
   rintro e w1 ⟨hb,hW⟩
   have HB := Rw.dh (below_on HB0.out hb)
   obtain ⟨z0,z1,z2,z3,z4⟩ := tbox HZ0.out hb
   clear hb HB0 HZ0 HF
   rcases hW with ⟨h,rfl⟩ | ⟨x,a',c',h,rfl,hS,hn,hlo⟩
   · go_wp2
     exact bodyPost_ret (v := .tuple #[.agg #[.string ⟨#[]⟩, .slice none 0 0], .int .i64 2]) (by simp [results,Tryz.results82,go_sem,z0,z1]) rfl ⟨below_set2 (by omega) HB.out _ _,Or.inl ⟨h,rfl⟩⟩
   · have HS := Rw.dh (fun u0 u1 => slg_set2 hS (p := w.heap.size + 1) (fun b o e => by have := hlo b o e; simp at this; omega) u0 u1)
     have HLo: Hid (∀ b o,a' = some ⟨b,o,none⟩ -> w.heap.size <= b) := fun b o e => by have := hlo b o e; simp at this; omega
     clear hS hlo
     go_wp2
     exact bodyPost_ret (v := .tuple #[.agg #[.string x.name, .slice a' x.cols.length c'], .int .i64 0]) (by simp [results,Tryz.results82,go_sem,z0,z1]) rfl ⟨below_set2 (by omega) HB.out _ _,Or.inr ⟨x,a',c',h,rfl,HS.out _ _,hn,HLo.out⟩⟩
end Go.Proofs.YteibhbnlcpejpaaGreat
