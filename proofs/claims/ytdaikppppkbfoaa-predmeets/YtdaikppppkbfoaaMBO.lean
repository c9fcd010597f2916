import Derived.Test.YtdaikppppkbfoaaMBN
import Derived.Test.YtdaikppppkbfoaaMAN
import Derived.Test.YtdaikppppkbfoaaMAZ
import Derived.Test.YtdaikppppkbfoaaMAK
set_option maxRecDepth 100000
set_option maxHeartbeats 4000000
namespace Go.Proofs.Ytdaikppppkbfoaa
open Go.RowKit
def allStep (t: Int × Int) (r: Bool × Int): Bool × Int := if t.2 == 0 then (if t.1 == 1 then r else (false,0)) else (false,t.2)
def allN (n: Nat) (rs: List RowL): List NL -> Bool × Int
 | [] => (true,0)
 | x :: l => allStep (trE (evN n rs x)) (allN n rs l)
def errStep (c r: Int): Int := if c == 0 then r else c
def errN (n: Nat) (rs: List RowL): List NL -> Int
 | [] => 0
 | x :: l => errStep (evN n rs x).2 (errN n rs l)
theorem drop_at {α: Type} {l: List α} {j: Nat} {x: α} (h: l[j]? = some x): l.drop j = x :: l.drop (j + 1) := by
 obtain ⟨hj,e⟩ := List.getElem?_eq_some_iff.1 h
 rw [List.drop_eq_getElem_cons hj,e]
theorem allN_at {n: Nat} {rs: List RowL} {l: List NL} {j: Nat} {x: NL} (h: l[j]? = some x): allN n rs (l.drop j) = allStep (trE (evN n rs x)) (allN n rs (l.drop (j + 1))) := by
 rw [drop_at h]; rfl
theorem allStep_err {t: Int × Int} {r: Bool × Int} (h: (t.2 != 0) = true): allStep t r = (false,t.2) := by
 unfold allStep; rw [if_neg (by simpa using h)]
theorem allStep_no {t: Int} {r: Bool × Int} (h: (t != 1) = true): allStep (t,0) r = (false,0) := by
 show (if t == 1 then r else (false,0)) = _
 rw [if_neg (by simpa using h)]
theorem allStep_yes {t: Int} {r: Bool × Int} (h: (t != 1) = false): allStep (t,0) r = r := by
 show (if t == 1 then r else (false,0)) = _
 rw [if_pos (by simpa using h)]
theorem allN_like (rs: List RowL) {n: Nat}: ∀ {l m: List NL},l.length = m.length -> (∀ (j: Nat) k k',l[j]? = some k -> m[j]? = some k' -> LikeN n k k') -> allN n rs l = allN n rs m /\ errN n rs l = errN n rs m /\ (l.map fun x => (evN n rs x).1) = (m.map fun x => (evN n rs x).1)
 | [],[],_,_ => ⟨rfl,rfl,rfl⟩
 | x :: l,y :: m,hl,h => by
  obtain ⟨h1,h2,h3⟩ := allN_like rs (l := l) (m := m) (by simpa using hl) fun j k k' a b => h (j + 1) k k' (by simpa using a) (by simpa using b)
  have e := (h 0 x y rfl rfl).ev rs
  refine ⟨?_, ?_, ?_⟩
  · rw [allN,allN,e,h1]
  · rw [errN,errN,e,h2]
  · rw [List.map_cons,List.map_cons,e,h3]
 | [],_ :: _,hl,_ => by simp at hl
 | _ :: _,[],hl,_ => by simp at hl
theorem rall_walk {n: Nat} {l: List NL} {a: Option Addr} {c: Nat} {ra: Option Addr} {rs: List RowL} {rc: Nat} {w: World} (hS: Rw.SlG nC 7 w a l) (hI: ∀ k ∈ l,InN n w k) (hd: ∀ k ∈ l,deepN n k = false) (hl: l.length <= 50) (hR: RowsIn w ra rs) (hF: RowsFit rs) :
 Calls Try.prog 68 #[.slice a l.length c, .slice ra rs.length rc] w fun e w' => e = .returned (.tuple #[.bool (allN n rs l).1, .int .i64 (allN n rs l).2]) /\ Below w.heap.size w w' := by
 have HS := Rw.dh hS
 have HV := Rw.dh (fun k (hk: k ∈ l) W (hb: Below w.heap.size w W) => reval_walk (ra := ra) (rc := rc) hF n k W ((hI k hk).on hb) (hd k hk) (hR.on hb))
 have HRT := Rw.dh (fun k n s W => rtruth_walk k n s W)
 unfold valV at HRT
 clear hS hI hd hR hF
 go_enter Try.func68,Try.ntmps68
 go_wp2_with fail
 go_loopw [6] (fun i wr => ∃ j: Nat,j <= l.length /\ i = .int .i64 (j: Int) /\ Hid (Below w.heap.size w wr) /\ Hid (allN n rs l = allN n rs (l.drop j))) (fun i _ => l.length - (intOf i).toNat)
 case atStart => exact ⟨0,Nat.zero_le _,rfl,Below.refl _ _,rfl⟩
 case round =>
  obtain ⟨j,hj,rfl,HB,HA⟩ := hrel
  by_cases hlt: j < l.length
  · obtain ⟨b,o,k,rfl,hb,hx,hc⟩ := (HS.out.below HB.out).at hlt
    have hv := HV.out k (List.mem_of_getElem? hx) wr HB.out
    have HA1: Hid (allN n rs l = allStep (trE (evN n rs k)) (allN n rs (l.drop (j + 1)))) := HA.out.trans (allN_at hx)
    generalize evN n rs k = r at *
    have c0: wr.cell? ⟨b,o + j * 7,none⟩ = some (.string k.op) := hc 0 _ rfl
    have c1: wr.cell? ⟨b,o + j * 7 + 1,none⟩ = some (.int .i64 k.vk) := hc 1 _ rfl
    have c2: wr.cell? ⟨b,o + j * 7 + 2,none⟩ = some (.int .i64 k.vn) := hc 2 _ rfl
    have c3: wr.cell? ⟨b,o + j * 7 + 3,none⟩ = some (.string k.vs) := hc 3 _ rfl
    have c4: wr.cell? ⟨b,o + j * 7 + 4,none⟩ = some (.int .i64 k.var) := hc 4 _ rfl
    have c5: wr.cell? ⟨b,o + j * 7 + 5,none⟩ = some (.int .i64 k.col) := hc 5 _ rfl
    have c6: wr.cell? ⟨b,o + j * 7 + 6,none⟩ = some (.slice k.a k.kids.length k.c) := hc 6 _ rfl
    clear hc hx HA
    unfold nV at hv
    go_wp2_with fail
    refine hv.mono ?_
    clear hv
    rintro e w1 ⟨rfl,hb1⟩
    have HB1 := Rw.dh (below_on HB.out hb1)
    clear hb1 c0 c1 c2 c3 c4 c5 c6 hb HB
    obtain ⟨⟨vk,vn,vs⟩,c⟩ := r
    unfold vvV valV
    cases hc: (c != 0)
    · obtain rfl: c = 0 := by simpa using hc
      clear hc
      have HB2 := Rw.dh (HB1.out.alloc HB1.out.size (.cells #[.int .i64 vk, .int .i64 vn, .string vs] 44))
      have HT: Hid (∀ c,truthE vk vn = c -> trE (⟨vk,vn,vs⟩,0) = if c == 0 then (truthT vk vn,0) else (0,c)) := fun c hc => by rw [<- hc]; rfl
      go_wp2_with fail
      refine (HRT.out vk vn vs _).mono ?_
      rintro e w3 ⟨rfl,hb⟩
      have HB3 := Rw.dh (below_on HB2.out hb)
      clear hb HB1 HB2
      generalize truthT vk vn = t at *
      generalize truthE vk vn = c at *
      cases hc: (c != 0)
      · obtain rfl: c = 0 := by simpa using hc
        have hT: trE (⟨vk,vn,vs⟩,0) = (t,0) := HT.out 0 rfl
        have hA2 := HA1.out
        rw [hT] at hA2
        clear HT hT HA1
        cases ht: (t != 1)
        · have HA2: Hid (allN n rs l = allN n rs (l.drop (j + 1))) := hA2.trans (allStep_yes ht)
          clear hA2
          go_wp2
          go_roundw
          case rel => exact ⟨j + 1,hlt,by go_num,HB3,HA2⟩
          case measure => simp [intOf]; omega
        · have HE := Rw.dh (hA2.trans (allStep_no ht))
          clear hA2
          go_wp2
          go_ret2
          exact ⟨(by rw [HE.out]; rfl),HB3.out⟩
      · have hT: trE (⟨vk,vn,vs⟩,0) = (0,c) := (HT.out c rfl).trans (if_neg (by simpa using hc))
        have hA2 := HA1.out
        rw [hT] at hA2
        have HE := Rw.dh (hA2.trans (allStep_err hc))
        clear HT hT HA1 hA2
        go_wp2
        go_ret2
        exact ⟨(by rw [HE.out]; rfl),HB3.out⟩
    · have hT: trE (⟨vk,vn,vs⟩,c) = (0,c) := trE_no (a := (⟨vk,vn,vs⟩,c)) hc
      have hA2 := HA1.out
      rw [hT] at hA2
      have HE := Rw.dh (hA2.trans (allStep_err hc))
      have HB2 := Rw.dh (HB1.out.alloc HB1.out.size (.cells #[.int .i64 vk, .int .i64 vn, .string vs] 44))
      clear hT HA1 hA2
      go_wp2
      go_ret2
      exact ⟨(by rw [HE.out]; rfl),HB2.out⟩
  · have hjs: j = l.length := by omega
    subst hjs
    have hA := HA.out
    rw [List.drop_length] at hA
    have HE := Rw.dh hA
    clear hA HA
    go_wp2
    go_ret2
    exact ⟨by rw [HE.out]; rfl,HB.out⟩
def ordV (a b: Vv): Int := ordI a.k a.n a.s b.k b.n b.s
def letsB (b: Bd) (place: Int): Bool := !b.has || decide (0 < place) || (place == 0 && b.incl)
def inB (lo hi: Bd) (v: Vv): Bool := letsB lo (ordV v lo.v) && letsB hi (ordV hi.v v)
def colV (r: List Vv) (c: Int): Option Vv := if c < 0 then none else r[c.toNat]?
def metT (r: List Vv) (t: Tl): Bool := match colV r t.col with
 | none => false
 | some v => inB t.lo t.hi v
def meetsC (n: Nat) (r: RowL) (ts: List Tl) (l: List NL): Bool := ts.all (metT r.l) && (allN n [r] l).1
theorem colV_lo {r: List Vv} {c: Int} (h: c < 0): colV r c = none := by unfold colV; rw [if_pos h]
theorem colV_hi {r: List Vv} {c: Int} (h: (r.length: Int) <= c): colV r c = none := by
 unfold colV
 split
 · rfl
 · exact List.getElem?_eq_none (by omega)
theorem colV_at {r: List Vv} {j: Nat} {v: Vv} (h: r[j]? = some v): colV r (j: Int) = some v := by
 unfold colV; rw [if_neg (by omega)]; simpa using h
theorem metT_no {r: List Vv} {t: Tl} (h: colV r t.col = none): metT r t = false := by unfold metT; rw [h]
theorem metT_at {r: List Vv} {t: Tl} {v: Vv} (h: colV r t.col = some v): metT r t = inB t.lo t.hi v := by unfold metT; rw [h]
theorem ordV_swap (a b: Vv): ordV b a = -ordV a b := ordI_swap _ _ _ _ _ _
theorem allN_no {n: Nat} {rs: List RowL}: ∀ {l: List NL},((allN n rs l).2 != 0) = true -> (allN n rs l).1 = false
 | [],h => by cases h
 | x :: l,h => by
  rw [allN] at h ⊢
  unfold allStep at h ⊢
  split
  · rename_i h1
    rw [if_pos h1] at h
    split
    · rename_i h2
      rw [if_pos h2] at h
      exact allN_no h
    · rfl
  · rfl
end Go.Proofs.Ytdaikppppkbfoaa
