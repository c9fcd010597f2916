/-
  DeltaSnaps: its walk.
-/
import Derived.Test.YtbeilgikmikonaaDlU
import Derived.Test.YtbeilgikmikonaaDlV
namespace Go.Proofs.Ytbeilgikmikonaa
open Go.RowKit
open Go.ChangeMaps (setBlock)

/-- A state made by ops: its map, and what its slices are. -/
structure SnW (w : World) (b : Nat) (st : St) (W : World) : Prop where
  below : Below w.heap.size w W
  map : MapS W b st
  ok : StOk W st
  at_ : w.heap.size ≤ b

theorem SnW.on {w W W' : World} {b : Nat} {st : St} (h : SnW w b st W) (hb : Below W.heap.size W W') : SnW w b st W' :=
  ⟨below_on h.below hb h.below.size, h.map.turn (hb.block _ h.map.lt), h.ok.below hb, h.at_⟩

theorem snaps_first {l : List OpD} {a : Option Addr} {n c : Nat} {w : World} (h : OpsIn w a l) (hl : l.length = n) (hf : FewP l) :
    Calls Try.prog 19 #[.map (some w.heap.size), .slice a n c] (w.alloc (.map #[] 0)) fun e w' => ∃ v, e = .returned v ∧ SnW w w.heap.size (chgS [] l) w' := by
  refine (changes_walk (c := c) (h.below (below_alloc w _)) (stok_nil _) (map_new w) hl hf).mono ?_
  rintro e w' ⟨v, rfl, hC⟩
  refine ⟨v, rfl, below_only (below_alloc w _) (Nat.le_refl _) hC.only, hC.map, ?_, Nat.le_refl _⟩
  exact chgS_ok (stok_nil _) fun x hx => ⟨ok_only ((h.below (below_alloc w _)).ok x hx).1 (heap_alloc_new w _) hC.only, hf.2 x hx⟩

theorem RgW.left {w W : World} {b1 b2 r : Nat} {st : St} {es : List MapEntry} {clock : Nat} {seen : Array Nat} {stw : St} (h : RgW w b1 b2 r st es clock seen stw W) : W.rangeLeft b1 r = (leftOf es.toArray seen).size := by
  obtain ⟨c0, hi, _⟩ := h.it
  unfold World.rangeLeft
  rw [h.src.heap, hi]

/-- The round's end. -/
theorem RgW.put {w W Wb : World} {b1 b2 r : Nat} {st : St} {es : List MapEntry} {clock : Nat} {seen : Array Nat} {stw : St} {e : MapEntry} {p : Key2 × SV} {j : Nat} {o : Obj} (hst : st.Pairwise fun a b => a.1 ≠ b.1) (he : es[j]? = some e) (hp : st[j]? = some p)
    (sub : ∀ q ∈ stw, q ∈ st) (all : ∀ (j : Nat) (e : MapEntry) (p : Key2 × SV), es[j]? = some e → st[j]? = some p → seen.contains e.born = true → p ∈ stw)
    (hb : Below w.heap.size w W) (hs : MapAt Try.prog 44 W b1 es clock) (hi : W.heap[r]? = some (.mapIter (some b1) clock (seen.push e.born) clock)) (hW : Wb = setBlock W b2 o) (hd : MapS Wb b2 (setS stw p.1 p.2)) (hm : ∃ es' ck', W.heap[b2]? = some (.map es' ck')) (hne : b1 ≠ b2) (hw : w.heap.size ≤ b2) :
    RgW w b1 b2 r st es clock (seen.push e.born) (setS stw p.1 p.2) Wb := by
  obtain ⟨es', ck', hm⟩ := hm
  subst hW
  obtain ⟨s1, s2⟩ := rg_put hst hs.born.1 he hp sub all
  refine ⟨setBlock_below hb hm hw, hs.turn (setBlock_other hm hne), ⟨clock, ?_, Nat.le_refl _⟩, hd, s1, s2⟩
  rw [setBlock_other hm fun e => ?_]
  · exact hi
  · rw [e, hm] at hi; cases hi

set_option maxRecDepth 100000 in
set_option maxHeartbeats 2000000 in
theorem snaps_walk {l m : List OpD} {a a' : Option Addr} {n c n' c' : Nat} {w : World} (h : OpsIn w a l) (hl : l.length = n) (h' : OpsIn w a' m) (hl' : m.length = n') :
    Calls Try.prog 4 #[.slice a n c, .slice a' n' c'] w fun e w' => e = .returned (.bool true) ∧ Below w.heap.size w w' := by
  have HH := dhid h
  have HL := dhid hl
  have HH' := dhid h'
  have HL' := dhid hl'
  clear h hl h' hl'
  have hmk := fun W => run_makeMap (P := Try.prog) 42 W
  go_enter Try.func4, Try.ntmps4
  go_wp2_with fail
  refine (awake_walk w).mono ?_
  rintro e W1 ⟨rfl, B1⟩
  have HB1 := dhid B1
  have HFW := dhid (few_walk (c := c) (HH.out.below B1) HL.out)
  clear B1
  go_wp2_with fail
  refine HFW.out.mono ?_
  rintro e W2 ⟨bf, rfl, hf, B2⟩
  have HB2 := dhid (below_on HB1.out B2 HB1.out.size)
  clear B2 HFW HB1
  cases bf
  · go_wp2
    go_ret
    exact ⟨rfl, HB2.out⟩
  have HF := dhid (hf rfl)
  clear hf
  have HFW := dhid (few_walk (c := c') (HH'.out.below HB2.out) HL'.out)
  go_wp2_with fail
  refine HFW.out.mono ?_
  rintro e W3 ⟨bf, rfl, hf, B3⟩
  have HB3 := dhid (below_on HB2.out B3 HB2.out.size)
  clear B3 HFW HB2
  cases bf
  · go_wp2
    go_ret
    exact ⟨rfl, HB3.out⟩
  have HF' := dhid (hf rfl)
  have HC := dhid (snaps_first (c := c) (HH.out.below HB3.out) HL.out HF.out)
  clear hf
  go_wp2_with fail
  refine HC.out.mono ?_
  rintro e W4 ⟨v4, rfl, hS4⟩
  have HS4 := dhid hS4
  clear hS4 HC
  go_wp2_with (first | (at_range; revert HS4) | go_in)
  intro HS4
  obtain ⟨⟨es, clock, hme, hee⟩, hpw⟩ := HS4.out.map
  have hb5 : (W4.alloc (.map #[] 0)).heap[W3.heap.size]? = some (.map es.toArray clock) := by rw [Below.heap_alloc _ _ _ hme.lt]; exact hme.heap
  have hrange := run_range_map (P := Try.prog) (W4.alloc (.map #[] 0)) 42 44 25 W3.heap.size es.toArray clock Try.underlying42 hb5
  have HSTART : Hid (RgW W3 W3.heap.size W4.heap.size (W4.heap.size + 1) (chgS [] l) es clock #[] [] ((W4.alloc (.map #[] 0)).alloc (.mapIter (some W3.heap.size) clock #[] clock))) := by
    refine ⟨(HS4.out.below.alloc HS4.out.below.size _).alloc (by have := HS4.out.below.size; simp; omega) _, hme.turn ?_, ⟨clock, go_heap_new' _ _ (by simp), Nat.le_refl _⟩, (map_new W4).turn ?_, fun p hp => (by cases hp), fun j e p _ _ h => (by simp at h)⟩
    · rw [Below.heap_alloc _ _ _ (by have := hme.lt; simp; omega), Below.heap_alloc _ _ _ hme.lt]
    · rw [Below.heap_alloc _ _ _ (by simp)]
  have HME := dhid hme
  have HEE := dhid hee
  have HPW := dhid hpw
  have hz4 : W3.heap.size < W4.heap.size := hme.lt
  clear hb5 hme hee hpw hmk
  go_wp2
  clear hrange
  go_loopw [8] (fun s wr => Hid (∃ seen stw, RgW W3 W3.heap.size W4.heap.size (W4.heap.size + 1) (chgS [] l) es clock seen stw wr)) (fun _ wr => wr.rangeLeft W3.heap.size (W4.heap.size + 1))
  case atStart => exact ⟨_, _, HSTART.out⟩
  case round =>
    obtain ⟨seen, stw, hR⟩ := hrel.out
    clear hrel HSTART
    have HR := dhid hR
    obtain ⟨c0, hit, hc0⟩ := hR.it
    go_wp2_with (first | (at_next; revert HR) | go_in)
    intro HR
    refine wpList_next_map rfl _ rfl rfl hit hR.src.heap (fun x hx => hR.src.born.2 x (by simpa using hx)) hc0 ?_ ?_
    · intro hz0
      have HALL := dhid (all_seen es.toArray seen hz0)
      clear hit hR hc0 hz0
      have HBR := dhid (below_on HB3.out HR.out.below HB3.out.size)
      have hok3 : StOk W3 [] := stok_nil _
      have HOKW : Hid (StOk wr (chgS [] l)) := chgS_ok (stok_nil _) fun x hx => ⟨((HH.out.below HBR.out).ok x hx).1, HF.out.2 x hx⟩
      have HMS : Hid (MapS wr W3.heap.size (chgS [] l)) := ⟨⟨es, clock, HR.out.src, HEE.out⟩, HPW.out⟩
      have HSG : Hid (sg stw = sg (chgS [] l)) := by
        obtain ⟨_, hpw2⟩ := HR.out.dst
        funext k
        unfold sg
        rw [getS_same hpw2 HPW.out (fun p => ⟨HR.out.sub p, fun hp => ?_⟩) k]
        obtain ⟨j, hj, ej⟩ := List.getElem_of_mem hp
        have hpj : (chgS [] l)[j]? = some p := by rw [List.getElem?_eq_getElem hj, ej]
        have hlen : es.length = (chgS [] l).length := by have := congrArg List.length HEE.out; simpa using this
        have hje : es[j]? = some (es[j]'(by omega)) := List.getElem?_eq_getElem _
        exact HR.out.all j _ p hje hpj (HALL.out _ (List.getElem_mem _))
      have HOKS : Hid (∀ W, StOk W (chgS [] l) → StOk W stw) := fun W hW => ⟨fun p hp => hW.ok p (HR.out.sub p hp), HR.out.dst.apart⟩
      have HCH := dhid (changes_walk (c := c') (HH'.out.below HBR.out) HOKW.out HMS.out HL'.out HF'.out)
      clear hok3 HALL
      go_wp2_with fail
      refine HCH.out.mono ?_
      rintro e W8 ⟨v8, rfl, hC8⟩
      have hm3 : ∃ es ck, wr.heap[W3.heap.size]? = some (.map es ck) := ⟨_, _, HR.out.src.heap⟩
      obtain ⟨esx, ckx, hm3⟩ := hm3
      have HB8 := dhid (below_on HB3.out (below_only HR.out.below (Nat.le_refl _) hC8.only) HB3.out.size)
      have HOPS8 := ops_only (HH'.out.below HBR.out) hm3 hC8.only
      have HOKO8 := stok_only HOKW.out hm3 hC8.only
      have hops : ∀ x ∈ m, x.s.ok W8 ∧ x.s.l ≤ 20 := fun x hx => ⟨(HOPS8.ok x hx).1, HF'.out.2 x hx⟩
      have hall8 := chgL_means HOKO8 hops
      have HST2 := dhid (chgS_ok HOKO8 hops)
      have HSTW := dhid (HOKS.out W8 HOKO8)
      have HM1 := dhid hC8.map
      have HM2 := dhid (HR.out.dst.turn (hC8.only.block _ HR.out.dst.lt (by show ¬ _ = _; omega)))
      have hll : (chgL (chgS [] l) m).length = n' := by rw [chgL_length, HL'.out]
      have hn' : n' ≤ 60 := by rw [← HL'.out]; exact HF'.out.1
      obtain ⟨a8, c8, e8⟩ := owns_slice hC8.own
      rw [hll] at e8
      subst e8
      have hs8 : SlC W8 a8 (chgL (chgS [] l) m) := by have h := hC8.own; rw [hll] at h; exact (owns_slc h).2.1
      have HN := dhid (net_walk (c := c8) hs8 hall8 hll (by omega))
      have HCC := dhid (chg_chain m (chgS [] l))
      have HLL2 := dhid hll
      clear hC8 hm3 HOPS8 HOKO8 hops hall8 hs8 hll HCH HR HOKW HMS HOKS
      generalize chgS (chgS [] l) m = st2 at *
      generalize chgL (chgS [] l) m = L2 at *
      go_wp2_with fail
      refine HN.out.mono ?_
      rintro e W9 ⟨v9, rfl, N9, hN9, hi9⟩
      have HD9 := dhid (HCC.out.net hi9)
      have hl9 : N9.length ≤ 60 := by have h := hi9.len; rw [List.length_map, List.length_map, HLL2.out] at h; omega
      have HB9 := dhid hN9.below
      obtain ⟨a9, c9, rfl⟩ := owns_slice hN9.own
      have HPL := dhid (plain_walk (c := c9) (owns_slc hN9.own).2.1 rfl (by omega))
      have HA9 := dhid hN9.all
      obtain ⟨k9, HK9⟩ : ∃ m, Hid (N9.length = m) := ⟨_, rfl⟩
      rw [HK9.out] at hl9 HPL ⊢
      clear hN9 hi9 HN
      go_wp2_with fail
      refine HPL.out.mono ?_
      rintro e W10 ⟨v10, rfl, hp10⟩
      have HP10 := dhid hp10
      have HB10 := dhid (below_on HB9.out hp10.below HB9.out.size)
      have HM1' := HM1.out.turn (HB10.out.block _ HM1.out.lt)
      have HM2' := HM2.out.turn (HB10.out.block _ HM2.out.lt)
      have HDF := dhid (differ_walk HM2' HM1' (HSTW.out.below HB10.out) (HST2.out.below HB10.out))
      clear hp10 HPL HM1' HM2'
      go_wp2_with fail
      refine HDF.out.mono ?_
      rintro e W11 ⟨v11, rfl, hp11⟩
      have hdd := diffG_diff stw st2
      rw [HSG.out] at hdd
      have he : N9.map (·.2) = (diffG stw st2 18).map (·.2) := HD9.out.uniq hdd
      have hl11 : (diffG stw st2 18).length = k9 := by rw [← HK9.out]; have := congrArg List.length he; simpa using this.symm
      have hP10 := HP10.out.on hp11.below
      obtain ⟨a10, c10, e10⟩ := owns_slice hP10.own
      rw [HK9.out] at e10
      subst e10
      obtain ⟨a11, c11, e11⟩ := owns_slice hp11.own
      rw [hl11] at e11
      subst e11
      have hs1 : SlC W11 a10 N9 := by have h := hP10.own; rw [HK9.out] at h; exact (owns_slc h).2.1
      have hs2 : SlC W11 a11 (diffG stw st2 18) := by have h := hp11.own; rw [hl11] at h; exact (owns_slc h).2.1
      have hB11 := below_on HB10.out hp11.below HB10.out.size
      have HSM := dhid (csame_walk (c := c10) (d := c11) hs1 hs2 (HA9.out.below hP10.below) (diffG_means (HSTW.out.below hB11) (HST2.out.below hB11) 18) he HK9.out (by omega))
      have HBF := dhid (below_on HB8.out hB11 HB8.out.size)
      clear hs1 hs2 hB11 hp11 hP10 hdd he hl11 HDF
      go_wp2_with fail
      refine HSM.out.mono ?_
      rintro e W12 ⟨rfl, q, rfl⟩
      go_wp2
      go_ret
      exact ⟨rfl, below_drewN HBF.out q⟩
    · intro e he w1 hw1
      obtain ⟨hmem, hns⟩ := mem_left he
      obtain ⟨j, hj, ej⟩ := List.getElem_of_mem (show e ∈ es by simpa using hmem)
      have hje : es[j]? = some e := by rw [List.getElem?_eq_getElem hj, ej]
      obtain ⟨p, hp, hk, hv⟩ := es_at HEE.out hje
      have HLT := dhid (left_shrinks es.toArray seen e he)
      have HNX := dhid (hR.next (by omega) hw1 (seen.push e.born))
      have hst := HS4.out.ok
      have hpok := hst.ok p (List.mem_of_getElem? hp)
      rw [hk, hv]
      refine to_letter (F := fun W => Below W3.heap.size W3 W ∧ MapAt Try.prog 44 W W3.heap.size es clock ∧ W.heap[W4.heap.size + 1]? = some (.mapIter (some W3.heap.size) clock (seen.push e.born) clock) ∧ MapS W W4.heap.size stw) HNX.out ?_
      rintro W6 ⟨hB6, hM6, hI6, hD6⟩
      have hen := run_entry_at (P := Try.prog) W6 (W4.heap.size + 1) W3.heap.size clock seen es.toArray clock e hI6 hM6.heap hmem hM6.born.1
      rw [hk, hv] at hen
      unfold k2V SV.v at hen ⊢
      have HP6 := dhid (fun Wb o (hm : ∃ es' ck', (W6.alloc (.cells #[.int .u8 (p.1.1 : Int), .int .u8 (p.1.2 : Int)] 44)).heap[W4.heap.size]? = some (.map es' ck')) hW hd => RgW.put (Wb := Wb) (o := o) HPW.out hje hp hR.sub hR.all (hB6.alloc hB6.size _) (hM6.turn (Below.heap_alloc W6 (.cells #[.int .u8 (p.1.1 : Int), .int .u8 (p.1.2 : Int)] 44) _ hM6.lt)) (by rw [Below.heap_alloc _ _ _ (Array.getElem?_eq_some_iff.1 hI6).1]; exact hI6) hW hd hm (by omega) (by omega))
      have hD7 := hD6.turn (Below.heap_alloc W6 (.cells #[.int .u8 (p.1.1 : Int), .int .u8 (p.1.2 : Int)] 44) _ hD6.lt)
      obtain ⟨o7, hup, hm7, hh7⟩ := hD7.store (k := p.1) (by omega) (by omega) p.2
      have HP7 := dhid (HP6.out _ o7 hh7 rfl hm7)
      unfold k2V SV.v at hup
      have HRL := dhid hR.left
      clear hit hR hc0 he hmem hns hB6 hM6 hI6 hD6 hD7 hm7 hh7 HP6 HNX hpok hst hk hv
      go_wp2_with (first | (at_mapUpdate; revert HP7) | go_in)
      intro HP7
      refine wpList_mapUpdate_eq rfl _ _ _ _ rfl hup ?_
      clear hup
      go_wp2
      refine ⟨⟨_, _, _, _, _, _, _, _, _, _, ⟨_, _, HP7.out⟩, rfl⟩, ?_⟩
      rw [HRL.out, HP7.out.left]
      exact HLT.out
end Go.Proofs.Ytbeilgikmikonaa
