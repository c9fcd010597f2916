import Derived.Test.YtpcmiholbcmmjaaGreatMBW
import Derived.Test.YtpcmiholbcmmjaaGreatMBY
import Derived.Test.YtpcmiholbcmmjaaGreatMBU
namespace Go.Proofs.YtpcmiholbcmmjaaGreat
open Go.RowKit
open L4 (Ar ArP Abs arV nv)
open L5 (ltP ltB leB)
def Bnd (a : Abs) (h : Nat) (es : List ByteArray) (ps : List Nat) (n : Nat) : Prop := h ≤ 30 ∧ ∃ Z, Cov a ps Z ∧ es.length + 2 * Z.length ≤ n
theorem full_le {h : Nat} (hf : fullH h ≤ 1000) : h ≤ 29 := by
 rcases Nat.lt_or_ge 29 h with e | e
 · exfalso
   unfold fullH at hf
   have h1 : 29 * 28 ≤ (h - 1) * (h - 2) := Nat.mul_le_mul (by omega) (by omega)
   omega
 · exact e
theorem Bnd.step {ins : Prop} {a A : Abs} {h h' n : Nat} {es es' : List ByteArray} {ps ps' : List Nat} (k : Bnd a h es ps n) (f : Flow ins a A h h' es es' ps ps') (hn : n ≤ 1000) : Bnd A h' es' ps' (n + 1) := by
 obtain ⟨k1, Z, k2, k3⟩ := k
 obtain ⟨Z', f1, f2⟩ := f.cov Z k2
 refine ⟨?_, Z', f1, by omega⟩
 rcases f.tall Z k2 with e | ⟨e, e2⟩
 · omega
 · have := full_le (h := h) (by omega)
   omega
theorem Bnd.more {a : Abs} {h n m : Nat} {es : List ByteArray} {ps : List Nat} (k : Bnd a h es ps n) (hm : n ≤ m) : Bnd a h es ps m := by
 obtain ⟨k1, Z, k2, k3⟩ := k
 exact ⟨k1, Z, k2, by omega⟩
theorem Bnd.len {a : Abs} {h n : Nat} {es : List ByteArray} {ps : List Nat} (k : Bnd a h es ps n) : es.length ≤ n := by
 obtain ⟨k1, Z, k2, k3⟩ := k
 omega
theorem Bnd.new {a : Abs} {r : Nat} (hs : Sub a 1 r e0 e0 [] [r]) : Bnd a 1 [] [r] 0 := by
 refine ⟨by omega, [], fun p hp hz => ?_, by simp⟩
 obtain ⟨n, ps', hn, _, _, hc⟩ := hs
 rcases hc with ⟨_, hl, _⟩ | ⟨h0, _⟩
 · obtain ⟨m, hm, hml, _⟩ := hz
   have e : p = r := by simpa using hp
   rw [e] at hm
   rw [hm.uniq hn, hl] at hml
   cases hml
 · exact absurd rfl h0
theorem Both.shaped {w0 : World} {s : Ar} {t p r h n : Nat} {es : List ByteArray} {ps : List Nat} {w : World} (k : Both w0 s t p r h es ps es w) (hb : Bnd s.abs h es ps n) (hn : n ≤ 1000) : ∃ a c, w.cell? ⟨p, 0, none⟩ = some (.slice a es.length c) ∧ p < w.heap.size ∧ ∀ W, Below w.heap.size w W → Calls Tryz.prog 22 #[arV s.p, .pointer (some ⟨t, 0, none⟩), .slice a es.length c] W fun e W' => e = .returned (.bool true) ∧ Below W.heap.size W W' := by
 obtain ⟨a, c, q1, q2⟩ := k.st.row
 have hl := hb.len
 refine ⟨a, c, by rw [cell_of_row _ _ _ _ _ _ q1]; rfl, (Array.getElem?_eq_some_iff.1 q1).1, fun W hW => ?_⟩
 exact shaped_walk (k.tw.on hW) k.ru hb.1 (by omega) ((L5.owns_rd_slice q2).below hW)
set_option maxRecDepth 100000 in
set_option maxHeartbeats 2000000 in
theorem shapes_walk {l : List TOp} {a : Option Addr} {c : Nat} {w : World} (hS : Rw.SlG oC 3 w a l) :
 Calls Tryz.prog 4 #[.slice a l.length c] w fun e w' => e = .returned (.bool true) ∧ Below w.heap.size w w' := by
 have HS := thid hS
 clear hS
 go_enter Tryz.func4, Tryz.ntmps4
 go_wp2_with fail
 refine (awake2_walk _).mono ?_
 rintro e w1 ⟨rfl, b1⟩
 have HB1 := thid b1
 clear b1
 have HGR := thid (great_walk (c := c) (m := 80) (HS.out.below HB1.out) (by omega))
 cases hg : greatB l 80
 · rw [hg] at HGR
   obtain ⟨hn1, hn2⟩ := great_not hg
   go_wp2_with fail
   refine HGR.out.mono ?_
   rintro e w3 ⟨rfl, b3⟩
   have HB3 := thid (tbelow_on HB1.out b3)
   clear b3 HGR HB1
   go_wp2_with fail
   refine (L4.new_ok 4000 (by omega) _).mono ?_
   rintro e w4 ⟨s, rfl, hF⟩
   have HF := thid hF
   have hok0 : s.abs.Ok := by
    rw [hF.2.1]
    exact ⟨by simp, by simp, by simp, by simp, by simp, by simp⟩
   have hl0 : 0 < s.abs.left := by
    rw [hF.2.1]
    simp [L4.Abs.left, L4.Abs.used]
   have hu0 : s.abs.used = 0 := by
    rw [hF.2.1]
    rfl
   have HN := thid (tnew hF.1 hok0 hl0)
   unfold arV at HN ⊢
   clear hF hok0 hl0 hg
   go_wp2_with fail
   refine HN.out.mono ?_
   rintro e w5 ⟨rfl, s5, r5, t1, p1, g1, o1, n1⟩
   have HBO := thid (Both.new HB3.out HF.out t1 o1 n1)
   have HPP := thid p1
   have HU5 := thid (show s5.abs.used = [r5].length by have := g1.used; rw [hu0] at this; simpa using this)
   have HBD := thid (Bnd.new t1.tp.sub)
   clear HN HF HB3 t1 g1 o1 n1 p1 hu0
   generalize w4.heap.size = t at *
   go_wp2_with fail
   generalize w5.heap.size = p at *
   generalize w5.alloc (.cells #[.slice none 0 0] 35) = W5 at *
   go_loopw [31] (fun i wr => ∃ j : Nat, j ≤ l.length ∧ i = .int .i64 (j : Int) ∧ ∃ (s5 : Ar) (r5 h5 : Nat) (es : List ByteArray) (ps : List Nat), Hid (Both w s5 t p r5 h5 es ps es wr ∧ Bnd s5.abs h5 es ps j ∧ s5.p = s.p ∧ s5.abs.used = ps.length)) (fun i _ => l.length - (intOf i).toNat)
   case atStart => exact ⟨0, Nat.zero_le _, rfl, s5, r5, 1, [], [r5], HBO.out, HBD.out, HPP.out, HU5.out⟩
   case round =>
    clear HBO HPP HU5 HBD
    obtain ⟨j, hj, rfl, s6, r6, h6, es, ps, HI⟩ := hrel
    obtain ⟨hT, hbd, hsp, hus⟩ := HI.out
    by_cases hlt : j < l.length
    · have hlt' : (j : Int) < (l.length : Int) := by omega
      obtain ⟨b, o, k, rfl, hbl, hx, hc⟩ := (HS.out.below hT.bel).at hlt
      have hks := hn2 k (List.mem_of_getElem? hx)
      have c0 : wr.cell? ⟨b, o + j * 3, none⟩ = some (.int .i64 k.k) := hc 0 _ rfl
      have c1 : wr.cell? ⟨b, o + j * 3 + 1, none⟩ = some (.int .i64 k.n) := hc 1 _ rfl
      have c2 : wr.cell? ⟨b, o + j * 3 + 2, none⟩ = some (.string k.s) := hc 2 _ rfl
      have a1 := heap_alloc_new wr (.cells #[.int .i64 k.k, .int .i64 k.n, .string k.s] 37)
      have HT1 := thid (hT.on (tbelow wr (.cells #[.int .i64 k.k, .int .i64 k.n, .string k.s] 37)))
      have HBD := thid hbd
      clear hc hx hT HI hbd
      by_cases hk3 : k.k = 3
      · have hk : (k.k == 3) = true := by rw [hk3]; rfl
        have HD : Hid (Both w s6 t p r6 h6 es ps es (wr.alloc (.cells #[.int .i64 k.k, .int .i64 k.n, .string k.s] 37)) ∧ Bnd s6.abs h6 es ps (j + 1) ∧ s6.p = s.p ∧ s6.abs.used = ps.length) := ⟨HT1.out, HBD.out.more (by omega), hsp, hus⟩
        clear hk3 HT1 HBD
        go_wp2
        go_roundw
        case rel => exact ⟨j + 1, hlt, by go_num, s6, r6, h6, es, ps, HD⟩
        case measure => simp [intOf]; omega
      · have hk : (k.k == 3) = false := by simpa using hk3
        have HUW := thid (fun (W : World) (hb : Below _ _ W) => L4.used_walk (L4.arSt.below HT1.out.tw.ar hb) HT1.out.tw.ok)
        rw [hsp] at HUW
        unfold arV nv at HUW
        clear hk3
        go_wp2_with fail
        generalize wr.alloc (.cells #[.int .i64 k.k, .int .i64 k.n, .string k.s] 37) = W1 at *
        generalize wr.heap.size = q at *
        refine (HUW.out W1 (Below.refl _ _)).mono ?_
        rintro e w6 ⟨rfl, b6⟩
        have HT2 := thid (HT1.out.on b6)
        have a2 := (b6.block _ (Array.getElem?_eq_some_iff.1 a1).1).trans a1
        clear HUW HT1 a1 b6 c0 c1 c2 hbl
        go_wp2_with fail
        refine (height_ok HT2.out.tw.tr).mono ?_
        rintro e w7 ⟨rfl, b7⟩
        have HT3 := thid (HT2.out.on b7)
        have a3 := (b7.block _ (Array.getElem?_eq_some_iff.1 a2).1).trans a2
        clear HT2 a2 b7
        have d0 : w7.cell? ⟨q, 0, none⟩ = some (.int .i64 k.k) := by rw [cell_of_row _ _ _ _ _ _ a3]; rfl
        have d1 : w7.cell? ⟨q, 1, none⟩ = some (.int .i64 k.n) := by rw [cell_of_row _ _ _ _ _ _ a3]; rfl
        have d2 : w7.cell? ⟨q, 2, none⟩ = some (.string k.s) := by rw [cell_of_row _ _ _ _ _ _ a3]; rfl
        have dl := (Array.getElem?_eq_some_iff.1 a3).1
        have hel := HBD.out.len
        have hh30 : Hid (h6 ≤ 30) := HBD.out.1
        have hps30 : Hid (ps.length ≤ 4096) := pages_le HT3.out.tw.ok HT3.out.tw.tp.nodup fun x hx => HT3.out.tw.tp.sub.pages x hx
        have HSTP := thid (step_any (o := k) HT3.out (by omega) hks)
        rw [hsp] at HSTP
        unfold arV oV at HSTP
        go_wp2_with fail
        refine HSTP.out.mono ?_
        rintro e w8 ⟨rfl, s8, r8, h8, es8, ps8, hB8, hfl, hp8, hon⟩
        have a8 : w8.heap[q]? = some (.cells #[.int .i64 k.k, .int .i64 k.n, .string k.s] 37 (0, 0)) := by
         rw [hon.block _ dl (fun z => ?_)]
         · exact a3
         · rcases z with z | z | z
           · exact not_own HT3.out.tw.ar a3 (by decide) (by decide) (by decide) z
           · exact tag_ne a3 HT3.out.tw.tr.blk (by decide) z
           · obtain ⟨_, _, q1, _⟩ := HT3.out.st.row
             exact tag_ne a3 q1 (by decide) z
        have HB8 := thid hB8
        have HBD8 := thid (HBD.out.step hfl (by omega))
        have hsp8 : s8.p = s.p := hp8.trans hsp
        have hus8 : s8.abs.used = ps8.length := by have := hfl.used; omega
        have hmore := hfl.more
        have hless := hfl.less
        obtain ⟨sa, sc, sl, pl, hsh⟩ := hB8.shaped HBD8.out (by omega)
        have HSH := thid (hsh w8 (Below.refl _ _))
        rw [hsp8] at HSH
        unfold arV at HSH
        clear HSTP d0 d1 d2 dl a3 hB8 hfl hp8 hon HT3 HBD hsh hus
        go_wp2_with fail
        refine HSH.out.mono ?_
        rintro e w9 ⟨rfl, b9⟩
        have HB9 := thid (HB8.out.on b9)
        have a9 := (b9.block _ (Array.getElem?_eq_some_iff.1 a8).1).trans a8
        clear HSH HB8 a8 b9 sl pl
        have HUW := thid (L4.used_walk HB9.out.tw.ar HB9.out.tw.ok)
        rw [hsp8, hus8] at HUW
        unfold arV nv at HUW
        go_wp2_with fail
        refine HUW.out.mono ?_
        rintro e w10 ⟨rfl, b10⟩
        have HB10 := thid (HB9.out.on b10)
        have a10 := (b10.block _ (Array.getElem?_eq_some_iff.1 a9).1).trans a9
        clear HUW HB9 a9 b10
        have hel8 := HBD8.out.len
        go_wp2_with fail
        refine (tpages_any HB10.out.tw (by omega)).mono ?_
        rintro e w11 ⟨pa, pc, rfl, _, b11⟩
        have HB11 := thid (HB10.out.on b11)
        have a11 := (b11.block _ (Array.getElem?_eq_some_iff.1 a10).1).trans a10
        have hpp : ((ps8.length : Int) != (ps8.length : Int)) = false := by simp
        have d0 : w11.cell? ⟨q, 0, none⟩ = some (.int .i64 k.k) := by rw [cell_of_row _ _ _ _ _ _ a11]; rfl
        have dl := (Array.getElem?_eq_some_iff.1 a11).1
        have HUW := thid (L4.used_walk HB11.out.tw.ar HB11.out.tw.ok)
        rw [hsp8, hus8] at HUW
        unfold arV nv at HUW
        clear HB10 a10 b11 a11
        have hpl8 : ps8.length ≤ 4096 := pages_le HB11.out.tw.ok HB11.out.tw.tp.nodup fun x hx => HB11.out.tw.tp.sub.pages x hx
        have hus8' : s8.abs.used = ps8.length := hus8
        by_cases hk0 : k.k = 0
        · have e1 : (k.k == 0) = true := by rw [hk0]; rfl
          have e2 : (k.k != 0) = false := by rw [hk0]; rfl
          have hh6 : h6 ≤ 30 := hh30.out
          have hpl6 : ps.length ≤ 4096 := hps30.out
          have e3 : IntKind.i64.wrap ((ps.length : Int) + (h6 : Int)) = (ps.length : Int) + (h6 : Int) := by rw [IntKind.wrap_i64]; omega
          have e4 : IntKind.i64.wrap ((ps.length : Int) + (h6 : Int) + 1) = (ps.length : Int) + (h6 : Int) + 1 := by rw [IntKind.wrap_i64]; omega
          have e5 : ¬ (ps.length : Int) + (h6 : Int) + 1 < (ps8.length : Int) := by omega
          have HD : Hid (∀ W, Below w11.heap.size w11 W → Both w s8 t p r8 h8 es8 ps8 es8 W ∧ Bnd s8.abs h8 es8 ps8 (j + 1) ∧ s8.p = s.p ∧ s8.abs.used = ps8.length) := fun W hW => ⟨HB11.out.on hW, HBD8.out, hsp8, hus8'⟩
          clear hk0 HB11 HBD8 hless hmore
          go_wp2_with fail
          refine HUW.out.mono ?_
          rintro e w12 ⟨rfl, b12⟩
          have HD2 := thid (HD.out w12 b12)
          have d0' := (b12.cell (p := ⟨q, 0, none⟩) dl).trans d0
          have dl' : q < w12.heap.size := Nat.lt_of_lt_of_le dl b12.size
          clear HD HUW d0 b12
          go_wp2
          go_roundw
          case rel => exact ⟨j + 1, hlt, by go_num, s8, r8, h8, es8, ps8, HD2⟩
          case measure => simp [intOf]; omega
        · have e1 : (k.k == 0) = false := by simpa using hk0
          have e2 : (k.k != 0) = true := by simpa using hk0
          have e5 : ¬ (ps.length : Int) < (ps8.length : Int) := by have := hless.resolve_left hk0; omega
          have HD : Hid (∀ W, Below w11.heap.size w11 W → Both w s8 t p r8 h8 es8 ps8 es8 W ∧ Bnd s8.abs h8 es8 ps8 (j + 1) ∧ s8.p = s.p ∧ s8.abs.used = ps8.length) := fun W hW => ⟨HB11.out.on hW, HBD8.out, hsp8, hus8'⟩
          clear hk0 HB11 HBD8 hless hmore
          go_wp2_with fail
          refine HUW.out.mono ?_
          rintro e w12 ⟨rfl, b12⟩
          have HD2 := thid (HD.out w12 b12)
          clear HD HUW d0 b12 dl
          go_wp2
          go_roundw
          case rel => exact ⟨j + 1, hlt, by go_num, s8, r8, h8, es8, ps8, HD2⟩
          case measure => simp [intOf]; omega
    · have hlt' : ¬ (j : Int) < (l.length : Int) := by omega
      have HE := thid hT.bel
      clear HI hT
      go_wp2
      go_ret
      exact ⟨rfl, HE.out⟩
 · rw [hg] at HGR
   go_wp2_with fail
   refine HGR.out.mono ?_
   rintro e w3 ⟨rfl, b3⟩
   have HE := thid (tbelow_on HB1.out b3)
   clear HGR b3 HB1
   go_wp2
   go_ret
   exact ⟨rfl, HE.out⟩
end Go.Proofs.YtpcmiholbcmmjaaGreat
