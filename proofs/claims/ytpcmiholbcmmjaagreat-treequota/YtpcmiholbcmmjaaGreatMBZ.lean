import Derived.Test.YtpcmiholbcmmjaaGreatMBW
import Derived.Test.YtpcmiholbcmmjaaGreatMBY
set_option maxRecDepth 100000
set_option maxHeartbeats 4000000
namespace Go.Proofs.YtpcmiholbcmmjaaGreat
open Go.RowKit
open L4 (Ar ArP Abs arV nv)
open L5 (ltP ltB leB)
def Bnd (a : Abs) (h : Nat) (es : List ByteArray) (ps : List Nat) (n : Nat) : Prop := h <= 30 /\ ∃ Z, Cov a ps Z /\ es.length + 2 * Z.length <= n
theorem full_le {h : Nat} (hf : fullH h <= 1000) : h <= 29 := by
 rcases Nat.lt_or_ge 29 h with e | e
 · exfalso
   unfold fullH at hf
   have h1 : 29 * 28 <= (h - 1) * (h - 2) := Nat.mul_le_mul (by omega) (by omega)
   omega
 · exact e
theorem Bnd.step {ins : Prop} {a A : Abs} {h h' n : Nat} {es es' : List ByteArray} {ps ps' : List Nat} (k : Bnd a h es ps n) (f : Flow ins a A h h' es es' ps ps') (hn : n <= 1000) : Bnd A h' es' ps' (n + 1) := by
 obtain ⟨k1, Z, k2, k3⟩ := k
 obtain ⟨Z', f1, f2⟩ := f.cov Z k2
 refine ⟨?_, Z', f1, by omega⟩
 rcases f.tall Z k2 with e | ⟨e, e2⟩
 · omega
 · have := full_le (h := h) (by omega)
   omega
theorem Bnd.more {a : Abs} {h n m : Nat} {es : List ByteArray} {ps : List Nat} (k : Bnd a h es ps n) (hm : n <= m) : Bnd a h es ps m := by
 obtain ⟨k1, Z, k2, k3⟩ := k
 exact ⟨k1, Z, k2, by omega⟩
theorem Bnd.len {a : Abs} {h n : Nat} {es : List ByteArray} {ps : List Nat} (k : Bnd a h es ps n) : es.length <= n := by
 obtain ⟨k1, Z, k2, k3⟩ := k
 omega
theorem Bnd.frame {a a' : Abs} {h n : Nat} {es : List ByteArray} {ps : List Nat} (k : Bnd a h es ps n) (hp : ∀ p ∈ ps, a'.at (p : Int) = a.at (p : Int)) : Bnd a' h es ps n := by
 obtain ⟨k1, Z, k2, k3⟩ := k
 exact ⟨k1, Z, k2.frame hp, k3⟩
theorem Bnd.new {a : Abs} {r : Nat} (hs : Sub a 1 r e0 e0 [] [r]) : Bnd a 1 [] [r] 0 := by
 refine ⟨by omega, [], fun p hp hz => ?_, by simp⟩
 obtain ⟨n, ps', hn, _, _, hc⟩ := hs
 rcases hc with ⟨_, hl, _⟩ | ⟨h0, _⟩
 · obtain ⟨m, hm, hml, _⟩ := hz
   have e : p = r := by simpa using hp
   rw [e] at hm
   rw [hm.uniq hn, hl] at hml
   cases hml
 · exact absurd rfl h0
theorem Both.shaped {w0 : World} {s : Ar} {t p r h n : Nat} {es : List ByteArray} {ps : List Nat} {w : World} (k : Both w0 s t p r h es ps es w) (hb : Bnd s.abs h es ps n) (hn : n <= 1000) : ∃ a c, w.cell? ⟨p, 0, none⟩ = some (.slice a es.length c) /\ p < w.heap.size /\ ∀ W, Below w.heap.size w W -> Calls Tryz.prog 22 #[arV s.p, .pointer (some ⟨t, 0, none⟩), .slice a es.length c] W fun e W' => e = .returned (.bool true) /\ Below W.heap.size W W' := by
 obtain ⟨a, c, q1, q2⟩ := k.st.row
 have hl := hb.len
 refine ⟨a, c, by rw [cell_of_row _ _ _ _ _ _ q1]; rfl, (Array.getElem?_eq_some_iff.1 q1).1, fun W hW => ?_⟩
 exact shaped_walk (k.tw.on hW) k.ru hb.1 (by omega) ((L5.owns_rd_slice q2).below hW)
theorem tinsert_full {s : Ar} {t r h : Nat} {es : List ByteArray} {ps : List Nat} {k : ByteArray} {w : World} (hT : TW s t r h es ps w) (hk1 : 1 <= k.size) (hk2 : k.size <= 400) (hl : s.abs.left < h + 1) :
 Calls Tryz.prog 30 #[.pointer (some ⟨t, 0, none⟩), .string k] w fun e w' => ((k ∈ es /\ e = .returned (.int .i64 3)) \/ (k ∉ es /\ e = .returned (.int .i64 9))) /\ Below w.heap.size w w' := by
 obtain ⟨t1, t2, t3⟩ := hT.tp.tall hT.ok
 obtain ⟨pre, y, lo, hi, fL, fR, qO, f⟩ := hT.tp.sub.found k
 by_cases hm : k ∈ es
 · refine (tinsert_stop hT.ar hT.tr t3 hk1 hk2 (fun x W hE => insert_there_any hE hT.ok f.path t1 f.holds.small (f.mem.1 hm))).mono ?_
   rintro e w' ⟨rfl, hb⟩
   exact ⟨Or.inl ⟨hm, rfl⟩, hb⟩
 · have hna : L5.isAt y.n.recs k (y.n.recs.countP (L5.ltB k)) = false := by
    cases hb : L5.isAt y.n.recs k (y.n.recs.countP (L5.ltB k)) with
    | false => rfl
    | true => exact absurd (f.mem.2 hb) hm
   refine (tinsert_stop hT.ar hT.tr t3 hk1 hk2 (fun x W hE => insert_quota_any hE hT.ok f.path t1 f.holds.small hna hl)).mono ?_
   rintro e w' ⟨rfl, hb⟩
   exact ⟨Or.inr ⟨hm, rfl⟩, hb⟩
theorem quota_walk {q : Nat} {l : List TOp} {a : Option Addr} {c : Nat} {x : ByteArray} {w : World} (hq : q <= 255) (hS : Rw.SlG oC 3 w a l) :
 Calls Tryz.prog 6 #[.int .u8 (q : Int), .slice a l.length c, .string x] w fun e w' => e = .returned (.bool true) /\ Below w.heap.size w w' := by
 have HS := thid hS
 clear hS
 go_enter Tryz.func6, Tryz.ntmps6
 go_wp2_with fail
 refine (awake2_walk _).mono ?_
 rintro e w1 ⟨rfl, b1⟩
 have HB1 := thid b1
 clear b1
 have HGR := thid (great_walk (c := c) (m := 100) (HS.out.below HB1.out) (by omega))
 cases hg : greatB l 100
 · rw [hg] at HGR
   by_cases hx1 : x.size < 1
   · have hx1' : (x.size : Int) < 1 := by omega
     go_wp2_with fail
     refine HGR.out.mono ?_
     rintro e w3 ⟨rfl, b3⟩
     have HE := thid (tbelow_on HB1.out b3)
     clear HGR b3 HB1
     go_wp2
     go_ret
     exact ⟨rfl, HE.out⟩
   by_cases hx2 : 400 < x.size
   · have hx1' : ¬ (x.size : Int) < 1 := by omega
     have hx2' : (400 : Int) < (x.size : Int) := by omega
     go_wp2_with fail
     refine HGR.out.mono ?_
     rintro e w3 ⟨rfl, b3⟩
     have HE := thid (tbelow_on HB1.out b3)
     clear HGR b3 HB1
     go_wp2
     go_ret
     exact ⟨rfl, HE.out⟩
   obtain ⟨hn1, hn2⟩ := great_not hg
   have hx1' : ¬ (x.size : Int) < 1 := by omega
   have hx2' : ¬ (400 : Int) < (x.size : Int) := by omega
   go_wp2_with fail
   refine HGR.out.mono ?_
   rintro e w3 ⟨rfl, b3⟩
   have HB3 := thid (tbelow_on HB1.out b3)
   clear b3 HGR HB1
   have hwq : IntKind.i64.wrap (1 + (q : Int)) = ((q + 1 : Nat) : Int) := by rw [IntKind.wrap_i64]; omega
   have HNW := thid (fun (W : World) => L4.new_ok (q + 1) (by omega) W)
   rw [show ((q + 1 : Nat) : Int) = (q : Int) + 1 by omega] at HNW
   go_wp2_with fail
   refine (HNW.out _).mono ?_
   rintro e w4 ⟨s, rfl, hF⟩
   have HF := thid hF
   have hok0 : s.abs.Ok := by
    rw [hF.2.1]
    exact ⟨by simp, by simp, by simp, by simp, by simp, by simp; omega⟩
   have hl0 : 0 < s.abs.left := by
    rw [hF.2.1]
    simp [L4.Abs.left, L4.Abs.used]
   have hu0 : s.abs.used = 0 := by
    rw [hF.2.1]
    rfl
   have HN := thid (tnew hF.1 hok0 hl0)
   unfold arV at HN ⊢
   clear hF hok0 hl0 hg HNW hwq
   go_wp2_with fail
   refine HN.out.mono ?_
   rintro e w5 ⟨rfl, s5, r5, t1, p1, g1, o1, n1⟩
   have HBO := thid (Both.new HB3.out HF.out t1 o1 n1)
   have HPP := thid p1
   have HU5 := thid (show s5.abs.used = [r5].length by have := g1.used; rw [hu0] at this; simpa using this)
   have HBD := thid (Bnd.new t1.tp.sub)
   clear HN HF HB3 t1 g1 o1 n1 p1 hu0
   generalize w4.heap.size = t at *
   go_wp2_with fail
   generalize w5.heap.size = p at *
   generalize w5.alloc (.cells #[.slice none 0 0] 35) = W5 at *
   go_loopw [50] (fun i wr => ∃ j : Nat, j <= l.length /\ i = .int .i64 (j : Int) /\ ∃ (s5 : Ar) (r5 h5 : Nat) (es : List ByteArray) (ps : List Nat), Hid (Both w s5 t p r5 h5 es ps es wr /\ Bnd s5.abs h5 es ps j /\ s5.p = s.p /\ s5.abs.used = ps.length /\ ps.length <= 1 + 31 * j)) (fun i _ => l.length - (intOf i).toNat)
   case atStart => exact ⟨0, Nat.zero_le _, rfl, s5, r5, 1, [], [r5], HBO.out, HBD.out, HPP.out, HU5.out, by simp⟩
   case round =>
    clear HBO HPP HU5 HBD
    obtain ⟨j, hj, rfl, s6, r6, h6, es, ps, HI⟩ := hrel
    obtain ⟨hT, hbd, hsp, hus, hpn⟩ := HI.out
    by_cases hlt : j < l.length
    · have hlt' : (j : Int) < (l.length : Int) := by omega
      obtain ⟨b, o, k, rfl, hbl, hx, hc⟩ := (HS.out.below hT.bel).at hlt
      have hks := hn2 k (List.mem_of_getElem? hx)
      have c0 : wr.cell? ⟨b, o + j * 3, none⟩ = some (.int .i64 k.k) := hc 0 _ rfl
      have c1 : wr.cell? ⟨b, o + j * 3 + 1, none⟩ = some (.int .i64 k.n) := hc 1 _ rfl
      have c2 : wr.cell? ⟨b, o + j * 3 + 2, none⟩ = some (.string k.s) := hc 2 _ rfl
      have HT1 := thid (hT.on (tbelow wr (.cells #[.int .i64 k.k, .int .i64 k.n, .string k.s] 37)))
      have HBD := thid hbd
      have hel := hbd.len
      clear hc hx hT HI hbd
      by_cases hk3 : k.k = 3
      · have hk : (k.k != 3) = false := by rw [hk3]; rfl
        have HD : Hid (Both w s6 t p r6 h6 es ps es (wr.alloc (.cells #[.int .i64 k.k, .int .i64 k.n, .string k.s] 37)) /\ Bnd s6.abs h6 es ps (j + 1) /\ s6.p = s.p /\ s6.abs.used = ps.length /\ ps.length <= 1 + 31 * (j + 1)) := ⟨HT1.out, HBD.out.more (by omega), hsp, hus, by omega⟩
        clear hk3 HT1 HBD
        go_wp2
        go_roundw
        case rel => exact ⟨j + 1, hlt, by go_num, s6, r6, h6, es, ps, HD⟩
        case measure => simp [intOf]; omega
      · have hk : (k.k != 3) = true := by simpa using hk3
        have HSTP := thid (step_any (o := k) HT1.out (by omega) hks)
        rw [hsp] at HSTP
        unfold arV oV at HSTP
        clear hk3
        go_wp2_with fail
        refine HSTP.out.mono ?_
        rintro e w6 ⟨rfl, s8, r8, h8, es8, ps8, hB8, hfl, hp8, hon⟩
        have hmo := hfl.more
        have hh6 := HBD.out.1
        have HD : Hid (Both w s8 t p r8 h8 es8 ps8 es8 w6 /\ Bnd s8.abs h8 es8 ps8 (j + 1) /\ s8.p = s.p /\ s8.abs.used = ps8.length /\ ps8.length <= 1 + 31 * (j + 1)) := ⟨hB8, HBD.out.step hfl (by omega), hp8.trans hsp, by have := hfl.used; omega, by omega⟩
        clear HSTP hB8 hfl hp8 hon HT1 HBD
        go_wp2
        go_roundw
        case rel => exact ⟨j + 1, hlt, by go_num, s8, r8, h8, es8, ps8, HD⟩
        case measure => simp [intOf]; omega
    · have hlt' : ¬ (j : Int) < (l.length : Int) := by omega
      have HT := thid hT
      have HBD := thid hbd
      have hgl : s6.abs.pages.length <= 4096 := Nat.le_trans (L4.upto_length _ _) hT.tw.ok.small
      have HPG := thid (L4.pages_walk hT.tw.ar hT.tw.ok)
      rw [hsp] at HPG
      unfold arV at HPG
      clear HI hT hbd
      go_wp2_with fail
      refine HPG.out.mono ?_
      rintro e w6 ⟨v6, rfl, i6, b6⟩
      have HT6 := thid (HT.out.on b6)
      have HI6 := thid i6
      have hno : ∀ g, v6.ownBlock = some g -> ¬ s6.own g := fun g hg ho => by
       have h1 := (World.ownsRow.lt i6 g hg).1
       have h2 := L4.arSt.lt s6 wr g HT.out.tw.ar ho
       omega
      clear HPG HT i6 b6
      have HL := thid (L4.limit_ok HT6.out.tw.ar 0 (by omega))
      rw [hsp] at HL
      unfold arV at HL
      go_wp2_with fail
      refine HL.out.mono ?_
      rintro e w7 ⟨rfl, s7, hA7, hp7, hab7, hM7⟩
      have HT7 := thid (HT6.out.limit hA7 hp7 hab7 (by omega) hM7)
      have HI7 := thid (L5.owns_of_block HI6.out fun g hg => hM7.only.block g (World.ownsRow.lt HI6.out g hg).2 (hno g hg))
      have hpg7 : s7.abs.pages = s6.abs.pages := by rw [hab7]; rfl
      have hat7 : ∀ q, s7.abs.at q = s6.abs.at q := fun q => by rw [hab7]; rfl
      have HBD7 := thid (HBD.out.frame (a' := s7.abs) fun q _ => hat7 _)
      have hle7 : s7.abs.left < h6 + 1 := by rw [hab7]; unfold L4.Abs.left; simp
      have hsp7 : s7.p = s.p := hp7.trans hsp
      have hu7 : s7.abs.used = s6.abs.used := by rw [hab7]; rfl
      clear HL HT6 HI6 hA7 hM7 HBD hno
      have hri := HT7.out.rise
      have hel := HBD7.out.len
      have HSA := thid (sat_walk (x := x) HT7.out.st (by omega))
      rw [first_count hri x] at HSA
      have hmem := isAt_mem hri x
      obtain ⟨ia, hia⟩ : ∃ ia, L5.isAt es x (es.countP (ltB x)) = ia := ⟨_, rfl⟩
      rw [hia] at HSA hmem
      go_wp2_with fail
      refine HSA.out.mono ?_
      rintro e w8 ⟨rfl, b8⟩
      have HT8 := thid (HT7.out.on b8)
      have HI8 := thid (L5.owns_below HI7.out b8)
      clear HSA HT7 HI7 b8
      have HIN := thid (tinsert_full (k := x) HT8.out.tw (by omega) (by omega) hle7)
      go_wp2_with fail
      refine HIN.out.mono ?_
      rintro e w9 ⟨hor, b9⟩
      have HT9 := thid (HT8.out.on b9)
      have HI9 := thid (L5.owns_below HI8.out b9)
      clear HIN HT8 HI8 b9
      obtain ⟨sa, sc, sl, pl, hsh⟩ := HT9.out.shaped HBD7.out (by omega)
      cases ia
      · have hnm : x ∉ es := fun h => by have := hmem.2 h; cases this
        obtain rfl := (hor.resolve_left fun h => hnm h.1).2
        have HOR := thid (And.intro hor hmem)
        clear hor hmem hia
        have HSH := thid (hsh w9 (Below.refl _ _))
        rw [hsp7] at HSH
        unfold arV at HSH
        clear hsh
        go_wp2_with fail
        refine HSH.out.mono ?_
        rintro e w10 ⟨rfl, b10⟩
        have HT10 := thid (HT9.out.on b10)
        have HI10 := thid (L5.owns_below HI9.out b10)
        clear HSH HT9 HI9 b10 sl pl
        have HPG := thid (L4.pages_walk HT10.out.tw.ar HT10.out.tw.ok)
        rw [hsp7, hpg7] at HPG
        unfold arV at HPG
        go_wp2_with fail
        refine HPG.out.mono ?_
        rintro e w11 ⟨v11, rfl, i11, b11⟩
        have HT11 := thid (HT10.out.on b11)
        have HSM := thid (L4.same_walk i11 (L5.owns_below HI10.out b11) (by omega))
        clear HPG HT10 HI10 i11 b11
        go_wp2_with fail
        refine HSM.out.mono ?_
        rintro e w12 ⟨rfl, b12⟩
        have HT12 := thid (HT11.out.on b12)
        clear HSM HT11 b12
        have HL := thid (L4.limit_ok HT12.out.tw.ar 4000 (by omega))
        rw [hsp7] at HL
        unfold arV at HL
        go_wp2_with fail
        refine HL.out.mono ?_
        rintro e w13 ⟨rfl, s13, hA13, hp13, hab13, hM13⟩
        have HT13 := thid (HT12.out.limit hA13 hp13 hab13 (by omega) hM13)
        have hat13 : ∀ q, s13.abs.at q = s7.abs.at q := fun q => by rw [hab13]; rfl
        have HBD13 := thid (HBD7.out.frame (a' := s13.abs) fun q _ => hat13 _)
        have hus13 : s13.abs.used = ps.length := by rw [hab13, <- hus, <- hu7]; rfl
        have hq13 : s13.abs.q = 4000 := by rw [hab13]
        have hle13 : h6 + 1 <= s13.abs.left := by have := HBD13.out.1; unfold L4.Abs.left; omega
        have hsp13 : s13.p = s.p := hp13.trans hsp7
        clear HL HT12 hA13 hM13 HBD7
        have HIN := thid (tinsert_ruly (k := x) HT13.out.tw HT13.out.ru (by omega))
        go_wp2_with fail
        refine HIN.out.mono ?_
        rintro e w14 ⟨c14, s14, r14, h14, es14, ps14, rfl, i14, t14⟩
        have h9 : ¬ c14 = 9 := fun h9 => by
         rcases i14 with ⟨_, e1, _⟩ | ⟨_, ⟨_, e1, _⟩ | ⟨_, ⟨e0, _⟩ | ⟨_, e1, _⟩⟩⟩ <;> omega
        have hins := ins_same i14 hri h9
        have HT14 := thid (HT13.out.tree t14)
        have HBD14 := thid (HBD13.out.step t14.2.2.2.2.2.2 (by omega))
        have hsp14 : s14.p = s.p := t14.2.2.1.trans hsp13
        have HSI := thid (sins_walk (x := x) HT14.out.st HT14.out.bel.size (by omega) hri)
        rw [hins] at HSI
        have hcc : (c14 == c14) = true := by simp
        clear HIN HT13 HBD13 i14 t14 h9 hins
        go_wp2_with fail
        refine HSI.out.mono ?_
        rintro e w15 ⟨rfl, k15, o15⟩
        have HT15 := thid (HT14.out.set k15 o15)
        obtain ⟨sa, sc, sl, pl, hsh⟩ := HT15.out.shaped HBD14.out (by omega)
        have HSH := thid (hsh w15 (Below.refl _ _))
        rw [hsp14] at HSH
        unfold arV at HSH
        have HE := thid HT15.out.bel
        clear hsh HSI HT14 k15 o15 HT15 HBD14
        go_wp2_with fail
        refine HSH.out.mono ?_
        rintro e w16 ⟨rfl, b16⟩
        have HE2 := thid (tbelow_on HE.out b16)
        clear HSH HE b16
        go_wp2
        go_ret
        exact ⟨rfl, HE2.out⟩
      · have hnm : x ∈ es := hmem.1 rfl
        obtain rfl := (hor.resolve_right fun h => h.1 hnm).2
        have HOR := thid (And.intro hor hmem)
        clear hor hmem hia
        have HSH := thid (hsh w9 (Below.refl _ _))
        rw [hsp7] at HSH
        unfold arV at HSH
        clear hsh
        go_wp2_with fail
        refine HSH.out.mono ?_
        rintro e w10 ⟨rfl, b10⟩
        have HT10 := thid (HT9.out.on b10)
        have HI10 := thid (L5.owns_below HI9.out b10)
        clear HSH HT9 HI9 b10 sl pl
        have HPG := thid (L4.pages_walk HT10.out.tw.ar HT10.out.tw.ok)
        rw [hsp7, hpg7] at HPG
        unfold arV at HPG
        go_wp2_with fail
        refine HPG.out.mono ?_
        rintro e w11 ⟨v11, rfl, i11, b11⟩
        have HT11 := thid (HT10.out.on b11)
        have HSM := thid (L4.same_walk i11 (L5.owns_below HI10.out b11) (by omega))
        clear HPG HT10 HI10 i11 b11
        go_wp2_with fail
        refine HSM.out.mono ?_
        rintro e w12 ⟨rfl, b12⟩
        have HT12 := thid (HT11.out.on b12)
        clear HSM HT11 b12
        have HL := thid (L4.limit_ok HT12.out.tw.ar 4000 (by omega))
        rw [hsp7] at HL
        unfold arV at HL
        go_wp2_with fail
        refine HL.out.mono ?_
        rintro e w13 ⟨rfl, s13, hA13, hp13, hab13, hM13⟩
        have HT13 := thid (HT12.out.limit hA13 hp13 hab13 (by omega) hM13)
        have hat13 : ∀ q, s13.abs.at q = s7.abs.at q := fun q => by rw [hab13]; rfl
        have HBD13 := thid (HBD7.out.frame (a' := s13.abs) fun q _ => hat13 _)
        have hus13 : s13.abs.used = ps.length := by rw [hab13, <- hus, <- hu7]; rfl
        have hq13 : s13.abs.q = 4000 := by rw [hab13]
        have hle13 : h6 + 1 <= s13.abs.left := by have := HBD13.out.1; unfold L4.Abs.left; omega
        have hsp13 : s13.p = s.p := hp13.trans hsp7
        clear HL HT12 hA13 hM13 HBD7
        have HIN := thid (tinsert_ruly (k := x) HT13.out.tw HT13.out.ru (by omega))
        go_wp2_with fail
        refine HIN.out.mono ?_
        rintro e w14 ⟨c14, s14, r14, h14, es14, ps14, rfl, i14, t14⟩
        have h9 : ¬ c14 = 9 := fun h9 => by
         rcases i14 with ⟨_, e1, _⟩ | ⟨_, ⟨_, e1, _⟩ | ⟨_, ⟨e0, _⟩ | ⟨_, e1, _⟩⟩⟩ <;> omega
        have hins := ins_same i14 hri h9
        have HT14 := thid (HT13.out.tree t14)
        have HBD14 := thid (HBD13.out.step t14.2.2.2.2.2.2 (by omega))
        have hsp14 : s14.p = s.p := t14.2.2.1.trans hsp13
        have HSI := thid (sins_walk (x := x) HT14.out.st HT14.out.bel.size (by omega) hri)
        rw [hins] at HSI
        have hcc : (c14 == c14) = true := by simp
        clear HIN HT13 HBD13 i14 t14 h9 hins
        go_wp2_with fail
        refine HSI.out.mono ?_
        rintro e w15 ⟨rfl, k15, o15⟩
        have HT15 := thid (HT14.out.set k15 o15)
        obtain ⟨sa, sc, sl, pl, hsh⟩ := HT15.out.shaped HBD14.out (by omega)
        have HSH := thid (hsh w15 (Below.refl _ _))
        rw [hsp14] at HSH
        unfold arV at HSH
        have HE := thid HT15.out.bel
        clear hsh HSI HT14 k15 o15 HT15 HBD14
        go_wp2_with fail
        refine HSH.out.mono ?_
        rintro e w16 ⟨rfl, b16⟩
        have HE2 := thid (tbelow_on HE.out b16)
        clear HSH HE b16
        go_wp2
        go_ret
        exact ⟨rfl, HE2.out⟩
 · rw [hg] at HGR
   go_wp2_with fail
   refine HGR.out.mono ?_
   rintro e w3 ⟨rfl, b3⟩
   have HE := thid (tbelow_on HB1.out b3)
   clear HGR b3 HB1
   go_wp2
   go_ret
   exact ⟨rfl, HE.out⟩
theorem quota_walkN {n : Int} {l : List TOp} {a : Option Addr} {c : Nat} {x : ByteArray} {w : World} (hn : (Lit.int .u8 n).wf = true) (hS : Rw.SlG oC 3 w a l) :
 Calls Tryz.prog 6 #[.int .u8 n, .slice a l.length c, .string x] w fun e w' => e = .returned (.bool true) /\ Below w.heap.size w w' := by
 have h := bounds_u8 hn
 obtain ⟨q, rfl⟩ : ∃ q : Nat, n = (q : Int) := ⟨n.toNat, by omega⟩
 exact quota_walk (by omega) hS
end Go.Proofs.YtpcmiholbcmmjaaGreat
