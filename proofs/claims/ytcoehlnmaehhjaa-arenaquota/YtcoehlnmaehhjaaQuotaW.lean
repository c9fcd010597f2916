/-
  ArenaQuota: its walk.
-/
import Derived.Deep.RegionHeld
import Derived.Test.YtcoehlnmaehhjaaArG
import Derived.Test.YtcoehlnmaehhjaaScrR
namespace Go.Proofs.Ytcoehlnmaehhjaa
open Go.RowKit

def BSf (W : World) (b : Nat) : Prop := W.heap[b]? = some (.cells (bcs (List.replicate 1024 (7 : UInt8))).toArray 5 (0, 0))

theorem bytes_seven (w1 : World) (W : World) : Calls Try.prog 17 #[.int .u8 7, .int .i64 1024] W fun e w' => ∃ bn, e = .returned (.slice (some ⟨bn, 0, none⟩) 1024 1024) ∧ BSf w' bn ∧ (∀ b c, HeldP W b c → HeldP w' b c) ∧ ∀ p a, Has w1 p a W → Has w1 p a w' :=
  (bytes_blk 7 1024 (by decide) W).mono fun _ _ ⟨he, hk, hb⟩ => ⟨_, he, hk, fun _ _ h => h.pk (Pk.of_below hb), fun _ _ h => h.below hb⟩

theorem store_seven {w1 : World} {p n : Nat} {a : Abs} {c : List UInt8} (hn : a.at (n : Int) = some c) (W : World) (bn : Nat) (h : Has w1 p a W) (hb : BSf W bn) : Calls Try.prog 16 #[.pointer (some ⟨p, 0, none⟩), .int .i64 (n : Int), .slice (some ⟨bn, 0, none⟩) 1024 1024] W fun e w' => e = .returned (.int .i64 0) ∧ Has w1 p (a.lay n (some (List.replicate 1024 (7 : UInt8)))) w' ∧ ∀ b c, HeldP W b c → HeldP w' b c :=
  (has_store_pk h hn (v := .slice (some ⟨bn, 0, none⟩) 1024 1024) (b := bn) (d := List.replicate 1024 (7 : UInt8)) ⟨by rw [List.length_replicate], _, hb⟩ List.length_replicate).mono fun _ _ ⟨he, h1, h2⟩ => ⟨he, by rw [Int.toNat_natCast] at h1; exact h1, fun _ _ h => h.pk h2⟩

theorem conv_heldP (W : World) (b : Nat) (h : HeldP W b zeroP) : (convert 40 9 (.slice (some ⟨b, 0, none⟩) 1024 1024)).run Try.prog W = .ok (.string ⟨zeroP.toArray⟩) W := by
  have := conv_bs h 1024
  rwa [zeroP_length] at this

theorem make_page (w : World) : (Instr.makeSlice 40 (.int .i64 1024) (.int .i64 1024)).run Try.prog w = .ok (.slice (some ⟨w.heap.size, 0, none⟩) 1024 1024) (w.alloc (.cells (madeCells #[.int .u8 0] 1024) 5)) :=
  run_make_row' 40 5 (.int .u8 0) 1 Try.underlying40 (by kernel_rfl) rfl .i64 .i64 1024 (by decide) (by decide) w

theorem conv_made (W : World) : (convert 40 9 (.slice (some ⟨W.heap.size, 0, none⟩) 1024 1024)).run Try.prog (W.alloc (.cells (madeCells #[.int .u8 0] 1024) 5)).drew = .ok (.string ⟨zeroP.toArray⟩) (W.alloc (.cells (madeCells #[.int .u8 0] 1024) 5)).drew := by
  have e : (madeCells #[.int .u8 0] 1024 : Array Value) = (bcs zeroP).toArray := by
    apply Array.ext'
    rw [toList_madeCells_one, List.toList_toArray]
    unfold bcs zeroP
    rw [List.map_replicate]
    rfl
  have hb : (W.alloc (.cells (madeCells #[.int .u8 0] 1024) 5)).drew.heap[W.heap.size]? = some (.cells (bcs zeroP).toArray 5 (0, 0)) := by rw [← e]; exact heap_alloc_new _ _
  have := conv_bs hb 1024
  rwa [zeroP_length] at this

set_option maxRecDepth 100000 in
set_option maxHeartbeats 2000000 in
theorem quota_walk (q : UInt8) (ad : Option Addr) (len cap : Nat) (f : Nat → UInt8) (w : World) (hs : Scr w ad len f) : Calls Try.prog 5 #[.int .u8 (q.toNat : Int), .slice ad len cap] w fun e w' => e = .returned (.bool true) ∧ Below w.heap.size w w' := by
  have hq : q.toNat ≤ 255 := by have := q.toNat_lt; omega
  generalize q.toNat = q0 at *
  go_enter Try.func5, Try.ntmps5
  go_wp2_with fail
  refine (awake_walk _).mono ?_
  rintro e w1 ⟨rfl, B⟩
  have HB : Hid (Below w.heap.size w w1) := B
  have HS : Hid (Scr w1 ad len f) := hs.below B
  clear B hs
  go_wp2_with fail
  refine (has_new q0 (by omega) _).mono ?_
  rintro e w2 ⟨p, rfl, H⟩
  have H1 : Hid (Has w1 p ⟨[], [], q0⟩ w2) := H
  clear H
  unfold arV
  go_wp2_with fail
  go_loopw [7] (fun i wr => ∃ (j : Nat) (a : Abs), j ≤ len ∧ j ≤ 200 ∧ i = .int .i64 (j : Int) ∧ Hid (Has w1 p a wr) ∧ Hid (a.q = q0) ∧ Hid (a.used ≤ q0)) (fun i _ => 200 - (intOf i).toNat)
  case atStart => exact ⟨0, _, by omega, by omega, rfl, H1.out, rfl, Nat.zero_le _⟩
  case round =>
    obtain ⟨j, a, hj, hj2, rfl, HH, HQ, HU⟩ := hrel
    clear H1
    by_cases hlt : j < len ∧ j < 200
    · obtain ⟨hlt, hlt2⟩ := hlt
      obtain ⟨b, o, rfl, hb1, hc⟩ := (HS.out.below HH.out.B) j hlt
      clear hb1
      have hm : (f j).toNat ≤ 255 := by have := (f j).toNat_lt; omega
      generalize (f j).toNat = m at *
      cases h3 : ((m : Int) % 3 == 0)
      · by_cases hl : 0 < a.left
        · go_wp2_with fail
          refine (has_alloc HH.out hl).mono ?_
          rintro e w3 ⟨rfl, H⟩
          obtain ⟨u1, u2, u3⟩ := Abs.alloc_used HH.out.ok
          have hlq : a.used < q0 := by have := HQ.out; unfold Abs.left at hl; omega
          have H2 : Hid (Has w1 p a.alloc w3) := H
          have HQ2 : Hid (a.alloc.q = q0) := u2.trans HQ.out
          have HU2 : Hid (a.alloc.used ≤ q0) := by show a.alloc.used ≤ q0; omega
          have HA2 : Hid (a.alloc.at (a.next : Int) = some zeroP) := u3
          have hpos : (0 : Int) < (a.next : Int) := by have := Abs.next_pos HH.out.ok; omega
          have hne : ((a.next : Int) == 0) = false := by rw [beq_eq_false_iff_ne]; omega
          clear H HH HQ HU u1 u2 u3 hlq hl
          generalize a.alloc = a2 at *
          generalize a.next = n at *
          unfold nv
          go_wp2_with fail
          refine (has_used H2.out).mono ?_
          rintro e w4 ⟨rfl, H, hb⟩
          have H3 : Hid (Has w1 p a2 w4) := H
          have hu : (a2.used : Int) ≤ (q0 : Int) := by have := HU2.out; omega
          clear H H2 hb
          unfold nv
          go_wp2_with fail
          refine (has_load_blk H3.out HA2.out).mono ?_
          rintro e w5 ⟨rfl, hv, H, hb⟩
          clear hb H3
          generalize w4.heap.size = b1 at *
          have HO : Hid a2.Ok := H.ok
          have H5 : Hid (Has w1 p a2 w5) := H
          have HV : Hid (HeldP w5 b1 zeroP) := hv
          clear H hv
          obtain ⟨lo1, lo2⟩ := Abs.lay_used a2 n (some (List.replicate 1024 (7 : UInt8)))
          have HQ3 : Hid ((a2.lay n (some (List.replicate 1024 (7 : UInt8)))).q = q0) := lo2.trans HQ2.out
          have HU3 : Hid ((a2.lay n (some (List.replicate 1024 (7 : UInt8)))).used ≤ q0) := by show _ ≤ q0; rw [lo1]; exact HU2.out
          have HST := store_seven (w1 := w1) (p := p) HA2.out
          obtain ⟨a3, ha3⟩ : ∃ a3, Hid (a3 = a2.lay n (some (List.replicate 1024 (7 : UInt8)))) := ⟨_, rfl⟩
          rw [← ha3.out] at HQ3 HU3 HST
          clear lo1 lo2 HA2
          have HCB := bytes_seven w1
          obtain ⟨zp, hzp⟩ : ∃ zp, Hid (zp = zeroP) := ⟨_, rfl⟩
          obtain ⟨G, hG⟩ : ∃ G : ByteArray, Hid (G = ⟨zeroP.toArray⟩) := ⟨_, rfl⟩
          obtain ⟨Z, hZ⟩ : ∃ Z, Hid (Z = madeCells #[.int .u8 0] 1024) := ⟨_, rfl⟩
          have hmk := make_page
          have hcm := conv_made
          have hcz := conv_heldP
          rw [← hZ.out] at hmk hcm
          rw [← hG.out] at hcm hcz
          rw [← hzp.out] at hcz HV
          have hdr : ∀ (W : World) (b : Nat) (c : List UInt8), HeldP W b c → HeldP W.drew b c := fun W b c h => h
          have hal : ∀ (W : World) (o : Obj) (b : Nat) (c : List UInt8), HeldP W b c → HeldP (W.alloc o) b c := fun W o b c h => h.pk (Pk.of_below (below_alloc _ _))
          have hv := HV.out
          go_wp2_with fail
          go_region_held (fun w' => HeldP w' b1 zp ∧ (convert 40 9 (.slice (some ⟨b1, 0, none⟩) 1024 1024)).run Try.prog w' = .ok (.string G) w') (simp [*]) (first
            | (go_at_call 17; refine (HCB _).mono ?_; rintro e w6 ⟨bn, rfl, hbs, hh, hH⟩; have HS2 : Has w1 p a2 w6 := hH p a2 (H5.out.below (below_alloc _ _).drew))
            | (go_at_call 16; refine (HST _ _ HS2 hbs).mono ?_; rintro e w7 ⟨rfl, H7, hk⟩))
          have H8 : Hid (Has w1 p a3 w7) := H7
          clear hk H7 HS2 hH hh hbs hv hal hdr hcz hcm hmk HCB HST
          go_wp2_with fail
          exact ⟨⟨j + 1, a3, by omega, by omega, by go_num, H8.out, HQ3, HU3⟩, by simp [intOf]; omega⟩
        · have hl0 : a.left = 0 := by omega
          have hge : (q0 : Int) ≤ (a.used : Int) := by
            have h1 := HQ.out
            unfold Abs.left at hl0
            omega
          have hle : (a.used : Int) ≤ (q0 : Int) := by have := HU.out; omega
          go_wp2_with fail
          refine (has_full HH.out hl0).mono ?_
          rintro e w3 ⟨rfl, H⟩
          have H2 : Hid (Has w1 p a w3) := H
          clear H HH
          go_wp2_with fail
          refine (has_used H2.out).mono ?_
          rintro e w4 ⟨rfl, H, hb⟩
          have H3 : Hid (Has w1 p a w4) := H
          clear H H2 hb
          unfold nv
          go_wp2_with fail
          refine (has_used H3.out).mono ?_
          rintro e w5 ⟨rfl, H, hb⟩
          have H4 : Hid (Has w1 p a w5) := H
          clear H H3 hb
          unfold nv
          go_wp2_with fail
          exact ⟨⟨j + 1, a, by omega, by omega, by go_num, H4.out, HQ, HU⟩, by simp [intOf]; omega⟩
      · cases ha : a.at ((m : Int) / 3) with
        | none =>
          go_wp2_with fail
          refine (has_free_no HH.out ha).mono ?_
          rintro e w3 ⟨rfl, H⟩
          have H2 : Hid (Has w1 p a w3) := H
          clear H HH ha
          go_wp2_with fail
          exact ⟨⟨j + 1, a, by omega, by omega, by go_num, H2.out, HQ, HU⟩, by simp [intOf]; omega⟩
        | some c =>
          go_wp2_with fail
          refine (has_free HH.out ha).mono ?_
          rintro e w3 ⟨rfl, H⟩
          have H2 : Hid (Has w1 p (a.free ((m : Int) / 3).toNat) w3) := H
          obtain ⟨u1, u2⟩ := Abs.free_used (a := a) (n := ((m : Int) / 3).toNat)
          have HQ2 : Hid ((a.free ((m : Int) / 3).toNat).q = q0) := u2.trans HQ.out
          have HU2 : Hid ((a.free ((m : Int) / 3).toNat).used ≤ q0) := Nat.le_trans u1 HU.out
          clear H HH ha u1 u2
          go_wp2_with fail
          exact ⟨⟨j + 1, _, by omega, by omega, by go_num, H2.out, HQ2, HU2⟩, by simp [intOf]; omega⟩
    · have hend : Hid (¬ (j < len ∧ j < 200)) := hlt
      have hsum : Hid (((a.used : Int) + (a.left : Int)) = (q0 : Int)) := by
        have h1 := HQ.out
        have h2 := HU.out
        show (a.used : Int) + (a.left : Int) = (q0 : Int)
        unfold Abs.left
        omega
      have hpg : Hid (a.pages.length = a.used) := HH.out.ok.pages
      have hw : wrap64 ((a.used : Int) + (a.left : Int)) = (q0 : Int) := by
        rw [hsum.out]
        unfold wrap64
        omega
      have hcs : (j < len ∧ (200 : Int) ≤ (j : Int)) ∨ (¬ j < len ∧ (len : Int) ≤ (j : Int)) := by have := hend.out; omega
      clear hlt hsum
      rcases hcs with ⟨h1, h2⟩ | ⟨h1, h2⟩
      all_goals
        go_wp2_with fail
        refine (has_used HH.out).mono ?_
        rintro e w3 ⟨rfl, H, hb⟩
        have H2 : Hid (Has w1 p a w3) := H
        clear H hb
        unfold nv
        go_wp2_with fail
        refine (has_left H2.out).mono ?_
        rintro e w4 ⟨rfl, H, hb⟩
        have H3 : Hid (Has w1 p a w4) := H
        clear H hb
        unfold nv
        go_wp2_with fail
        refine (has_pages H3.out).mono ?_
        rintro e w5 ⟨v, rfl, hi, H, hb⟩
        have H4 : Hid (Has w1 p a w5) := H
        obtain ⟨av, cv, rfl, _⟩ := owns_slice hi
        rw [hpg.out]
        clear H hb hi
        go_wp2_with fail
        refine (has_used H4.out).mono ?_
        rintro e w6 ⟨rfl, H, hb⟩
        have H5 : Hid (Below w.heap.size w w6) := below_on HB.out H.B
        clear H hb
        unfold nv
        go_wp2
        go_ret
        exact ⟨rfl, H5.out⟩
end Go.Proofs.Ytcoehlnmaehhjaa
