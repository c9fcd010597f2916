/-
  The document's Page (under way).
-/
import Derived.Lib.ConvBytes
import Derived.Test.YtpmagonmfaaihaaRdI
namespace Go.Proofs.Ytpmagonmfaaihaa
open Go.RowKit

theorem owns_one (w : World) (B : Nat) (hB : B ≤ w.heap.size) (x : UInt8) : World.ownsRow (w.alloc (.cells #[.int .u8 (x.toNat : Int)] 5)) B 5 1 (.slice (some ⟨w.heap.size, 0, none⟩) 1 1) 1 (bcs [x]) :=
  ⟨rfl, Or.inr ⟨w.heap.size, 1, _, rfl, hB, heap_alloc_last _ _, Nat.le_refl _, by unfold maxLen; omega, rfl, rfl⟩⟩

def lenV : Value → Nat
  | .slice _ m _ => m
  | _ => 0

theorem owns_slice {W : World} {B : Nat} {e : TypeId} {v : Value} {m : Nat} {l : List Value} (h : W.ownsRow B e 1 v m l) : ∃ ad cp, v = .slice ad m cp ∧ m ≤ cp ∧ cp ≤ maxLen := by
  rcases h.2 with ⟨rfl, rfl⟩ | ⟨g, cap, cur, rfl, h1, h2, h3, h4, h5⟩
  · exact ⟨none, 0, rfl, Nat.le_refl _, Nat.zero_le _⟩
  · exact ⟨_, _, rfl, h3, h4⟩

theorem Tl.read {W : World} {B k m c : Nat} {t : List UInt8} (h : Tl W B (.slice (some ⟨k, 0, none⟩) m c) t) : ∀ j u, (bcs t)[j]? = some u → W.cell? ⟨k, j, none⟩ = some u := by
  obtain ⟨k', c', e, _, _, h3⟩ := h
  cases e
  exact h3

def markL (n : No) : UInt8 := if n.leaf then 1 else 2

theorem markHz {w : World} {n : No} {a : Option Addr} {c : Nat} {a' : Option Addr} {c' : Nat} {v : Value} {x : UInt8} {wr : World} (h : Hid (Pw w n a c a' c' v [x] wr)) (e : markL n = x) : Hid (Pw w n a c a' c' v [markL n] wr) := by rw [e]; exact h

set_option maxRecDepth 100000 in
set_option maxHeartbeats 1000000 in
theorem refpage_walk {n : No} {a : Option Addr} {c : Nat} {a' : Option Addr} {c' : Nat} {w : World} (hr : NR w n a c a' c') (hs : n.small) (hb : n.shaped = true) (hl : n.size ≤ 1024) :
    Calls Try.prog 15 #[nodeV n a c a' c'] w fun e w' => ∃ v, e = .returned v ∧ w'.ownsRow w.heap.size 5 1 v 1024 (bcs (pageL n.toNd)) ∧ Below w.heap.size w w' := by
  have HN : Hid (Nq w n a c a' c' (w.alloc (.cells #[.bool n.leaf, .slice a n.recs.length c, .slice a' n.kids.length c'] 28))) := Nq.new hr _
  have HR : Hid (NR w n a c a' c') := hr
  have hcap : n.recs.length ≤ c := by have := hr.recs.1; rwa [svs_length] at this
  have hcm := hr.recs.2.1
  have hcap' : n.kids.length ≤ c' := by have := hr.kids.1; rwa [ivs_length] at this
  have hcm' := hr.kids.2.1
  have h1 := hs.recs
  have h2 := hs.kids
  unfold maxLen at hcm hcm'
  clear hr
  have HZ : Hid (Pw w n a c a' c' (.slice (some ⟨w.heap.size + 1, 0, none⟩) 1 1) [markL n] ((w.alloc (.cells #[.bool n.leaf, .slice a n.recs.length c, .slice a' n.kids.length c'] 28)).alloc (.cells #[.int .u8 ((markL n).toNat : Int)] 5))) := by
    refine ⟨HN.out.on (below_alloc _ _), ?_⟩
    have := owns_one (w.alloc (.cells #[.bool n.leaf, .slice a n.recs.length c, .slice a' n.kids.length c'] 28)) (w.heap.size + 1) (by simp) (markL n)
    rw [show (w.alloc (.cells #[.bool n.leaf, .slice a n.recs.length c, .slice a' n.kids.length c'] 28)).heap.size = w.heap.size + 1 by simp] at this
    exact this
  clear HN
  go_enter Try.func15, Try.ntmps15
  unfold nodeV
  unfold markL at HZ
  cases hlf : n.leaf
  all_goals
    rw [hlf] at HZ
    simp only [if_true, if_false, Bool.false_eq_true] at HZ
    go_wp2_with fail
  all_goals
    first
      | (have HP0 : Hid (Pw w n a c a' c' (.slice (some ⟨w.heap.size + 1, 0, none⟩) 1 1) [markL n] ((w.alloc (.cells #[.bool false, .slice a n.recs.length c, .slice a' n.kids.length c'] 28)).alloc (.cells #[.int .u8 2] 5))) := markHz HZ (by unfold markL; rw [hlf]; rfl)
         generalize (w.alloc (.cells #[.bool false, .slice a n.recs.length c, .slice a' n.kids.length c'] 28)).alloc (.cells #[.int .u8 2] 5) = w0 at HP0 ⊢)
      | (have HP0 : Hid (Pw w n a c a' c' (.slice (some ⟨w.heap.size + 1, 0, none⟩) 1 1) [markL n] ((w.alloc (.cells #[.bool true, .slice a n.recs.length c, .slice a' n.kids.length c'] 28)).alloc (.cells #[.int .u8 1] 5))) := markHz HZ (by unfold markL; rw [hlf]; rfl)
         generalize (w.alloc (.cells #[.bool true, .slice a n.recs.length c, .slice a' n.kids.length c'] 28)).alloc (.cells #[.int .u8 1] 5) = w0 at HP0 ⊢)
    clear HZ
    refine (refnum_walk (n := n.recs.length) (m := 2) (by omega) (by omega)).mono ?_
    rintro e w1 ⟨p1, rfl, hp1, K1, B1⟩
    have HP1 : Hid (Pw w n a c a' c' (.slice (some ⟨w.heap.size + 1, 0, none⟩) 1 1) [markL n] w1) := HP0.out.on B1
    have HK1 : Hid (Blk w1 p1 (be n.recs.length 2)) := K1
    clear HP0 B1 K1
    go_wp2_with (first
      | (at_builtin
         revert HP1)
      | fail)
    intro HP1
    refine append_row (z := .int .u8 0) (by_ := 1) Try.underlying31 (by kernel_rfl) (by decide) rfl (w.heap.size + 1) HP1.out.nq.bx.lt rfl _ _ rfl (.slice (some ⟨w.heap.size + 1, 0, none⟩) 1 1) 1 (bcs [markL n]) (bcs (be n.recs.length 2)) rfl HP1.out.row (by omega) 2 (by omega) ⟨p1, 0, none⟩ 2 rfl (by rw [bcs_length, be_length]) HK1.out.cells (one_bcs _) ?_
    intro v2 w2 hown hg _
    have HP2 : Hid (Pw w n a c a' c' v2 ([markL n] ++ be n.recs.length 2) w2) := HP1.out.grow HR.out hg (m := 1 + 2) (by simp [be_length]) (by unfold bcs at hown ⊢; rw [List.map_append]; exact hown)
    clear hown hg HP1 HK1
    go_wp2
    go_loopw [3, 4] (fun v i wr => ∃ j : Nat, j ≤ n.kids.length ∧ i = .int .i64 (j : Int) ∧ Hid (Pw w n a c a' c' v (front n j 0) wr)) (fun _ i _ => n.kids.length - (intOf i).toNat)
    case atStart =>
      refine ⟨0, Nat.zero_le _, rfl, ?_⟩
      have := HP2.out
      rw [be_two] at this
      show Pw _ _ _ _ _ _ _ _ _
      have e : front n 0 0 = [markL n] ++ n2 n.recs.length := by unfold front markL; simp [slots]
      rw [e]
      exact this
    case round =>
      clear HP2
      obtain ⟨j, hj, rfl, HP⟩ := hrel
      have c2 := HP.out.nq.bx.c2
      have xl := HP.out.nq.bx.lt
      by_cases hlt : j < n.kids.length
      · have hlt' : (j : Int) < (n.kids.length : Int) := by omega
        obtain ⟨b, o, rfl, hbn, hce⟩ := HP.out.nq.nr.kids.int j hlt
        have hk1 : 1 ≤ n.kids[j] ∧ n.kids[j] ≤ 4096 := by
          unfold No.shaped at hb
          simp only [Bool.and_eq_true, List.all_eq_true] at hb
          have := hb.1.2 n.kids[j] (List.getElem_mem hlt)
          unfold kidOk at this
          simpa using this
        have HF : Hid (front n (j + 1) 0 = front n j 0 ++ n4 n.kids[j].toNat) := front_kid n j hlt
        obtain ⟨kk, hkk⟩ : ∃ kk : Nat, n.kids[j] = (kk : Int) := ⟨n.kids[j].toNat, by omega⟩
        rw [hkk] at hce HF hk1
        rw [Int.toNat_natCast] at HF
        clear hkk
        have HFL : Hid ((front n j 0).length ≤ 100000) := by show _ ≤ _; rw [front_length n j 0 (by omega) (by omega)]; omega
        go_wp2_with fail
        refine (refnum_walk (n := kk) (m := 4) (by omega) (by omega)).mono ?_
        rintro e w3 ⟨p3, rfl, hp3, K3, B3⟩
        have HP3 : Hid (Pw w n a c (some ⟨b, o, none⟩) c' u3 (front n j 0) w3) := HP.out.on B3
        have HK3 : Hid (Blk w3 p3 (be kk 4)) := K3
        clear HP B3 K3 c2 xl hce hbn hp3
        go_wp2_with (first
          | (at_builtin
             revert HP3)
          | fail)
        intro HP3
        refine append_row (z := .int .u8 0) (by_ := 1) Try.underlying31 (by kernel_rfl) (by decide) rfl (w.heap.size + 1) HP3.out.nq.bx.lt rfl _ _ rfl u3 (front n j 0).length (bcs (front n j 0)) (bcs (be kk 4)) rfl HP3.out.row (by have := HFL.out; omega) 4 (by omega) ⟨p3, 0, none⟩ 4 rfl (by rw [bcs_length, be_length]) HK3.out.cells (one_bcs _) ?_
        intro v4 w4 hown hg _
        have HP4 : Hid (Pw w n a c (some ⟨b, o, none⟩) c' v4 (front n (j + 1) 0) w4) := HP3.out.grow HR.out hg (m := (front n j 0).length + 4) (by rw [HF.out, List.length_append]; rfl) (by rw [HF.out, ← be_four]; unfold bcs at hown ⊢; rw [List.map_append]; exact hown)
        clear hown hg HP3 HK3
        go_wp2
        exact ⟨⟨j + 1, by omega, by go_num, HP4⟩, by simp [intOf]; omega⟩
      · have hlt' : (n.kids.length : Int) ≤ (j : Int) := by omega
        have hjm : j = n.kids.length := by omega
        subst hjm
        have HT0 : Hid (Pt w n a c a' c' u3 (.slice (some ⟨wr.heap.size, 0, none⟩) 0 0) (front n n.kids.length 0) [] (wr.alloc (.cells #[] 5))) :=
          ⟨HP.out.on (below_alloc _ _), ⟨wr.heap.size, 0, rfl, HP.out.nq.bx.lt, by simp, fun j u hj => by simp [bcs] at hj⟩, fun k hk hk' => by
            have := (HP.out.row.lt k hk).2
            simp [Value.ownBlock] at hk'
            omega⟩
        clear HP
        go_wp2_with fail
        generalize wr.alloc (.cells #[] 5) = w5 at HT0 ⊢
        go_loopw [3, 5, 6, 7] (fun v d vt i wx => ∃ j : Nat, j ≤ n.recs.length ∧ i = .int .i64 (j : Int) ∧ d = .int .i64 ((1024 - lens (n.toNd.recs.take j) : Nat) : Int) ∧ Hid (Pt w n a c a' c' v vt (front n n.kids.length j) (tailL (n.toNd.recs.take j)) wx)) (fun _ _ _ i _ => n.recs.length - (intOf i).toNat)
        case atStart => exact ⟨0, Nat.zero_le _, rfl, by simp [lens], by simpa [tailL] using HT0⟩
        case round =>
          clear HT0 c2 xl
          obtain ⟨j, hj, rfl, rfl, HT⟩ := hrel
          have c1 := HT.out.pw.nq.bx.c1
          have xl := HT.out.pw.nq.bx.lt
          by_cases hlt : j < n.recs.length
          · have hlt' : (j : Int) < (n.recs.length : Int) := by omega
            obtain ⟨b, o, rfl, hbn, hce⟩ := HT.out.pw.nq.nr.recs.str j hlt
            have hll := lens_le n (j + 1)
            have HLS : Hid (lens (n.toNd.recs.take (j + 1)) = lens (n.toNd.recs.take j) + n.recs[j].size) := by
              show _ = _
              rw [recs_take n j hlt, lens_append, lens_cons]
              simp [lens]
            rw [HLS.out] at hll
            have HF := hidf (front_rec n j hlt)
            rw [HLS.out] at HF
            have HTL : Hid (tailL (n.toNd.recs.take (j + 1)) = n.recs[j].data.toList ++ tailL (n.toNd.recs.take j)) := by show _ = _; rw [recs_take n j hlt, tailL_snoc]
            have HFL : Hid ((front n n.kids.length j).length ≤ 5000) := by show _ ≤ _; rw [front_length n n.kids.length j (by omega) (by omega)]; omega
            generalize hS : n.recs[j] = S at hce HLS HF HTL hll
            generalize lens (n.toNd.recs.take j) = e0 at HLS HF hll ⊢
            have hS1 : (S.size : Int) ≤ 1024 := by omega
            have hsub : ((1024 - e0 : Nat) : Int) - (S.size : Int) = ((1024 - (e0 + S.size) : Nat) : Int) := by omega
            go_wp2_with fail
            refine (refnum_walk (n := 1024 - (e0 + S.size)) (m := 2) (by omega) (by omega)).mono ?_
            rintro e w6 ⟨p6, rfl, hp6, K6, B6⟩
            have HT6 := hidf (HT.out.on B6)
            have HK6 : Hid (Blk w6 p6 (be (1024 - (e0 + S.size)) 2)) := K6
            clear HT B6 K6 c1 xl hce hbn hp6
            go_wp2_with (first
              | (at_builtin
                 revert HT6)
              | fail)
            intro HT6
            refine append_row (z := .int .u8 0) (by_ := 1) Try.underlying31 (by kernel_rfl) (by decide) rfl (w.heap.size + 1) HT6.out.pw.nq.bx.lt rfl _ _ rfl u3 (front n n.kids.length j).length (bcs (front n n.kids.length j)) (bcs (be (1024 - (e0 + S.size)) 2)) rfl HT6.out.pw.row (by have := HFL.out; omega) 2 (by omega) ⟨p6, 0, none⟩ 2 rfl (by rw [bcs_length, be_length]) HK6.out.cells (one_bcs _) ?_
            intro v7 w7 hown hg hat
            have HT7 := hidf (HT6.out.grow HR.out hg hat (o' := front n n.kids.length j ++ n2 (1024 - (e0 + S.size))) (m := (front n n.kids.length j).length + 2) (by rw [List.length_append]; rfl) (by rw [← be_two]; unfold bcs at hown ⊢; rw [List.map_append]; exact hown))
            clear hown hg hat HT6 HK6
            have c1 := HT7.out.pw.nq.bx.c1
            have xl := HT7.out.pw.nq.bx.lt
            obtain ⟨b', o', eb, hbn, hce⟩ := HT7.out.pw.nq.nr.recs.str j hlt
            cases eb
            rw [hS] at hce
            go_wp2_with fail
            refine (refnum_walk (n := S.size) (m := 2) (by omega) (by omega)).mono ?_
            rintro e w8 ⟨p8, rfl, hp8, K8, B8⟩
            have HT8 := hidf (HT7.out.on B8)
            have HK8 : Hid (Blk w8 p8 (be S.size 2)) := K8
            clear HT7 B8 K8 c1 xl hce hbn hp8
            go_wp2_with (first
              | (at_builtin
                 revert HT8)
              | fail)
            intro HT8
            refine append_row (z := .int .u8 0) (by_ := 1) Try.underlying31 (by kernel_rfl) (by decide) rfl (w.heap.size + 1) HT8.out.pw.nq.bx.lt rfl _ _ rfl v7 (front n n.kids.length j ++ n2 (1024 - (e0 + S.size))).length (bcs (front n n.kids.length j ++ n2 (1024 - (e0 + S.size)))) (bcs (be S.size 2)) rfl HT8.out.pw.row (by have := HFL.out; rw [List.length_append]; simp [n2]; omega) 2 (by omega) ⟨p8, 0, none⟩ 2 rfl (by rw [bcs_length, be_length]) HK8.out.cells (one_bcs _) ?_
            intro v9 w9 hown hg hat
            have HT9 := hidf (HT8.out.grow HR.out hg hat (o' := front n n.kids.length (j + 1)) (m := (front n n.kids.length j ++ n2 (1024 - (e0 + S.size))).length + 2) (by rw [HF.out, List.length_append (bs := n2 S.size)]; rfl) (by rw [HF.out, ← be_two S.size]; unfold bcs at hown ⊢; rw [List.map_append]; exact hown))
            clear hown hg hat HT8 HK8
            have c1 := HT9.out.pw.nq.bx.c1
            have xl := HT9.out.pw.nq.bx.lt
            obtain ⟨b', o', eb, hbn, hce⟩ := HT9.out.pw.nq.nr.recs.str j hlt
            cases eb
            rw [hS] at hce
            go_wp2_with fail
            rw [Lib.run_convert_string_bytes (P := Try.prog) w9 9 31 5 S Try.underlying9 Try.underlying31 Try.underlying5]
            have HCV := hid (cv_of_conv w9 5 S)
            have HBC := hid (below_conv w9 5 S)
            generalize Lib.bytesWorld w9 5 S = w10 at HCV HBC ⊢
            generalize grownCap w9 S.size 0 5 = cp at HCV ⊢
            have HTX := hidf (HT9.out.on HBC.out)
            clear c1 xl hbn hce
            have hT : (tailL (n.toNd.recs.take j)).length ≤ 100000 := by rw [tailL_length]; have := lens_le n j; omega
            go_wp2_with (first
              | (at_builtin
                 revert HTX)
              | fail)
            intro HTX
            refine append_conv rfl _ _ rfl w9.heap.size cp S.data.toList _ S.size rfl rfl HCV.out _ u6 rfl HTX.out.tl (by have : S.data.toList.length = S.size := rfl; omega) hT w9.heap.size (Nat.le_refl _) ?_
            intro v11 w11 htl hbl
            rw [← HTL.out] at htl
            have HT11 := hidf (HT9.out.tail (HBC.out.trans hbl) htl)
            clear HTX HCV HBC hbl htl HT9
            go_wp2
            exact ⟨⟨j + 1, by omega, by go_num, by rw [HLS.out], HT11⟩, by simp [intOf]; omega⟩
          · have hlt' : (n.recs.length : Int) ≤ (j : Int) := by omega
            have hjm : j = n.recs.length := by omega
            subst hjm
            have HX := hidf HT.out
            rw [front_all, List.take_of_length_le (by simp [No.toNd])] at HX
            have hHL : (headL n.toNd).length + lens n.toNd.recs ≤ 1024 := by
              have h3 := lens_le n n.recs.length
              rw [List.take_of_length_le (by simp [No.toNd])] at h3
              have h4 := front_length n n.kids.length n.recs.length (Nat.le_refl _) (Nat.le_refl _)
              rw [front_all] at h4
              omega
            have HG : Hid (pageL n.toNd = headL n.toNd ++ List.replicate (1024 - (headL n.toNd).length - lens n.toNd.recs) 0 ++ tailL n.toNd.recs) := by show _ = _; rw [← tailL_length]; rfl
            have HTLn : Hid ((tailL n.toNd.recs).length = lens n.toNd.recs) := tailL_length _
            generalize headL n.toNd = H at HX hHL HG
            generalize tailL n.toNd.recs = T at HX HG HTLn
            generalize lens n.toNd.recs = E at HG HTLn hHL
            obtain ⟨kt, ct, eu, hk1, hk2, hk3⟩ := HX.out.tl
            rw [HTLn.out] at eu
            subst eu
            clear HT hk1 hk2 hk3
            go_wp2_with fail
            clear c1 xl
            go_loopw [3] (fun v wx => ∃ k : Nat, k ≤ 1024 - H.length - E ∧ Hid (Pt w n a c a' c' v (.slice (some ⟨kt, 0, none⟩) E ct) (H ++ List.replicate k 0) T wx)) (fun v _ => 1024 - lenV v)
            case atStart => exact ⟨0, Nat.zero_le _, by simpa using HX⟩
            case round =>
              clear HX
              obtain ⟨k, hk, HQ⟩ := hrel
              obtain ⟨ad, cp, ev, hcp, hcpm⟩ := owns_slice HQ.out.pw.row
              rw [show (H ++ List.replicate k (0 : UInt8)).length = H.length + k by simp] at ev hcp
              subst ev
              by_cases hlt : k < 1024 - H.length - E
              · have hlt' : (H.length : Int) + (k : Int) < 1024 - (E : Int) := by omega
                go_wp2_with (first
                  | (at_builtin
                     revert HQ)
                  | fail)
                intro HQ
                have HQ2 := hidf (HQ.out.on (below_alloc wr (.cells #[.int .u8 0] 5)))
                refine append_row (z := .int .u8 0) (by_ := 1) Try.underlying31 (by kernel_rfl) (by decide) rfl (w.heap.size + 1) HQ2.out.pw.nq.bx.lt rfl _ _ rfl (.slice ad (H.length + k) cp) (H.length + k) (bcs (H ++ List.replicate k 0)) (bcs [0]) rfl (by have := HQ2.out.pw.row; rwa [show (H ++ List.replicate k (0 : UInt8)).length = H.length + k by simp] at this) (by omega) 1 (by omega) ⟨wr.heap.size, 0, none⟩ 1 rfl rfl (fun j u hj => by
                  match j with
                  | 0 => cases hj; simp [go_sem]
                  | j + 1 => cases hj) (one_bcs _) ?_
                intro v4 w4 hown hg hat
                have HP4 := hidf (HQ2.out.grow HR.out hg hat (o' := H ++ List.replicate (k + 1) 0) (m := H.length + k + 1) (by simp; omega) (by
                  rw [show H ++ List.replicate (k + 1) (0 : UInt8) = (H ++ List.replicate k 0) ++ [0] by rw [List.replicate_succ', List.append_assoc]]
                  unfold bcs at hown ⊢
                  rw [List.map_append (l₂ := [0])]
                  exact hown))
                obtain ⟨ad4, cp4, ev4, -, -⟩ := owns_slice hown
                clear hown hg hat HQ HQ2
                subst ev4
                go_wp2
                exact ⟨⟨k + 1, by omega, HP4⟩, by simp [lenV]; omega⟩
              · have hlt' : 1024 - (E : Int) ≤ (H.length : Int) + (k : Int) := by omega
                have hkm : k = 1024 - H.length - E := by omega
                subst hkm
                go_wp2_with (first
                  | (at_builtin
                     revert HQ)
                  | fail)
                intro HQ
                have hk3 := HQ.out.tl.read
                have hadd : ∀ (g j : Nat), (⟨g, 0, none⟩ : Addr).add j = ⟨g, j, none⟩ := fun g j => by unfold Addr.add; split <;> simp_all
                refine append_row (z := .int .u8 0) (by_ := 1) Try.underlying31 (by kernel_rfl) (by decide) rfl (w.heap.size + 1) HQ.out.pw.nq.bx.lt rfl _ _ rfl (.slice ad (H.length + (1024 - H.length - E)) cp) (H.length + (1024 - H.length - E)) (bcs (H ++ List.replicate (1024 - H.length - E) 0)) (bcs T) rfl (by have := HQ.out.pw.row; rwa [show (H ++ List.replicate (1024 - H.length - E) (0 : UInt8)).length = H.length + (1024 - H.length - E) by simp] at this) (by omega) E (by omega) ⟨kt, 0, none⟩ ct rfl (by rw [bcs_length, HTLn.out]) (fun j u hj => by rw [hadd]; exact hk3 j u hj) (one_bcs _) ?_
                intro v4 w4 hown hg hat
                have HQF := hidf (HQ.out.pw.nq.grown HR.out hg (fun k hk => (HQ.out.pw.row.lt k hk).1))
                go_wp2
                go_ret
                refine ⟨_, rfl, ?_, HQF.out.bx.below⟩
                rw [HG.out]
                rw [show H.length + (1024 - H.length - E) + E = 1024 by omega] at hown
                have := owns_base hown (show w.heap.size ≤ w.heap.size + 1 by omega)
                unfold bcs at this ⊢
                rw [List.map_append (l₂ := T)]
                exact this
end Go.Proofs.Ytpmagonmfaaihaa
