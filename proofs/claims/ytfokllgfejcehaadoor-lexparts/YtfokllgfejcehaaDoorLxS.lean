/-
  Lex: the walk of LexParts.
-/
import Derived.Test.YtfokllgfejcehaaDoorLxQ
import Derived.Test.YtfokllgfejcehaaDoorPtR
import Derived.Test.YtfokllgfejcehaaDoorLxN
namespace Go.Proofs.YtfokllgfejcehaaDoor
open Go.RowKit Rw

theorem cat_list (s t : ByteArray) : (s ++ ⟨#[32]⟩ ++ t).data.toList = s.data.toList ++ 32 :: t.data.toList := by simp

/-- The faults' block. -/
def fObj (c p : Int) : Obj := .cells #[.int .i64 c, .int .i64 p] 26

theorem f_cells {W W' : World} {c p : Int} (h : Below (W.alloc (fObj c p)).heap.size (W.alloc (fObj c p)) W') : W'.cell? ⟨W.heap.size, 0, none⟩ = some (.int .i64 c) ∧ W'.cell? ⟨W.heap.size, 1, none⟩ = some (.int .i64 p) ∧ W.heap.size < W'.heap.size := by
  have hb : W'.heap[W.heap.size]? = some (fObj c p) := (h.block _ (by simp)).trans (heap_alloc_new W _)
  exact ⟨cell_of_row _ _ _ _ _ _ hb, cell_of_row _ _ _ _ _ _ hb, (Array.getElem?_eq_some_iff.1 hb).1⟩

theorem cutF_place : ∀ (f p : Nat) (r : List UInt8) (q : Nat), (cutF f p r).2 = some q → q ≤ p + r.length
  | 0, _, _, _, h => by cases h
  | f + 1, p, r, q, h => by
    by_cases hr : r = []
    · subst hr; rw [cutF_end] at h; cases h
    by_cases h0 : (firstP r).2 = 0
    · rw [cutF_bad hr h0] at h
      cases h
      omega
    · rw [cutF_step hr h0] at h
      have := cutF_place f _ _ _ h
      have h1 := firstP_size r
      have h2 := spanN_le blkB (r.drop (firstP r).2)
      rw [List.length_drop] at h2
      rw [List.length_drop, List.length_drop] at this
      omega

theorem cutT_place {l : List UInt8} {q : Nat} (h : (cutT l).2 = some q) : q ≤ l.length := by
  have := cutF_place _ _ _ _ h
  have h2 := spanN_le blkB l
  rw [List.length_drop] at this
  omega

theorem cutF_pls : ∀ (f p : Nat) (r : List UInt8), ∀ x ∈ (cutF f p r).1, 0 ≤ x.pl ∧ x.pl ≤ ((p + r.length : Nat) : Int)
  | 0, _, _, x, h => by cases h
  | f + 1, p, r, x, h => by
    by_cases hr : r = []
    · subst hr
      rw [cutF_end] at h
      rw [List.mem_singleton.1 h]
      simp
    by_cases h0 : (firstP r).2 = 0
    · rw [cutF_bad hr h0] at h
      cases h
    · rw [cutF_step hr h0] at h
      rcases List.mem_cons.1 h with rfl | h
      · simp [setPl]; omega
      · have := cutF_pls f _ _ x h
        have h1 := firstP_size r
        have h2 := spanN_le blkB (r.drop (firstP r).2)
        rw [List.length_drop] at h2
        rw [List.length_drop, List.length_drop] at this
        omega

theorem cutT_pls {l : List UInt8} : ∀ x ∈ (cutT l).1, 0 ≤ x.pl ∧ x.pl ≤ (l.length : Int) := fun x hx => by
  have := cutF_pls _ _ _ x hx
  have h2 := spanN_le blkB l
  rw [List.length_drop] at this
  omega

/-- append, where a guard lets it by. -/
theorem append_srcG {ops : Array Oper} {rest : List Oper} {o : Oper} {a : Act} {Q : Exit → Act → World → Prop} {W1 : World} {t e : TypeId} {z : Value} {size bytes : Nat} (ht : Tryd.prog.underlying t = some (.slice e)) (hinfo : (Tryd.prog.info? e).map (fun i => (i.zero, i.size, i.bytes)) = some (some z, size, bytes)) (hzs : z.cells.size = size) (hsz : 0 < size) (hby : bytes ≤ 1000)
    (hw : Region.wanted o (yielded ops a.tmps) = true) (s x : Operand) (ho : o.op = .call { callee := .builtin .append, args := #[s, x], argTypes := #[t, t] })
    (base : Nat) (hbase : base ≤ W1.heap.size) (v : Value) (n : Nat) (xs : List Value) (hs : a.eval s = v) (h : W1.ownsRow base e size v n xs) (ad : Addr) (m cap : Nat) (news : List Value) (hx : a.eval x = .slice (some ad) m cap) (hc : ∀ j u, news[j]? = some u → W1.cell? (ad.add j) = some u)
    (hl : news.length = m * size) (h1 : ∀ u ∈ news, u.oneCell' = true) (hn : n + m ≤ 1000000)
    (hK : ∀ v' W', W'.ownsRow base e size v' (n + m) (xs ++ news) → W1.grownBy W' v.ownBlock → wpList Tryd.prog ops Q rest (a.put o.dst v') W') : wpList Tryd.prog ops Q (o :: rest) a W1 := by
  obtain ⟨i, hi, hz⟩ := Option.map_eq_some_iff.1 hinfo
  simp only [Prod.mk.injEq] at hz
  obtain ⟨h3, h4, h5⟩ := hz
  unfold wpList
  rw [if_pos hw]
  exact Or.inl (wp_append_own (P := Tryd.prog) W1 s x t ho base e i z size bytes ht hi h3 h4 h5 hzs hsz v n xs hs h ad m cap news hx hl hc h1 (by unfold maxLen; omega) (Nat.le_trans (Nat.mul_le_mul hn hby) (by omega)) hbase fun v' W' hown hg _ => hK v' W' hown hg)

theorem tokR_any {base : Nat} {x : List Tk × Option Nat} {v : Value} {W : World} (h : TokR base x v W) : ∃ ra rn rc c p, v = .tuple #[.slice ra rn rc, fltV c p] := by
  unfold TokR at h
  split at h
  · obtain ⟨r, rfl, hO⟩ := h
    obtain ⟨a, c, rfl⟩ := owns_slice hO
    exact ⟨_, _, _, _, _, rfl⟩
  · exact ⟨_, _, _, _, _, h⟩

/-- The state of the loop that shifts b's places. -/
structure ShI (w Wg : World) (gb nB bc : Nat) (D : Nat) (B : List Tk) (j : Nat) (W : World) : Prop where
  own : W.ownsRow w.heap.size 36 4 (.slice (some ⟨gb, 0, none⟩) nB bc) nB (flat tkC ((B.take j).map (shTk D) ++ B.drop j))
  bel : Below w.heap.size w W
  oth : ∀ q, q ≠ gb → W.heap[q]? = Wg.heap[q]?
  siz : W.heap.size = Wg.heap.size

theorem ShI.next {w Wg : World} {gb nB bc D : Nat} {B : List Tk} {j : Nat} {W : World} (h : ShI w Wg gb nB bc D B j W) {x : Tk} (hx : B[j]? = some x) (hg : w.heap.size ≤ gb) : ShI w Wg gb nB bc D B (j + 1) (W.setCell ⟨gb, j * 4 + 2, none⟩ (.int .i64 (x.pl + D))) := by
  obtain ⟨hj, rfl⟩ := List.getElem?_eq_some_iff.1 hx
  refine ⟨?_, h.bel.setCell hg _, fun q hq => by rw [heap_setCell_other _ _ _ _ hq]; exact h.oth q hq, by rw [← h.siz]; simp⟩
  have h1 := own_set (k := 4) h.own (j * 4 + 2) (.int .i64 (B[j].pl + D))
  have hl : ((B.take j).map (shTk D)).length = j := by simp; omega
  have e1 : B.drop j = B[j] :: B.drop (j + 1) := List.drop_eq_getElem_cons hj
  have e2 : (flat tkC ((B.take j).map (shTk D) ++ B.drop j)).set (j * 4 + 2) (.int .i64 (B[j].pl + D)) = flat tkC ((B.take (j + 1)).map (shTk D) ++ B.drop (j + 1)) := by
    rw [e1, flat_append, List.take_succ_eq_append_getElem hj, List.map_append, List.append_assoc, flat_append, flat_cons]
    have hfl : (flat tkC ((B.take j).map (shTk D))).length = j * 4 := by rw [flat_length tkC_len, hl]
    rw [List.set_append_right _ _ (by rw [hfl]; omega), hfl, show j * 4 + 2 - j * 4 = 2 by omega]
    simp [tkC, shTk, flat]
  rw [e2] at h1
  exact h1

set_option maxRecDepth 100000 in
set_option maxHeartbeats 4000000 in
theorem lexParts_walk (s t : ByteArray) (w : World) (hV : LexV w) : Calls Tryd.prog 6 #[.string s, .string t] w fun e w' => e = .returned (.bool true) ∧ Below w.heap.size w w' := by
  have HAW := thid (awake_walk w hV)
  have HV := thid hV
  clear hV
  by_cases hbig : 1000 < s.size
  · have hbig' : (1000 : Int) < s.size := by omega
    go_enter Tryd.func6, Tryd.ntmps6
    go_wp2_with (go_at_call 7; refine HAW.out.mono ?_; rintro e W1 ⟨rfl, hb⟩; have HB := thid hb; clear hb)
    go_ret
    exact ⟨rfl, HB.out⟩
  by_cases hbig2 : 1000 < t.size
  · have hbig' : ¬ (1000 : Int) < s.size := by omega
    have hbig2' : (1000 : Int) < t.size := by omega
    go_enter Tryd.func6, Tryd.ntmps6
    go_wp2_with (go_at_call 7; refine HAW.out.mono ?_; rintro e W1 ⟨rfl, hb⟩; have HB := thid hb; clear hb)
    go_ret
    exact ⟨rfl, HB.out⟩
  have hbig' : ¬ (1000 : Int) < s.size := by omega
  have hbig2' : ¬ (1000 : Int) < t.size := by omega
  have HTS := thid (fun W (hW : LexV W) => tokens_walk s W (by omega) hW)
  have HTT := thid (fun W (hW : LexV W) => tokens_walk t W (by omega) hW)
  have HTC := thid (fun W (hW : LexV W) => tokens_walk (s ++ ⟨#[32]⟩ ++ t) W (by
    rw [ByteArray.size_append, ByteArray.size_append]
    have e1 : (⟨#[32]⟩ : ByteArray).size = 1 := rfl
    omega) hW)
  rw [cat_list] at HTC
  have hls := cutT_len s.data.toList
  have hlt := cutT_len t.data.toList
  have hlc := cutT_len (s.data.toList ++ 32 :: t.data.toList)
  rw [List.length_append, List.length_cons, bsz, bsz] at hlc
  rw [bsz] at hls hlt
  have HPA := thid (fun A h => (@cutT_parts 32 (by decide) s.data.toList t.data.toList A h))
  simp only [bsz] at HPA
  have HPB := thid (fun B h => (@cutT_parts 32 (by decide) t.data.toList [] B h).1)
  have HPL := thid (fun q h => @cutT_place t.data.toList q h)
  have HPS := thid (@cutT_pls t.data.toList)
  simp only [bsz] at HPL HPS
  generalize cutT (s.data.toList ++ 32 :: t.data.toList) = xc at HTC HPA hlc
  generalize cutT s.data.toList = xs at HTS HPA hls
  generalize cutT t.data.toList = xt at HTT HPA hlt HPB HPL HPS
  obtain ⟨A, xa⟩ := xs
  obtain ⟨B, xb⟩ := xt
  dsimp only at hls hlt HPS
  cases xa with
  | some p =>
    clear HPA hlc
    obtain ⟨C, xo⟩ := xc
    go_enter Tryd.func6, Tryd.ntmps6
    go_wp2_with (go_at_call 7; refine HAW.out.mono ?_; rintro e W1 ⟨rfl, hb⟩; have HB := thid hb; clear hb)
    refine (HTS.out _ (HV.out.on HB.out)).mono ?_
    rintro e W2 ⟨v, rfl, hR, hb2⟩
    cases (show v = .tuple #[.slice none 0 0, fltV 1 p] from hR)
    have HB2 := thid (lxon (lxon HB.out hb2) (lxbelow W2 (fObj 1 p)))
    clear hb2
    unfold fltV
    go_wp2_with fail
    refine (HTT.out _ (HV.out.on HB2.out)).mono ?_
    rintro e W3 ⟨v, rfl, hR3, hb3⟩
    obtain ⟨x1, x2, x3, x4, x5, rfl⟩ := tokR_any hR3
    have HB23 := thid (lxon hb3 (lxbelow W3 (fObj x4 x5)))
    have HB3 := thid (lxon HB2.out HB23.out)
    clear hb3 hR3 hR
    unfold fltV
    go_wp2_with fail
    refine (HTC.out _ (HV.out.on HB3.out)).mono ?_
    rintro e W4 ⟨v, rfl, hR4, hb4⟩
    obtain ⟨y1, y2, y3, y4, y5, rfl⟩ := tokR_any hR4
    have hb24 := lxon (lxon HB23.out hb4) (lxbelow W4 (fObj y4 y5))
    obtain ⟨k0, k1, k2⟩ := f_cells hb24
    have HB4 := thid (lxon HB2.out hb24)
    unfold fObj at k0 k1 k2 HB4
    clear hb4 hR4 hb24
    unfold fltV
    go_wp2_with fail
    go_ret
    exact ⟨rfl, HB4.out⟩
  | none =>
    obtain ⟨hAne, hxc⟩ := HPA.out A rfl
    subst hxc
    clear HPA
    cases xb with
    | some p =>
      have hx2 : (glue A.dropLast (shift (s.size + 1) (B, some p))) = ((glue A.dropLast (shift (s.size + 1) (B, some p))).1, some (p + (s.size + 1))) := rfl
      rw [hx2] at HTC
      have hp1 : p ≤ 1000 := by have := HPL.out p rfl; omega
      clear hx2 HPB HPL
      go_enter Tryd.func6, Tryd.ntmps6
      go_wp2_with (go_at_call 7; refine HAW.out.mono ?_; rintro e W1 ⟨rfl, hb⟩; have HB := thid hb; clear hb)
      refine (HTS.out _ (HV.out.on HB.out)).mono ?_
      rintro e W2 ⟨v, rfl, hR, hb2⟩
      obtain ⟨r, rfl, hO⟩ : ∃ r, v = .tuple #[r, fltV 0 0] ∧ W2.ownsRow W1.heap.size 36 4 r A.length (flat tkC A) := hR
      obtain ⟨ra, rc, rfl⟩ := owns_slice hO
      have HB2 := thid (lxon (lxon HB.out hb2) (lxbelow W2 (fObj 0 0)))
      clear hb2 hO
      unfold fltV
      go_wp2_with fail
      refine (HTT.out _ (HV.out.on HB2.out)).mono ?_
      rintro e W3 ⟨v, rfl, hR3, hb3⟩
      cases (show v = .tuple #[.slice none 0 0, fltV 1 p] from hR3)
      have HB23 := thid (lxon hb3 (lxbelow W3 (fObj 1 p)))
      have HB3 := thid (lxon HB2.out HB23.out)
      clear hb3
      unfold fltV
      go_wp2_with fail
      refine (HTC.out _ (HV.out.on HB3.out)).mono ?_
      rintro e W4 ⟨v, rfl, hR4, hb4⟩
      obtain ⟨pq, HPQ⟩ : ∃ pq : Int, Hid (pq = ((p + (s.size + 1) : Nat) : Int)) := ⟨_, rfl⟩
      cases (show v = .tuple #[.slice none 0 0, fltV 1 pq] by rw [HPQ.out]; exact hR4)
      have hb34 := lxon hb4 (lxbelow W4 (fObj 1 pq))
      obtain ⟨k0, k1, k2⟩ := f_cells (lxon HB23.out hb34)
      obtain ⟨m0, m1, m2⟩ := f_cells hb34
      have HB4 := thid (lxon HB3.out hb34)
      have hpp : (pq == (s.size : Int) + 1 + p) = true := by have := HPQ.out; rw [beq_iff_eq]; omega
      unfold fObj at k0 k1 k2 m0 m1 m2 HB4
      clear hb4 hb34
      unfold fltV
      go_wp2_with fail
      go_ret
      exact ⟨rfl, HB4.out⟩
    | none =>
      have hx2 : (glue A.dropLast (shift (s.size + 1) (B, none))) = (A.dropLast ++ B.map (shTk (s.size + 1)), none) := rfl
      rw [hx2] at HTC hlc
      have HBn : Hid (1 ≤ B.length) := Nat.pos_of_ne_zero fun e => HPB.out B rfl (List.length_eq_zero_iff.1 e)
      clear hx2 HPB HPL
      dsimp only at hlc
      obtain ⟨C, HC⟩ : ∃ C, Hid (C = A.dropLast ++ B.map (shTk (s.size + 1))) := ⟨_, rfl⟩
      rw [← HC.out] at HTC hlc
      obtain ⟨D, HD⟩ : ∃ D : Nat, Hid (D = s.size + 1) := ⟨_, rfl⟩
      rw [← HD.out] at HC
      have HAn : Hid (1 ≤ A.length) := Nat.pos_of_ne_zero fun e => hAne (List.length_eq_zero_iff.1 e)
      clear hAne
      go_enter Tryd.func6, Tryd.ntmps6
      go_wp2_with (go_at_call 7; refine HAW.out.mono ?_; rintro e W1 ⟨rfl, hb⟩; have HB := thid hb; clear hb)
      refine (HTS.out _ (HV.out.on HB.out)).mono ?_
      rintro e W2 ⟨v, rfl, hR, hb2⟩
      obtain ⟨r, rfl, hO⟩ : ∃ r, v = .tuple #[r, fltV 0 0] ∧ W2.ownsRow W1.heap.size 36 4 r A.length (flat tkC A) := hR
      obtain ⟨ra, rc, rfl⟩ := owns_slice hO
      obtain ⟨ga, rfl⟩ : ∃ ga, ra = some ⟨ga, 0, none⟩ := by
        rcases owns_addr hO with ⟨-, h, -⟩ | h
        · have := HAn.out; omega
        · exact h
      have HO2 := thid hO
      have HB2 := thid (lxon (lxon HB.out hb2) (lxbelow W2 (fObj 0 0)))
      clear hb2 hO
      unfold fltV
      go_wp2_with fail
      refine (HTT.out _ (HV.out.on HB2.out)).mono ?_
      rintro e W3 ⟨v, rfl, hR3, hb3⟩
      obtain ⟨r, rfl, hO⟩ : ∃ r, v = .tuple #[r, fltV 0 0] ∧ W3.ownsRow (W2.alloc (fObj 0 0)).heap.size 36 4 r B.length (flat tkC B) := hR3
      obtain ⟨rb, bc, rfl⟩ := owns_slice hO
      obtain ⟨gb, rfl⟩ : ∃ gb, rb = some ⟨gb, 0, none⟩ := by
        rcases owns_addr hO with ⟨-, h, -⟩ | h
        · have := HBn.out; omega
        · exact h
      have HO3 := thid hO
      have HB23 := thid (lxon hb3 (lxbelow W3 (fObj 0 0)))
      have HB3 := thid (lxon HB2.out HB23.out)
      have HB23' := thid hb3
      clear hb3 hO
      unfold fltV
      go_wp2_with fail
      refine (HTC.out _ (HV.out.on HB3.out)).mono ?_
      rintro e W4 ⟨v, rfl, hR4, hb4⟩
      obtain ⟨r, rfl, hO⟩ : ∃ r, v = .tuple #[r, fltV 0 0] ∧ W4.ownsRow (W3.alloc (fObj 0 0)).heap.size 36 4 r C.length (flat tkC C) := hR4
      obtain ⟨rcc, cc, rfl⟩ := owns_slice hO
      have HO4 := thid hO
      have hb34 := lxon hb4 (lxbelow W4 (fObj 0 0))
      obtain ⟨k0, k1, k2⟩ := f_cells (lxon HB23.out hb34)
      obtain ⟨m0, m1, m2⟩ := f_cells hb34
      have HB34 := thid hb34
      have HB4 := thid (lxon HB3.out hb34)
      unfold fObj at k0 k1 k2 m0 m1 m2
      clear hb4 hb34 hO
      unfold fltV
      have HX4 : Hid (Below W3.heap.size W3 (W4.alloc (fObj 0 0))) := lxon (lxbelow W3 (fObj 0 0)) HB34.out
      have hgb : gb < W3.heap.size := (HO3.out.lt gb rfl).2
      have hgb2 : W2.heap.size + 1 ≤ gb := by have := (HO3.out.lt gb rfl).1; simpa using this
      have hga : ga < W2.heap.size := (HO2.out.lt ga rfl).2
      have hwW2 : w.heap.size ≤ W2.heap.size := by exact Nat.le_trans HB.out.size (Nat.le_trans (HO2.out.lt ga rfl).1 (Nat.le_of_lt hga))
      have hI0 : ShI w (W4.alloc (fObj 0 0)) gb B.length bc D B 0 (W4.alloc (fObj 0 0)) :=
        ⟨by rw [List.take_zero, List.map_nil, List.nil_append, List.drop_zero]; exact owns_mono (owns_on HO3.out HX4.out) (fun q hq => by cases hq; exact Nat.le_trans hwW2 (Nat.le_trans (Nat.le_succ _) hgb2)), HB4.out, fun _ _ => rfl, rfl⟩
      have HI0 := thid hI0
      clear hI0
      have hDi : ((s.size : Int) + 1) = (D : Int) := by have := HD.out; omega
      go_wp2_with fail
      go_loopw [57] (fun i wr => ∃ j : Nat, j ≤ B.length ∧ i = .int .i64 (j : Int) ∧ Hid (ShI w (W4.alloc (fObj 0 0)) gb B.length bc D B j wr)) (fun i _ => B.length - (intOf i).toNat)
      case atStart => exact ⟨0, Nat.zero_le _, rfl, HI0⟩
      case round =>
        clear k0 k1 k2 m0 m1 m2
        obtain ⟨j, hj, rfl, HI⟩ := hrel
        by_cases hjl : j < B.length
        · have hx : B[j]? = some B[j] := List.getElem?_eq_getElem hjl
          have hx2 : ((B.take j).map (shTk D) ++ B.drop j)[j]? = some B[j] := by
            have hlj : ((B.take j).map (shTk D)).length = j := by simp; omega
            rw [List.getElem?_append_right (by rw [hlj]; exact Nat.le_refl _), hlj, Nat.sub_self, List.getElem?_drop, Nat.add_zero]
            exact hx
          have c2 : wr.cell? ⟨gb, j * 4 + 2, none⟩ = some (.int .i64 B[j].pl) := own_at tkC_len HI.out.own hx2 (i := 2) rfl
          obtain ⟨f2, hl2⟩ := own_fro HI.out.own (j * 4 + 2)
          have HN := thid (HI.out.next hx (Nat.le_trans hwW2 (Nat.le_trans (Nat.le_succ _) hgb2)))
          have hpl := HPS.out B[j] (List.getElem_mem _)
          obtain ⟨hp0, hp1⟩ := hpl
          generalize B[j].pl = z at c2 HN hp0 hp1
          have hzD : z + (D : Int) ≤ 100000 := by have := HD.out; omega
          clear hx hx2
          go_wp2_with fail
          exact ⟨⟨j + 1, hjl, by go_num, HN⟩, by simp [intOf]; omega⟩
        · have hjb : j = B.length := by omega
          subst hjb
          have HW := HI.out
          have hown := HW.own
          rw [List.take_length, List.drop_length, List.append_nil] at hown
          have HOB := thid hown
          have hgaO : ga ≠ gb := by omega
          have HOA : Hid (wr.ownsRow W1.heap.size 36 4 (.slice (some ⟨ga, 0, none⟩) A.length rc) A.length (flat tkC A)) := owns_below HO2.out fun q hq => by
            cases hq
            rw [HW.oth ga hgaO, HB34.out.block ga (by simp; omega), (lxbelow W3 (fObj 0 0)).block ga (by omega), HB23'.out.block ga (by simp; omega), (lxbelow W2 (fObj 0 0)).block ga hga]
          have HSC : Hid (SlG tkC 4 wr rcc C) := (owns_slg tkC_len (by decide) (owns_below HO4.out fun q hq => by
            have h1 := HO4.out.lt q hq
            have hne : q ≠ gb := by have := h1.1; simp at this; omega
            rw [HW.oth q hne, (lxbelow W4 (fObj 0 0)).block q h1.2])).2.1
          have hgc : wr.cell? ⟨W4.heap.size, 0, none⟩ = some (.int .i64 0) := by
            have hne : W4.heap.size ≠ gb := by have := HB34.out.size; simp at this; omega
            rw [World.cell?_of_block (w := W4.alloc (fObj 0 0)) (a := ⟨W4.heap.size, 0, none⟩) (HW.oth _ hne)]
            exact cell_of_row _ _ _ _ _ _ (heap_alloc_new W4 (fObj 0 0))
          have HBw := thid HW.bel
          have HGC := thid hgc
          have hcap := (owns_cap HOA.out).1
          have hA1 := HAn.out
          clear hown HI HW HO2 HO3 HO4 hgc
          go_wp2_with fail
          refine pt_region (w := wr) (G := W4.heap.size) (ca := rcc) (nC := C.length) (cc := cc) (ga := ga) (nA := A.length) (ac := rc) (bv := .slice (some ⟨gb, 0, none⟩) B.length bc) (C := C) ⟨⟨_, rfl, rfl, rfl, rfl⟩, ⟨_, rfl, rfl, rfl, rfl, sdep_of (by kernel_rfl)⟩, ⟨_, rfl, rfl, rfl, rfl, sdep_of (by kernel_rfl)⟩, ⟨_, rfl, rfl, rfl, rfl, sdep_of (by kernel_rfl)⟩, ⟨_, rfl, rfl, rfl, rfl, sdep_of (by kernel_rfl)⟩, ⟨_, rfl, rfl, rfl, rfl, sdep_of (by kernel_rfl), sdep_of (by kernel_rfl)⟩, ⟨_, rfl, rfl, rfl, rfl, sdep_of (by kernel_rfl)⟩, ⟨_, rfl, rfl, rfl, rfl, sdep_of (by kernel_rfl)⟩, ⟨_, rfl, rfl, rfl, rfl, sdep_of (by kernel_rfl), sdep_of (by kernel_rfl)⟩, ⟨_, rfl, rfl, rfl, rfl, sdep_of (by kernel_rfl), sdep_of (by kernel_rfl)⟩, ⟨_, rfl, rfl, rfl, rfl, sdep_of (by kernel_rfl), sdep_of (by kernel_rfl), sdep_of (by kernel_rfl)⟩, ⟨_, rfl, rfl, rfl, rfl, sdep_of (by kernel_rfl)⟩⟩
            (by simp) rfl rfl rfl rfl HGC.out hA1 (by omega) hcap HSC.out rfl (by omega) (by kernel_rfl) (by kernel_rfl) (by decide) (slow_of (by kernel_rfl)) (by kernel_rfl) ?_
          intro va vc W hbW hO77
          simp only [Act.put, List.setIfInBounds_toArray, List.set_cons_succ, List.set_cons_zero, List.drop_succ_cons, List.drop_zero]
          have HBW := thid hbW
          have HO77 := thid hO77
          clear hbW hO77
          have HOA1 : Hid (W.ownsRow W1.heap.size 36 4 (.slice (some ⟨ga, 0, none⟩) (A.length - 1) rc) (A.length - 1) (flat tkC A.dropLast)) := by
            have h := own_take tkC_len (owns_on HOA.out HBW.out) (m := A.length - 1) (by omega)
            rw [← List.dropLast_eq_take] at h
            exact h
          have HOB1 := thid (owns_on HOB.out HBW.out)
          have HSb : Hid (∀ j u, (flat tkC (B.map (shTk D)))[j]? = some u → W.cell? ((⟨gb, 0, none⟩ : Addr).add j) = some u) := fun j u hu => World.ownsRow.cells HOB1.out (g := gb) rfl j u hu
          have hWs : W1.heap.size ≤ W.heap.size := Nat.le_trans (Nat.le_trans (HOA.out.lt ga rfl).1 (Nat.le_of_lt (HOA.out.lt ga rfl).2)) HBW.out.size
          refine append_srcG Tryd.underlying23 infoTok rfl (by decide) (by decide) (by kernel_rfl) _ _ rfl W1.heap.size hWs _ (A.length - 1) (flat tkC A.dropLast) rfl HOA1.out ⟨gb, 0, none⟩ B.length bc (flat tkC (B.map (shTk D))) rfl HSb.out (by rw [flat_length tkC_len]; simp) (flat_one tkC_one) (by omega) ?_
          intro v2 W5 O5 G5
          simp only [Act.put, List.setIfInBounds_toArray, List.set_cons_succ, List.set_cons_zero]
          rw [← flat_append, ← HC.out] at O5
          have hCl : A.length - 1 + B.length = C.length := by rw [HC.out]; simp
          rw [hCl] at O5
          obtain ⟨w2, c2, rfl⟩ := owns_slice O5
          have HO5 := thid O5
          have hgaw : ga < wr.heap.size := (HOA.out.lt ga rfl).2
          have HO6 : Hid (W5.ownsRow wr.heap.size 46 4 (.slice va C.length vc) C.length (flat tkC C)) := owns_below HO77.out fun q hq => by
            have h1 := HO77.out.lt q hq
            exact G5.block q h1.2 (by intro e; cases e; exact absurd h1.1 (Nat.not_le_of_lt hgaw))
          have HB5 : Hid (Below w.heap.size w W5) := (lxon HBw.out HBW.out).grown G5 (lxon HBw.out HBW.out).size fun q hq => by cases hq; exact Nat.le_trans HB.out.size (HOA.out.lt ga rfl).1
          have HP5 := thid (plain_walk (c := c2) (owns_slg tkC_len (by decide) O5).2.1 rfl (by omega))
          clear O5 G5
          go_wp2_with fail
          refine HP5.out.mono ?_
          rintro e W6 ⟨v6, rfl, hO6, hb6⟩
          obtain ⟨qa, qc, rfl⟩ := owns_slice hO6
          have HSM := thid (same_true (c := vc) (d := qc) true (owns_slg tkC_len (by decide) (owns_on HO6.out hb6)).2.1 (owns_slg tkC_len (by decide) hO6).2.1 (fun j x y hx hy => by rw [hx] at hy; cases hy; exact ⟨rfl, rfl, rfl, fun _ => rfl⟩) rfl rfl (by omega))
          have HB6 := thid (lxon HB5.out hb6)
          clear hO6 hb6
          go_wp2_with fail
          refine HSM.out.mono ?_
          rintro e W7 ⟨rfl, hb7⟩
          have HB7 := thid (lxon HB6.out hb7)
          clear hb7
          go_wp2_with fail
          go_ret
          exact ⟨rfl, HB7.out⟩
end Go.Proofs.YtfokllgfejcehaaDoor
