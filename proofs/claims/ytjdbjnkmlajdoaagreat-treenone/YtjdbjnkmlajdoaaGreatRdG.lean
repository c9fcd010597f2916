/-
  What the bytes of a node's page say is the node.
-/
import Derived.Test.YtjdbjnkmlajdoaaGreatRdE
namespace Go.Proofs.YtjdbjnkmlajdoaaGreat.L5
open Go.RowKit

theorem byteAt_get (L : List UInt8) (i : Nat) (h : i < L.length) : byteAt L i = L[i].toNat := by
  unfold byteAt
  rw [List.getD_eq_getElem?_getD, List.getElem?_eq_getElem h]
  rfl

theorem cut_zero (L : List UInt8) (i : Nat) : cut L i 0 = [] := by simp [cut]

theorem num2_at (L : List UInt8) (i : Nat) (h : i + 2 ≤ L.length) : numL (cut L i 2) = at2 L i := by
  rw [cut_snoc L i 1 (by omega), numL_snoc, cut_snoc L i 0 (by omega), numL_snoc, cut_zero]
  unfold at2
  rw [byteAt_get L i (by omega), byteAt_get L (i + 1) (by omega)]
  simp [numL]

theorem num4_at (L : List UInt8) (i : Nat) (h : i + 4 ≤ L.length) : numL (cut L i 4) = at4 L i := by
  rw [cut_snoc L i 3 (by omega), numL_snoc, cut_snoc L i 2 (by omega), numL_snoc, cut_snoc L i 1 (by omega), numL_snoc, cut_snoc L i 0 (by omega), numL_snoc, cut_zero]
  unfold at4
  rw [byteAt_get L i (by omega), byteAt_get L (i + 1) (by omega), byteAt_get L (i + 2) (by omega), byteAt_get L (i + 3) (by omega)]
  simp [numL]

theorem cnt_at {L : List UInt8} (hl : L.length = 1024) : cntL L = at2 L 1 := num2_at L 1 (by omega)

theorem slot_at {L : List UInt8} (hl : L.length = 1024) : slotAt L = if byteAt L 0 == 1 then 3 else 3 + 4 * (at2 L 1 + 1) := by
  unfold slotAt kidN leafB
  rw [cnt_at hl]
  split <;> simp

theorem raw_read {L : List UInt8} (hl : L.length = 1024) (h : slotAt L + 4 * cntL L ≤ 1024) : (rawN L).toNd = readNd L := by
  have hc := cnt_at hl
  have hs := slot_at hl
  have e1 : (recsL L (slotAt L) (cntL L)).map (fun s => s.data.toList) = (List.range (at2 L 1)).map fun i => cut L (at2 L (slotAt L + 4 * i)) (at2 L (slotAt L + 4 * i + 2)) := by
    unfold recsL
    rw [List.map_map, hc]
    refine List.map_congr_left fun i hi => ?_
    have hi' : i < at2 L 1 := List.mem_range.1 hi
    have b1 : begL L (slotAt L) i = at2 L (slotAt L + 4 * i) := num2_at L _ (by omega)
    have b2 : lenL L (slotAt L) i = at2 L (slotAt L + 4 * i + 2) := num2_at L _ (by omega)
    show (cut L (begL L (slotAt L) i) (lenL L (slotAt L) i)).toArray.toList = _
    rw [b1, b2]
  have e2 : (kidsL L 3 (kidN L)).map Int.toNat = if byteAt L 0 == 1 then [] else (List.range (at2 L 1 + 1)).map fun i => at4 L (3 + 4 * i) := by
    unfold kidsL
    rw [List.map_map]
    have hk : kidN L = if byteAt L 0 == 1 then 0 else at2 L 1 + 1 := by unfold kidN leafB; rw [hc]
    have hle : 3 + 4 * kidN L ≤ 1024 := by unfold slotAt at h; omega
    have : (List.range (kidN L)).map (Int.toNat ∘ fun i => (numL (cut L (3 + 4 * i) 4) : Int)) = (List.range (kidN L)).map fun i => at4 L (3 + 4 * i) := by
      refine List.map_congr_left fun i hi => ?_
      have hi' : i < kidN L := List.mem_range.1 hi
      show (numL (cut L (3 + 4 * i) 4) : Int).toNat = _
      rw [num4_at L _ (by omega)]
      simp
    rw [this, hk]
    split <;> simp
  unfold No.toNd readNd
  show (⟨leafB L, (recsL L (slotAt L) (cntL L)).map (fun s => s.data.toList), (kidsL L 3 (kidN L)).map Int.toNat⟩ : Nd) = _
  rw [e1, e2, hs]
  rfl

theorem shaped_toNd {n : No} (h : n.shaped = true) : n.toNd.Shaped := by
  unfold No.shaped at h
  simp only [Bool.and_eq_true, List.all_eq_true, List.mem_range, beq_iff_eq] at h
  obtain ⟨⟨h1, h2⟩, h3⟩ := h
  refine ⟨?_, ?_, ?_⟩
  · show (n.kids.map Int.toNat).length = if n.leaf then 0 else (n.recs.map (·.data.toList)).length + 1
    simpa using h3
  · intro k hk
    obtain ⟨x, hx, rfl⟩ := List.mem_map.1 (show k ∈ n.kids.map Int.toNat from hk)
    have := h2 x hx
    unfold kidOk at this
    simp at this
    omega
  · intro r hr
    obtain ⟨s, hs, rfl⟩ := List.mem_map.1 (show r ∈ n.recs.map (·.data.toList) from hr)
    obtain ⟨i, hi, rfl⟩ := List.getElem_of_mem hs
    have := h1 i hi
    unfold recOk at this
    rw [List.getElem?_eq_getElem hi] at this
    simp at this
    have e : (n.recs[i]).data.toList.length = (n.recs[i]).size := by simp
    omega

theorem toNd_inj {n m : No} (hn : ∀ k ∈ n.kids, 0 ≤ k) (hm : ∀ k ∈ m.kids, 0 ≤ k) (h : n.toNd = m.toNd) : n = m := by
  have h1 : n.leaf = m.leaf := congrArg Nd.leaf h
  have h2 : n.recs.map (fun s => s.data.toList) = m.recs.map (fun s => s.data.toList) := congrArg Nd.recs h
  have h3 : n.kids.map Int.toNat = m.kids.map Int.toNat := congrArg Nd.kids h
  have e2 : n.recs = m.recs := by
    have := congrArg (List.map fun l : List UInt8 => (⟨l.toArray⟩ : ByteArray)) h2
    simpa [List.map_map, Function.comp_def] using this
  have e3 : n.kids = m.kids := by
    have := congrArg (List.map fun l : Nat => (l : Int)) h3
    rw [List.map_map, List.map_map] at this
    have f : ∀ l : List Int, (∀ k ∈ l, 0 ≤ k) → l.map ((fun l : Nat => (l : Int)) ∘ Int.toNat) = l := fun l hl => by
      conv => rhs; rw [← List.map_id l]
      refine List.map_congr_left fun k hk => ?_
      have := hl k hk
      show ((k.toNat : Nat) : Int) = k
      omega
    rwa [f _ hn, f _ hm] at this
  cases n; cases m
  simp_all

/-- A node that fits: its page says it. -/
theorem raw_page {n : No} (h : n.shaped = true) (hs : n.size ≤ 1024) : pageOk (pageL n.toNd) ∧ rawN (pageL n.toNd) = n := by
  have hS := shaped_toNd h
  have hz : n.toNd.size ≤ 1024 := by rw [toNd_size]; exact hs
  have hl := pageL_length hz
  obtain ⟨p1, p2, p3, p4⟩ := read_page hS hz
  have hk : n.toNd.kids.length = n.kids.length := by simp [No.toNd]
  have hr : n.toNd.recs.length = n.recs.length := by simp [No.toNd]
  have hc : cntL (pageL n.toNd) = n.recs.length := by rw [cnt_at hl, p3, hr]
  have hsl : slotAt (pageL n.toNd) = 3 + 4 * n.toNd.kids.length := by
    rw [slot_at hl, p2, p3, hS.kids]
    cases n.toNd.leaf <;> simp
  have hb : slotAt (pageL n.toNd) + 4 * cntL (pageL n.toNd) ≤ 1024 := by
    rw [hsl, hc]
    have : n.toNd.size = 3 + 4 * n.toNd.kids.length + (4 * n.toNd.recs.length + lens n.toNd.recs) := rfl
    omega
  have hraw : rawN (pageL n.toNd) = n := by
    refine toNd_inj ?_ ?_ (by rw [raw_read hl hb, p1])
    · intro k hk
      obtain ⟨i, _, rfl⟩ := List.mem_map.1 (show k ∈ (List.range (kidN (pageL n.toNd))).map fun i => (numL (cut (pageL n.toNd) (3 + 4 * i) 4) : Int) from hk)
      omega
    · intro k hk
      unfold No.shaped at h
      simp only [Bool.and_eq_true, List.all_eq_true] at h
      have := h.1.2 k hk
      unfold kidOk at this
      simp at this
      omega
  refine ⟨⟨⟨hb, fun i hi => ?_⟩, by rw [hraw]; exact h, by rw [hraw]; exact hs, by rw [hraw]⟩, hraw⟩
  rw [hc] at hi
  have := p4 i (by omega)
  unfold begL lenL
  rw [num2_at _ _ (by omega), num2_at _ _ (by omega), hsl, hl]
  exact this
end Go.Proofs.YtjdbjnkmlajdoaaGreat.L5
