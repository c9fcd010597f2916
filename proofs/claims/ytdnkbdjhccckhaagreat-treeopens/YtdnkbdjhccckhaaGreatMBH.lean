import Derived.Test.YtdnkbdjhccckhaaGreatMBE
namespace Go.Proofs.YtdnkbdjhccckhaaGreat
open Go.RowKit
open L4 (Ar ArP Abs arV nv)
theorem Lost.cut {a: Abs} {u: Pl} {at_: Nat} {n c: L5.No} {y: List (Nat × L5.No)} {z: Nat} (k: Lost a u at_ n true y z c): c.size <= u.n.size /\ c.leaf = u.n.leaf := by
 cases k with
 | gone => exact ⟨cutK_size _ _ _,rfl⟩
 | left => exact ⟨cutK_size _ _ _,rfl⟩
 | right => exact ⟨cutK_size _ _ _,rfl⟩
theorem lost_way {N B: Nat} {s: Ar} {t x r h l xr xh xl: Nat} {tk ld gn: Value} {T: List Nat} {Ld Ld': List Lay} {G G': List Nat} {g cp m': Nat} {Lw': List Lay} {y: Lay} {c: L5.No} {cs: Array Value} {w w8: World} {ld8 gn8 vr8 vk8: Value} (hE: Es B s t x r h l xr xh xl tk ld gn T Ld G w) (hN: N <= B) (hW: WayS N B s g (Lw' ++ [y]) w) (hl: Lw'.length = m') (hcap: m' + 1 <= cp) (hb: w.heap[g]? = some (.cells cs 104 (0,0))) (hc: ∀ i z,(Lw' ++ [y])[i]? = some z -> cs[i * 5]? = some (nv z.at_) /\ cs[i * 5 + 1]? = some (.bool z.n.leaf) /\ cs[i * 5 + 2]? = some z.vr /\ cs[i * 5 + 3]? = some z.vk /\ cs[i * 5 + 4]? = some (nv z.kid)) (hA: Lose N B s t x r h l xr xh xl tk ld gn T Ld' G' g (m' * 5) cs c y.vr y.vk w ld8 gn8 vr8 vk8 w8) (hcl: c.leaf = y.n.leaf) :
 WayS N B s g Lw' w8 /\ WayL w8 m' g cp y.at_ c vr8 vk8 y.kid /\ Stp N s s t x w w8 /\ (∀ q,s.own q -> vk8.ownBlock ≠ some q) /\ (∀ q,tk.ownBlock = some q -> vk8.ownBlock ≠ some q) /\ (∀ q,gn8.ownBlock = some q -> vk8.ownBlock ≠ some q) := by
 have hy: y ∈ Lw' ++ [y] := by simp
 have hyr := hW.rr y hy
 have hyk := hW.rk y hy
 have blk: ∀ q,q < w.heap.size -> q < B -> q ≠ x -> q ≠ g -> y.vr.ownBlock ≠ some q -> y.vk.ownBlock ≠ some q -> w8.heap[q]? = w.heap[q]? := fun q h0 hq hx h1 h2 h3 => hA.only.block q h0 fun z => by
  rcases z with z | z | z | z | z | z
  · exact hx z
  · have := (hE.rl.lt q z).1; omega
  · have := (hE.rg.lt q z).1; omega
  · exact h1 z
  · exact h2 z
  · exact h3 z
 obtain ⟨c0,c1,c2,c3,c4⟩ := hc m' y (by rw [List.getElem?_append_right (by omega),hl]; simp)
 have k2: m' * 5 + 2 < cs.size := by
  rcases Nat.lt_or_ge (m' * 5 + 2) cs.size with h | h
  · exact h
  · rw [Array.getElem?_eq_none h] at c2; cases c2
 have k3: m' * 5 + 3 < cs.size := by
  rcases Nat.lt_or_ge (m' * 5 + 3) cs.size with h | h
  · exact h
  · rw [Array.getElem?_eq_none h] at c3; cases c3
 have gl8 := (Array.getElem?_eq_some_iff.1 hA.blk).1
 refine ⟨⟨⟨_,hA.blk,fun i z hi => ?_⟩,hW.g1,hW.g2,fun z hz => ?_,fun z hz => ?_,fun z hz => hW.r1 z (by simp [hz]),fun z hz => hW.r2 z (by simp [hz]),(List.pairwise_append.1 hW.ap).1⟩,⟨gl8,hcap, ?_, ?_, ?_, ?_, ?_⟩,⟨hA.only.weaken fun k _ hz => ?_,fun _ hq => Or.inl hq⟩,fun q hq e => ?_,fun q hq e => ?_,fun q hq e => ?_⟩
 · have hil: i < m' := by have := (List.getElem?_eq_some_iff.1 hi).1; omega
   have := hc i z (by rw [List.getElem?_append_left (by omega)]; exact hi)
   refine ⟨?_, ?_, ?_, ?_, ?_⟩ <;> rw [Array.getElem?_setIfInBounds_ne (by omega),Array.getElem?_setIfInBounds_ne (by omega)]
   · exact this.1
   · exact this.2.1
   · exact this.2.2.1
   · exact this.2.2.2.1
   · exact this.2.2.2.2
 · have hap := (List.pairwise_append.1 hW.ap).2.2 z hz y (by simp)
   have hzr := hW.rr z (by simp [hz])
   exact L5.owns_of_block hzr fun q hq => blk q (hzr.lt q hq).2 (hW.r1 z (by simp [hz]) q hq) (fun e => row_ne hE.ed hzr (by decide) (e ▸ hq)) (fun e => row_ne hb hzr (by decide) (e ▸ hq)) (fun e => hap.1 q hq e) (fun e => rows_ne hzr hyk (by decide) q hq e)
 · have hap := (List.pairwise_append.1 hW.ap).2.2 z hz y (by simp)
   have hzk := hW.rk z (by simp [hz])
   exact L5.owns_of_block hzk fun q hq => blk q (hzk.lt q hq).2 (hW.r2 z (by simp [hz]) q hq).1 (fun e => row_ne hE.ed hzk (by decide) (e ▸ hq)) (fun e => row_ne hb hzk (by decide) (e ▸ hq)) (fun e => rows_ne hzk hyr (by decide) q hq e) (fun e => hap.2 q hq e)
 · rw [cell_of_row _ _ _ _ _ _ hA.blk,Array.getElem?_setIfInBounds_ne (by omega),Array.getElem?_setIfInBounds_ne (by omega)]; exact c0
 · rw [cell_of_row _ _ _ _ _ _ hA.blk,Array.getElem?_setIfInBounds_ne (by omega),Array.getElem?_setIfInBounds_ne (by omega),hcl]; exact c1
 · rw [cell_of_row _ _ _ _ _ _ hA.blk,Array.getElem?_setIfInBounds_ne (by omega),Array.getElem?_setIfInBounds_self_of_lt k2]
 · rw [cell_of_row _ _ _ _ _ _ hA.blk,Array.getElem?_setIfInBounds_self_of_lt (by simp; exact k3)]
 · rw [cell_of_row _ _ _ _ _ _ hA.blk,Array.getElem?_setIfInBounds_ne (by omega),Array.getElem?_setIfInBounds_ne (by omega)]; exact c4
 · rcases hz with rfl | hz | hz | rfl | hz | hz
   · exact Or.inr (Or.inr (Or.inl rfl))
   · have := (hE.rl.lt k hz).1; exact Or.inr (Or.inr (Or.inr (by omega)))
   · have := (hE.rg.lt k hz).1; exact Or.inr (Or.inr (Or.inr (by omega)))
   · exact Or.inr (Or.inr (Or.inr hW.g1))
   · exact Or.inr (Or.inr (Or.inr (hyr.lt k hz).1))
   · exact Or.inr (Or.inr (Or.inr (hyk.lt k hz).1))
 · rw [hA.nk] at e
   exact (hW.r2 y hy q e).2 hq
 · rw [hA.nk] at e
   have := (hW.r2 y hy q e).1; have := (hE.rt.lt q hq).1; omega
 · rw [hA.nk] at e
   have h1 := (hW.r2 y hy q e).1
   rcases hA.ng q hq with hq | hq
   · have := (hE.rg.lt q hq).1; omega
   · have := hE.bs; omega
def ShrQ (N: Nat) (s: Ar) (t x r h l xl: Nat) (tk: Value) (T: List Nat) (ups: List Pl) (at_: Nat) (n: L5.No) (xr xh: Nat) (Ld: List Lay) (G: List Nat) (w w': World): Prop :=
 ∃ (ld' gn': Value) (Ld': List Lay) (G': List Nat) (xr' xh': Nat),Es N s t x r h l xr' xh' xl tk ld' gn' T Ld' G' w' /\ Stp N s s t x w w' /\ DelR s.abs ups at_ n xr xh (prs Ld) G (prs Ld') G' xr' xh' /\ Ld'.length <= 10000 /\ G'.length <= 10000
def ShrinkP (N t x r h l xl: Nat) (tk: Value) (T: List Nat) (m: Nat): Prop := ∀ (B: Nat) (s: Ar) (xr xh: Nat) (ld gn: Value) (Ld: List Lay) (G: List Nat) (Lw: List Lay) (w: World) (n: L5.No) (at_ g cp kid: Nat) (ra ka: Option Addr) (rc kc: Nat),Lw.length = m -> m <= 4096 -> N <= B -> Es B s t x r h l xr xh xl tk ld gn T Ld G w -> Ld.length + m + 2 <= 10000 -> G.length + m + xh + 2 <= 10000 -> WayS N B s g Lw w -> WayL w m g cp at_ n (.slice ra n.recs.length rc) (.slice ka n.kids.length kc) kid ->
 w.ownsRow N 9 1 (.slice ra n.recs.length rc) n.recs.length (L5.svs n.recs) -> w.ownsRow N 3 1 (.slice ka n.kids.length kc) n.kids.length (L5.ivs n.kids) -> (∀ q,s.own q -> (Value.slice ka n.kids.length kc).ownBlock ≠ some q) -> (∀ q,tk.ownBlock = some q -> (Value.slice ka n.kids.length kc).ownBlock ≠ some q) -> (∀ q,gn.ownBlock = some q -> (Value.slice ka n.kids.length kc).ownBlock ≠ some q) ->
 s.abs.Ok -> UpsOk s.abs (Lw.reverse.map Lay.pl) at_ n.leaf -> n.size <= 1024 -> 1 <= xh -> (∀ L1 G1 r1 n1,Shr s.abs (Lw.reverse.map Lay.pl) at_ n L1 G1 (some (r1,n1)) -> r1 = xr /\ SetOk s.abs (prs Ld ++ L1) xr (xh - 1) n1) ->
 Calls Tryz.prog 71 #[.pointer (some ⟨x,0,none⟩), .slice (some ⟨g,0,none⟩) (m + 1) cp] w fun e w' => e = .returned (.tuple #[]) /\ ShrQ N s t x r h l xl tk T (Lw.reverse.map Lay.pl) at_ n xr xh Ld G w w'
end Go.Proofs.YtdnkbdjhccckhaaGreat
