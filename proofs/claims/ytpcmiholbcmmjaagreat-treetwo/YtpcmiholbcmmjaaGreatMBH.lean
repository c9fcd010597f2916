import Derived.Test.YtpcmiholbcmmjaaGreatMBE
import Derived.Test.YtpcmiholbcmmjaaGreatMBF
import Derived.Test.YtpcmiholbcmmjaaGreatMBG
set_option maxRecDepth 100000
set_option maxHeartbeats 4000000
namespace Go.Proofs.YtpcmiholbcmmjaaGreat
open Go.RowKit
open L4 (Ar ArP Abs arV nv)
structure Lose (N B : Nat) (s : Ar) (t x r h l xr xh xl : Nat) (tk ld gn : Value) (T : List Nat) (Ld' : List Lay) (G' : List Nat) (g off : Nat) (cs : Array Value) (c : L5.No) (vr vk : Value) (w : World) (ld' gn' vr' vk' : Value) (w' : World) : Prop where
 es : Es B s t x r h l xr xh xl tk ld' gn' T Ld' G' w'
 blk : w'.heap[g]? = some (.cells ((cs.setIfInBounds (off + 2) vr').setIfInBounds (off + 3) vk') 100 (0, 0))
 rr : w'.ownsRow N 9 1 vr' c.recs.length (L5.svs c.recs)
 rk : w'.ownsRow N 3 1 vk' c.kids.length (L5.ivs c.kids)
 only : Only (fun q => q = x \/ ld.ownBlock = some q \/ gn.ownBlock = some q \/ q = g \/ vr.ownBlock = some q \/ vk.ownBlock = some q) w w'
 nr : vr'.ownBlock = vr.ownBlock
 nk : vk'.ownBlock = vk.ownBlock
 ng : ∀ q, gn'.ownBlock = some q -> gn.ownBlock = some q \/ w.heap.size <= q
 nl : ∀ q, ld'.ownBlock = some q -> ld.ownBlock = some q \/ w.heap.size <= q
section
variable {N B : Nat} {s : Ar} {t x r h l xr xh xl : Nat} {tk ld gn : Value} {T : List Nat} {Ld : List Lay} {G : List Nat} {g off : Nat} {cs : Array Value} {u : Pl} {vr vk : Value} {w w' : World}
theorem LostG.lose {gn' vr' vk' : Value} (k : LostG N B s t x r h l xr xh xl tk ld gn T Ld G g off cs u vr vk w gn' vr' vk' w') : Lose N B s t x r h l xr xh xl tk ld gn T Ld G g off cs (cutK u.n (u.kid - 1) u.kid) vr vk w ld gn' vr' vk' w' :=
 ⟨k.es, k.blk, k.rr, k.rk, k.only.weaken fun q _ hz => by
  rcases hz with hz | hz | hz
  · exact Or.inl hz
  · exact Or.inr (Or.inr (Or.inl hz))
  · exact Or.inr (Or.inr (Or.inr hz)), k.nr, k.nk, k.ng, fun q hq => Or.inl hq⟩
theorem JoinG.lose {i pl pr : Nat} {J : L5.No} {ld' gn' vr' vk' vjr vjk : Value} (k : JoinG N B s t x r h l xr xh xl tk ld gn T Ld G g off cs u vr vk i pl pr J w ld' gn' vr' vk' vjr vjk w') : Lose N B s t x r h l xr xh xl tk ld gn T (Ld ++ [⟨pl, J, vjr, vjk, 0⟩]) (G ++ [pr]) g off cs (cutK u.n i (i + 1)) vr vk w ld' gn' vr' vk' w' :=
 ⟨k.es, k.blk, k.rr, k.rk, k.only, k.nr, k.nk, k.ng, k.nl⟩
theorem Lose.from {Ld' : List Lay} {G' : List Nat} {c : L5.No} {ld' gn' vr' vk' : Value} {w1 : World} (k : Lose N B s t x r h l xr xh xl tk ld gn T Ld' G' g off cs c vr vk w1 ld' gn' vr' vk' w') (hb : Below w.heap.size w w1) : Lose N B s t x r h l xr xh xl tk ld gn T Ld' G' g off cs c vr vk w ld' gn' vr' vk' w' :=
 ⟨k.es, k.blk, k.rr, k.rk, (Only.of_below hb).trans k.only, k.nr, k.nk, fun q hq => (k.ng q hq).imp id fun e => Nat.le_trans hb.size e, fun q hq => (k.nl q hq).imp id fun e => Nat.le_trans hb.size e⟩
end
inductive Lost (a : Abs) (u : Pl) (at_ : Nat) (n : L5.No) : Bool -> List (Nat × L5.No) -> Nat -> L5.No -> Prop
 | none (h0 : n.recs.length + n.kids.length ≠ 0) (hf : NoFit a u n) : Lost a u at_ n false [] 0 u.n
 | gone (h0 : n.recs.length + n.kids.length = 0) : Lost a u at_ n true [] at_ (cutK u.n (u.kid - 1) u.kid)
 | left {c : Nat} {m : L5.No} {sep : ByteArray} (h0 : n.recs.length + n.kids.length ≠ 0) (hk : 1 <= u.kid) (hs : u.n.recs[u.kid - 1]? = some sep) (hc : u.n.kids[u.kid - 1]? = some (c : Int)) (hm : Holds a c m) (hz : (joinK m sep n).size <= 1024) : Lost a u at_ n true [(c, joinK m sep n)] at_ (cutK u.n (u.kid - 1) u.kid)
 | right {c : Nat} {m : L5.No} {sep : ByteArray} (h0 : n.recs.length + n.kids.length ≠ 0) (hs : u.n.recs[u.kid]? = some sep) (hc : u.n.kids[u.kid + 1]? = some (c : Int)) (hm : Holds a c m) (hz : (joinK n sep m).size <= 1024) : Lost a u at_ n true [(at_, joinK n sep m)] c (cutK u.n u.kid (u.kid + 1))
theorem Lost.shr {a : Abs} {u : Pl} {us : List Pl} {at_ : Nat} {n c : L5.No} {y : List (Nat × L5.No)} {z : Nat} (k : Lost a u at_ n true y z c) : ∀ L G o, Shr a us u.at_ c L G o -> Shr a (u :: us) at_ n (y ++ L) (z :: G) o := by
 intro L G o s
 cases k with
 | gone h0 => exact .gone h0 s
 | left h0 hk hs hc hm hz => exact .left h0 hk hs hc hm hz s
 | right h0 hs hc hm hz => exact .right h0 hs hc hm hz s
theorem weigh_len (l : List ByteArray) : 4 * l.length <= L5.weigh l := by
 unfold L5.weigh
 induction l with
 | nil => simp
 | cons a l ih => simp; omega
theorem weigh_mem {l : List ByteArray} {s : ByteArray} (h : s ∈ l) : s.size <= L5.weigh l := by
 unfold L5.weigh
 induction l with
 | nil => cases h
 | cons a l ih =>
  rcases List.mem_cons.1 h with rfl | h
  · simp; omega
  · have := ih h; simp; omega
theorem small_size {n : L5.No} (h : n.size <= 1024) : n.small := by
 unfold L5.No.size at h
 have := weigh_len n.recs
 exact ⟨by omega, by omega, fun s hs => by have := weigh_mem hs; omega⟩
theorem joinK_small {A C : L5.No} {sep : ByteArray} (hA : A.size <= 1024) (hC : C.size <= 1024) (hs : sep.size <= 400) : (joinK A sep C).small := by
 have a := small_size hA
 have c := small_size hC
 unfold L5.No.size at hA hC
 have h1 := weigh_len A.recs
 have h2 := weigh_len C.recs
 unfold joinK
 split
 · exact ⟨by simp; omega, by simp, fun s h => by
    simp only [List.mem_append] at h
    rcases h with h | h
    · exact a.each s h
    · exact c.each s h⟩
 · exact ⟨by simp; omega, by simp; omega, fun s h => by
    simp only [List.mem_append, List.mem_singleton] at h
    rcases h with (h | h) | h
    · exact a.each s h
    · subst h; omega
    · exact c.each s h⟩
theorem cutK_size (n : L5.No) (i kid : Nat) : (cutK n i kid).size <= n.size := by
 unfold L5.No.size cutK
 simp only
 have h1 : (n.kids.take kid ++ n.kids.drop (kid + 1)).length <= n.kids.length := by simp; omega
 have h2 : L5.weigh (if n.recs.length = 0 then [] else n.recs.take i ++ n.recs.drop (i + 1)) <= L5.weigh n.recs := by
  split
  · simp [L5.weigh]
  · refine weigh_sublist ?_
    conv => rhs; rw [<- List.take_append_drop i n.recs]
    refine (List.Sublist.refl _).append ?_
    rw [<- List.drop_drop]
    exact List.drop_sublist _ _
 omega
def prs (Ld : List Lay) : List (Nat × L5.No) := Ld.map fun y => (y.at_, y.n)
def LostQ (N B : Nat) (s : Ar) (t x r h l xr xh xl : Nat) (tk ld gn : Value) (T : List Nat) (Ld : List Lay) (G : List Nat) (g off : Nat) (cs : Array Value) (u : Pl) (vr vk : Value) (at_ : Nat) (n : L5.No) (w : World) (b : Bool) (w' : World) : Prop :=
 ∃ y z c, Lost s.abs u at_ n b y z c /\ (b = false -> Below w.heap.size w w') /\ (b = true -> ∃ Ld' ld' gn' vr' vk', prs Ld' = prs Ld ++ y /\ Ld'.length <= Ld.length + 1 /\ Lose N B s t x r h l xr xh xl tk ld gn T Ld' (G ++ [z]) g off cs c vr vk w ld' gn' vr' vk' w')
theorem Lost.of_holds_left {a : Abs} {u : Pl} {n m : L5.No} {c : Nat} {sep : ByteArray} (hs : u.n.recs[u.kid - 1]? = some sep) (hc : u.n.kids[u.kid - 1]? = some (c : Int)) (hm : Holds a c m) (hz : 1024 < (joinK m sep n).size) : ∀ (c : Nat) (m : L5.No) (sep : ByteArray), 1 <= u.kid -> u.n.recs[u.kid - 1]? = some sep -> u.n.kids[u.kid - 1]? = some (c : Int) -> Holds a c m -> 1024 < (joinK m sep n).size := by
 intro c' m' sep' _ h1 h2 h3
 rw [hs] at h1; cases h1
 rw [hc] at h2
 have e : c = c' := by have := Option.some.inj h2; omega
 subst e
 rw [<- hm.uniq h3]
 exact hz
theorem Lost.of_holds_right {a : Abs} {u : Pl} {n m : L5.No} {c : Nat} {sep : ByteArray} (hs : u.n.recs[u.kid]? = some sep) (hc : u.n.kids[u.kid + 1]? = some (c : Int)) (hm : Holds a c m) (hz : 1024 < (joinK n sep m).size) : ∀ (c : Nat) (m : L5.No) (sep : ByteArray), u.n.recs[u.kid]? = some sep -> u.n.kids[u.kid + 1]? = some (c : Int) -> Holds a c m -> 1024 < (joinK n sep m).size := by
 intro c' m' sep' h1 h2 h3
 rw [hs] at h1; cases h1
 rw [hc] at h2
 have e : c = c' := by have := Option.some.inj h2; omega
 subst e
 rw [<- hm.uniq h3]
 exact hz
theorem sum_ne {a b : Nat} (h : a + b ≠ 0) : ((a : Int) + (b : Int) == 0) = false := by
 rw [beq_eq_false_iff_ne]
 omega
section
variable {N B : Nat} {s : Ar} {t x r h l xr xh xl : Nat} {tk ld gn : Value} {T : List Nat} {Ld : List Lay} {G : List Nat} {w : World} {g off : Nat} {cs : Array Value} {u : Pl} {vr vk : Value} {n : L5.No} {at_ kid : Nat} {la lb : Option Addr} {lc ld' : Nat}
def TryL (N B : Nat) (s : Ar) (t x r h l xr xh xl : Nat) (tk ld gn : Value) (T : List Nat) (Ld : List Lay) (G : List Nat) (g off : Nat) (cs : Array Value) (u : Pl) (vr vk : Value) (at_ : Nat) (n : L5.No) (w : World) (b : Bool) (w' : World) : Prop :=
 (b = false /\ Below w.heap.size w w' /\ ∀ (c : Nat) (m : L5.No) (sep : ByteArray), 1 <= u.kid -> u.n.recs[u.kid - 1]? = some sep -> u.n.kids[u.kid - 1]? = some (c : Int) -> Holds s.abs c m -> 1024 < (joinK m sep n).size) \/ (b = true /\ LostQ N B s t x r h l xr xh xl tk ld gn T Ld G g off cs u vr vk at_ n w true w')
def TryR (N B : Nat) (s : Ar) (t x r h l xr xh xl : Nat) (tk ld gn : Value) (T : List Nat) (Ld : List Lay) (G : List Nat) (g off : Nat) (cs : Array Value) (u : Pl) (vr vk : Value) (at_ : Nat) (n : L5.No) (w : World) (b : Bool) (w' : World) : Prop :=
 (b = false /\ Below w.heap.size w w' /\ ∀ (c : Nat) (m : L5.No) (sep : ByteArray), u.n.recs[u.kid]? = some sep -> u.n.kids[u.kid + 1]? = some (c : Int) -> Holds s.abs c m -> 1024 < (joinK n sep m).size) \/ (b = true /\ LostQ N B s t x r h l xr xh xl tk ld gn T Ld G g off cs u vr vk at_ n w true w')
theorem LostQ.from {b : Bool} {w1 w' : World} (k : LostQ N B s t x r h l xr xh xl tk ld gn T Ld G g off cs u vr vk at_ n w1 b w') (hb : Below w.heap.size w w1) : LostQ N B s t x r h l xr xh xl tk ld gn T Ld G g off cs u vr vk at_ n w b w' := by
 obtain ⟨y, z, c, h1, h2, h3⟩ := k
 refine ⟨y, z, c, h1, fun e => tbelow_on hb (h2 e), fun e => ?_⟩
 obtain ⟨Ld', ld', gn', vr', vk', j1, j2, j3⟩ := h3 e
 exact ⟨Ld', ld', gn', vr', vk', j1, j2, j3.from hb⟩
theorem try_left (hE : Es B s t x r h l xr xh xl tk ld gn T Ld G w) (ho : s.abs.Ok) (hL : Ld.length <= 10000) (hG : G.length <= 10000) (k : UpS N w g off cs u vr vk) (hNR : L5.NR w n la lc lb ld') (h0 : n.recs.length + n.kids.length ≠ 0) (hus : u.n.shaped = true) (huz : u.n.size <= 1024) (hnz : n.size <= 1024) (hat : u.n.kids[u.kid]? = some (at_ : Int)) (hbs : Beside s.abs u n.leaf) (zg : g < B) (zr : ∀ q, vr.ownBlock = some q -> q < B) (zk : ∀ q, vk.ownBlock = some q -> q < B /\ ¬ s.own q) :
 Calls Tryz.prog 134 #[.pointer (some ⟨x, 0, none⟩), .pointer (some ⟨g, off, none⟩), .int .i64 ((u.kid : Int) - 1), .agg #[.int .i64 (at_ : Int), .bool n.leaf, .slice la n.recs.length lc, .slice lb n.kids.length ld', .int .i64 (kid : Int)]] w fun e w' => ∃ b, e = .returned (.bool b) /\ TryL N B s t x r h l xr xh xl tk ld gn T Ld G g off cs u vr vk at_ n w b w' := by
 by_cases hk : 1 <= u.kid
 · obtain ⟨c, m, sep, e1, e2, hm, hml⟩ := hbs.1 hk
   have hsz : sep.size <= 400 := ((shaped_recs hus).1 sep (List.mem_of_getElem? e1)).2
   have hi : ((u.kid : Int) - 1) = ((u.kid - 1 : Nat) : Int) := by omega
   rw [hi]
   refine (joined_any (kid := kid) (i := u.kid - 1) hE ho k hNR (.left (by omega)) e1 e2 (by rw [show u.kid - 1 + 1 = u.kid by omega]; exact hat) hm hml (small_size huz) hm.small (small_size hnz) (joinK_small hm.size hnz hsz) hL hG zg zr zk).mono ?_
   rintro e w' (⟨hz, rfl, hb⟩ | ⟨hz, rfl, ld2, gn2, vr2, vk2, vjr, vjk, hJ⟩)
   · exact ⟨false, rfl, Or.inl ⟨rfl, hb, Lost.of_holds_left e1 e2 hm hz⟩⟩
   · have hJ' := hJ.lose
     rw [show u.kid - 1 + 1 = u.kid by omega] at hJ'
     exact ⟨true, rfl, Or.inr ⟨rfl, _, _, _, .left h0 hk e1 e2 hm hz, (fun e => by cases e), fun _ => ⟨_, _, _, _, _, by simp [prs], by simp, hJ'⟩⟩⟩
 · have : u.kid = 0 := by omega
   refine (joined_none k (Or.inl (by omega))).mono ?_
   rintro e w' ⟨rfl, hb⟩
   exact ⟨false, rfl, Or.inl ⟨rfl, hb, fun c m sep h => absurd h hk⟩⟩
theorem try_right (hE : Es B s t x r h l xr xh xl tk ld gn T Ld G w) (ho : s.abs.Ok) (hL : Ld.length <= 10000) (hG : G.length <= 10000) (k : UpS N w g off cs u vr vk) (hNR : L5.NR w n la lc lb ld') (h0 : n.recs.length + n.kids.length ≠ 0) (hus : u.n.shaped = true) (huz : u.n.size <= 1024) (hnz : n.size <= 1024) (hat : u.n.kids[u.kid]? = some (at_ : Int)) (hbs : Beside s.abs u n.leaf) (zg : g < B) (zr : ∀ q, vr.ownBlock = some q -> q < B) (zk : ∀ q, vk.ownBlock = some q -> q < B /\ ¬ s.own q) :
 Calls Tryz.prog 134 #[.pointer (some ⟨x, 0, none⟩), .pointer (some ⟨g, off, none⟩), .int .i64 (u.kid : Int), .agg #[.int .i64 (at_ : Int), .bool n.leaf, .slice la n.recs.length lc, .slice lb n.kids.length ld', .int .i64 (kid : Int)]] w fun e w' => ∃ b, e = .returned (.bool b) /\ TryR N B s t x r h l xr xh xl tk ld gn T Ld G g off cs u vr vk at_ n w b w' := by
 by_cases hk : u.kid < u.n.recs.length
 · obtain ⟨c, m, sep, e1, e2, hm, hml⟩ := hbs.2 hk
   have hsz : sep.size <= 400 := ((shaped_recs hus).1 sep (List.mem_of_getElem? e1)).2
   refine (joined_any (kid := kid) (i := u.kid) hE ho k hNR (.right rfl) e1 hat e2 hm hml (small_size huz) (small_size hnz) hm.small (joinK_small hnz hm.size hsz) hL hG zg zr zk).mono ?_
   rintro e w' (⟨hz, rfl, hb⟩ | ⟨hz, rfl, ld2, gn2, vr2, vk2, vjr, vjk, hJ⟩)
   · exact ⟨false, rfl, Or.inl ⟨rfl, hb, Lost.of_holds_right e1 e2 hm hz⟩⟩
   · exact ⟨true, rfl, Or.inr ⟨rfl, _, _, _, .right h0 e1 e2 hm hz, (fun e => by cases e), fun _ => ⟨_, _, _, _, _, by simp [prs], by simp, hJ.lose⟩⟩⟩
 · refine (joined_none k (Or.inr (by omega))).mono ?_
   rintro e w' ⟨rfl, hb⟩
   exact ⟨false, rfl, Or.inl ⟨rfl, hb, fun c m sep h => absurd (List.getElem?_eq_some_iff.1 h).1 hk⟩⟩
theorem lost_full (hE : Es B s t x r h l xr xh xl tk ld gn T Ld G w) (ho : s.abs.Ok) (hL : Ld.length <= 10000) (hG : G.length <= 10000) (k : UpS N w g off cs u vr vk) (hNR : L5.NR w n la lc lb ld') (h0 : n.recs.length + n.kids.length ≠ 0) (hus : u.n.shaped = true) (huz : u.n.size <= 1024) (hnz : n.size <= 1024) (hat : u.n.kids[u.kid]? = some (at_ : Int)) (hbs : Beside s.abs u n.leaf) (zg : g < B) (zr : ∀ q, vr.ownBlock = some q -> q < B) (zk : ∀ q, vk.ownBlock = some q -> q < B /\ ¬ s.own q) :
 Calls Tryz.prog 111 #[.pointer (some ⟨x, 0, none⟩), .pointer (some ⟨g, off, none⟩), .agg #[.int .i64 (at_ : Int), .bool n.leaf, .slice la n.recs.length lc, .slice lb n.kids.length ld', .int .i64 (kid : Int)]] w fun e w' => ∃ b, e = .returned (.bool b) /\ LostQ N B s t x r h l xr xh xl tk ld gn T Ld G g off cs u vr vk at_ n w b w' := by
 have HB0 := thid (tbelow w (.cells #[.int .i64 (at_ : Int), .bool n.leaf, .slice la n.recs.length lc, .slice lb n.kids.length ld', .int .i64 (kid : Int)] 100))
 have a0 := heap_alloc_new w (.cells #[.int .i64 (at_ : Int), .bool n.leaf, .slice la n.recs.length lc, .slice lb n.kids.length ld', .int .i64 (kid : Int)] 100)
 have hsn := small_size hnz
 have hr1 := hsn.recs
 have hk1 := hsn.kids
 have hkl : u.kid < u.n.kids.length := (List.getElem?_eq_some_iff.1 hat).1
 have hk2 := (small_size huz).kids
 have hsw : wrap64 ((n.recs.length : Int) + (n.kids.length : Int)) = (n.recs.length : Int) + (n.kids.length : Int) := by unfold wrap64; omega
 have hsz : ((n.recs.length : Int) + (n.kids.length : Int) == 0) = false := sum_ne h0
 have hws : wrap64 ((u.kid : Int) - 1) = (u.kid : Int) - 1 := by unfold wrap64; omega
 have HTL := thid (fun (W : World) (hb : Below w.heap.size w W) => try_left (kid := kid) (hE.below hb) ho hL hG (k.on hb) (hNR.below hb) h0 hus huz hnz hat hbs zg zr zk)
 have HTR := thid (fun (W : World) (hb : Below w.heap.size w W) => try_right (kid := kid) (hE.below hb) ho hL hG (k.on hb) (hNR.below hb) h0 hus huz hnz hat hbs zg zr zk)
 have HUP := thid (fun (W : World) (hb : Below w.heap.size w W) => (And.intro ((cell_of_row _ _ _ _ _ _ (k.on hb).blk).trans k.c4) (Array.getElem?_eq_some_iff.1 (k.on hb).blk).1 : W.cell? ⟨g, off + 4, none⟩ = some (.int .i64 (u.kid : Int)) /\ g < W.heap.size))
 have HLW := thid (fun (W : World) (hb : Below (w.alloc (.cells #[.int .i64 (at_ : Int), .bool n.leaf, .slice la n.recs.length lc, .slice lb n.kids.length ld', .int .i64 (kid : Int)] 100)).heap.size (w.alloc (.cells #[.int .i64 (at_ : Int), .bool n.leaf, .slice la n.recs.length lc, .slice lb n.kids.length ld', .int .i64 (kid : Int)] 100)) W) => (hb.block w.heap.size (by simp)).trans a0)
 have H0 := thid h0
 have p4 := (HUP.out _ HB0.out).1
 have pl := (HUP.out _ HB0.out).2
 clear hE k hNR zg zr zk hat hbs hkl hk2 hr1 hk1 hsn h0
 go_enter Tryz.func111, Tryz.ntmps111
 go_wp2_with fail
 generalize w.alloc (.cells #[.int .i64 (at_ : Int), .bool n.leaf, .slice la n.recs.length lc, .slice lb n.kids.length ld', .int .i64 (kid : Int)] 100) = W1 at *
 have f0 : W1.cell? ⟨w.heap.size, 0, none⟩ = some (.int .i64 (at_ : Int)) := by rw [cell_of_row _ _ _ _ _ _ a0]; rfl
 have f1 : W1.cell? ⟨w.heap.size, 1, none⟩ = some (.bool n.leaf) := by rw [cell_of_row _ _ _ _ _ _ a0]; rfl
 have f2 : W1.cell? ⟨w.heap.size, 2, none⟩ = some (.slice la n.recs.length lc) := by rw [cell_of_row _ _ _ _ _ _ a0]; rfl
 have f3 : W1.cell? ⟨w.heap.size, 3, none⟩ = some (.slice lb n.kids.length ld') := by rw [cell_of_row _ _ _ _ _ _ a0]; rfl
 have f4 : W1.cell? ⟨w.heap.size, 4, none⟩ = some (.int .i64 (kid : Int)) := by rw [cell_of_row _ _ _ _ _ _ a0]; rfl
 have fl := (Array.getElem?_eq_some_iff.1 a0).1
 refine wp_region_phases (fun w' => ∃ n, w' = World.drewN W1 n) 8 10 17 (by kernel_rfl) (by kernel_rfl) ⟨1, rfl⟩ ?_
 simp only [List.take_succ_cons, List.take_zero, List.drop_succ_cons, List.drop_zero]
 repeat (go_big_quiet_step (first | rfl | fail))
 refine wpQuiet_nil ?_
 rintro _ ⟨nq, rfl⟩ KK hKK0
 have HKK := thid hKK0
 clear hKK0
 have HBn := thid (tbelow_on HB0.out (below_drewN (Below.refl _ _) nq))
 go_wp2_with fail
 refine (HTL.out _ HBn.out).mono ?_
 rintro e w2 ⟨b, rfl, hT⟩
 rcases hT with ⟨rfl, hb2, hz2⟩ | ⟨rfl, hQ⟩
 · clear f0 f1 f2 f3 f4 fl p4 pl a0
   have HZ2 := thid hz2
   have HB2' := thid hb2
   clear hz2 hb2
   go_wp2_with fail
   have hb2 := HB2'.out
   have HB2 := thid (tbelow_on HBn.out hb2)
   have HA2 := thid (tbelow_on (below_drewN (Below.refl _ _) nq) hb2)
   have a2 := HLW.out _ HA2.out
   have q4 := (HUP.out _ HB2.out).1
   have ql := (HUP.out _ HB2.out).2
   clear hb2 HB2'
   have f0 : w2.cell? ⟨w.heap.size, 0, none⟩ = some (.int .i64 (at_ : Int)) := by rw [cell_of_row _ _ _ _ _ _ a2]; rfl
   have f1 : w2.cell? ⟨w.heap.size, 1, none⟩ = some (.bool n.leaf) := by rw [cell_of_row _ _ _ _ _ _ a2]; rfl
   have f2 : w2.cell? ⟨w.heap.size, 2, none⟩ = some (.slice la n.recs.length lc) := by rw [cell_of_row _ _ _ _ _ _ a2]; rfl
   have f3 : w2.cell? ⟨w.heap.size, 3, none⟩ = some (.slice lb n.kids.length ld') := by rw [cell_of_row _ _ _ _ _ _ a2]; rfl
   have f4 : w2.cell? ⟨w.heap.size, 4, none⟩ = some (.int .i64 (kid : Int)) := by rw [cell_of_row _ _ _ _ _ _ a2]; rfl
   have fl := (Array.getElem?_eq_some_iff.1 a2).1
   refine HKK.out _ _ ?_
   clear HKK
   repeat (go_big_quiet_step (first | rfl | fail))
   refine wpQuiet_nil ?_
   have HTR2 := thid (HTR.out _ HB2.out)
   clear f0 f1 f2 f3 f4 fl q4 ql a2 HTL HTR HUP HLW
   go_wp2_with fail
   refine HTR2.out.mono ?_
   rintro e w3 ⟨b, rfl, hT⟩
   rcases hT with ⟨rfl, hb3, hz3⟩ | ⟨rfl, hQ⟩
   · have HF : Hid (LostQ N B s t x r h l xr xh xl tk ld gn T Ld G g off cs u vr vk at_ n w false w3) := ⟨_, _, _, .none H0.out ⟨HZ2.out, hz3⟩, fun _ => tbelow_on HB2.out hb3, fun e => by cases e⟩
     clear hb3 hz3 HTR2
     go_wp2
     go_ret
     exact ⟨_, rfl, HF.out⟩
   · have HF := thid (hQ.from HB2.out)
     clear hQ HTR2
     go_wp2
     go_ret
     exact ⟨_, rfl, HF.out⟩
 · have HQ := thid hQ
   clear f0 f1 f2 f3 f4 fl p4 pl a0 hQ
   go_wp2_with fail
   refine HKK.out _ _ ?_
   clear HKK
   repeat (go_big_quiet_step (first | rfl | fail))
   refine wpQuiet_nil ?_
   have HF := thid (HQ.out.from HBn.out)
   clear HQ HTL HTR HUP HLW
   go_wp2
   go_ret
   exact ⟨_, rfl, HF.out⟩
end
theorem prs_snoc (Ld : List Lay) (p : Nat) (n : L5.No) (a b : Value) (k : Nat) : prs (Ld ++ [⟨p, n, a, b, k⟩]) = prs Ld ++ [(p, n)] := by simp [prs]
def NodeQ (m : L5.No) (gn : Value) (w : World) (e : Ending) (w' : World) : Prop := ∃ ra rc ka kc, e = .returned (.agg #[.bool m.leaf, .slice ra m.recs.length rc, .slice ka m.kids.length kc]) /\ (∃ bs, w'.ownsRow bs 3 1 (.slice ka m.kids.length kc) m.kids.length (L5.ivs m.kids)) /\ (∀ q, gn.ownBlock = some q -> (Value.slice ka m.kids.length kc).ownBlock ≠ some q) /\ Below w.heap.size w w'
theorem prs_at {Ld : List Lay} {j : Nat} (hj : j < Ld.length) : (prs Ld)[j]? = some (Ld[j].at_, Ld[j].n) := by simp [prs, hj]
theorem node_first {a : Abs} {Ld : List Lay} {c : Nat} {m : L5.No} (hn : NodeAt a (prs Ld) c m) {j : Nat} (hj : j < Ld.length) (hb : ∀ i, (hi : i < j) -> Ld[i].at_ ≠ c) (he : Ld[j].at_ = c) : Ld[j].n = m := by
 rcases hn with ⟨L1, L2, e, h1⟩ | ⟨h1, _⟩
 · have hlt : L1.length < Ld.length := by
    have := congrArg List.length e
    simp [prs] at this
    omega
   have hat : (Ld[L1.length].at_, Ld[L1.length].n) = (c, m) := by
    have := prs_at hlt
    rw [e] at this
    simpa using this.symm
   have : j = L1.length := by
    rcases Nat.lt_trichotomy j L1.length with h | h | h
    · exfalso
      have hp := prs_at hj
      rw [e, List.getElem?_append_left h] at hp
      exact h1 _ (List.mem_of_getElem? hp) he
    · exact h
    · exact absurd (congrArg Prod.fst hat) (hb L1.length h)
   subst this
   exact congrArg Prod.snd hat
 · exact absurd he (h1 (Ld[j].at_, Ld[j].n) (List.mem_of_getElem? (prs_at hj)))
theorem node_none {a : Abs} {Ld : List Lay} {c : Nat} {m : L5.No} (hn : NodeAt a (prs Ld) c m) (hb : ∀ i, (hi : i < Ld.length) -> Ld[i].at_ ≠ c) : Holds a c m := by
 rcases hn with ⟨L1, L2, e, h1⟩ | ⟨_, h⟩
 · exfalso
   have hlt : L1.length < Ld.length := by
    have := congrArg List.length e
    simp [prs] at this
    omega
   have hat : (Ld[L1.length].at_, Ld[L1.length].n) = (c, m) := by
    have := prs_at hlt
    rw [e] at this
    simpa using this.symm
   exact hb _ hlt (congrArg Prod.fst hat)
 · exact h
theorem node_ok {B : Nat} {s : Ar} {t x r h l xr xh xl : Nat} {tk ld gn : Value} {T : List Nat} {Ld : List Lay} {G : List Nat} {w : World} (k : Es B s t x r h l xr xh xl tk ld gn T Ld G w) (ho : s.abs.Ok) (hL : Ld.length <= 10000) {c : Nat} {m : L5.No} (hn : NodeAt s.abs (prs Ld) c m) (hl : m.leaf = decide (xh = 1)) :
 Calls Tryz.prog 132 #[.pointer (some ⟨x, 0, none⟩), .int .i64 (c : Int)] w (NodeQ m gn w) := by
 have HK := thid k
 have HN := thid hn
 obtain ⟨ad, cp, rfl⟩ := own_slice k.rl
 obtain ⟨d0, d1, d2, d3, d4, d5, d6, dl, df⟩ := k.ed.cells
 clear k hn
 go_enter Tryz.func132, Tryz.ntmps132
 go_wp2_with fail
 go_loopw [12] (fun i wr => ∃ j : Nat, j <= Ld.length /\ i = .int .i64 (j : Int) /\ Hid (L5.Dz w wr /\ ∀ i, (hi : i < j) -> (hj : j <= Ld.length) -> Ld[i].at_ ≠ c)) (fun i _ => Ld.length - (intOf i).toNat)
 case atStart => exact ⟨0, Nat.zero_le _, rfl, L5.Dz.new w, fun i hi => by omega⟩
 case round =>
  obtain ⟨j, hj, rfl, HR⟩ := hrel
  have HE := thid (HK.out.below HR.out.1.below)
  clear d0 d1 d2 d3 d4 d5 d6 dl df
  obtain ⟨d0, d1, d2, d3, d4, d5, d6, dl, df⟩ := HE.out.ed.cells
  by_cases hlt : j < Ld.length
  · have hlt' : (j : Int) < (Ld.length : Int) := by omega
    obtain ⟨g, cp', e, hgl, g0, g1, g2, g3, g4⟩ := row5 HE.out.rl hlt
    cases e
    have hmem := List.getElem_mem hlt
    have hrr := HE.out.rr _ hmem
    have hrk := HE.out.rk _ hmem
    obtain ⟨y, hy0⟩ : ∃ y, Ld[j] = y := ⟨_, rfl⟩
    have HF := thid (fun (he : Ld[j].at_ = c) => node_first HN.out hlt (fun i hi => HR.out.2 i hi hj) he)
    have HY : Hid (∀ i, (hi : i < j + 1) -> (hj : j + 1 <= Ld.length) -> y.at_ ≠ c -> Ld[i].at_ ≠ c) := fun i hi hj' hne => by
     rcases Nat.lt_succ_iff_lt_or_eq.1 hi with h | h
     · exact HR.out.2 i h hj
     · subst h; rw [hy0]; exact hne
    rw [hy0] at g0 g1 g2 g3 g4 hrr hrk HF
    obtain ⟨ra, rc, er⟩ := own_slice hrr
    obtain ⟨ka, kc, ek⟩ := own_slice hrk
    rw [er] at g2 hrr
    rw [ek] at g3 hrk
    have HRR := thid hrr
    have HRK := thid hrk
    have HAP := thid (fun q (hq : gn.ownBlock = some q) => HE.out.a3 q hq _ hmem)
    rw [hy0, ek] at HAP
    unfold nv at g0 g4
    have HB1 := thid (tbelow wr (.cells #[.int .i64 (y.at_ : Int), .bool y.n.leaf, .slice ra y.n.recs.length rc, .slice ka y.n.kids.length kc, .int .i64 (y.kid : Int)] 100))
    have HP2 := thid (L5.owns_below HRK.out HB1.out)
    have HZ := thid (HR.out.1.on HB1.out)
    have z0 := (L5.node_cells HZ.out.z).1
    have z1 := (L5.node_cells HZ.out.z).2.1
    have z2 := (L5.node_cells HZ.out.z).2.2
    have zf : ∀ i, (wr.alloc (.cells #[.int .i64 (y.at_ : Int), .bool y.n.leaf, .slice ra y.n.recs.length rc, .slice ka y.n.kids.length kc, .int .i64 (y.kid : Int)] 100)).frozen? ⟨w.heap.size, i, none⟩ = false := fun i => frozen_of_row _ _ _ _ _ HZ.out.z
    clear hmem hy0 hrr hrk er ek HRR HRK HE d0 d1 d2 d3 d4 d5 d6 dl df
    by_cases he : y.at_ = c
    · have hbe : ((y.at_ : Int) == (c : Int)) = true := by simp [he]
      have hm := HF.out he
      subst hm
      clear hl he HF HY
      go_wp2
      refine L5.to_letter (F := fun W => L5.ROut w (.bool y.n.leaf) (.slice ra y.n.recs.length rc) (.slice ka y.n.kids.length kc) W /\ World.ownsRow W B 3 1 (.slice ka y.n.kids.length kc) y.n.kids.length (L5.ivs y.n.kids)) (⟨HZ.out.out (.bool y.n.leaf) (.slice ra y.n.recs.length rc) (.slice ka y.n.kids.length kc), L5.owns_put3 HP2.out (by decide) HZ.out.z _ _ _⟩) ?_
      clear z0 z1 z2 zf HZ HP2
      intro Wf hF
      obtain ⟨⟨g0, g1, g2, hB⟩, r2⟩ := hF
      refine bodyPost_ret (v := .agg #[.bool y.n.leaf, .slice ra y.n.recs.length rc, .slice ka y.n.kids.length kc]) ?_ rfl ⟨ra, rc, ka, kc, rfl, ⟨_, r2⟩, HAP.out, hB⟩
      simp [results, Tryz.results132, go_sem, g0, g1, g2]
    · have hbe : ((y.at_ : Int) == (c : Int)) = false := by simp; omega
      go_wp2
      go_roundw
      case rel => exact ⟨j + 1, hlt, by go_num, HZ.out, fun i hi hj' => HY.out i hi hj' he⟩
      case measure => simp [intOf]; omega
  · have hjs : j = Ld.length := by omega
    subst hjs
    have hH := node_none HN.out fun i hi => HR.out.2 i hi (Nat.le_refl _)
    have HLo := thid (fun nq => load_ok (w := wr.drewN nq) (HE.out.below (below_drewN (Below.refl _ _) nq)).ar ho (HE.out.below (below_drewN (Below.refl _ _) nq)).tr hH.page hH.shaped hH.size)
    have hxb : ((xh : Int) == 1) = decide (xh = 1) := by
     by_cases h : xh = 1
     · subst h; simp
     · simp [h]; omega
    have HZ := thid HR.out.1
    have HGN := thid (fun q (hq : gn.ownBlock = some q) => (HE.out.rg.lt q hq).2)
    rw [hl] at HLo
    have HLe := thid hl
    clear HR hH HE HN HK hl
    go_wp2_with fail
    refine wp_region_quiet_tail (fun w' => ∃ n, w' = World.drewN wr n) 11 (by kernel_rfl) (by kernel_rfl) ⟨1, rfl⟩ ?_
    simp only [List.take_succ_cons, List.take_zero, List.drop_succ_cons, List.drop_zero]
    repeat (go_big_quiet_step (first | rfl | fail))
    refine wpQuiet_nil ?_
    rintro _ ⟨nq, rfl⟩
    clear d0 d1 d2 d3 d4 d5 d6 dl df hxb
    go_wp2_with fail
    refine (HLo.out nq).mono ?_
    rintro e w2 ⟨v, rfl, a, c', a', c'', rfl, o1, o2, B2⟩
    have HZ2 := thid ((HZ.out.on (below_drewN (Below.refl _ _) nq)).on B2)
    have HO2 := thid o2
    clear HLo o1 o2 B2 HZ
    have z0 := (L5.node_cells HZ2.out.z).1
    have z1 := (L5.node_cells HZ2.out.z).2.1
    have z2 := (L5.node_cells HZ2.out.z).2.2
    have zf : ∀ i, w2.frozen? ⟨w.heap.size, i, none⟩ = false := fun i => frozen_of_row _ _ _ _ _ HZ2.out.z
    unfold L5.nodeV
    go_wp2
    refine L5.to_letter (F := fun W => L5.ROut w (.bool m.leaf) (.slice a m.recs.length c') (.slice a' m.kids.length c'') W /\ World.ownsRow W (wr.drewN nq).heap.size 3 1 (.slice a' m.kids.length c'') m.kids.length (L5.ivs m.kids)) (⟨HZ2.out.out (.bool m.leaf) (.slice a m.recs.length c') (.slice a' m.kids.length c''), L5.owns_put3 HO2.out (by decide) HZ2.out.z _ _ _⟩) ?_
    clear z0 z1 z2 zf HZ2 HO2
    intro Wf hF
    obtain ⟨⟨g0, g1, g2, hB⟩, r2⟩ := hF
    refine bodyPost_ret (v := .agg #[.bool m.leaf, .slice a m.recs.length c', .slice a' m.kids.length c'']) ?_ rfl ⟨a, c', a', c'', rfl, ⟨_, r2⟩, (fun q hq e => by
     have h1 := HGN.out q hq
     have h2 := (r2.lt q e).1
     have h3 : (wr.drewN nq).heap.size = wr.heap.size := rfl
     omega), hB⟩
    simp [results, Tryz.results132, go_sem, g0, g1, g2]
end Go.Proofs.YtpcmiholbcmmjaaGreat
