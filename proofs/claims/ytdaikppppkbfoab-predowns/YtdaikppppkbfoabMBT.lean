import Derived.Test.YtdaikppppkbfoabMAL
namespace Go.Proofs.Ytdaikppppkbfoab
open Go.RowKit
def xA: NL := .mk ⟨#[99,111,108,117,109,110]⟩ 0 0 ⟨#[]⟩ 0 0 none 0 []
def xB: NL := .mk ⟨#[99,111,108,117,109,110]⟩ 0 0 ⟨#[]⟩ 0 1 none 0 []
def xN (n: Int): NL := .mk ⟨#[118,97,108,117,101]⟩ 2 n ⟨#[]⟩ 0 0 none 0 []
def H2 (w: World) (p: Nat) (x y: NL): Prop := w.heap[p]? = some (.cells (nC x ++ nC y).toArray 43 (0,0))
theorem slg_flat {α: Type} {f: α -> List Value} {k: Nat} (hf: ∀ x,(f x).length = k) {W: World} {b: Nat} {l: List α} {T: TypeId} {fz: Nat × Nat} (h: W.heap[b]? = some (.cells (Rw.flat f l).toArray T fz)): Rw.SlG f k W (some ⟨b,0,none⟩) l := by
 refine Or.inr ⟨b,0,rfl,(Array.getElem?_eq_some_iff.1 h).1,fun j x hj i u hu => ?_⟩
 rw [Nat.zero_add,cell_of_row _ _ _ _ _ _ h]
 have := Rw.flat_at hf l j x hj i u hu
 simpa using this
theorem H2.slg {w: World} {p: Nat} {x y: NL} (h: H2 w p x y): Rw.SlG nC 7 w (some ⟨p,0,none⟩) [x,y] := slg_flat nC_len (by have h' := h; unfold H2 at h'; simpa [Rw.flat] using h')
theorem leafN {x: NL} (hk: x.kids = []) (h: NOk x): ∀ n w,InN n w x
 | 0,_ => trivial
 | n + 1,w => ⟨h,by rw [hk]; exact Or.inl rfl,fun k hk' => by rw [hk] at hk'; cases hk'⟩
theorem twoN {x y k: NL} {p: Nat} {w: World} (hx: NOk k) (ha: k.a = some ⟨p,0,none⟩) (hkk: k.kids = [x,y]) (h: H2 w p x y) (h1: ∀ n,InN n w x) (h2: ∀ n,InN n w y): ∀ n,InN n w k
 | 0 => trivial
 | n + 1 => ⟨hx,by rw [ha,hkk]; exact h.slg,fun z hz => by
  rw [hkk] at hz
  simp only [List.mem_cons,List.not_mem_nil,or_false] at hz
  rcases hz with rfl | rfl
  · exact h1 n
  · exact h2 n⟩
theorem smallN {x: NL} (h1: fits x.vk = true) (h2: fits x.vn = true) (h3: x.op.size <= 6) (h4: x.vs.size <= 6) (h7: x.kids.length <= 6): NOk x :=
 ⟨h1,h2,Nat.le_trans h3 (by unfold maxLen; omega),by omega,by omega⟩
end Go.Proofs.Ytdaikppppkbfoab
