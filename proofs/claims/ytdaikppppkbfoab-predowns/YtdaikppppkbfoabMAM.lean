import Derived.Test.YtdaikppppkbfoabMAL
import Derived.Test.YtdaikppppkbfoabMAK
set_option maxRecDepth 100000
set_option maxHeartbeats 4000000
namespace Go.Proofs.Ytdaikppppkbfoab
open Go.RowKit
structure Bd where
 has: Bool
 incl: Bool
 v: Vv
structure Tl where
 col: Int
 lo: Bd
 hi: Bd
def bdV (b: Bd): Value := .agg #[.bool b.has, .bool b.incl, .int .i64 b.v.k, .int .i64 b.v.n, .string b.v.s]
def tlC (t: Tl): List Value := [.int .i64 t.col, .bool t.lo.has, .bool t.lo.incl, .int .i64 t.lo.v.k, .int .i64 t.lo.v.n, .string t.lo.v.s, .bool t.hi.has, .bool t.hi.incl, .int .i64 t.hi.v.k, .int .i64 t.hi.v.n, .string t.hi.v.s]
def tlV (t: Tl): Value := .agg #[.int .i64 t.col, .bool t.lo.has, .bool t.lo.incl, .int .i64 t.lo.v.k, .int .i64 t.lo.v.n, .string t.lo.v.s, .bool t.hi.has, .bool t.hi.incl, .int .i64 t.hi.v.k, .int .i64 t.hi.v.n, .string t.hi.v.s]
theorem tlC_len (t: Tl): (tlC t).length = 11 := rfl
theorem tlC_one (x: Tl): ∀ u ∈ tlC x,u.oneCell' = true := by
 intro u hu
 simp only [tlC,List.mem_cons,List.not_mem_nil,or_false] at hu
 rcases hu with rfl | rfl | rfl | rfl | rfl | rfl | rfl | rfl | rfl | rfl | rfl <;> rfl
def bdz: Bd := ⟨false,false,vz⟩
def tlz: Tl := ⟨0,bdz,bdz⟩
structure TOk (t: Tl): Prop where
 col: fits t.col = true
 lo: VFit t.lo.v
 hi: VFit t.hi.v
def TsOk (l: List Tl): Prop := l.length <= maxLen /\ ∀ t ∈ l,TOk t
structure CondL where
 a: Option Addr
 c: Nat
 ts: List Tl
 b: Option Addr
 d: Nat
 l: List NL
def cdV (x: CondL): Value := .agg #[.slice x.a x.ts.length x.c, .slice x.b x.l.length x.d]
structure CdIn (w: World) (x: CondL): Prop where
 ts: Rw.SlG tlC 11 w x.a x.ts
 ok: TsOk x.ts
 ns: Rw.SlG nC 7 w x.b x.l
 len: x.l.length <= 1599289640401
 ins: ∀ k ∈ x.l,∀ n,InN n w k
theorem CdIn.on {w W: World} {x: CondL} (h: CdIn w x) (hb: Below w.heap.size w W): CdIn W x := ⟨h.ts.below hb,h.ok,h.ns.below hb,h.len,fun k hk n => (h.ins k hk n).on hb⟩
end Go.Proofs.Ytdaikppppkbfoab
namespace Go.Proofs.Ytdaikppppkbfoab
open Go.RowKit Go.Deep
section
variable {H: Type} {enc: TypeId × Value -> H} {w: World}
theorem read_vs {fuel: Nat} {cs: List Value} {x: DataW H × List MemPlace} (h: DataW.trod enc Try.prog w 0 (fun _ => true) true fuel 24 cs = some x) (hW: ReachN 24 x.1): ∃ a c l,cs = [.slice a (l: List Vv).length c] /\ (l.length <= maxLen /\ ∀ v ∈ l,VFit v) /\ Rw.SlG vvC 3 w a l := by
 have hinv: Inhabited Vv := ⟨vz⟩
 obtain ⟨a,c,l,hcs,hl,hok,hS⟩ := read_rowW (enc := enc) (w := w) Try.underlying24 vcells (by decide) vvC VFit (fun fuel cs x h hW _ => read_vv h hW) h hW
 exact ⟨a,c,l,hcs,⟨hl,hok⟩,hS⟩
end
theorem open_vs {H: Type} {enc: TypeId × Value -> H} {w: World} {base: Nat} {v: Value} {d: DataW H} {p: List MemPlace} (hv: Value.okWide Try.prog w .any base 24 v) (h: DataW.Trod enc Try.prog w 0 (fun _ => true) true 24 v d p) (hW: ReachN 24 d): ∃ a c l,v = .slice a (l: List Vv).length c /\ (l.length <= maxLen /\ ∀ v ∈ l,VFit v) /\ Rw.SlG vvC 3 w a l := by
 obtain ⟨a0,n0,cap0,rfl⟩ := Go.WideShapes.okWide_slice Try.underlying24 hv
 obtain ⟨fuel,hf⟩ := h
 obtain ⟨a,c,l,hcs,h1,h2⟩ := read_vs hf hW
 simp [Value.cells] at hcs
 obtain ⟨rfl,rfl,rfl⟩ := hcs
 exact ⟨a0,cap0,l,rfl,h1,h2⟩
end Go.Proofs.Ytdaikppppkbfoab
