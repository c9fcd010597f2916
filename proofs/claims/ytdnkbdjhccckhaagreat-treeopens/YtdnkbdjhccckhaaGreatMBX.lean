import Derived.Test.YtdnkbdjhccckhaaGreatMBW
import Derived.Test.YtdnkbdjhccckhaaGreatMBT
namespace Go.Proofs.YtdnkbdjhccckhaaGreat
open Go.RowKit
open L4 (Ar ArP Abs arV nv)
open L5 (ltP ltB leB)
open L1 (stopped)
theorem step_any {w0: World} {s: Ar} {t p r h: Nat} {es: List ByteArray} {ps: List Nat} {w: World} {o: TOp} (k: Both w0 s t p r h es ps es w) (hl: es.length <= 900) (hs: o.s.size <= 420) :
 Calls Tryz.prog 8 #[arV s.p, .pointer (some ⟨t,0,none⟩), .pointer (some ⟨p,0,none⟩),oV o] w fun e W => e = .returned (.bool true) /\ StepQ (o.k = 0) w0 s t p h es ps w W := by
 by_cases h0: o.k = 0
 · exact step_ins k hl hs h0
 by_cases h1: o.k = 1
 · exact step_del k hl hs h1
 by_cases h2: o.k = 2
 · exact step_nth k hl hs h2
 by_cases h3: o.k = 3
 · exact step_limit k hl hs h3
 exact step_none_ k hl hs h0 h1 h2 h3
theorem SetP.new {B: Nat} {w: World} (hB: B <= w.heap.size): SetP B w.heap.size [] (w.alloc (.cells #[.slice none 0 0] 35)) := ⟨hB,none,0,heap_alloc_new _ _,⟨rfl,Or.inl ⟨rfl,rfl⟩⟩⟩
theorem ruly_one {s: Ar} {r: Nat} {w: World} {t: Nat} (k: TW s t r 1 [] [r] w): Ruly s.abs r [r] := by
 refine ⟨Or.inl rfl,fun n hn => ?_⟩
 obtain ⟨m,ps',hm,_,hb⟩ := k.tp.sub
 rw [hn.uniq hm]
 rcases hb.2 with ⟨_,hl,_⟩ | ⟨e,_⟩
 · rw [shaped_leaf hm.shaped hl]; decide
 · exact absurd rfl e
theorem Both.new {q: Nat} {w0 w1 w2 w3: World} {s s': Ar} {r: Nat} (h0: Below w0.heap.size w0 w1) (hF: L4.Fresh q w1 s w2) (t1: TW s' w2.heap.size r 1 [] [r] w3) (o1: Only (fun k => s.own k \/ k = w2.heap.size) w2 w3) (n1: ∀ k,s'.own k -> s.own k \/ w2.heap.size <= k): Both w0 s' w2.heap.size w3.heap.size r 1 [] [r] [] (w3.alloc (.cells #[.slice none 0 0] 35)) := by
 obtain ⟨f1,f2,f3,f4⟩ := hF
 have b2 := tbelow_on h0 f3
 have b3: Below w0.heap.size w0 w3 := b2.trans (o1.below b2.size fun k hk e => by
  rcases e with e | e
  · have := f4 k e; have := h0.size; omega
  · have := b2.size; omega)
 refine ⟨t1.on (tbelow _ _),ruly_one t1,SetP.new b3.size,tbelow_on b3 (tbelow _ _),fun k hk => ?_,b2.size⟩
 rcases n1 k hk with e | e
 · exact Nat.le_trans h0.size (f4 k e)
 · exact Nat.le_trans b2.size e
end Go.Proofs.YtdnkbdjhccckhaaGreat
