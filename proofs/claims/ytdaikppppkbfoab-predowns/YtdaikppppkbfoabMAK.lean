import Derived.Test.YtdaikppppkbfoabMAJ
import Derived.ShutString
import Derived.ChangeOld
namespace Go.Proofs.Ytdaikppppkbfoab
open Go.RowKit Go.ChangeShapes Go.WideShapes Go.ChangeAt
theorem returns_sized {H: Type} {enc: TypeId × Value -> H} {a: Assume} {C: Checked} {os: Os} {f: FuncId} {fn: Func} {s: ChangeSpec} {conds: List PathCond} {apart fresh handsOn again: Bool}
 (own: ownKnob C.prog.godebug = none) (started: os.Started) (noInit: C.prog.inits.idxOf? f = none) (hfn: C.prog.funcs[f]? = some fn)
 (witness: ∃ (w: World) (tape: Tape) (i: Input),w.os = os /\ (w.forCall tape i).Shaped C.prog /\ i.vars = [] /\ Input.okWide C.prog (w.forCall tape i) .any w.heap.size f i /\
   s.pre6 enc C.prog fn conds apart (w.forCall tape i).memory i.args /\ a.holds C.prog (lone (Frame.enter C.prog f i.args .normal) [] (w.forCall tape i)))
 (contract: ∀ (W: World) (base: Nat) (args: Array Value) (ds gs: List (DataW H)) (before: List MemPlace),
   (∀ (j: Nat) t v,fn.params[j]? = some t -> args[j]? = some v -> Value.okWide C.prog W .any base t v) ->
   DataW.Whole enc C.prog fn.params.toList s.vars apart W args.toList ds gs before ->
   (DataW.weightsEach C.prog (fn.params.toList ++ s.plain.varTypes C.prog) (ds ++ gs)).all (· <= reachBytes) = true ->
   Calls C.prog f args W fun e W' => ∃ v,e = .returned v /\ s.post enc C.prog fn apart fresh handsOn again W args v W') :
 ReturnsInHanded a C os f .any (s.pre6 enc C.prog fn conds apart) (s.post enc C.prog fn apart fresh handsOn again) := by
 refine returnsInHanded_of_calls own started noInit witness ?_
 intro w tape i _ _ _ hok hpre _
 obtain ⟨_,_,_,fn',hfn',_,_,_,_,hval⟩ := hok
 obtain rfl: fn' = fn := Option.some.inj (hfn'.symm.trans hfn)
 obtain ⟨_,⟨_,ds,gs,before,hw,hwt⟩⟩ := hpre
 refine (contract (w.forCall tape i) w.heap.size i.args ds gs before hval (DataW.Whole.of_heap (w' := w.forCall tape i) (by rfl) hw) hwt).mono fun e W' ⟨v,he,hp⟩ => ?_
 subst he
 exact ChangeSpec.post_blind hp
theorem nweights_at {H: Type} {P: Program}: ∀ {ts us: List TypeId} {ds: List (DataW H)},(DataW.weightsEach P (ts ++ us) ds).all (· <= reachBytes) = true -> ∀ (j: Nat) t d,ts[j]? = some t -> ds[j]? = some d -> (DataW.weights P t d).all (fun x => decide (x <= reachBytes)) = true
 | [],_,_,_,j,t,d,h1,_ => by simp at h1
 | t0 :: ts,us,[],_,j,t,d,_,h2 => by simp at h2
 | t0 :: ts,us,d0 :: ds,h,j,t,d,h1,h2 => by
  rw [List.cons_append,DataW.weightsEach,List.all_append,Bool.and_eq_true] at h
  cases j with
  | zero =>
   simp at h1 h2
   subst h1 h2
   exact h.1
  | succ j => exact nweights_at h.2 j t d (by simpa using h1) (by simpa using h2)
end Go.Proofs.Ytdaikppppkbfoab
