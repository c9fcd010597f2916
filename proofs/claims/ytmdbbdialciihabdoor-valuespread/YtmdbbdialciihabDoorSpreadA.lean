/-
  The function that ValueSpread makes: an operation that is only made if nothing was too great before.
-/
import Derived.Test.YtmdbbdialciihabDoorBackW
import Derived.Test.YtmdbbdialciihabDoorQuietB
namespace Go.Proofs.YtmdbbdialciihabDoor
open Go.RowKit

/-- What is made where 'ok' says that nothing was too great before. -/
def ck (ok : Bool) (v : Int) : Int := if ok then nk v else 0
def cn (ok : Bool) (v : Int) : Int := if ok then nn v else 0
def ce (ok : Bool) (v : Int) : Int := if ok then ne v else 7

theorem op_walk (op : ByteArray) (kx nx ky ny e : Int) (ok : Bool) (a b v : Int) (hk : knownR op = true) (ho : opI op a b = v) (he : e = if ok then 0 else 7)
    (h : ok = true → kx = 2 ∧ nx = a ∧ ky = 2 ∧ ny = b ∧ fits a = true ∧ fits b = true) (w : World) :
    Calls Tryd.prog 5 #[.string op, valV kx nx ⟨#[]⟩, valV ky ny ⟨#[]⟩, .int .i64 e] w fun e w' => e = .returned (.tuple #[valV (ck ok v) (cn ok v) ⟨#[]⟩, .int .i64 (ce ok v)]) ∧ Below w.heap.size w w' := by
  go_enter Tryd.func5, Tryd.ntmps5
  cases ok
  · have he' : e = 7 := he
    clear he h
    subst he'
    unfold valV
    go_wp2
    exact bodyPost_ret (v := .tuple #[valV 0 0 ⟨#[]⟩, .int .i64 7]) (by simp [results, Tryd.results5, go_sem, valV]) rfl ⟨rfl, below_box3 w kx nx ⟨#[]⟩ ky ny ⟨#[]⟩⟩
  · obtain ⟨rfl, rfl, rfl, rfl, ha, hb⟩ := h rfl
    have he' : e = 0 := he
    clear he h
    subst he'
    have F := free3 w 2 nx ⟨#[]⟩ 2 ny ⟨#[]⟩
    obtain ⟨_, _, R⟩ := boxed3 w 2 nx ⟨#[]⟩ 2 ny ⟨#[]⟩
    unfold valV
    go_wp2_with fail
    refine (reckon_num op nx ny v hk ho ha hb _).mono ?_
    rintro e w1 ⟨rfl, B⟩
    obtain ⟨_, f0, f1, f2⟩ := F.below B
    obtain ⟨_, r0, r1, r2⟩ := R.below B
    replace B := below_on (below_box3 w 2 nx ⟨#[]⟩ 2 ny ⟨#[]⟩) B
    unfold valV
    go_wp2
    exact bodyPost_ret (v := .tuple #[valV (nk v) (nn v) ⟨#[]⟩, .int .i64 (ne v)]) (by simp [results, Tryd.results5, go_sem, valV, r0, r1, r2]) rfl ⟨rfl, below_store3 B _ _ _⟩
end Go.Proofs.YtmdbbdialciihabDoor
