/-
  slices.Insert at this seat: the shelf's contracts laid.
-/
import Derived.Shelf.Spec.SlicesInsert
import Derived.Shelf.Spec.SlicesInsertGrow
import Derived.Test.YtjdbjnkmlajdoaaGreatProg
namespace Go.Proofs.YtjdbjnkmlajdoaaGreat
open Go.Shelf

def insS_ren : Go.Shelf.Ren := ⟨fun | 17 => 149 | 22 => 89 | 29 => 106 | 30 => 107 | 36 => 130 | n => n, fun | 24 => 33 | 9 => 9 | 3 => 3 | 4 => 4 | 0 => 0 | n => n, fun | n => n⟩

theorem insS_lays : Go.Proofs.Lays2.n22 Tryz.prog insS_ren := {
  mixed := by kernel_rfl
  f17 := Tryz.func149.trans (congrArg some (by kernel_rfl))
  f22 := Tryz.func89.trans (congrArg some (by kernel_rfl))
  f29 := Tryz.func106.trans (congrArg some (by kernel_rfl))
  f30 := Tryz.func107.trans (congrArg some (by kernel_rfl))
  f36 := Tryz.func130.trans (congrArg some (by kernel_rfl))
  t0 := Tryz.underlying0
  a0 := Tryz.isAgg0
  z0 := Tryz.sizeOf0
  v0 := Tryz.zeroValue0
  t3 := Tryz.underlying3
  a3 := Tryz.isAgg3
  z3 := Tryz.sizeOf3
  v3 := Tryz.zeroValue3
  t4 := Tryz.underlying4
  a4 := Tryz.isAgg4
  z4 := Tryz.sizeOf4
  v4 := Tryz.zeroValue4
  t9 := Tryz.underlying9
  a9 := Tryz.isAgg9
  z9 := Tryz.sizeOf9
  v9 := Tryz.zeroValue9
  t24 := Tryz.underlying33
  a24 := Tryz.isAgg33
  z24 := Tryz.sizeOf33
  v24 := Tryz.zeroValue33
  i9 := by kernel_rfl }

def insI_ren : Go.Shelf.Ren := ⟨fun | 39 => 161 | 21 => 133 | 27 => 152 | 28 => 153 | 35 => 158 | n => n, fun | 22 => 49 | 3 => 3 | 4 => 4 | 0 => 0 | n => n, fun | n => n⟩

theorem insI_lays : Go.Proofs.Lays2.n21 Tryz.prog insI_ren := {
  mixed := by kernel_rfl
  f21 := Tryz.func133.trans (congrArg some (by kernel_rfl))
  f27 := Tryz.func152.trans (congrArg some (by kernel_rfl))
  f28 := Tryz.func153.trans (congrArg some (by kernel_rfl))
  f35 := Tryz.func158.trans (congrArg some (by kernel_rfl))
  f39 := Tryz.func161.trans (congrArg some (by kernel_rfl))
  t0 := Tryz.underlying0
  a0 := Tryz.isAgg0
  z0 := Tryz.sizeOf0
  v0 := Tryz.zeroValue0
  t3 := Tryz.underlying3
  a3 := Tryz.isAgg3
  z3 := Tryz.sizeOf3
  v3 := Tryz.zeroValue3
  t4 := Tryz.underlying4
  a4 := Tryz.isAgg4
  z4 := Tryz.sizeOf4
  v4 := Tryz.zeroValue4
  t22 := Tryz.underlying49
  a22 := Tryz.isAgg49
  z22 := Tryz.sizeOf49
  v22 := Tryz.zeroValue49
  i3 := by kernel_rfl }
end Go.Proofs.YtjdbjnkmlajdoaaGreat
