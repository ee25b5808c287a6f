/- The library's contract of slices.SortFunc at arcs, laid at this program (lay-plain.mjs, tools/lay_tpl.py). -/
import Derived.Shelf.SlSortCmp.WholeK
import Derived.Ground.SlsfProg
import Derived.Test.YtockgbilbnheaaaDoorRows
import Derived.WalkKit
namespace Go.Proofs.YtockgbilbnheaaaDoor
open Go.Shelf
def laysSortA_ren : Go.Shelf.Ren := ⟨fun | 6 => 63 | 15 => 69 | 14 => 72 | 28 => 84 | 29 => 85 | 20 => 86 | 21 => 87 | 22 => 88 | 23 => 89 | 24 => 90 | 25 => 91 | 26 => 92 | 27 => 93 | 46 => 99 | 47 => 95 | 48 => 96 | 49 => 100 | 50 => 101 | 57 => 103 | n => n, fun | 22 => 30 | 24 => 52 | 25 => 86 | 3 => 3 | 39 => 98 | 0 => 0 | 53 => 109 | 55 => 68 | 4 => 4 | 46 => 116 | 45 => 115 | 50 => 84 | 5 => 5 | 9 => 9 | 66 => 128 | 70 => 132 | 76 => 136 | 77 => 137 | n => n, fun | n => n⟩
theorem laysSortA : Go.Proofs.SlLaysF0.n6 Tryd.prog laysSortA_ren := {
 mixed := by kernel_rfl
 f6 := ⟨Tryd.f63.name, by decide, Tryd.func63.trans (congrArg some (by kernel_rfl))⟩
 f14 := ⟨Tryd.f72.name, by decide, Tryd.func72.trans (congrArg some (by kernel_rfl))⟩
 f15 := Tryd.func69.trans (congrArg some (by kernel_rfl))
 f20 := ⟨Tryd.f86.name, by decide, Tryd.func86.trans (congrArg some (by kernel_rfl))⟩
 f21 := ⟨Tryd.f87.name, by decide, Tryd.func87.trans (congrArg some (by kernel_rfl))⟩
 f22 := ⟨Tryd.f88.name, by decide, Tryd.func88.trans (congrArg some (by kernel_rfl))⟩
 f23 := ⟨Tryd.f89.name, by decide, Tryd.func89.trans (congrArg some (by kernel_rfl))⟩
 f24 := ⟨Tryd.f90.name, by decide, Tryd.func90.trans (congrArg some (by kernel_rfl))⟩
 f25 := ⟨Tryd.f91.name, by decide, Tryd.func91.trans (congrArg some (by kernel_rfl))⟩
 f26 := ⟨Tryd.f92.name, by decide, Tryd.func92.trans (congrArg some (by kernel_rfl))⟩
 f27 := ⟨Tryd.f93.name, by decide, Tryd.func93.trans (congrArg some (by kernel_rfl))⟩
 f28 := Tryd.func84.trans (congrArg some (by kernel_rfl))
 f29 := Tryd.func85.trans (congrArg some (by kernel_rfl))
 f46 := ⟨Tryd.f99.name, by decide, Tryd.func99.trans (congrArg some (by kernel_rfl))⟩
 f47 := Tryd.func95.trans (congrArg some (by kernel_rfl))
 f48 := Tryd.func96.trans (congrArg some (by kernel_rfl))
 f49 := ⟨Tryd.f100.name, by decide, Tryd.func100.trans (congrArg some (by kernel_rfl))⟩
 f50 := ⟨Tryd.f101.name, by decide, Tryd.func101.trans (congrArg some (by kernel_rfl))⟩
 f57 := ⟨Tryd.f103.name, by decide, Tryd.func103.trans (congrArg some (by kernel_rfl))⟩
 t0 := Tryd.underlying0
 a0 := Tryd.isAgg0
 z0 := Tryd.sizeOf0
 v0 := Tryd.zeroValue0
 t3 := Tryd.underlying3
 a3 := Tryd.isAgg3
 z3 := Tryd.sizeOf3
 v3 := Tryd.zeroValue3
 t4 := Tryd.underlying4
 a4 := Tryd.isAgg4
 z4 := Tryd.sizeOf4
 v4 := Tryd.zeroValue4
 t5 := Tryd.underlying5
 a5 := Tryd.isAgg5
 z5 := Tryd.sizeOf5
 v5 := Tryd.zeroValue5
 t9 := Tryd.underlying9
 a9 := Tryd.isAgg9
 z9 := Tryd.sizeOf9
 v9 := Tryd.zeroValue9
 t22 := Tryd.underlying30
 a22 := Tryd.isAgg30
 z22 := Tryd.sizeOf30
 v22 := Tryd.zeroValue30
 t25 := Tryd.underlying86
 a25 := Tryd.isAgg86
 z25 := Tryd.sizeOf86
 v25 := Tryd.zeroValue86
 t39 := Tryd.underlying98
 a39 := Tryd.isAgg98
 z39 := Tryd.sizeOf98
 v39 := Tryd.zeroValue98
 t45 := Tryd.underlying115
 a45 := Tryd.isAgg115
 z45 := Tryd.sizeOf115
 v45 := Tryd.zeroValue115
 t46 := Tryd.underlying116
 a46 := Tryd.isAgg116
 z46 := Tryd.sizeOf116
 v46 := Tryd.zeroValue116
 t50 := Tryd.underlying84
 a50 := Tryd.isAgg84
 z50 := Tryd.sizeOf84
 v50 := Tryd.zeroValue84
 t53 := Tryd.underlying109
 a53 := Tryd.isAgg109
 z53 := Tryd.sizeOf109
 v53 := Tryd.zeroValue109
 t55 := Tryd.underlying68
 a55 := Tryd.isAgg68
 z55 := Tryd.sizeOf68
 v55 := Tryd.zeroValue68
 t66 := Tryd.underlying128
 a66 := Tryd.isAgg128
 z66 := Tryd.sizeOf128
 v66 := Tryd.zeroValue128
 t70 := Tryd.underlying132
 a70 := Tryd.isAgg132
 z70 := Tryd.sizeOf132
 v70 := Tryd.zeroValue132
 t76 := Tryd.underlying136
 a76 := Tryd.isAgg136
 z76 := Tryd.sizeOf136
 v76 := Tryd.zeroValue136
 t77 := Tryd.underlying137
 a77 := Tryd.isAgg137
 z77 := Tryd.sizeOf137
 v77 := Tryd.zeroValue137 }
end Go.Proofs.YtockgbilbnheaaaDoor
