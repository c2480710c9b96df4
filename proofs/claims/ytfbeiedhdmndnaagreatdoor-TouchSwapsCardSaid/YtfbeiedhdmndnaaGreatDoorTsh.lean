/-
 slices.Sort and slices.Compact at numbers, by the library's contracts, at this program. No conditions beyond those that each names.
-/
import Derived.Shelf.Sort.Plain
import Derived.Shelf.Slices.In.SortNone
import Derived.Shelf.Slices.Cells
import Derived.Test.YtfbeiedhdmndnaaGreatDoorRows
namespace Go.Proofs
open Go.Shelf
def Tryz.laysSort_ren : Go.Shelf.Ren := ⟨fun | 189 => 94 | 125 => 121 | 257 => 120 | 128 => 149 | 129 => 150 | 294 => 140 | 295 => 141 | 296 => 142 | 297 => 143 | 298 => 144 | 299 => 145 | 216 => 146 | 300 => 147 | 301 => 148 | 328 => 166 | 329 => 167 | 330 => 168 | 331 => 169 | 332 => 170 | 215 => 171 | 343 => 180 | n => n, fun | 28 => 54 | 3 => 3 | 46 => 164 | 0 => 0 | 51 => 187 | 53 => 189 | 4 => 4 | 183 => 181 | 182 => 180 | 131 => 113 | 5 => 5 | 9 => 9 | 218 => 196 | 222 => 200 | 228 => 206 | 229 => 156 | n => n, fun | n => n⟩
theorem Tryz.laysSort : Go.Proofs.Lays.n189 Tryz.prog Tryz.laysSort_ren := {
 mixed := by kernel_rfl
 f125 := Tryz.func121.trans (congrArg some (by kernel_rfl))
 f128 := Tryz.func149.trans (congrArg some (by kernel_rfl))
 f129 := Tryz.func150.trans (congrArg some (by kernel_rfl))
 f189 := Tryz.func94.trans (congrArg some (by kernel_rfl))
 f215 := Tryz.func171.trans (congrArg some (by kernel_rfl))
 f216 := Tryz.func146.trans (congrArg some (by kernel_rfl))
 f257 := Tryz.func120.trans (congrArg some (by kernel_rfl))
 f294 := Tryz.func140.trans (congrArg some (by kernel_rfl))
 f295 := Tryz.func141.trans (congrArg some (by kernel_rfl))
 f296 := Tryz.func142.trans (congrArg some (by kernel_rfl))
 f297 := Tryz.func143.trans (congrArg some (by kernel_rfl))
 f298 := Tryz.func144.trans (congrArg some (by kernel_rfl))
 f299 := Tryz.func145.trans (congrArg some (by kernel_rfl))
 f300 := Tryz.func147.trans (congrArg some (by kernel_rfl))
 f301 := Tryz.func148.trans (congrArg some (by kernel_rfl))
 f328 := Tryz.func166.trans (congrArg some (by kernel_rfl))
 f329 := Tryz.func167.trans (congrArg some (by kernel_rfl))
 f330 := Tryz.func168.trans (congrArg some (by kernel_rfl))
 f331 := Tryz.func169.trans (congrArg some (by kernel_rfl))
 f332 := Tryz.func170.trans (congrArg some (by kernel_rfl))
 f343 := Tryz.func180.trans (congrArg some (by kernel_rfl))
 t0 := Tryz.underlying0
 a0 := Tryz.isAgg0
 z0 := Tryz.sizeOf0
 v0 := Tryz.zeroValue0
 t3 := Tryz.underlying3
 a3 := Tryz.isAgg3
 z3 := Tryz.sizeOf3
 v3 := Tryz.zeroValue3
 t4 := Tryz.underlying4
 a4 := Tryz.isAgg4
 z4 := Tryz.sizeOf4
 v4 := Tryz.zeroValue4
 t5 := Tryz.underlying5
 a5 := Tryz.isAgg5
 z5 := Tryz.sizeOf5
 v5 := Tryz.zeroValue5
 t9 := Tryz.underlying9
 a9 := Tryz.isAgg9
 z9 := Tryz.sizeOf9
 v9 := Tryz.zeroValue9
 t28 := Tryz.underlying54
 a28 := Tryz.isAgg54
 z28 := Tryz.sizeOf54
 v28 := Tryz.zeroValue54
 t46 := Tryz.underlying164
 a46 := Tryz.isAgg164
 z46 := Tryz.sizeOf164
 v46 := Tryz.zeroValue164
 t51 := Tryz.underlying187
 a51 := Tryz.isAgg187
 z51 := Tryz.sizeOf187
 v51 := Tryz.zeroValue187
 t53 := Tryz.underlying189
 a53 := Tryz.isAgg189
 z53 := Tryz.sizeOf189
 v53 := Tryz.zeroValue189
 t131 := Tryz.underlying113
 a131 := Tryz.isAgg113
 z131 := Tryz.sizeOf113
 v131 := Tryz.zeroValue113
 t182 := Tryz.underlying180
 a182 := Tryz.isAgg180
 z182 := Tryz.sizeOf180
 v182 := Tryz.zeroValue180
 t183 := Tryz.underlying181
 a183 := Tryz.isAgg181
 z183 := Tryz.sizeOf181
 v183 := Tryz.zeroValue181
 t218 := Tryz.underlying196
 a218 := Tryz.isAgg196
 z218 := Tryz.sizeOf196
 v218 := Tryz.zeroValue196
 t222 := Tryz.underlying200
 a222 := Tryz.isAgg200
 z222 := Tryz.sizeOf200
 v222 := Tryz.zeroValue200
 t228 := Tryz.underlying206
 a228 := Tryz.isAgg206
 z228 := Tryz.sizeOf206
 v228 := Tryz.zeroValue206
 t229 := Tryz.underlying156
 a229 := Tryz.isAgg156
 z229 := Tryz.sizeOf156
 v229 := Tryz.zeroValue156 }
def Tryz.laysCompact_ren : Go.Shelf.Ren := ⟨fun | 20 => 95 | n => n, fun | 22 => 54 | 3 => 3 | 4 => 4 | 0 => 0 | n => n, fun | n => n⟩
theorem Tryz.laysCompact : Go.Proofs.Lays2.n20 Tryz.prog Tryz.laysCompact_ren := {
 mixed := by kernel_rfl
 f20 := Tryz.func95.trans (congrArg some (by kernel_rfl))
 t0 := Tryz.underlying0
 a0 := Tryz.isAgg0
 z0 := Tryz.sizeOf0
 v0 := Tryz.zeroValue0
 t3 := Tryz.underlying3
 a3 := Tryz.isAgg3
 z3 := Tryz.sizeOf3
 v3 := Tryz.zeroValue3
 t4 := Tryz.underlying4
 a4 := Tryz.isAgg4
 z4 := Tryz.sizeOf4
 v4 := Tryz.zeroValue4
 t22 := Tryz.underlying54
 a22 := Tryz.isAgg54
 z22 := Tryz.sizeOf54
 v22 := Tryz.zeroValue54
 i3 := by kernel_rfl }
end Go.Proofs
