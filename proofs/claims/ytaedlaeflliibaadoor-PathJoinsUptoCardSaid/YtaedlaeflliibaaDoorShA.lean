/- The layings of strings.Index, strings.Join, strings.HasPrefix at the seat's own numbers. -/
import Derived.Shelf.Strings.Search3
import Derived.Shelf.Strings.OnBuilder
import Derived.Shelf.Strings.Prefix
import Derived.Test.YtaedlaeflliibaaDoorProg
namespace Go.Proofs.YtaedlaeflliibaaDoor
open Go.RowKit Go.Shelf
def indexA_ren : Ren := { f := fun x => match x with | 143 => 37 | 219 => 41 | 217 => 44 | 225 => 45 | 224 => 46 | 267 => 47 | 266 => 48 | 314 => 49 | n => n, t := fun x => match x with | 9 => 9 | 3 => 3 | 4 => 4 | 5 => 5 | 46 => 71 | 146 => 78 | 51 => 77 | n => n, g := fun x => match x with | 1 => 2 | n => n }
set_option maxRecDepth 100000 in
theorem indexA : Lays.n143 Tryd.prog indexA_ren :=
  { mixed := rfl,
    f143 := Eq.trans Tryd.func37 (congrArg some rfl),
    f217 := Eq.trans Tryd.func44 (congrArg some rfl),
    f219 := Eq.trans Tryd.func41 (congrArg some rfl),
    f224 := Eq.trans Tryd.func46 (congrArg some rfl),
    f225 := Eq.trans Tryd.func45 (congrArg some rfl),
    f266 := Eq.trans Tryd.func48 (congrArg some rfl),
    f267 := Eq.trans Tryd.func47 (congrArg some rfl),
    f314 := Eq.trans Tryd.func49 (congrArg some rfl),
    t3 := Tryd.underlying3,
    a3 := Tryd.isAgg3,
    z3 := Tryd.sizeOf3,
    v3 := Tryd.zeroValue3,
    t4 := Tryd.underlying4,
    a4 := Tryd.isAgg4,
    z4 := Tryd.sizeOf4,
    v4 := Tryd.zeroValue4,
    t5 := Tryd.underlying5,
    a5 := Tryd.isAgg5,
    z5 := Tryd.sizeOf5,
    v5 := Tryd.zeroValue5,
    t9 := Tryd.underlying9,
    a9 := Tryd.isAgg9,
    z9 := Tryd.sizeOf9,
    v9 := Tryd.zeroValue9,
    t46 := Tryd.underlying71,
    a46 := Tryd.isAgg71,
    z46 := Tryd.sizeOf71,
    v46 := Tryd.zeroValue71,
    t51 := Tryd.underlying77,
    a51 := Tryd.isAgg77,
    z51 := Tryd.sizeOf77,
    v51 := Tryd.zeroValue77,
    t146 := Tryd.underlying78,
    a146 := Tryd.isAgg78,
    z146 := Tryd.sizeOf78,
    v146 := Tryd.zeroValue78,
    g1 := by kernel_rfl }
def joinA_ren : Ren := { f := fun x => match x with | 156 => 27 | 165 => 32 | 166 => 33 | 169 => 34 | 240 => 38 | 241 => 39 | 276 => 42 | 277 => 43 | n => n, t := fun x => match x with | 31 => 23 | 9 => 9 | 3 => 3 | 4 => 4 | 0 => 0 | 20 => 20 | 72 => 56 | 76 => 60 | 70 => 54 | 37 => 44 | 75 => 59 | 127 => 66 | 164 => 67 | 5 => 5 | 80 => 62 | n => n, g := fun n => n }
set_option maxRecDepth 100000 in
theorem joinA : Lays.n156 Tryd.prog joinA_ren :=
  { mixed := rfl,
    f156 := Eq.trans Tryd.func27 (congrArg some rfl),
    f165 := Eq.trans Tryd.func32 (congrArg some rfl),
    f166 := Eq.trans Tryd.func33 (congrArg some rfl),
    f169 := Eq.trans Tryd.func34 (congrArg some rfl),
    f240 := Eq.trans Tryd.func38 (congrArg some rfl),
    f241 := Eq.trans Tryd.func39 (congrArg some rfl),
    f276 := Eq.trans Tryd.func42 (congrArg some rfl),
    f277 := Eq.trans Tryd.func43 (congrArg some rfl),
    t0 := Tryd.underlying0,
    a0 := Tryd.isAgg0,
    z0 := Tryd.sizeOf0,
    v0 := Tryd.zeroValue0,
    t3 := Tryd.underlying3,
    a3 := Tryd.isAgg3,
    z3 := Tryd.sizeOf3,
    v3 := Tryd.zeroValue3,
    t4 := Tryd.underlying4,
    a4 := Tryd.isAgg4,
    z4 := Tryd.sizeOf4,
    v4 := Tryd.zeroValue4,
    t9 := Tryd.underlying9,
    a9 := Tryd.isAgg9,
    z9 := Tryd.sizeOf9,
    v9 := Tryd.zeroValue9,
    t20 := Tryd.underlying20,
    a20 := Tryd.isAgg20,
    z20 := Tryd.sizeOf20,
    v20 := Tryd.zeroValue20,
    t31 := Tryd.underlying23,
    a31 := Tryd.isAgg23,
    z31 := Tryd.sizeOf23,
    v31 := Tryd.zeroValue23,
    t37 := Tryd.underlying44,
    a37 := Tryd.isAgg44,
    z37 := Tryd.sizeOf44,
    v37 := Tryd.zeroValue44,
    t70 := Tryd.underlying54,
    a70 := Tryd.isAgg54,
    z70 := Tryd.sizeOf54,
    v70 := Tryd.zeroValue54,
    t72 := Tryd.underlying56,
    a72 := Tryd.isAgg56,
    z72 := Tryd.sizeOf56,
    v72 := Tryd.zeroValue56,
    t75 := Tryd.underlying59,
    a75 := Tryd.isAgg59,
    z75 := Tryd.sizeOf59,
    v75 := Tryd.zeroValue59,
    t76 := Tryd.underlying60,
    a76 := Tryd.isAgg60,
    z76 := Tryd.sizeOf60,
    v76 := Tryd.zeroValue60,
    t127 := Tryd.underlying66,
    a127 := Tryd.isAgg66,
    z127 := Tryd.sizeOf66,
    v127 := Tryd.zeroValue66,
    t164 := Tryd.underlying67,
    a164 := Tryd.isAgg67,
    z164 := Tryd.sizeOf67,
    v164 := Tryd.zeroValue67 }
def prefixA_ren : Ren := { f := fun x => match x with | 99 => 23 | 206 => 30 | n => n, t := fun x => match x with | 9 => 9 | 4 => 4 | 3 => 3 | n => n, g := fun n => n }
set_option maxRecDepth 100000 in
theorem prefixA : Lays.n99 Tryd.prog prefixA_ren :=
  { mixed := rfl,
    f99 := Eq.trans Tryd.func23 (congrArg some rfl),
    f206 := Eq.trans Tryd.func30 (congrArg some rfl),
    t3 := Tryd.underlying3,
    a3 := Tryd.isAgg3,
    z3 := Tryd.sizeOf3,
    v3 := Tryd.zeroValue3,
    t4 := Tryd.underlying4,
    a4 := Tryd.isAgg4,
    z4 := Tryd.sizeOf4,
    v4 := Tryd.zeroValue4,
    t9 := Tryd.underlying9,
    a9 := Tryd.isAgg9,
    z9 := Tryd.sizeOf9,
    v9 := Tryd.zeroValue9 }
theorem builderA : Builder.Extra Tryd.prog joinA_ren where
  sizeBuilder := by kernel_rfl
  liesBuilder := by kernel_rfl
  t5 := Tryd.underlying5
  a5 := Tryd.isAgg5
  z5 := Tryd.sizeOf5
  v5 := Tryd.zeroValue5
  infoByte := by kernel_rfl
  cellsByte := by kernel_rfl
  sizeByte := by kernel_rfl
  neB5 := by decide
end Go.Proofs.YtaedlaeflliibaaDoor
