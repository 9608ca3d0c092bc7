/- The contracts of Go's library that the walks use (strconv.Itoa, strconv.Atoi, slices.Min), laid at this program; no walk is done here. -/
import Derived.Shelf.Strings.Trim
import Derived.Shelf.Small.Strs
import Derived.Shelf.Small.Wraps
import Derived.Shelf.Strconv.Atoi
import Derived.Shelf.Strconv.Itoa0
import Derived.Shelf.Strconv.Itoa1
import Derived.Shelf.LaysM
import Derived.Shelf.Strconv.Itoa2
import Derived.Shelf.Strconv.Itoa3
import Derived.Shelf.Strconv.Itoa4
import Derived.Shelf.Strconv.AtoiErrFast
import Derived.Shelf.Strconv.ParseIntEmpty
import Derived.Shelf.Strconv.AtoiFail
import Derived.Shelf.Strconv.Clone
import Derived.Shelf.Strconv.SyntaxError
import Derived.Shelf.LaysC
import Derived.Shelf.Strconv.ToError
import Derived.Shelf.Strconv.Lower
import Derived.Shelf.Strconv.ParseUint10
import Derived.Shelf.Strconv.ParseUint10Empty
import Derived.Shelf.Strconv.ParseUint10Any
import Derived.Shelf.Strconv.ParseInt10
import Derived.Shelf.Strconv.AtoiLong
import Derived.Shelf.Strconv.AtoiInnerAll
import Derived.Shelf.Strconv.RangeError
import Derived.Shelf.Strconv.ToErrorRange
import Derived.Shelf.Strconv.AtoiAll
import Derived.Shelf.Strconv.ErrVarAll
import Derived.Shelf.Strconv.ParseUintEmpty
import Derived.Shelf.Strconv.ParseUint10b64
import Derived.Shelf.Strconv.ParseUint10b32
import Derived.Shelf.Strconv.ParseUint10b16
import Derived.Shelf.Strconv.ParseUint10b8
import Derived.Shelf.Strconv.ParseUint10At
import Derived.Shelf.Strconv.ParseInt10At64
import Derived.Shelf.Strconv.ParseInt10At32
import Derived.Shelf.Strconv.ParseInt10At16
import Derived.Shelf.Strconv.ParseInt10At8
import Derived.Shelf.Strconv.ParseInt10All
import Derived.Shelf.Strconv.ParseIntPublic10
import Derived.Ground.MpProg
import Derived.Shelf.Pu.ParseUintPublic10
import Derived.Shelf.Pu.ErrVarParseUint
import Derived.Shelf.Strings.Search1
import Derived.Shelf.Strings.Prefix
import Derived.Shelf.Strings.Runes
import Derived.Shelf.Strings.AsciiSet
import Derived.Shelf.Unicode.DecodeSlow
import Derived.Shelf.Slices.Turned
import Derived.Test.YtgalebcpagmohaaGreatDoorProg
namespace Go.Proofs
open Go.Shelf
def Tryz.z_lays161_ren : Go.Shelf.Ren := ⟨fun | 161 => 283 | 231 => 303 | 227 => 304 | 233 => 305 | 235 => 306 | 228 => 314 | 197 => 315 | 151 => 316 | 260 => 318 | 152 => 319 | 137 => 308 | 119 => 320 | 224 => 301 | 225 => 300 | 217 => 299 | 266 => 312 | n => n, fun | 9 => 9 | 4 => 4 | 3 => 3 | 5 => 5 | 117 => 384 | 116 => 383 | 0 => 0 | 124 => 387 | 105 => 394 | 21 => 21 | 119 => 400 | 46 => 247 | 139 => 403 | 138 => 402 | n => n, fun | 3 => 6 | 4 => 7 | n => n⟩
theorem Tryz.z_lays161 : Go.Proofs.Lays.n161 Tryz.prog Tryz.z_lays161_ren := {
  mixed := by kernel_rfl
  f119 := Tryz.func320.trans (congrArg some (by kernel_rfl))
  f137 := Tryz.func308.trans (congrArg some (by kernel_rfl))
  f151 := Tryz.func316.trans (congrArg some (by kernel_rfl))
  f152 := Tryz.func319.trans (congrArg some (by kernel_rfl))
  f161 := Tryz.func283.trans (congrArg some (by kernel_rfl))
  f197 := Tryz.func315.trans (congrArg some (by kernel_rfl))
  f217 := Tryz.func299.trans (congrArg some (by kernel_rfl))
  f224 := Tryz.func301.trans (congrArg some (by kernel_rfl))
  f225 := Tryz.func300.trans (congrArg some (by kernel_rfl))
  f227 := Tryz.func304.trans (congrArg some (by kernel_rfl))
  f228 := Tryz.func314.trans (congrArg some (by kernel_rfl))
  f231 := Tryz.func303.trans (congrArg some (by kernel_rfl))
  f233 := Tryz.func305.trans (congrArg some (by kernel_rfl))
  f235 := Tryz.func306.trans (congrArg some (by kernel_rfl))
  f260 := Tryz.func318.trans (congrArg some (by kernel_rfl))
  f266 := Tryz.func312.trans (congrArg some (by kernel_rfl))
  t0 := Tryz.underlying0
  a0 := Tryz.isAgg0
  z0 := Tryz.sizeOf0
  v0 := Tryz.zeroValue0
  t3 := Tryz.underlying3
  a3 := Tryz.isAgg3
  z3 := Tryz.sizeOf3
  v3 := Tryz.zeroValue3
  t4 := Tryz.underlying4
  a4 := Tryz.isAgg4
  z4 := Tryz.sizeOf4
  v4 := Tryz.zeroValue4
  t5 := Tryz.underlying5
  a5 := Tryz.isAgg5
  z5 := Tryz.sizeOf5
  v5 := Tryz.zeroValue5
  t9 := Tryz.underlying9
  a9 := Tryz.isAgg9
  z9 := Tryz.sizeOf9
  v9 := Tryz.zeroValue9
  t21 := Tryz.underlying21
  a21 := Tryz.isAgg21
  z21 := Tryz.sizeOf21
  v21 := Tryz.zeroValue21
  t46 := Tryz.underlying247
  a46 := Tryz.isAgg247
  z46 := Tryz.sizeOf247
  v46 := Tryz.zeroValue247
  t105 := Tryz.underlying394
  a105 := Tryz.isAgg394
  z105 := Tryz.sizeOf394
  v105 := Tryz.zeroValue394
  t116 := Tryz.underlying383
  a116 := Tryz.isAgg383
  z116 := Tryz.sizeOf383
  t117 := Tryz.underlying384
  a117 := Tryz.isAgg384
  z117 := Tryz.sizeOf384
  v117 := Tryz.zeroValue384
  t119 := Tryz.underlying400
  a119 := Tryz.isAgg400
  z119 := Tryz.sizeOf400
  t124 := Tryz.underlying387
  a124 := Tryz.isAgg387
  z124 := Tryz.sizeOf387
  v124 := Tryz.zeroValue387
  t138 := Tryz.underlying402
  a138 := Tryz.isAgg402
  z138 := Tryz.sizeOf402
  v138 := Tryz.zeroValue402
  t139 := Tryz.underlying403
  a139 := Tryz.isAgg403
  z139 := Tryz.sizeOf403
  v139 := Tryz.zeroValue403
  g3 := by kernel_rfl
  g4 := by kernel_rfl }
open Go.RowKit in
theorem Tryz.z_strings_TrimLeft_one (s : ByteArray) (c : UInt8) (hc : c.toNat < 128) (w : World) :
    Calls Tryz.prog 283 #[.string s, .string ⟨#[c]⟩] w fun e w' => e = .returned (.string ⟨(Lib.trimLeftB s.data.toList c).toArray⟩) ∧ w' = w := Any.strings_TrimLeft_one Tryz.z_lays161 s c hc w
end Go.Proofs
