import Derived.Shelf.Small.Strs
import Derived.Shelf.Strconv.Itoa0
import Derived.Shelf.Strconv.Itoa1
import Derived.Shelf.LaysM
import Derived.Shelf.Strconv.Itoa2
import Derived.Shelf.Strconv.Itoa3
import Derived.Shelf.Strconv.Itoa4
import Derived.Shelf.Strconv.ParseIntEmpty
import Derived.Shelf.Strconv.Clone
import Derived.Shelf.Strconv.SyntaxError
import Derived.Shelf.LaysC
import Derived.Shelf.Strconv.ToError
import Derived.Shelf.Strconv.Lower
import Derived.Shelf.Strconv.ParseUint10
import Derived.Shelf.Strconv.ParseUint10Empty
import Derived.Shelf.Strconv.ParseUint10Any
import Derived.Shelf.Strconv.ParseInt10
import Derived.Shelf.Strconv.RangeError
import Derived.Shelf.Strconv.ToErrorRange
import Derived.Shelf.Strconv.ParseUintEmpty
import Derived.Shelf.Strconv.ParseUint10b64
import Derived.Shelf.Strconv.ParseUint10b32
import Derived.Shelf.Strconv.ParseUint10b16
import Derived.Shelf.Strconv.ParseUint10b8
import Derived.Shelf.Strconv.ParseUint10At
import Derived.Shelf.Strconv.ParseInt10At64
import Derived.Shelf.Strconv.ParseInt10At32
import Derived.Shelf.Strconv.ParseInt10At16
import Derived.Shelf.Strconv.ParseInt10At8
import Derived.Shelf.Strconv.ParseInt10All
import Derived.Shelf.Strconv.ParseIntPublic10
import Derived.Shelf.Strconv.ErrVarParseInt
import Derived.Shelf.Strings.Search1
import Derived.Shelf.Strings.Prefix
import Derived.Test.YtobdhcaoeholhaaGreatDoorProg
import Derived.Test.YtobdhcaoeholhaaGreatDoorHbyad
import Derived.Test.YtobdhcaoeholhaaGreatDoorHbyaa
import Derived.Test.YtobdhcaoeholhaaGreatDoorRows
import Derived.Lib.ParseIntBTie
import Derived.Laws.IdiomStrings
import Derived.Stop.Joined
import Derived.Lib.AtoiErrMem
import Derived.Lib.SmallJoins
set_option linter.unusedVariables false
set_option linter.unusedSimpArgs false
/- The shelf's contracts at this program, laid by the kit's tool. -/
namespace Go.Proofs
open Go.Shelf
def Tryz.lays137_ren : Go.Shelf.Ren := ⟨fun | 137 => 120 | 217 => 164 | 266 => 181 | n => n, fun | 9 => 9 | 5 => 5 | 3 => 3 | n => n, fun | n => n⟩
theorem Tryz.lays137 : Go.Proofs.Lays.n137 Tryz.prog Tryz.lays137_ren := {
  mixed := by kernel_rfl
  f137 := Tryz.func120.trans (congrArg some (by kernel_rfl))
  f217 := Tryz.func164.trans (congrArg some (by kernel_rfl))
  f266 := Tryz.func181.trans (congrArg some (by kernel_rfl))
  t3 := Tryz.underlying3
  a3 := Tryz.isAgg3
  z3 := Tryz.sizeOf3
  v3 := Tryz.zeroValue3
  t5 := Tryz.underlying5
  a5 := Tryz.isAgg5
  z5 := Tryz.sizeOf5
  v5 := Tryz.zeroValue5
  t9 := Tryz.underlying9
  a9 := Tryz.isAgg9
  z9 := Tryz.sizeOf9
  v9 := Tryz.zeroValue9 }
open Go.RowKit in
/-- strings.IndexByte: "IndexByte returns the index of the first instance of c in s, or -1 if c is not present in s.": IT RETURNS 'Lib.indexByte s c'; the world is as it was. (LAID: no walk: one application.) -/
theorem Tryz.strings_IndexByte (s : ByteArray) (c : Int) (w : World) :
    Calls Tryz.prog 120 #[.string s, .int .u8 c] w fun e w' => e = .returned (.int .i64 (Lib.indexByte s.data.toList c.toNat.toUInt8)) ∧ w' = w := Any.strings_IndexByte Tryz.lays137 s c w
def Tryz.laysM171_ren : Go.Shelf.Ren := ⟨fun | 171 => 137 | 243 => 169 | 246 => 170 | 283 => 187 | 284 => 188 | 285 => 189 | 286 => 190 | 129 => 200 | 317 => 199 | 318 => 201 | 319 => 202 | 320 => 203 | 337 => 204 | 338 => 205 | n => n, fun | 3 => 3 | 9 => 9 | 2 => 2 | 4 => 4 | 171 => 214 | 0 => 0 | 53 => 207 | 37 => 97 | 5 => 5 | 173 => 217 | 212 => 227 | 51 => 228 | 20 => 20 | 213 => 229 | 46 => 210 | 232 => 237 | 233 => 238 | n => n, fun | 17 => 3 | 18 => 4 | 19 => 5 | n => n⟩
theorem Tryz.laysM171 : Go.Proofs.LaysM.n171 Tryz.prog Tryz.laysM171_ren := {
  mixed := by kernel_rfl
  f129 := Tryz.func200.trans (congrArg some (by kernel_rfl))
  f171 := Tryz.func137.trans (congrArg some (by kernel_rfl))
  f243 := Tryz.func169.trans (congrArg some (by kernel_rfl))
  f246 := Tryz.func170.trans (congrArg some (by kernel_rfl))
  f283 := Tryz.func187.trans (congrArg some (by kernel_rfl))
  f284 := Tryz.func188.trans (congrArg some (by kernel_rfl))
  f285 := Tryz.func189.trans (congrArg some (by kernel_rfl))
  f286 := Tryz.func190.trans (congrArg some (by kernel_rfl))
  f317 := Tryz.func199.trans (congrArg some (by kernel_rfl))
  f318 := Tryz.func201.trans (congrArg some (by kernel_rfl))
  f319 := Tryz.func202.trans (congrArg some (by kernel_rfl))
  f320 := Tryz.func203.trans (congrArg some (by kernel_rfl))
  f337 := Tryz.func204.trans (congrArg some (by kernel_rfl))
  f338 := Tryz.func205.trans (congrArg some (by kernel_rfl))
  t0 := Tryz.underlying0
  a0 := Tryz.isAgg0
  z0 := Tryz.sizeOf0
  v0 := Tryz.zeroValue0
  t2 := Tryz.underlying2
  a2 := Tryz.isAgg2
  z2 := Tryz.sizeOf2
  v2 := Tryz.zeroValue2
  t3 := Tryz.underlying3
  a3 := Tryz.isAgg3
  z3 := Tryz.sizeOf3
  v3 := Tryz.zeroValue3
  t4 := Tryz.underlying4
  a4 := Tryz.isAgg4
  z4 := Tryz.sizeOf4
  v4 := Tryz.zeroValue4
  t5 := Tryz.underlying5
  a5 := Tryz.isAgg5
  z5 := Tryz.sizeOf5
  v5 := Tryz.zeroValue5
  t9 := Tryz.underlying9
  a9 := Tryz.isAgg9
  z9 := Tryz.sizeOf9
  v9 := Tryz.zeroValue9
  t20 := Tryz.underlying20
  a20 := Tryz.isAgg20
  z20 := Tryz.sizeOf20
  v20 := Tryz.zeroValue20
  t37 := Tryz.underlying97
  a37 := Tryz.isAgg97
  z37 := Tryz.sizeOf97
  v37 := Tryz.zeroValue97
  t46 := Tryz.underlying210
  a46 := Tryz.isAgg210
  z46 := Tryz.sizeOf210
  v46 := Tryz.zeroValue210
  t51 := Tryz.underlying228
  a51 := Tryz.isAgg228
  z51 := Tryz.sizeOf228
  v51 := Tryz.zeroValue228
  t53 := Tryz.underlying207
  a53 := Tryz.isAgg207
  z53 := Tryz.sizeOf207
  v53 := Tryz.zeroValue207
  t171 := Tryz.underlying214
  a171 := Tryz.isAgg214
  z171 := Tryz.sizeOf214
  v171 := Tryz.zeroValue214
  t173 := Tryz.underlying217
  a173 := Tryz.isAgg217
  z173 := Tryz.sizeOf217
  v173 := Tryz.zeroValue217
  t212 := Tryz.underlying227
  a212 := Tryz.isAgg227
  z212 := Tryz.sizeOf227
  v212 := Tryz.zeroValue227
  t213 := Tryz.underlying229
  a213 := Tryz.isAgg229
  z213 := Tryz.sizeOf229
  t232 := Tryz.underlying237
  a232 := Tryz.isAgg237
  z232 := Tryz.sizeOf237
  v232 := Tryz.zeroValue237
  t233 := Tryz.underlying238
  a233 := Tryz.isAgg238
  z233 := Tryz.sizeOf238
  v233 := Tryz.zeroValue238
  g17 := by kernel_rfl
  g18 := by kernel_rfl
  g19 := by kernel_rfl
  i0 := by kernel_rfl
  i2 := by kernel_rfl
  i3 := by kernel_rfl
  i4 := by kernel_rfl
  i5 := by kernel_rfl
  i9 := by kernel_rfl
  i20 := by kernel_rfl
  i37 := by kernel_rfl
  i46 := by kernel_rfl
  i51 := by kernel_rfl
  i53 := by kernel_rfl
  i171 := by kernel_rfl
  i173 := by kernel_rfl
  i212 := by kernel_rfl
  i232 := by kernel_rfl
  i233 := by kernel_rfl
  m17 := by kernel_rfl
  m18 := by kernel_rfl
  m19 := by kernel_rfl }
open Go.RowKit Go.Sort Go.Lib in
/-- strconv.Itoa: "Itoa is equivalent to FormatInt(int64(i), 10).": i's DECIMAL NUMERAL ('Lib.itoa': a '-' where i is negative, then the digits), FOR EVERY int. The world behind the call: the world before it, new blocks behind the heap (the library's 'var a [24]byte'), draws. (LAID: no walk: one application.) -/
theorem Tryz.strconv_Itoa (n : Int) (h0 : -9223372036854775808 ≤ n) (h1 : n ≤ 9223372036854775807) (w : World) (htab : Lib.TabIs Tryz.prog w "internal/strconv.uint64pow10" .u64 Lib.pow10Tab) :
    Calls Tryz.prog 137 #[.int .i64 n] w fun e w' => e = .returned (.string ⟨(Lib.itoa n).toArray⟩) ∧ ∃ k os, w' = grow (w.drewN k) os := Any.strconv_Itoa Tryz.laysM171 n h0 h1 w htab
def Tryz.laysM173_ren : Go.Shelf.Ren := ⟨fun | 173 => 138 | 246 => 170 | 283 => 187 | 284 => 188 | 285 => 189 | 286 => 190 | 129 => 200 | 317 => 199 | 318 => 201 | 319 => 202 | 320 => 203 | 337 => 204 | 338 => 205 | n => n, fun | 2 => 2 | 3 => 3 | 9 => 9 | 4 => 4 | 171 => 214 | 0 => 0 | 53 => 207 | 37 => 97 | 5 => 5 | 173 => 217 | 212 => 227 | 51 => 228 | 20 => 20 | 213 => 229 | 46 => 210 | 232 => 237 | 233 => 238 | n => n, fun | 17 => 3 | 18 => 4 | 19 => 5 | n => n⟩
theorem Tryz.laysM173 : Go.Proofs.LaysM.n173 Tryz.prog Tryz.laysM173_ren := {
  mixed := by kernel_rfl
  f129 := Tryz.func200.trans (congrArg some (by kernel_rfl))
  f173 := Tryz.func138.trans (congrArg some (by kernel_rfl))
  f246 := Tryz.func170.trans (congrArg some (by kernel_rfl))
  f283 := Tryz.func187.trans (congrArg some (by kernel_rfl))
  f284 := Tryz.func188.trans (congrArg some (by kernel_rfl))
  f285 := Tryz.func189.trans (congrArg some (by kernel_rfl))
  f286 := Tryz.func190.trans (congrArg some (by kernel_rfl))
  f317 := Tryz.func199.trans (congrArg some (by kernel_rfl))
  f318 := Tryz.func201.trans (congrArg some (by kernel_rfl))
  f319 := Tryz.func202.trans (congrArg some (by kernel_rfl))
  f320 := Tryz.func203.trans (congrArg some (by kernel_rfl))
  f337 := Tryz.func204.trans (congrArg some (by kernel_rfl))
  f338 := Tryz.func205.trans (congrArg some (by kernel_rfl))
  t0 := Tryz.underlying0
  a0 := Tryz.isAgg0
  z0 := Tryz.sizeOf0
  v0 := Tryz.zeroValue0
  t2 := Tryz.underlying2
  a2 := Tryz.isAgg2
  z2 := Tryz.sizeOf2
  v2 := Tryz.zeroValue2
  t3 := Tryz.underlying3
  a3 := Tryz.isAgg3
  z3 := Tryz.sizeOf3
  v3 := Tryz.zeroValue3
  t4 := Tryz.underlying4
  a4 := Tryz.isAgg4
  z4 := Tryz.sizeOf4
  v4 := Tryz.zeroValue4
  t5 := Tryz.underlying5
  a5 := Tryz.isAgg5
  z5 := Tryz.sizeOf5
  v5 := Tryz.zeroValue5
  t9 := Tryz.underlying9
  a9 := Tryz.isAgg9
  z9 := Tryz.sizeOf9
  v9 := Tryz.zeroValue9
  t20 := Tryz.underlying20
  a20 := Tryz.isAgg20
  z20 := Tryz.sizeOf20
  v20 := Tryz.zeroValue20
  t37 := Tryz.underlying97
  a37 := Tryz.isAgg97
  z37 := Tryz.sizeOf97
  v37 := Tryz.zeroValue97
  t46 := Tryz.underlying210
  a46 := Tryz.isAgg210
  z46 := Tryz.sizeOf210
  v46 := Tryz.zeroValue210
  t51 := Tryz.underlying228
  a51 := Tryz.isAgg228
  z51 := Tryz.sizeOf228
  v51 := Tryz.zeroValue228
  t53 := Tryz.underlying207
  a53 := Tryz.isAgg207
  z53 := Tryz.sizeOf207
  v53 := Tryz.zeroValue207
  t171 := Tryz.underlying214
  a171 := Tryz.isAgg214
  z171 := Tryz.sizeOf214
  v171 := Tryz.zeroValue214
  t173 := Tryz.underlying217
  a173 := Tryz.isAgg217
  z173 := Tryz.sizeOf217
  v173 := Tryz.zeroValue217
  t212 := Tryz.underlying227
  a212 := Tryz.isAgg227
  z212 := Tryz.sizeOf227
  v212 := Tryz.zeroValue227
  t213 := Tryz.underlying229
  a213 := Tryz.isAgg229
  z213 := Tryz.sizeOf229
  t232 := Tryz.underlying237
  a232 := Tryz.isAgg237
  z232 := Tryz.sizeOf237
  v232 := Tryz.zeroValue237
  t233 := Tryz.underlying238
  a233 := Tryz.isAgg238
  z233 := Tryz.sizeOf238
  v233 := Tryz.zeroValue238
  g17 := by kernel_rfl
  g18 := by kernel_rfl
  g19 := by kernel_rfl
  i0 := by kernel_rfl
  i2 := by kernel_rfl
  i3 := by kernel_rfl
  i4 := by kernel_rfl
  i5 := by kernel_rfl
  i9 := by kernel_rfl
  i20 := by kernel_rfl
  i37 := by kernel_rfl
  i46 := by kernel_rfl
  i51 := by kernel_rfl
  i53 := by kernel_rfl
  i171 := by kernel_rfl
  i173 := by kernel_rfl
  i212 := by kernel_rfl
  i232 := by kernel_rfl
  i233 := by kernel_rfl
  m17 := by kernel_rfl
  m18 := by kernel_rfl
  m19 := by kernel_rfl }
open Go.RowKit Go.Sort Go.Lib in
/-- strconv.FormatInt: "FormatInt returns the string representation of i in the given base": AT BASE 10: i's decimal numeral, for every int64. (LAID: no walk: one application.) -/
theorem Tryz.strconv_FormatInt_10 (n : Int) (h0 : -9223372036854775808 ≤ n) (h1 : n ≤ 9223372036854775807) (w : World) (htab : Lib.TabIs Tryz.prog w "internal/strconv.uint64pow10" .u64 Lib.pow10Tab) :
    Calls Tryz.prog 138 #[.int .i64 n, .int .i64 10] w fun e w' => e = .returned (.string ⟨(Lib.itoa n).toArray⟩) ∧ ∃ k os, w' = grow (w.drewN k) os := Any.strconv_FormatInt_10 Tryz.laysM173 n h0 h1 w htab
def Tryz.laysC174_ren : Go.Shelf.Ren := ⟨fun | 174 => 129 | 247 => 166 | 245 => 167 | 287 => 182 | 279 => 183 | 280 => 184 | 281 => 185 | 282 => 186 | 321 => 195 | 322 => 196 | 316 => 197 | 171 => 137 | 205 => 198 | 243 => 169 | 246 => 170 | 283 => 187 | 284 => 188 | 285 => 189 | 286 => 190 | 129 => 200 | 317 => 199 | 318 => 201 | 319 => 202 | 320 => 203 | 337 => 204 | 338 => 205 | n => n, fun | 9 => 9 | 3 => 3 | 2 => 2 | 75 => 178 | 85 => 179 | 4 => 4 | 167 => 206 | 5 => 5 | 53 => 207 | 175 => 208 | 46 => 210 | 168 => 211 | 37 => 97 | 0 => 0 | 210 => 223 | 21 => 21 | 127 => 232 | 145 => 235 | 143 => 233 | 171 => 214 | 173 => 217 | 212 => 227 | 51 => 228 | 20 => 20 | 213 => 229 | 232 => 237 | 233 => 238 | 80 => 239 | n => n, fun | 15 => 1 | 16 => 2 | 17 => 3 | 18 => 4 | 19 => 5 | n => n⟩
theorem Tryz.laysC174 : Go.Proofs.LaysC.n174 Tryz.prog Tryz.laysC174_ren := {
  mixed := by kernel_rfl
  f129 := Tryz.func200.trans (congrArg some (by kernel_rfl))
  f171 := Tryz.func137.trans (congrArg some (by kernel_rfl))
  f174 := Tryz.func129.trans (congrArg some (by kernel_rfl))
  f205 := Tryz.func198.trans (congrArg some (by kernel_rfl))
  f243 := Tryz.func169.trans (congrArg some (by kernel_rfl))
  f245 := Tryz.func167.trans (congrArg some (by kernel_rfl))
  f246 := Tryz.func170.trans (congrArg some (by kernel_rfl))
  f247 := Tryz.func166.trans (congrArg some (by kernel_rfl))
  f279 := Tryz.func183.trans (congrArg some (by kernel_rfl))
  f280 := Tryz.func184.trans (congrArg some (by kernel_rfl))
  f281 := Tryz.func185.trans (congrArg some (by kernel_rfl))
  f282 := Tryz.func186.trans (congrArg some (by kernel_rfl))
  f283 := Tryz.func187.trans (congrArg some (by kernel_rfl))
  f284 := Tryz.func188.trans (congrArg some (by kernel_rfl))
  f285 := Tryz.func189.trans (congrArg some (by kernel_rfl))
  f286 := Tryz.func190.trans (congrArg some (by kernel_rfl))
  f287 := Tryz.func182.trans (congrArg some (by kernel_rfl))
  f316 := Tryz.func197.trans (congrArg some (by kernel_rfl))
  f317 := Tryz.func199.trans (congrArg some (by kernel_rfl))
  f318 := Tryz.func201.trans (congrArg some (by kernel_rfl))
  f319 := Tryz.func202.trans (congrArg some (by kernel_rfl))
  f320 := Tryz.func203.trans (congrArg some (by kernel_rfl))
  f321 := Tryz.func195.trans (congrArg some (by kernel_rfl))
  f322 := Tryz.func196.trans (congrArg some (by kernel_rfl))
  f337 := Tryz.func204.trans (congrArg some (by kernel_rfl))
  f338 := Tryz.func205.trans (congrArg some (by kernel_rfl))
  t0 := Tryz.underlying0
  a0 := Tryz.isAgg0
  z0 := Tryz.sizeOf0
  v0 := Tryz.zeroValue0
  t2 := Tryz.underlying2
  a2 := Tryz.isAgg2
  z2 := Tryz.sizeOf2
  v2 := Tryz.zeroValue2
  t3 := Tryz.underlying3
  a3 := Tryz.isAgg3
  z3 := Tryz.sizeOf3
  v3 := Tryz.zeroValue3
  t4 := Tryz.underlying4
  a4 := Tryz.isAgg4
  z4 := Tryz.sizeOf4
  v4 := Tryz.zeroValue4
  t5 := Tryz.underlying5
  a5 := Tryz.isAgg5
  z5 := Tryz.sizeOf5
  v5 := Tryz.zeroValue5
  t9 := Tryz.underlying9
  a9 := Tryz.isAgg9
  z9 := Tryz.sizeOf9
  v9 := Tryz.zeroValue9
  t20 := Tryz.underlying20
  a20 := Tryz.isAgg20
  z20 := Tryz.sizeOf20
  v20 := Tryz.zeroValue20
  t21 := Tryz.underlying21
  a21 := Tryz.isAgg21
  z21 := Tryz.sizeOf21
  v21 := Tryz.zeroValue21
  t37 := Tryz.underlying97
  a37 := Tryz.isAgg97
  z37 := Tryz.sizeOf97
  v37 := Tryz.zeroValue97
  t46 := Tryz.underlying210
  a46 := Tryz.isAgg210
  z46 := Tryz.sizeOf210
  v46 := Tryz.zeroValue210
  t51 := Tryz.underlying228
  a51 := Tryz.isAgg228
  z51 := Tryz.sizeOf228
  v51 := Tryz.zeroValue228
  t53 := Tryz.underlying207
  a53 := Tryz.isAgg207
  z53 := Tryz.sizeOf207
  v53 := Tryz.zeroValue207
  t75 := Tryz.underlying178
  a75 := Tryz.isAgg178
  z75 := Tryz.sizeOf178
  v75 := Tryz.zeroValue178
  t85 := Tryz.underlying179
  a85 := Tryz.isAgg179
  z85 := Tryz.sizeOf179
  v85 := Tryz.zeroValue179
  t127 := Tryz.underlying232
  a127 := Tryz.isAgg232
  z127 := Tryz.sizeOf232
  v127 := Tryz.zeroValue232
  t143 := Tryz.underlying233
  a143 := Tryz.isAgg233
  z143 := Tryz.sizeOf233
  v143 := Tryz.zeroValue233
  t145 := Tryz.underlying235
  a145 := Tryz.isAgg235
  z145 := Tryz.sizeOf235
  v145 := Tryz.zeroValue235
  t167 := Tryz.underlying206
  a167 := Tryz.isAgg206
  z167 := Tryz.sizeOf206
  v167 := Tryz.zeroValue206
  t168 := Tryz.underlying211
  a168 := Tryz.isAgg211
  z168 := Tryz.sizeOf211
  v168 := Tryz.zeroValue211
  t171 := Tryz.underlying214
  a171 := Tryz.isAgg214
  z171 := Tryz.sizeOf214
  v171 := Tryz.zeroValue214
  t173 := Tryz.underlying217
  a173 := Tryz.isAgg217
  z173 := Tryz.sizeOf217
  v173 := Tryz.zeroValue217
  t175 := Tryz.underlying208
  a175 := Tryz.isAgg208
  z175 := Tryz.sizeOf208
  v175 := Tryz.zeroValue208
  t210 := Tryz.underlying223
  a210 := Tryz.isAgg223
  z210 := Tryz.sizeOf223
  v210 := Tryz.zeroValue223
  t212 := Tryz.underlying227
  a212 := Tryz.isAgg227
  z212 := Tryz.sizeOf227
  v212 := Tryz.zeroValue227
  t213 := Tryz.underlying229
  a213 := Tryz.isAgg229
  z213 := Tryz.sizeOf229
  t232 := Tryz.underlying237
  a232 := Tryz.isAgg237
  z232 := Tryz.sizeOf237
  v232 := Tryz.zeroValue237
  t233 := Tryz.underlying238
  a233 := Tryz.isAgg238
  z233 := Tryz.sizeOf238
  v233 := Tryz.zeroValue238
  g15 := by kernel_rfl
  g16 := by kernel_rfl
  g17 := by kernel_rfl
  g18 := by kernel_rfl
  g19 := by kernel_rfl
  t80 := Tryz.underlying239
  a80 := Tryz.isAgg239
  z80 := Tryz.sizeOf239
  v80 := Tryz.zeroValue239
  i0 := by kernel_rfl
  i2 := by kernel_rfl
  i3 := by kernel_rfl
  i4 := by kernel_rfl
  i5 := by kernel_rfl
  i9 := by kernel_rfl
  i20 := by kernel_rfl
  i21 := by kernel_rfl
  i37 := by kernel_rfl
  i46 := by kernel_rfl
  i51 := by kernel_rfl
  i53 := by kernel_rfl
  i75 := by kernel_rfl
  i80 := by kernel_rfl
  i85 := by kernel_rfl
  i127 := by kernel_rfl
  i143 := by kernel_rfl
  i145 := by kernel_rfl
  i167 := by kernel_rfl
  i168 := by kernel_rfl
  i171 := by kernel_rfl
  i173 := by kernel_rfl
  i175 := by kernel_rfl
  i210 := by kernel_rfl
  i212 := by kernel_rfl
  i232 := by kernel_rfl
  i233 := by kernel_rfl
  m15 := by kernel_rfl
  m16 := by kernel_rfl
  m17 := by kernel_rfl
  m18 := by kernel_rfl
  m19 := by kernel_rfl
  c0 := by kernel_rfl
  c2 := by kernel_rfl
  c3 := by kernel_rfl
  c4 := by kernel_rfl
  c5 := by kernel_rfl
  c9 := by kernel_rfl
  c20 := by kernel_rfl
  c21 := by kernel_rfl
  c37 := by kernel_rfl
  c46 := by kernel_rfl
  c51 := by kernel_rfl
  c53 := by kernel_rfl
  c75 := by kernel_rfl
  c80 := by kernel_rfl
  c85 := by kernel_rfl
  c127 := by kernel_rfl
  c143 := by kernel_rfl
  c145 := by kernel_rfl
  c167 := by kernel_rfl
  c168 := by kernel_rfl
  c171 := by kernel_rfl
  c173 := by kernel_rfl
  c175 := by kernel_rfl
  c210 := by kernel_rfl
  c212 := by kernel_rfl
  c213 := by kernel_rfl
  c232 := by kernel_rfl
  c233 := by kernel_rfl }
open Go.RowKit in
/-- strconv.ParseInt(s, 10, 64), AT EVERY STRING THAT SPELLS AN int64 ('Lib.parseIntB 64 s.data.toList = .ok v'): v, AND NO ERROR. (LAID: no walk: one application.) -/
theorem Tryz.strconv_ParseInt_10_at64_ok (s : ByteArray) (hmax : s.size ≤ 9223372036854775806) (v : Int) (h : Lib.parseIntB 64 s.data.toList = .ok v) (w : World) :
    Calls Tryz.prog 129 #[.string s, .int .i64 10, .int .i64 64] w fun e w' => e = .returned (.tuple #[.int .i64 v, .nilIface]) ∧ (w' = w ∨ ∃ t, w' = Lib.bytesWorld w 5 t) := Any.strconv_ParseInt_10_at64_ok Tryz.laysC174 s hmax v h w
open Go.RowKit in
open Go.RowKit in
theorem Tryz.strconv_ParseInt_10_at64_range_var (s : ByteArray) (hlim : s.size ≤ 281474976710656) (h : Lib.parseIntB 64 s.data.toList = .range) (tp : TypeId) (p : Value) (w : World) (hvar : w.var? Tryz.prog "strconv.ErrRange" = some #[.iface tp p]) :
    Calls Tryz.prog 129 #[.string s, .int .i64 10, .int .i64 64] w fun e w' => ∃ N, e = .returned (.tuple #[.int .i64 (Lib.intSat 64 s.data.toList), .iface 211 (.pointer (some ⟨N, 0, none⟩))]) ∧ w.heap.size ≤ N ∧ w'.heap[N]? = some (.cells #[.string ⟨#[80, 97, 114, 115, 101, 73, 110, 116]⟩, .string s, .iface tp p] 223 (0, 0)) ∧ Below w.heap.size w w' := Any.strconv_ParseInt_10_at64_range_var Tryz.laysC174 s hlim h tp p w hvar
def Tryz.lays99_ren : Go.Shelf.Ren := ⟨fun | 99 => 127 | 206 => 165 | n => n, fun | 9 => 9 | 4 => 4 | 3 => 3 | n => n, fun | n => n⟩
theorem Tryz.lays99 : Go.Proofs.Lays.n99 Tryz.prog Tryz.lays99_ren := {
  mixed := by kernel_rfl
  f99 := Tryz.func127.trans (congrArg some (by kernel_rfl))
  f206 := Tryz.func165.trans (congrArg some (by kernel_rfl))
  t3 := Tryz.underlying3
  a3 := Tryz.isAgg3
  z3 := Tryz.sizeOf3
  v3 := Tryz.zeroValue3
  t4 := Tryz.underlying4
  a4 := Tryz.isAgg4
  z4 := Tryz.sizeOf4
  v4 := Tryz.zeroValue4
  t9 := Tryz.underlying9
  a9 := Tryz.isAgg9
  z9 := Tryz.sizeOf9
  v9 := Tryz.zeroValue9 }
open Go.RowKit Go.Lib in
/-- strings.HasPrefix: "HasPrefix reports whether the string s begins with prefix.": IT RETURNS 'Lib.hasPrefix s prefix'; the world is as it was. (LAID: no walk: one application.) -/
theorem Tryz.strings_HasPrefix (s p : ByteArray) (w : World) :
    Calls Tryz.prog 127 #[.string s, .string p] w fun e w' => e = .returned (.bool (Lib.hasPrefix s.data.toList p.data.toList)) ∧ w' = w := Any.strings_HasPrefix Tryz.lays99 s p w
end Go.Proofs
/- Package lex: its small functions on bytes. -/
namespace Go.Proofs.YtobdhcaoeholhaaGreatDoor
open Go.RowKit

theorem u8_all {f g : UInt8 → Bool} (h : ((List.range 256).all fun n => f (UInt8.ofNat n) == g (UInt8.ofNat n)) = true) (c : UInt8) : f c = g c := by
  have h1 := List.all_eq_true.1 h c.toNat (List.mem_range.2 c.toNat_lt)
  have e : UInt8.ofNat c.toNat = c := by simp
  rw [e] at h1
  exact eq_of_beq h1
theorem small_eq : ∀ c, smallB c = (decide (97 ≤ (c.toNat : Int)) && decide ((c.toNat : Int) ≤ 122)) := u8_all (by decide +kernel)
theorem great_eq : ∀ c, greatB c = ((decide (65 ≤ (c.toNat : Int)) && decide ((c.toNat : Int) ≤ 90)) || ((c.toNat : Int) == 95)) := u8_all (by decide +kernel)
theorem digit_eq : ∀ c, digitB c = (decide (48 ≤ (c.toNat : Int)) && decide ((c.toNat : Int) ≤ 57)) := u8_all (by decide +kernel)
def shownB (c : UInt8) : Bool := decide (32 ≤ c) && decide (c ≤ 126)
theorem shown_eq : ∀ c, shownB c = (decide (32 ≤ (c.toNat : Int)) && decide ((c.toNat : Int) ≤ 126)) := u8_all (by decide +kernel)
def lineB (c : UInt8) : Bool := c != 10
theorem line_eq : ∀ c, lineB c = ((c.toNat : Int) != 10) := u8_all (by decide +kernel)
def soloB (c : UInt8) : Bool := c == 59 || c == 33
def markB (c : UInt8) : Bool := [40, 41, 91, 93, 123, 125, 44, 124].contains c
def amongB (l : List UInt8) (c : UInt8) : Bool := decide (0 ≤ Lib.indexByte l c)
theorem among_blank : ∀ c, amongB [32, 9, 10, 13] c = blankB c := u8_all (by decide +kernel)
theorem among_sym : ∀ c, amongB [43, 45, 42, 47, 92, 94, 60, 62, 61, 126, 58, 46, 63, 64, 35, 38, 36] c = symB c := u8_all (by decide +kernel)
theorem among_solo : ∀ c, amongB [59, 33] c = soloB c := u8_all (by decide +kernel)
theorem among_mark : ∀ c, amongB [40, 41, 91, 93, 123, 125, 44, 124] c = markB c := u8_all (by decide +kernel)

theorem small_any (c : UInt8) (w : World) : Calls Tryz.prog 121 #[.int .u8 c.toNat] w fun e w' => e = .returned (.bool (smallB c)) ∧ w = w' := by
  go_enter Tryz.func121, Tryz.ntmps121
  go_wp2
  all_goals go_ret
  all_goals exact ⟨ret_bool (by rw [small_eq]; simp_all; try omega), rfl⟩
theorem great_any (c : UInt8) (w : World) : Calls Tryz.prog 123 #[.int .u8 c.toNat] w fun e w' => e = .returned (.bool (greatB c)) ∧ w = w' := by
  have hg := great_eq c
  cases h1 : decide (65 ≤ (c.toNat : Int)) <;> cases h2 : decide ((c.toNat : Int) ≤ 90) <;> cases h3 : ((c.toNat : Int) == 95)
  all_goals
    rw [h1, h2, h3] at hg
    have HG := Lib.hid hg
    clear hg
    simp only [decide_eq_true_eq, decide_eq_false_iff_not] at h1 h2
    go_enter Tryz.func123, Tryz.ntmps123
    go_wp2
    go_ret
    exact ⟨ret_bool (by rw [HG.out]; rfl), rfl⟩
theorem digit_any (c : UInt8) (w : World) : Calls Tryz.prog 124 #[.int .u8 c.toNat] w fun e w' => e = .returned (.bool (digitB c)) ∧ w = w' := by
  go_enter Tryz.func124, Tryz.ntmps124
  go_wp2
  all_goals go_ret
  all_goals exact ⟨ret_bool (by rw [digit_eq]; simp_all; try omega), rfl⟩
theorem shown_any (c : UInt8) (w : World) : Calls Tryz.prog 71 #[.int .u8 c.toNat] w fun e w' => e = .returned (.bool (shownB c)) ∧ w = w' := by
  go_enter Tryz.func71, Tryz.ntmps71
  go_wp2
  all_goals go_ret
  all_goals exact ⟨ret_bool (by rw [shown_eq]; simp_all; try omega), rfl⟩
theorem line_any (c : UInt8) (w : World) : Calls Tryz.prog 82 #[.int .u8 c.toNat] w fun e w' => e = .returned (.bool (lineB c)) ∧ w = w' := by
  go_enter Tryz.func82, Tryz.ntmps82
  go_wp2
  all_goals go_ret
  all_goals exact ⟨ret_bool (by rw [line_eq]), rfl⟩
theorem word_any (c : UInt8) (w : World) : Calls Tryz.prog 122 #[.int .u8 c.toNat] w fun e w' => e = .returned (.bool (wordB c)) ∧ w = w' := by
  have hw : wordB c = (smallB c || greatB c || digitB c) := rfl
  have HW := Lib.hid hw
  clear hw
  have A := fun w => small_any c w
  have B := fun w => great_any c w
  have D := fun w => digit_any c w
  generalize smallB c = x at A HW
  generalize greatB c = y at B HW
  generalize digitB c = z at D HW
  cases x
  · cases y
    · go_enter Tryz.func122, Tryz.ntmps122
      go_wp2_with (first | (go_at_call 121; go_fit (A _); rintro e w' ⟨rfl, rfl⟩) | (go_at_call 123; go_fit (B _); rintro e w' ⟨rfl, rfl⟩) | (go_at_call 124; go_fit (D _); rintro e w' ⟨rfl, rfl⟩))
      go_ret
      exact ⟨ret_bool (by rw [HW.out]; rfl), rfl⟩
    · go_enter Tryz.func122, Tryz.ntmps122
      go_wp2_with (first | (go_at_call 121; go_fit (A _); rintro e w' ⟨rfl, rfl⟩) | (go_at_call 123; go_fit (B _); rintro e w' ⟨rfl, rfl⟩) | (go_at_call 124; go_fit (D _); rintro e w' ⟨rfl, rfl⟩))
      go_ret
      exact ⟨ret_bool (by rw [HW.out]; rfl), rfl⟩
  · go_enter Tryz.func122, Tryz.ntmps122
    go_wp2_with (first | (go_at_call 121; go_fit (A _); rintro e w' ⟨rfl, rfl⟩) | (go_at_call 123; go_fit (B _); rintro e w' ⟨rfl, rfl⟩) | (go_at_call 124; go_fit (D _); rintro e w' ⟨rfl, rfl⟩))
    go_ret
    exact ⟨ret_bool (by rw [HW.out]; rfl), rfl⟩
theorem among_any (t : ByteArray) (c : UInt8) (w : World) : Calls Tryz.prog 80 #[.string t, .int .u8 c.toNat] w fun e w' => e = .returned (.bool (amongB (bl t) c)) ∧ w = w' := by
  have I := fun w => (Tryz.strings_IndexByte t c.toNat w)
  have e : (Int.toNat (c.toNat : Int)).toUInt8 = c := by simp
  simp only [e] at I
  have hi : amongB (bl t) c = decide (0 ≤ Lib.indexByte t.data.toList c) := rfl
  have HI := Lib.hid hi
  clear hi
  generalize Lib.indexByte t.data.toList c = z at I HI
  by_cases hz : 0 ≤ z
  all_goals
    go_enter Tryz.func80, Tryz.ntmps80
    go_wp2_with (go_at_call 120; go_fit (I _); rintro e w' ⟨rfl, rfl⟩)
    go_ret
    exact ⟨ret_bool (by rw [HI.out] <;> simp [hz]), rfl⟩
theorem blank_any (c : UInt8) (w : World) : Calls Tryz.prog 80 #[.string ⟨#[32, 9, 10, 13]⟩, .int .u8 c.toNat] w fun e w' => e = .returned (.bool (blankB c)) ∧ w = w' := by
  rw [← among_blank]; exact among_any ⟨#[32, 9, 10, 13]⟩ c w
theorem sym_any (c : UInt8) (w : World) : Calls Tryz.prog 80 #[.string ⟨#[43, 45, 42, 47, 92, 94, 60, 62, 61, 126, 58, 46, 63, 64, 35, 38, 36]⟩, .int .u8 c.toNat] w fun e w' => e = .returned (.bool (symB c)) ∧ w = w' := by
  rw [← among_sym]; exact among_any ⟨#[43, 45, 42, 47, 92, 94, 60, 62, 61, 126, 58, 46, 63, 64, 35, 38, 36]⟩ c w
theorem solo_any (c : UInt8) (w : World) : Calls Tryz.prog 80 #[.string ⟨#[59, 33]⟩, .int .u8 c.toNat] w fun e w' => e = .returned (.bool (soloB c)) ∧ w = w' := by
  rw [← among_solo]; exact among_any ⟨#[59, 33]⟩ c w
theorem mark_any (c : UInt8) (w : World) : Calls Tryz.prog 80 #[.string ⟨#[40, 41, 91, 93, 123, 125, 44, 124]⟩, .int .u8 c.toNat] w fun e w' => e = .returned (.bool (markB c)) ∧ w = w' := by
  rw [← among_mark]; exact among_any ⟨#[40, 41, 91, 93, 123, 125, 44, 124]⟩ c w
theorem prefix_any (s p : ByteArray) (w : World) : Calls Tryz.prog 127 #[.string s, .string p] w fun e w' => e = .returned (.bool (Lib.hasPrefix (bl s) (bl p))) ∧ w = w' :=
  (Tryz.strings_HasPrefix s p w).mono fun _ _ h => ⟨h.1, h.2.symm⟩

/-- How many bytes of a kind stand from a place on. -/
def twK (p : UInt8 → Bool) (l : List UInt8) (k : Nat) : Nat := ((l.drop k).takeWhile p).length
theorem tw_in {p : UInt8 → Bool} {l : List UInt8} {k : Nat} (h : k < l.length) (hp : p l[k] = true) : twK p l k = twK p l (k + 1) + 1 := by
  unfold twK
  rw [List.drop_eq_getElem_cons h, List.takeWhile_cons, if_pos hp]
  rfl
theorem tw_out {p : UInt8 → Bool} {l : List UInt8} {k : Nat} (h : k < l.length) (hp : p l[k] = false) : twK p l k = 0 := by
  unfold twK
  rw [List.drop_eq_getElem_cons h, List.takeWhile_cons, if_neg (by simp [hp])]
  rfl
theorem tw_end {p : UInt8 → Bool} {l : List UInt8} {k : Nat} (h : l.length ≤ k) : twK p l k = 0 := by
  unfold twK
  rw [List.drop_eq_nil_of_le h]; rfl
end Go.Proofs.YtobdhcaoeholhaaGreatDoor
/- Package lex: as many bytes of a kind as follow; what is passed over; the end. -/
namespace Go.Proofs.YtobdhcaoeholhaaGreatDoor
open Go.RowKit

theorem run_word (s : ByteArray) (i : Nat) (w : World) (hi : i ≤ s.size) (hs : s.size ≤ 140737488351232) : Calls Tryz.prog 81 #[.string s, .int .i64 i, .func (.func 122) #[] #[]] w fun e w' => e = .returned (.int .i64 ((i + twK wordB (bl s) i : Nat) : Int)) ∧ w = w' := by
  have hT : ∃ T, i + twK wordB (bl s) i = T := ⟨_, rfl⟩
  obtain ⟨T, hT⟩ := hT
  rw [hT]
  have HT := Lib.hid hT
  clear hT
  go_enter Tryz.func81, Tryz.ntmps81
  go_wp2
  go_loop [1] (fun v => ∃ k : Nat, k ≤ s.size ∧ v = .int .i64 k ∧ k + twK wordB (bl s) k = T) (fun v => s.size - (intOf v).toNat)
  case atStart => exact ⟨i, hi, rfl, HT.out⟩
  case round =>
    obtain ⟨k, hk, rfl, hkT⟩ := hrel
    have HK := Lib.hid hkT
    clear hkT
    by_cases hlt : k < s.size
    · cases hp : wordB s[k]
      · have he := tw_out (l := bl s) (p := wordB) (k := k) hlt hp
        have HE := Lib.hid he
        clear he
        go_wp2_with (go_at_call 122; go_fit (word_any _ _); rintro e w' ⟨rfl, rfl⟩)
        go_ret
        exact ⟨ret_int (by have := HK.out; rw [HE.out] at this; omega), rfl⟩
      · have he := tw_in (l := bl s) (p := wordB) (k := k) hlt hp
        have HE := Lib.hid he
        clear he
        go_wp2_with (go_at_call 122; go_fit (word_any _ _); rintro e w' ⟨rfl, rfl⟩)
        go_round
        case rel => exact ⟨k + 1, by omega, by go_num, by have := HK.out; rw [HE.out] at this; omega⟩
        case measure => simp [intOf]; omega
    · have he := tw_end (l := bl s) (p := wordB) (k := k) (show s.size ≤ k by omega)
      have HE := Lib.hid he
      clear he
      go_wp2
      go_ret
      exact ⟨ret_int (by have := HK.out; rw [HE.out] at this; omega), rfl⟩
theorem run_digit (s : ByteArray) (i : Nat) (w : World) (hi : i ≤ s.size) (hs : s.size ≤ 140737488351232) : Calls Tryz.prog 81 #[.string s, .int .i64 i, .func (.func 124) #[] #[]] w fun e w' => e = .returned (.int .i64 ((i + twK digitB (bl s) i : Nat) : Int)) ∧ w = w' := by
  have hT : ∃ T, i + twK digitB (bl s) i = T := ⟨_, rfl⟩
  obtain ⟨T, hT⟩ := hT
  rw [hT]
  have HT := Lib.hid hT
  clear hT
  go_enter Tryz.func81, Tryz.ntmps81
  go_wp2
  go_loop [1] (fun v => ∃ k : Nat, k ≤ s.size ∧ v = .int .i64 k ∧ k + twK digitB (bl s) k = T) (fun v => s.size - (intOf v).toNat)
  case atStart => exact ⟨i, hi, rfl, HT.out⟩
  case round =>
    obtain ⟨k, hk, rfl, hkT⟩ := hrel
    have HK := Lib.hid hkT
    clear hkT
    by_cases hlt : k < s.size
    · cases hp : digitB s[k]
      · have he := tw_out (l := bl s) (p := digitB) (k := k) hlt hp
        have HE := Lib.hid he
        clear he
        go_wp2_with (go_at_call 124; go_fit (digit_any _ _); rintro e w' ⟨rfl, rfl⟩)
        go_ret
        exact ⟨ret_int (by have := HK.out; rw [HE.out] at this; omega), rfl⟩
      · have he := tw_in (l := bl s) (p := digitB) (k := k) hlt hp
        have HE := Lib.hid he
        clear he
        go_wp2_with (go_at_call 124; go_fit (digit_any _ _); rintro e w' ⟨rfl, rfl⟩)
        go_round
        case rel => exact ⟨k + 1, by omega, by go_num, by have := HK.out; rw [HE.out] at this; omega⟩
        case measure => simp [intOf]; omega
    · have he := tw_end (l := bl s) (p := digitB) (k := k) (show s.size ≤ k by omega)
      have HE := Lib.hid he
      clear he
      go_wp2
      go_ret
      exact ⟨ret_int (by have := HK.out; rw [HE.out] at this; omega), rfl⟩
theorem run_line (s : ByteArray) (i : Nat) (w : World) (hi : i ≤ s.size) (hs : s.size ≤ 140737488351232) : Calls Tryz.prog 81 #[.string s, .int .i64 i, .func (.func 82) #[] #[]] w fun e w' => e = .returned (.int .i64 ((i + twK lineB (bl s) i : Nat) : Int)) ∧ w = w' := by
  have hT : ∃ T, i + twK lineB (bl s) i = T := ⟨_, rfl⟩
  obtain ⟨T, hT⟩ := hT
  rw [hT]
  have HT := Lib.hid hT
  clear hT
  go_enter Tryz.func81, Tryz.ntmps81
  go_wp2
  go_loop [1] (fun v => ∃ k : Nat, k ≤ s.size ∧ v = .int .i64 k ∧ k + twK lineB (bl s) k = T) (fun v => s.size - (intOf v).toNat)
  case atStart => exact ⟨i, hi, rfl, HT.out⟩
  case round =>
    obtain ⟨k, hk, rfl, hkT⟩ := hrel
    have HK := Lib.hid hkT
    clear hkT
    by_cases hlt : k < s.size
    · cases hp : lineB s[k]
      · have he := tw_out (l := bl s) (p := lineB) (k := k) hlt hp
        have HE := Lib.hid he
        clear he
        go_wp2_with (go_at_call 82; go_fit (line_any _ _); rintro e w' ⟨rfl, rfl⟩)
        go_ret
        exact ⟨ret_int (by have := HK.out; rw [HE.out] at this; omega), rfl⟩
      · have he := tw_in (l := bl s) (p := lineB) (k := k) hlt hp
        have HE := Lib.hid he
        clear he
        go_wp2_with (go_at_call 82; go_fit (line_any _ _); rintro e w' ⟨rfl, rfl⟩)
        go_round
        case rel => exact ⟨k + 1, by omega, by go_num, by have := HK.out; rw [HE.out] at this; omega⟩
        case measure => simp [intOf]; omega
    · have he := tw_end (l := bl s) (p := lineB) (k := k) (show s.size ≤ k by omega)
      have HE := Lib.hid he
      clear he
      go_wp2
      go_ret
      exact ⟨ret_int (by have := HK.out; rw [HE.out] at this; omega), rfl⟩

/-- Does a full stop at this place end a term? -/
def endK (l : List UInt8) (i : Nat) : Bool := l[i]? == some 46 && endB (l.drop (i + 1))
theorem endK_at {l : List UInt8} {i : Nat} (h : i < l.length) : endK l i = (l[i] == 46 && endB (l.drop (i + 1))) := by
  unfold endK
  rw [List.getElem?_eq_getElem h]
  rfl
theorem sub_bl (s : ByteArray) (i : Nat) (h : i ≤ s.size) : bl (s.extract i s.size) = (bl s).drop i := by
  simp only [bl, ByteArray.data_extract, Array.toList_extract, List.extract_eq_take_drop]
  rw [List.take_of_length_le (by simp)]
end Go.Proofs.YtobdhcaoeholhaaGreatDoor
/- Package lex: the end; symbols. -/
namespace Go.Proofs.YtobdhcaoeholhaaGreatDoor
open Go.RowKit
set_option linter.unusedVariables false

theorem sub_ne (s : ByteArray) (i : Nat) (h : i < s.size) : (s.extract i s.size).toList ≠ [] := by
  rw [Lib.toList_data]
  show bl (s.extract i s.size) ≠ []
  rw [sub_bl s i (by omega)]
  intro e
  have h1 := congrArg List.length e
  rw [List.length_drop, bl_len] at h1
  simp at h1
  omega
theorem sub_get (s : ByteArray) (i : Nat) (h : i < s.size) (h0 : 0 < (s.extract i s.size).size) : (s.extract i s.size)[0] = s[i] := by
  simp only [ByteArray.getElem_extract]
  congr 1
theorem sub_size (s : ByteArray) (i : Nat) : (s.extract i s.size).size = s.size - i := by simp
theorem i64_u8 {c d : UInt8} (h : (c.toNat : Int) = (d.toNat : Int)) : c = d := UInt8.toNat_inj.1 (by omega)
theorem ends_other (s : ByteArray) (i : Nat) (w : World) (hi : i < s.size) (hs : s.size ≤ 140737488351232) (h : ((s[i].toNat : Int) != 46) = true) : Calls Tryz.prog 125 #[.string s, .int .i64 i] w fun e w' => e = .returned (.bool false) ∧ w = w' := by
  go_enter Tryz.func125, Tryz.ntmps125
  go_wp2
  go_ret
  exact ⟨rfl, rfl⟩
theorem ends_last (s : ByteArray) (i : Nat) (w : World) (hi : i + 1 = s.size) (hs : s.size ≤ 140737488351232) (h : (((s[i]'(by omega)).toNat : Int) != 46) = false) : Calls Tryz.prog 125 #[.string s, .int .i64 i] w fun e w' => e = .returned (.bool true) ∧ w = w' := by
  go_enter Tryz.func125, Tryz.ntmps125
  go_wp2
  go_ret
  exact ⟨rfl, rfl⟩
theorem ends_next (s : ByteArray) (i : Nat) (w : World) (hi : i + 1 < s.size) (hs : s.size ≤ 140737488351232) (h : (((s[i]'(by omega)).toNat : Int) != 46) = false) : Calls Tryz.prog 125 #[.string s, .int .i64 i] w fun e w' => e = .returned (.bool (blankB (s[i+1]) || s[i+1] == 37)) ∧ w = w' := by
  have hg := sub_get s (i + 1) hi (by rw [sub_size]; omega)
  have hn := sub_ne s (i + 1) hi
  have he : (s.extract (i + 1) s.size).toList.isEmpty = false := by
    cases h : (s.extract (i + 1) s.size).toList with
    | nil => exact absurd h hn
    | cons a r => rfl
  by_cases hd : s[i + 1] = 37
  · have hv : (s[i + 1].toNat : Int) = 37 := by rw [hd]; rfl
    have HD := Lib.hid (show (blankB s[i + 1] || s[i + 1] == 37) = true by rw [hd]; rfl)
    clear hd
    go_enter Tryz.func125, Tryz.ntmps125
    go_wp2_with (go_at_call 80; go_fit (blank_any _ _); rintro e w' ⟨rfl, rfl⟩)
    go_ret
    exact ⟨ret_bool (by rw [HD.out] <;> simp [hv]), rfl⟩
  · have hv : ¬ (s[i + 1].toNat : Int) = 37 := fun e => hd (i64_u8 (by rw [e]; rfl))
    have HD := Lib.hid (show (blankB s[i + 1] || s[i + 1] == 37) = blankB s[i + 1] by rw [beq_false_of_ne hd, Bool.or_false])
    clear hd
    go_enter Tryz.func125, Tryz.ntmps125
    go_wp2_with (go_at_call 80; go_fit (blank_any _ _); rintro e w' ⟨rfl, rfl⟩)
    go_ret
    exact ⟨ret_bool (by rw [HD.out] <;> simp [hv]), rfl⟩
theorem ends_any (s : ByteArray) (i : Nat) (w : World) (hi : i < s.size) (hs : s.size ≤ 140737488351232) : Calls Tryz.prog 125 #[.string s, .int .i64 i] w fun e w' => e = .returned (.bool (endK (bl s) i)) ∧ w = w' := by
  rw [endK_at (l := bl s) hi]
  rw [bl_get s i hi]
  cases h : ((s[i].toNat : Int) != 46)
  · have hc : (s[i] == 46) = true := by
      simp only [bne_eq_false_iff_eq] at h
      exact beq_iff_eq.2 (i64_u8 (by rw [h]; rfl))
    rw [hc, Bool.true_and]
    by_cases hl : i + 1 = s.size
    · have e : (bl s).drop (i + 1) = [] := List.drop_eq_nil_of_le (by rw [bl_len]; omega)
      rw [e]
      exact ends_last s i w hl hs h
    · have hl' : i + 1 < s.size := by omega
      have e : (bl s).drop (i + 1) = s[i + 1] :: (bl s).drop (i + 2) := List.drop_eq_getElem_cons (l := bl s) (by rw [bl_len]; exact hl')
      rw [e]
      exact ends_next s i w hl' hs h
  · have hc : (s[i] == 46) = false := by
      apply beq_false_of_ne
      intro e
      rw [e] at h
      exact absurd h (by decide)
    rw [hc, Bool.false_and]
    exact ends_other s i w hi hs h

/-- As many symbols as follow, from a place on. -/
def symK (l : List UInt8) (k : Nat) : Nat := symRun (l.drop k)
theorem symK_in {l : List UInt8} {k : Nat} (h : k < l.length) (hp : symB l[k] = true) (he : endK l k = false) : symK l k = symK l (k + 1) + 1 := by
  unfold symK
  rw [endK_at h] at he
  rw [List.drop_eq_getElem_cons h, symRun, hp, he]
  rfl
theorem symK_out {l : List UInt8} {k : Nat} (h : k < l.length) (hp : symB l[k] = false) : symK l k = 0 := by
  unfold symK
  rw [List.drop_eq_getElem_cons h, symRun, hp]
  rfl
theorem symK_stop {l : List UInt8} {k : Nat} (h : k < l.length) (he : endK l k = true) : symK l k = 0 := by
  unfold symK
  rw [endK_at h] at he
  rw [List.drop_eq_getElem_cons h, symRun, he, Bool.not_true, Bool.and_false]
  rfl
theorem symK_end {l : List UInt8} {k : Nat} (h : l.length ≤ k) : symK l k = 0 := by
  unfold symK
  rw [List.drop_eq_nil_of_le h]; rfl
theorem symbols_any (s : ByteArray) (i : Nat) (w : World) (hi : i ≤ s.size) (hs : s.size ≤ 140737488351232) : Calls Tryz.prog 126 #[.string s, .int .i64 i] w fun e w' => e = .returned (.int .i64 ((i + symK (bl s) i : Nat) : Int)) ∧ w = w' := by
  have hT : ∃ T, i + symK (bl s) i = T := ⟨_, rfl⟩
  obtain ⟨T, hT⟩ := hT
  rw [hT]
  have HT := Lib.hid hT
  clear hT
  go_enter Tryz.func126, Tryz.ntmps126
  go_wp2
  go_loop [1] (fun v => ∃ k : Nat, k ≤ s.size ∧ v = .int .i64 k ∧ k + symK (bl s) k = T) (fun v => s.size - (intOf v).toNat)
  case atStart => exact ⟨i, hi, rfl, HT.out⟩
  case round =>
    obtain ⟨k, hk, rfl, hkT⟩ := hrel
    have HK := Lib.hid hkT
    clear hkT
    by_cases hlt : k < s.size
    · have E := fun w => ends_any s k w hlt hs
      cases hp : symB s[k]
      · have he := symK_out (l := bl s) (k := k) hlt hp
        have HE := Lib.hid he
        clear he
        go_wp2_with (first | (go_at_call 80; go_fit (sym_any _ _); rintro e w' ⟨rfl, rfl⟩) | (go_at_call 125; go_fit (E _); rintro e w' ⟨rfl, rfl⟩))
        go_ret
        exact ⟨ret_int (by have := HK.out; rw [HE.out] at this; omega), rfl⟩
      · have he1 := symK_in (l := bl s) (k := k) hlt hp
        have he2 := symK_stop (l := bl s) (k := k) hlt
        have H1 := Lib.hid he1
        have H2 := Lib.hid he2
        clear he1 he2
        generalize endK (bl s) k = b at E H1 H2
        cases b
        · go_wp2_with (first | (go_at_call 80; go_fit (sym_any _ _); rintro e w' ⟨rfl, rfl⟩) | (go_at_call 125; go_fit (E _); rintro e w' ⟨rfl, rfl⟩))
          go_round
          case rel => exact ⟨k + 1, by omega, by go_num, by have := HK.out; rw [H1.out (by trivial)] at this; omega⟩
          case measure => simp [intOf]; omega
        · go_wp2_with (first | (go_at_call 80; go_fit (sym_any _ _); rintro e w' ⟨rfl, rfl⟩) | (go_at_call 125; go_fit (E _); rintro e w' ⟨rfl, rfl⟩))
          go_ret
          exact ⟨ret_int (by have := HK.out; rw [H2.out (by trivial)] at this; omega), rfl⟩
    · have he := symK_end (l := bl s) (k := k) (show s.size ≤ k by omega)
      have HE := Lib.hid he
      clear he
      go_wp2
      go_ret
      exact ⟨ret_int (by have := HK.out; rw [HE.out] at this; omega), rfl⟩
end Go.Proofs.YtobdhcaoeholhaaGreatDoor
/- Package lex: what is passed over; what a letter stands for; the value of digits. -/
namespace Go.Proofs.YtobdhcaoeholhaaGreatDoor
open Go.RowKit
set_option linter.unusedVariables false

/-- What is passed over from a place on. -/
def passK (l : List UInt8) (k : Nat) : Nat := passF (l.drop k)
theorem passK_blank {l : List UInt8} {k : Nat} (h : k < l.length) (hp : blankB l[k] = true) : passK l k = passK l (k + 1) + 1 := by
  unfold passK
  rw [List.drop_eq_getElem_cons h, passF_skip (k := 1) (by unfold nextC; rw [if_pos hp]) (Nat.le_refl _), List.drop_succ_cons, List.drop_zero, Nat.add_comm]
theorem passK_line {l : List UInt8} {k : Nat} (h : k < l.length) (hb : blankB l[k] = false) (hp : (l[k] == 37) = true) : passK l k = passK l (k + twK lineB l k) + twK lineB l k := by
  have hl : lineB l[k] = true := by
    have e : l[k] = 37 := by simpa using hp
    rw [e]; rfl
  rw [tw_in h hl]
  unfold passK twK
  rw [List.drop_eq_getElem_cons h]
  rw [passF_skip (k := ((l.drop (k + 1)).takeWhile lineB).length + 1) (by
    unfold nextC
    rw [if_neg (by simp [hb]), if_pos hp]
    rfl) (Nat.le_add_left _ _), ← List.drop_eq_getElem_cons h, List.drop_drop, Nat.add_comm]
theorem passK_stop {l : List UInt8} {k : Nat} (h : k < l.length) (hb : blankB l[k] = false) (hp : (l[k] == 37) = false) : passK l k = 0 := by
  unfold passK
  rw [List.drop_eq_getElem_cons h]
  refine passF_stop (fun j => ?_)
  unfold nextC
  rw [if_neg (by simp [hb]), if_neg (by simp [hp])]
  have nm : ∀ (n : Nat) (s : List UInt8), nameB n s ≠ .skip j := fun n s => by
    unfold nameB
    split
    · intro e; cases e
    · intro e; cases e
  split
  · exact nm _ _
  split
  · intro e; cases e
  split
  · split
    · intro e; cases e
    · intro e; cases e
  split
  · split
    · intro e; cases e
    · split
      · intro e; cases e
      · intro e; cases e
  split
  · intro e; cases e
  split
  · exact nm _ _
  split
  · exact nm _ _
  split
  · exact nm _ _
  split
  · intro e; cases e
  · intro e; cases e
theorem passK_end {l : List UInt8} {k : Nat} (h : l.length ≤ k) : passK l k = 0 := by
  unfold passK
  rw [List.drop_eq_nil_of_le h]; rfl
theorem tw_max (p : UInt8 → Bool) (l : List UInt8) (k : Nat) (h : k ≤ l.length) : k + twK p l k ≤ l.length := by
  have := tw_le p (l.drop k)
  rw [List.length_drop] at this
  unfold twK
  omega
theorem pass_any (s : ByteArray) (i : Nat) (w : World) (hi : i ≤ s.size) (hs : s.size ≤ 140737488351232) : Calls Tryz.prog 52 #[.string s, .int .i64 i] w fun e w' => e = .returned (.int .i64 ((i + passK (bl s) i : Nat) : Int)) ∧ w = w' := by
  have hT : ∃ T, i + passK (bl s) i = T := ⟨_, rfl⟩
  obtain ⟨T, hT⟩ := hT
  rw [hT]
  have HT := Lib.hid hT
  clear hT
  go_enter Tryz.func52, Tryz.ntmps52
  go_wp2
  go_loop [1] (fun v => ∃ k : Nat, k ≤ s.size ∧ v = .int .i64 k ∧ k + passK (bl s) k = T) (fun v => s.size - (intOf v).toNat)
  case atStart => exact ⟨i, hi, rfl, HT.out⟩
  case round =>
    obtain ⟨k, hk, rfl, hkT⟩ := hrel
    have HK := Lib.hid hkT
    clear hkT
    by_cases hlt : k < s.size
    · cases hp : blankB s[k]
      · cases hc : (s[k] == 37)
        · have he := passK_stop (l := bl s) (k := k) hlt hp hc
          have HE := Lib.hid he
          clear he
          have hv : ((s[k].toNat : Int) == 37) = false := by
            apply beq_false_of_ne
            intro e
            have : s[k] = 37 := i64_u8 (by rw [e]; rfl)
            rw [this] at hc
            cases hc
          go_wp2_with (go_at_call 80; go_fit (blank_any _ _); rintro e w' ⟨rfl, rfl⟩)
          go_ret
          exact ⟨ret_int (by have := HK.out; rw [HE.out] at this; omega), rfl⟩
        · have he := passK_line (l := bl s) (k := k) hlt hp hc
          have hl : lineB s[k] = true := by
            have e : s[k] = 37 := by simpa using hc
            rw [e]; rfl
          have ht := tw_in (p := lineB) (l := bl s) (k := k) hlt hl
          have hm := tw_max lineB (bl s) k hk
          rw [bl_len] at hm
          have R := fun w => run_line s k w hk hs
          have hv : (s[k].toNat : Int) = 37 := by
            have e : s[k] = 37 := by simpa using hc
            rw [e]; rfl
          obtain ⟨j, hj⟩ : ∃ j, k + twK lineB (bl s) k = j := ⟨_, rfl⟩
          rw [hj] at R he hm
          have HE := Lib.hid (show j + passK (bl s) j = T by have := HK.out; omega)
          have HJ := Lib.hid (show k < j by omega)
          clear he ht hj HK
          have B := fun w => blank_any 37 w
          rw [show (((37 : UInt8).toNat : Nat) : Int) = 37 from rfl, show blankB 37 = false from rfl] at B
          go_wp2_with (first | (go_at_call 80; go_fit (B _); rintro e w' ⟨rfl, rfl⟩) | (go_at_call 81; go_fit (R _); rintro e w' ⟨rfl, rfl⟩))
          go_round
          case rel => exact ⟨j, hm, rfl, HE.out⟩
          case measure => have := HJ.out; simp [intOf]; omega
      · have he := passK_blank (l := bl s) (k := k) hlt hp
        have HE := Lib.hid he
        clear he
        go_wp2_with (go_at_call 80; go_fit (blank_any _ _); rintro e w' ⟨rfl, rfl⟩)
        go_round
        case rel => exact ⟨k + 1, by omega, by go_num, by have := HK.out; rw [HE.out] at this; omega⟩
        case measure => simp [intOf]; omega
    · have he := passK_end (l := bl s) (k := k) (show s.size ≤ k by omega)
      have HE := Lib.hid he
      clear he
      go_wp2
      go_ret
      exact ⟨ret_int (by have := HK.out; rw [HE.out] at this; omega), rfl⟩

/-- How a byte is written behind a '\'. -/
def shortB (c : UInt8) : Option UInt8 := if c == 10 then some 110 else if c == 9 then some 116 else if c == 92 then some 92 else if c == 39 then some 39 else none
theorem short_some (c d : UInt8) (w : World) (h : shortB c = some d) : Calls Tryz.prog 70 #[.int .u8 c.toNat] w fun e w' => e = .returned (.tuple #[.int .u8 d.toNat, .bool true]) ∧ w = w' := by
  unfold shortB at h
  split at h
  · rename_i hc
    obtain rfl : c = 10 := by simpa using hc
    cases h
    go_enter Tryz.func70, Tryz.ntmps70
    go_wp2
    go_ret2
    exact ⟨rfl, rfl⟩
  split at h
  · rename_i hc
    obtain rfl : c = 9 := by simpa using hc
    cases h
    go_enter Tryz.func70, Tryz.ntmps70
    go_wp2
    go_ret2
    exact ⟨rfl, rfl⟩
  split at h
  · rename_i hc
    obtain rfl : c = 92 := by simpa using hc
    cases h
    go_enter Tryz.func70, Tryz.ntmps70
    go_wp2
    go_ret2
    exact ⟨rfl, rfl⟩
  split at h
  · rename_i hc
    obtain rfl : c = 39 := by simpa using hc
    cases h
    go_enter Tryz.func70, Tryz.ntmps70
    go_wp2
    go_ret2
    exact ⟨rfl, rfl⟩
  · cases h
theorem u8_ne {c d : UInt8} (h : (c == d) = false) : ((c.toNat : Int) == (d.toNat : Int)) = false := by
  apply beq_false_of_ne
  intro e
  rw [i64_u8 e] at h
  simp at h
theorem short_none (c : UInt8) (w : World) (h : shortB c = none) : Calls Tryz.prog 70 #[.int .u8 c.toNat] w fun e w' => e = .returned (.tuple #[.int .u8 0, .bool false]) ∧ w = w' := by
  unfold shortB at h
  cases h1 : (c == 10)
  · cases h2 : (c == 9)
    · cases h3 : (c == 92)
      · cases h4 : (c == 39)
        · have g1 := u8_ne h1
          have g2 := u8_ne h2
          have g3 := u8_ne h3
          have g4 := u8_ne h4
          have e1 : ((10 : UInt8).toNat : Int) = 10 := rfl
          have e2 : ((9 : UInt8).toNat : Int) = 9 := rfl
          have e3 : ((92 : UInt8).toNat : Int) = 92 := rfl
          have e4 : ((39 : UInt8).toNat : Int) = 39 := rfl
          rw [e1] at g1
          rw [e2] at g2
          rw [e3] at g3
          rw [e4] at g4
          clear h h1 h2 h3 h4 e1 e2 e3 e4
          go_enter Tryz.func70, Tryz.ntmps70
          go_wp2
          go_ret2
          exact ⟨rfl, rfl⟩
        · rw [h1, h2, h3, h4] at h; cases h
      · rw [h1, h2, h3] at h; cases h
    · rw [h1, h2] at h; cases h
  · rw [h1] at h; cases h
end Go.Proofs.YtobdhcaoeholhaaGreatDoor
/- How digits read as a number: the value, or too great. Nothing here is walked. -/
namespace Go.Proofs.YtobdhcaoeholhaaGreatDoor

theorem num_mono : ∀ (l : List UInt8) (a : Nat), a ≤ l.foldl (fun n c => n * 10 + (c.toNat - 48)) a
  | [], a => Nat.le_refl _
  | c :: r, a => by
    rw [List.foldl_cons]
    exact Nat.le_trans (by omega) (num_mono r _)
theorem digit_nat {c : UInt8} (h : digitB c = true) : 48 ≤ c.toNat ∧ c.toNat ≤ 57 := by
  rw [digit_eq] at h
  simp at h
  omega
theorem uint_val : ∀ (l : List UInt8) (a : Nat), l.all digitB = true → a < 18446744073709551616 →
    Lib.parseUint10 a l = if l.foldl (fun n c => n * 10 + (c.toNat - 48)) a < 18446744073709551616 then .ok (l.foldl (fun n c => n * 10 + (c.toNat - 48)) a) else .range
  | [], a, _, ha => by
    rw [Lib.parseUint10, List.foldl_nil, if_pos ha]
  | c :: r, a, h, ha => by
    simp only [List.all_cons, Bool.and_eq_true] at h
    have hm := num_mono r (a * 10 + (c.toNat - 48))
    rw [Lib.parseUint10, if_pos (digit_nat h.1), List.foldl_cons]
    by_cases h1 : 1844674407370955162 ≤ a
    · rw [if_pos h1, if_neg (by omega)]
    rw [if_neg h1]
    by_cases h2 : 18446744073709551616 ≤ a * 10 + (c.toNat - 48)
    · rw [if_pos h2, if_neg (by omega)]
    rw [if_neg h2]
    exact uint_val r _ h.2 (by omega)
theorem int_val {l : List UInt8} (h : l.all digitB = true) (hne : l ≠ []) : Lib.parseIntB 64 l = if numB l ≤ 9223372036854775807 then .ok (numB l : Int) else .range := by
  rw [Lib.parseIntB_64]
  cases l with
  | nil => exact absurd rfl hne
  | cons c r =>
    have hd := digit_nat (List.all_eq_true.1 h c (by simp))
    have hu := uint_val (c :: r) 0 h (by omega)
    unfold numB
    obtain ⟨v, hv⟩ : ∃ v, (c :: r).foldl (fun n c => n * 10 + (c.toNat - 48)) 0 = v := ⟨_, rfl⟩
    rw [hv] at hu ⊢
    have hm : Lib.parseMag (c :: r) = if v < 18446744073709551616 then .ok v else .range := by
      unfold Lib.parseMag
      rw [if_neg (by simp), hu]
    simp only [Lib.atoiAll]
    rw [if_neg (by omega), hm]
    by_cases h1 : v < 18446744073709551616
    · rw [if_pos h1]
      simp only
      by_cases h2 : v ≤ 9223372036854775807
      · rw [if_neg (by omega), if_neg (by omega), if_neg (by omega), if_pos h2]
      · rw [if_pos (by omega), if_neg h2]
    · rw [if_neg h1, if_neg (by omega)]
end Go.Proofs.YtobdhcaoeholhaaGreatDoor
/- Package lex: what a letter behind a '\' stands for; the value of digits; rows of bytes. -/
namespace Go.Proofs.YtobdhcaoeholhaaGreatDoor
open Go.RowKit
set_option linter.unusedVariables false

def escH : List UInt8 → Option UInt8
  | [] => none
  | d :: _ => escB d
theorem meant_empty (w : World) : Calls Tryz.prog 128 #[.string ⟨#[]⟩] w fun e w' => e = .returned (.tuple #[.int .u8 0, .bool false]) ∧ w = w' := by
  go_enter Tryz.func128, Tryz.ntmps128
  go_wp2
  go_ret2
  exact ⟨rfl, rfl⟩
theorem ne_of_pos {q : ByteArray} (h : 0 < q.size) : q.toList.isEmpty = false := by
  rw [Lib.toList_data]
  have h2 : q.data.toList.length = q.size := rfl
  cases hq : q.data.toList with
  | nil => rw [hq] at h2; simp at h2; omega
  | cons a r => rfl
theorem meant_some (q : ByteArray) (d : UInt8) (w : World) (h : escH (bl q) = some d) (hs : q.size ≤ 140737488351232) : Calls Tryz.prog 128 #[.string q] w fun e w' => e = .returned (.tuple #[.int .u8 d.toNat, .bool true]) ∧ w = w' := by
  have hp : 0 < q.size := by
    rcases Nat.eq_zero_or_pos q.size with h0 | h0
    · rw [bl_nil h0] at h; cases h
    · exact h0
  have hh : escB q[0] = some d := by
    have e : bl q = q[0] :: (bl q).drop 1 := by
      have := List.drop_eq_getElem_cons (l := bl q) (i := 0) hp
      rw [List.drop_zero] at this
      exact this
    rw [e] at h
    exact h
  have hne := ne_of_pos hp
  clear h
  unfold escB at hh
  split at hh
  · rename_i hc
    have hv : (q[0].toNat : Int) = 110 := by rw [show q[0] = 110 by simpa using hc]; rfl
    cases hh
    clear hc
    go_enter Tryz.func128, Tryz.ntmps128
    go_wp2
    go_ret2
    exact ⟨rfl, rfl⟩
  split at hh
  · rename_i hc
    have hv : (q[0].toNat : Int) = 116 := by rw [show q[0] = 116 by simpa using hc]; rfl
    cases hh
    clear hc
    go_enter Tryz.func128, Tryz.ntmps128
    go_wp2
    go_ret2
    exact ⟨rfl, rfl⟩
  split at hh
  · rename_i hc
    have hv : (q[0].toNat : Int) = 92 := by rw [show q[0] = 92 by simpa using hc]; rfl
    cases hh
    clear hc
    go_enter Tryz.func128, Tryz.ntmps128
    go_wp2
    go_ret2
    exact ⟨rfl, rfl⟩
  split at hh
  · rename_i hc
    have hv : (q[0].toNat : Int) = 39 := by rw [show q[0] = 39 by simpa using hc]; rfl
    cases hh
    clear hc
    go_enter Tryz.func128, Tryz.ntmps128
    go_wp2
    go_ret2
    exact ⟨rfl, rfl⟩
  · cases hh
theorem meant_none (q : ByteArray) (w : World) (h : escH (bl q) = none) (hs : q.size ≤ 140737488351232) : Calls Tryz.prog 128 #[.string q] w fun e w' => e = .returned (.tuple #[.int .u8 0, .bool false]) ∧ w = w' := by
  by_cases h0 : q.size = 0
  · obtain rfl : q = ⟨#[]⟩ := bl_inj (bl_nil h0)
    exact meant_empty w
  have hp : 0 < q.size := by omega
  have hh : escB q[0] = none := by
    have e : bl q = q[0] :: (bl q).drop 1 := by
      have := List.drop_eq_getElem_cons (l := bl q) (i := 0) hp
      rw [List.drop_zero] at this
      exact this
    rw [e] at h
    exact h
  have hne := ne_of_pos hp
  clear h
  unfold escB at hh
  cases h1 : (q[0] == 110)
  · cases h2 : (q[0] == 116)
    · cases h3 : (q[0] == 92)
      · cases h4 : (q[0] == 39)
        · have g1 := u8_ne h1
          have g2 := u8_ne h2
          have g3 := u8_ne h3
          have g4 := u8_ne h4
          have e1 : ((110 : UInt8).toNat : Int) = 110 := rfl
          have e2 : ((116 : UInt8).toNat : Int) = 116 := rfl
          have e3 : ((92 : UInt8).toNat : Int) = 92 := rfl
          have e4 : ((39 : UInt8).toNat : Int) = 39 := rfl
          rw [e1] at g1
          rw [e2] at g2
          rw [e3] at g3
          rw [e4] at g4
          clear hh h1 h2 h3 h4 e1 e2 e3 e4
          go_enter Tryz.func128, Tryz.ntmps128
          go_wp2
          go_ret2
          exact ⟨rfl, rfl⟩
        · rw [h1, h2, h3, h4] at hh; cases hh
      · rw [h1, h2, h3] at hh; cases hh
    · rw [h1, h2] at hh; cases hh
  · rw [h1] at hh; cases hh

theorem gRange : Tryz.prog.globalNamed "strconv.ErrRange" = some 2 := by kernel_rfl
/-- strconv's ErrRange is an error. -/
def Err (w : World) : Prop := ∃ tp p, w.var? Tryz.prog "strconv.ErrRange" = some #[.iface tp p]
theorem Err.ext {w w' : World} (h : Err w) (hb : Below w.heap.size w w') : Err w' := by
  obtain ⟨tp, p, h⟩ := h
  exact ⟨tp, p, Joins.var_stays gRange h hb (Nat.le_refl _)⟩
theorem parseInt_ok (s : ByteArray) {w : World} {v : Int} (hs : s.size ≤ 140737488351232) (h : Lib.parseIntB 64 (bl s) = .ok v) : Calls Tryz.prog 129 #[.string s, .int .i64 10, .int .i64 64] w fun e w' => e = .returned (.tuple #[.int .i64 v, .nilIface]) ∧ Below w.heap.size w w' :=
  (Tryz.strconv_ParseInt_10_at64_ok s (by omega) v h w).mono fun e w' h => ⟨h.1, by
    rcases h.2 with rfl | ⟨t, rfl⟩
    · exact Below.refl _ _
    · exact Lib.bytesWorld_below _ _ _⟩
theorem parseInt_range (s : ByteArray) {w : World} (he : Err w) (hs : s.size ≤ 140737488351232) (h : Lib.parseIntB 64 (bl s) = .range) : Calls Tryz.prog 129 #[.string s, .int .i64 10, .int .i64 64] w fun e w' => (∃ (x : Int) (t : TypeId) (q : Value), e = .returned (.tuple #[.int .i64 x, .iface t q])) ∧ Below w.heap.size w w' := by
  obtain ⟨tp, p, he⟩ := he
  refine (Tryz.strconv_ParseInt_10_at64_range_var s (by omega) h tp p w he).mono fun e w' h => ?_
  obtain ⟨N, h1, _, _, h4⟩ := h
  exact ⟨⟨_, _, _, h1⟩, h4⟩
theorem value_ok (s : ByteArray) {w : World} (hs : s.size ≤ 140737488351232) (hd : (bl s).all digitB = true) (hne : bl s ≠ []) (hv : numB (bl s) ≤ 9223372036854775807) : Calls Tryz.prog 85 #[.string s] w fun e w' => e = .returned (.tuple #[.int .i64 (numB (bl s)), .int .i64 0]) ∧ Below w.heap.size w w' := by
  have hp := int_val hd hne
  rw [if_pos hv] at hp
  have P := fun w => @parseInt_ok s w _ hs hp
  clear hp hd hne hv
  generalize numB (bl s) = n at P
  go_enter Tryz.func85, Tryz.ntmps85
  (go_wp2_with fail; go_fit (P _); rintro e w1 ⟨rfl, b1⟩)
  go_wp2
  go_ret2
  exact ⟨rfl, b1⟩
theorem value_over (s : ByteArray) {w : World} (he : Err w) (hs : s.size ≤ 140737488351232) (hd : (bl s).all digitB = true) (hne : bl s ≠ []) (hv : ¬ numB (bl s) ≤ 9223372036854775807) : Calls Tryz.prog 85 #[.string s] w fun e w' => e = .returned (.tuple #[.int .i64 0, .int .i64 3]) ∧ Below w.heap.size w w' := by
  have hp := int_val hd hne
  rw [if_neg hv] at hp
  have P := fun w h => @parseInt_range s w h hs hp
  clear hp hd hne hv
  go_enter Tryz.func85, Tryz.ntmps85
  (go_wp2_with fail; go_fit (P _ he); rintro e w1 ⟨⟨x, t, q, rfl⟩, b1⟩)
  go_wp2
  go_ret2
  exact ⟨rfl, b1⟩

/-- A row of bytes of the call's own. -/
def bytesV (l : List UInt8) : List Value := l.map fun c => .int .u8 (c.toNat : Int)
def RowB (w : World) (base : Nat) (v : Value) (l : List UInt8) : Prop := w.ownsRow base 5 1 v l.length (bytesV l)
theorem RowB.nil (w : World) (base : Nat) : RowB w base (.slice none 0 0) [] := World.ownsRow_nil _ _ _ _
theorem conv_row {w : World} {base : Nat} {v : Value} {l : List UInt8} (h : RowB w base v l) : (convert 97 9 v).run Tryz.prog w = .ok (.string ⟨l.toArray⟩) w := by
  rcases h.2 with ⟨rfl, h0⟩ | ⟨g, cap, cur, rfl, hg, hcur, h1, h2, h3, h4⟩
  · obtain rfl : l = [] := List.length_eq_zero_iff.1 h0
    have := run_convert_bytes_string (P := Tryz.prog) w 97 9 5 none 0 0 Tryz.underlying97 Tryz.underlying5 Tryz.underlying9
    rw [this]
    rfl
  · refine run_convert_bytes_back (P := Tryz.prog) w 97 9 5 ⟨g, 0, none⟩ cap l Tryz.underlying97 Tryz.underlying5 Tryz.underlying9 (fun j hj => ?_)
    rw [add_plain]
    simp only [World.cell?, hcur, Option.isSome_none]
    have h5 : (cur.toList.take (l.length * 1))[j]? = some (.int .u8 (l[j].toNat : Int)) := by
      rw [h4]
      simp [bytesV, List.getElem?_eq_getElem hj]
    rw [List.getElem?_take] at h5
    split at h5
    · simpa using h5
    · cases h5
end Go.Proofs.YtobdhcaoeholhaaGreatDoor
