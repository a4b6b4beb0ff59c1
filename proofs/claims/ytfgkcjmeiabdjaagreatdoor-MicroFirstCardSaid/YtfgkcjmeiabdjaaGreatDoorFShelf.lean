/-
  DERIVED: THE SHELF's CONTRACTS AT THIS DUMP, IN PLAIN WORDS (tools/lay-plain.mjs out of 'TryzSmall.lean', which tools/lay-shelf.mjs wrote): THE SAME DECLARATIONS UNDER THE SAME NAMES: 'import', 'namespace', 'open', 'def', 'theorem' AND NOTHING ELSE: no command of the shelf's: FOR A HAND-IN. Each laying: the table of numbers ('.._ren') and one theorem, a field a fact of the dump's own or the kernel's comparison; each contract: ONE APPLICATION.
-/
import Derived.Shelf.Strconv.ParseIntEmpty
import Derived.Shelf.LaysM
import Derived.Shelf.Strconv.Clone
import Derived.Shelf.Strconv.SyntaxError
import Derived.Shelf.LaysC
import Derived.Shelf.Strconv.ToError
import Derived.Shelf.Strconv.Lower
import Derived.Shelf.Strconv.ParseUint10
import Derived.Shelf.Strconv.ParseUint10Empty
import Derived.Shelf.Strconv.ParseUint10Any
import Derived.Shelf.Strconv.ParseInt10
import Derived.Shelf.Strconv.RangeError
import Derived.Shelf.Strconv.ToErrorRange
import Derived.Shelf.Strconv.ParseUintEmpty
import Derived.Shelf.Strconv.ParseUint10b64
import Derived.Shelf.Strconv.ParseUint10b32
import Derived.Shelf.Strconv.ParseUint10b16
import Derived.Shelf.Strconv.ParseUint10b8
import Derived.Shelf.Strconv.ParseUint10At
import Derived.Shelf.Strconv.ParseInt10At64
import Derived.Shelf.Strconv.ParseInt10At32
import Derived.Shelf.Strconv.ParseInt10At16
import Derived.Shelf.Strconv.ParseInt10At8
import Derived.Shelf.Strconv.ParseInt10All
import Derived.Shelf.Strconv.ParseIntPublic10
import Derived.Shelf.Strconv.ErrVarParseInt
import Derived.Test.YtfgkcjmeiabdjaaGreatDoorProg
namespace Go.Proofs
open Go.Shelf
def Tryz.laysC174_ren:Go.Shelf.Ren:=⟨fun | 174=>195 | 247=>210 | 245=>211 | 287=>214 | 279=>215 | 280=>216 | 281=>217 | 282=>218 | 321=>220 | 322=>221 | 316=>222 | 171=>224 | 205=>223 | 243=>226 | 246=>228 | 283=>231 | 284=>232 | 285=>233 | 286=>234 | 129=>236 | 317=>235 | 318=>237 | 319=>238 | 320=>239 | 337=>240 | 338=>241 | n=>n,fun | 9=>9 | 3=>3 | 2=>2 | 75=>30 | 85=>213 | 4=>4 | 167=>236 | 5=>5 | 53=>216 | 175=>237 | 46=>239 | 168=>240 | 37=>244 | 0=>0 | 210=>248 | 21=>21 | 127=>251 | 145=>254 | 143=>252 | 171=>256 | 173=>259 | 212=>262 | 51=>33 | 20=>20 | 213=>263 | 232=>266 | 233=>267 | 80=>268 | n=>n,fun | 15=>1 | 16=>2 | 17=>3 | 18=>4 | 19=>5 | n=>n⟩
theorem Tryz.laysC174:Go.Proofs.LaysC.n174 Tryz.prog Tryz.laysC174_ren:={
  mixed:=by kernel_rfl
  f129:=Tryz.func236.trans (congrArg some (by kernel_rfl))
  f171:=Tryz.func224.trans (congrArg some (by kernel_rfl))
  f174:=Tryz.func195.trans (congrArg some (by kernel_rfl))
  f205:=Tryz.func223.trans (congrArg some (by kernel_rfl))
  f243:=Tryz.func226.trans (congrArg some (by kernel_rfl))
  f245:=Tryz.func211.trans (congrArg some (by kernel_rfl))
  f246:=Tryz.func228.trans (congrArg some (by kernel_rfl))
  f247:=Tryz.func210.trans (congrArg some (by kernel_rfl))
  f279:=Tryz.func215.trans (congrArg some (by kernel_rfl))
  f280:=Tryz.func216.trans (congrArg some (by kernel_rfl))
  f281:=Tryz.func217.trans (congrArg some (by kernel_rfl))
  f282:=Tryz.func218.trans (congrArg some (by kernel_rfl))
  f283:=Tryz.func231.trans (congrArg some (by kernel_rfl))
  f284:=Tryz.func232.trans (congrArg some (by kernel_rfl))
  f285:=Tryz.func233.trans (congrArg some (by kernel_rfl))
  f286:=Tryz.func234.trans (congrArg some (by kernel_rfl))
  f287:=Tryz.func214.trans (congrArg some (by kernel_rfl))
  f316:=Tryz.func222.trans (congrArg some (by kernel_rfl))
  f317:=Tryz.func235.trans (congrArg some (by kernel_rfl))
  f318:=Tryz.func237.trans (congrArg some (by kernel_rfl))
  f319:=Tryz.func238.trans (congrArg some (by kernel_rfl))
  f320:=Tryz.func239.trans (congrArg some (by kernel_rfl))
  f321:=Tryz.func220.trans (congrArg some (by kernel_rfl))
  f322:=Tryz.func221.trans (congrArg some (by kernel_rfl))
  f337:=Tryz.func240.trans (congrArg some (by kernel_rfl))
  f338:=Tryz.func241.trans (congrArg some (by kernel_rfl))
  t0:=Tryz.underlying0
  a0:=Tryz.isAgg0
  z0:=Tryz.sizeOf0
  v0:=Tryz.zeroValue0
  t2:=Tryz.underlying2
  a2:=Tryz.isAgg2
  z2:=Tryz.sizeOf2
  v2:=Tryz.zeroValue2
  t3:=Tryz.underlying3
  a3:=Tryz.isAgg3
  z3:=Tryz.sizeOf3
  v3:=Tryz.zeroValue3
  t4:=Tryz.underlying4
  a4:=Tryz.isAgg4
  z4:=Tryz.sizeOf4
  v4:=Tryz.zeroValue4
  t5:=Tryz.underlying5
  a5:=Tryz.isAgg5
  z5:=Tryz.sizeOf5
  v5:=Tryz.zeroValue5
  t9:=Tryz.underlying9
  a9:=Tryz.isAgg9
  z9:=Tryz.sizeOf9
  v9:=Tryz.zeroValue9
  t20:=Tryz.underlying20
  a20:=Tryz.isAgg20
  z20:=Tryz.sizeOf20
  v20:=Tryz.zeroValue20
  t21:=Tryz.underlying21
  a21:=Tryz.isAgg21
  z21:=Tryz.sizeOf21
  v21:=Tryz.zeroValue21
  t37:=Tryz.underlying244
  a37:=Tryz.isAgg244
  z37:=Tryz.sizeOf244
  v37:=Tryz.zeroValue244
  t46:=Tryz.underlying239
  a46:=Tryz.isAgg239
  z46:=Tryz.sizeOf239
  v46:=Tryz.zeroValue239
  t51:=Tryz.underlying33
  a51:=Tryz.isAgg33
  z51:=Tryz.sizeOf33
  v51:=Tryz.zeroValue33
  t53:=Tryz.underlying216
  a53:=Tryz.isAgg216
  z53:=Tryz.sizeOf216
  v53:=Tryz.zeroValue216
  t75:=Tryz.underlying30
  a75:=Tryz.isAgg30
  z75:=Tryz.sizeOf30
  v75:=Tryz.zeroValue30
  t85:=Tryz.underlying213
  a85:=Tryz.isAgg213
  z85:=Tryz.sizeOf213
  v85:=Tryz.zeroValue213
  t127:=Tryz.underlying251
  a127:=Tryz.isAgg251
  z127:=Tryz.sizeOf251
  v127:=Tryz.zeroValue251
  t143:=Tryz.underlying252
  a143:=Tryz.isAgg252
  z143:=Tryz.sizeOf252
  v143:=Tryz.zeroValue252
  t145:=Tryz.underlying254
  a145:=Tryz.isAgg254
  z145:=Tryz.sizeOf254
  v145:=Tryz.zeroValue254
  t167:=Tryz.underlying236
  a167:=Tryz.isAgg236
  z167:=Tryz.sizeOf236
  v167:=Tryz.zeroValue236
  t168:=Tryz.underlying240
  a168:=Tryz.isAgg240
  z168:=Tryz.sizeOf240
  v168:=Tryz.zeroValue240
  t171:=Tryz.underlying256
  a171:=Tryz.isAgg256
  z171:=Tryz.sizeOf256
  v171:=Tryz.zeroValue256
  t173:=Tryz.underlying259
  a173:=Tryz.isAgg259
  z173:=Tryz.sizeOf259
  v173:=Tryz.zeroValue259
  t175:=Tryz.underlying237
  a175:=Tryz.isAgg237
  z175:=Tryz.sizeOf237
  v175:=Tryz.zeroValue237
  t210:=Tryz.underlying248
  a210:=Tryz.isAgg248
  z210:=Tryz.sizeOf248
  v210:=Tryz.zeroValue248
  t212:=Tryz.underlying262
  a212:=Tryz.isAgg262
  z212:=Tryz.sizeOf262
  v212:=Tryz.zeroValue262
  t213:=Tryz.underlying263
  a213:=Tryz.isAgg263
  z213:=Tryz.sizeOf263
  t232:=Tryz.underlying266
  a232:=Tryz.isAgg266
  z232:=Tryz.sizeOf266
  v232:=Tryz.zeroValue266
  t233:=Tryz.underlying267
  a233:=Tryz.isAgg267
  z233:=Tryz.sizeOf267
  v233:=Tryz.zeroValue267
  g15:=by kernel_rfl
  g16:=by kernel_rfl
  g17:=by kernel_rfl
  g18:=by kernel_rfl
  g19:=by kernel_rfl
  t80:=Tryz.underlying268
  a80:=Tryz.isAgg268
  z80:=Tryz.sizeOf268
  v80:=Tryz.zeroValue268
  i0:=by kernel_rfl
  i2:=by kernel_rfl
  i3:=by kernel_rfl
  i4:=by kernel_rfl
  i5:=by kernel_rfl
  i9:=by kernel_rfl
  i20:=by kernel_rfl
  i21:=by kernel_rfl
  i37:=by kernel_rfl
  i46:=by kernel_rfl
  i51:=by kernel_rfl
  i53:=by kernel_rfl
  i75:=by kernel_rfl
  i80:=by kernel_rfl
  i85:=by kernel_rfl
  i127:=by kernel_rfl
  i143:=by kernel_rfl
  i145:=by kernel_rfl
  i167:=by kernel_rfl
  i168:=by kernel_rfl
  i171:=by kernel_rfl
  i173:=by kernel_rfl
  i175:=by kernel_rfl
  i210:=by kernel_rfl
  i212:=by kernel_rfl
  i232:=by kernel_rfl
  i233:=by kernel_rfl
  m15:=by kernel_rfl
  m16:=by kernel_rfl
  m17:=by kernel_rfl
  m18:=by kernel_rfl
  m19:=by kernel_rfl
  c0:=by kernel_rfl
  c2:=by kernel_rfl
  c3:=by kernel_rfl
  c4:=by kernel_rfl
  c5:=by kernel_rfl
  c9:=by kernel_rfl
  c20:=by kernel_rfl
  c21:=by kernel_rfl
  c37:=by kernel_rfl
  c46:=by kernel_rfl
  c51:=by kernel_rfl
  c53:=by kernel_rfl
  c75:=by kernel_rfl
  c80:=by kernel_rfl
  c85:=by kernel_rfl
  c127:=by kernel_rfl
  c143:=by kernel_rfl
  c145:=by kernel_rfl
  c167:=by kernel_rfl
  c168:=by kernel_rfl
  c171:=by kernel_rfl
  c173:=by kernel_rfl
  c175:=by kernel_rfl
  c210:=by kernel_rfl
  c212:=by kernel_rfl
  c213:=by kernel_rfl
  c232:=by kernel_rfl
  c233:=by kernel_rfl }
open Go.RowKit in
theorem Tryz.strconv_ParseInt_10_at64_ok (s:ByteArray) (hmax:s.size≤9223372036854775806) (v:Int) (h:Lib.parseIntB 64 s.data.toList=.ok v) (w:World) :
    Calls Tryz.prog 195 #[.string s,.int .i64 10,.int .i64 64] w fun e w'=>e=.returned (.tuple #[.int .i64 v,.nilIface])∧(w'=w ∨ ∃ t,w'=Lib.bytesWorld w 5 t):=Any.strconv_ParseInt_10_at64_ok Tryz.laysC174 s hmax v h w
open Go.RowKit in
theorem Tryz.strconv_ParseInt_10_at64_range_var (s : ByteArray) (hlim : s.size ≤ 281474976710656) (h : Lib.parseIntB 64 s.data.toList = .range) (tp : TypeId) (p : Value) (w : World) (hvar : w.var? Tryz.prog "strconv.ErrRange" = some #[.iface tp p]) :
    Calls Tryz.prog 195 #[.string s,.int .i64 10,.int .i64 64] w fun e w'=>∃ N,e=.returned (.tuple #[.int .i64 (Lib.intSat 64 s.data.toList),.iface 240 (.pointer (some ⟨N,0,none⟩))])∧w.heap.size≤N∧w'.heap[N]?=some (.cells #[.string ⟨#[80,97,114,115,101,73,110,116]⟩,.string s,.iface tp p] 248 (0,0))∧Below w.heap.size w w':=Any.strconv_ParseInt_10_at64_range_var Tryz.laysC174 s hlim h tp p w hvar
end Go.Proofs
