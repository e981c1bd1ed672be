import Derived.Test.YtldaocpojcfljaaGreatDoorC02
import Derived.Shelf.Small.Strs
import Derived.Shelf.Strings.Prefix
import Derived.Shelf.Strconv.Itoa4
import Derived.Shelf.Strconv.ErrVarParseInt
import Derived.WalkKit
import Derived.WalkSpells
import Derived.WalkLawsBesides
import Derived.Deep.QuietTactic
import Derived.BigQuiet
set_option maxRecDepth 100000
set_option maxHeartbeats 4000000
namespace Go.Proofs.YtldaocpojcfljaaGreatDoor
theorem hZ {p : Prop} (h : p) : Go.RowKit.Hid p := h
open Tryz hiding parts
end Go.Proofs.YtldaocpojcfljaaGreatDoor
namespace Go.Proofs
open Tryz
open Go.Shelf
def Tryz.lays137_ren:Go.Shelf.Ren:=⟨fun|137=>245|217=>300|266=>341|n=>n,fun|n=>n,fun|n=>n⟩
theorem Tryz.lays137:Go.Proofs.Lays.n137 prog Tryz.lays137_ren:={
 mixed:=by kernel_rfl
 f137:=func245.trans (congrArg some (by kernel_rfl))
 f217:=func300.trans (congrArg some (by kernel_rfl))
 f266:=func341.trans (congrArg some (by kernel_rfl))
 t3:=underlying3
 a3:=Tryz.isAgg3
 z3:=Tryz.sizeOf3
 v3:=Tryz.zeroValue3
 t5:=underlying5
 a5:=Tryz.isAgg5
 z5:=Tryz.sizeOf5
 v5:=Tryz.zeroValue5
 t9:=underlying9
 a9:=Tryz.isAgg9
 z9:=Tryz.sizeOf9
 v9:=Tryz.zeroValue9}
open Go.RowKit in
theorem Tryz.strings_IndexByte (s:ByteArray) (c:Int) (w:World):
  Calls prog 245 #[.string s,.int .u8 c] w fun e w'=>e=.returned (.int .i64 (Lib.indexByte s.data.toList c.toNat.toUInt8))∧w'=w:=Any.strings_IndexByte Tryz.lays137 s c w
def Tryz.laysM173_ren:Go.Shelf.Ren:=⟨fun|129=>94|173=>218|246=>41|283=>63|284=>64|285=>65|286=>66|317=>93|318=>95|319=>96|320=>97|337=>159|338=>160|n=>n,fun|37=>128|46=>194|51=>191|53=>146|171=>145|173=>149|212=>190|213=>192|232=>344|233=>345|n=>n,fun|17=>0|18=>1|19=>2|n=>n⟩
theorem Tryz.laysM173:Go.Proofs.LaysM.n173 prog Tryz.laysM173_ren:={
 mixed:=by kernel_rfl
 f129:=func94.trans (congrArg some (by kernel_rfl))
 f173:=func218.trans (congrArg some (by kernel_rfl))
 f246:=func41.trans (congrArg some (by kernel_rfl))
 f283:=func63.trans (congrArg some (by kernel_rfl))
 f284:=func64.trans (congrArg some (by kernel_rfl))
 f285:=func65.trans (congrArg some (by kernel_rfl))
 f286:=func66.trans (congrArg some (by kernel_rfl))
 f317:=func93.trans (congrArg some (by kernel_rfl))
 f318:=func95.trans (congrArg some (by kernel_rfl))
 f319:=func96.trans (congrArg some (by kernel_rfl))
 f320:=func97.trans (congrArg some (by kernel_rfl))
 f337:=func159.trans (congrArg some (by kernel_rfl))
 f338:=func160.trans (congrArg some (by kernel_rfl))
 t0:=underlying0
 a0:=Tryz.isAgg0
 z0:=Tryz.sizeOf0
 v0:=Tryz.zeroValue0
 t2:=underlying2
 a2:=Tryz.isAgg2
 z2:=Tryz.sizeOf2
 v2:=Tryz.zeroValue2
 t3:=underlying3
 a3:=Tryz.isAgg3
 z3:=Tryz.sizeOf3
 v3:=Tryz.zeroValue3
 t4:=underlying4
 a4:=Tryz.isAgg4
 z4:=Tryz.sizeOf4
 v4:=Tryz.zeroValue4
 t5:=underlying5
 a5:=Tryz.isAgg5
 z5:=Tryz.sizeOf5
 v5:=Tryz.zeroValue5
 t9:=underlying9
 a9:=Tryz.isAgg9
 z9:=Tryz.sizeOf9
 v9:=Tryz.zeroValue9
 t20:=underlying20
 a20:=Tryz.isAgg20
 z20:=Tryz.sizeOf20
 v20:=Tryz.zeroValue20
 t37:=underlying128
 a37:=Tryz.isAgg128
 z37:=Tryz.sizeOf128
 v37:=Tryz.zeroValue128
 t46:=underlying194
 a46:=Tryz.isAgg194
 z46:=Tryz.sizeOf194
 v46:=Tryz.zeroValue194
 t51:=underlying191
 a51:=Tryz.isAgg191
 z51:=Tryz.sizeOf191
 v51:=Tryz.zeroValue191
 t53:=underlying146
 a53:=Tryz.isAgg146
 z53:=Tryz.sizeOf146
 v53:=Tryz.zeroValue146
 t171:=underlying145
 a171:=Tryz.isAgg145
 z171:=Tryz.sizeOf145
 v171:=Tryz.zeroValue145
 t173:=underlying149
 a173:=Tryz.isAgg149
 z173:=Tryz.sizeOf149
 v173:=Tryz.zeroValue149
 t212:=underlying190
 a212:=Tryz.isAgg190
 z212:=Tryz.sizeOf190
 v212:=Tryz.zeroValue190
 t213:=underlying192
 a213:=Tryz.isAgg192
 z213:=Tryz.sizeOf192
 t232:=underlying344
 a232:=Tryz.isAgg344
 z232:=Tryz.sizeOf344
 v232:=Tryz.zeroValue344
 t233:=underlying345
 a233:=Tryz.isAgg345
 z233:=Tryz.sizeOf345
 v233:=Tryz.zeroValue345
 g17:=by kernel_rfl
 g18:=by kernel_rfl
 g19:=by kernel_rfl
 i0:=by kernel_rfl
 i2:=by kernel_rfl
 i3:=by kernel_rfl
 i4:=by kernel_rfl
 i5:=by kernel_rfl
 i9:=by kernel_rfl
 i20:=by kernel_rfl
 i37:=by kernel_rfl
 i46:=by kernel_rfl
 i51:=by kernel_rfl
 i53:=by kernel_rfl
 i171:=by kernel_rfl
 i173:=by kernel_rfl
 i212:=by kernel_rfl
 i232:=by kernel_rfl
 i233:=by kernel_rfl
 m17:=by kernel_rfl
 m18:=by kernel_rfl
 m19:=by kernel_rfl}
open Go.RowKit Go.Sort Go.Lib in
theorem Tryz.strconv_FormatInt_10 (n:Int) (h0:-9223372036854775808≤n) (h1:n≤9223372036854775807) (w:World) (htab:Lib.TabIs prog w "internal/strconv.uint64pow10" .u64 Lib.pow10Tab):
  Calls prog 218 #[.int .i64 n,.int .i64 10] w fun e w'=>e=.returned (.string ⟨(Lib.itoa n).toArray⟩)∧∃k os,w'=grow (w.drewN k) os:=Any.strconv_FormatInt_10 Tryz.laysM173 n h0 h1 w htab
def Tryz.laysM171_ren:Go.Shelf.Ren:=⟨fun|129=>94|171=>12|243=>31|246=>41|283=>63|284=>64|285=>65|286=>66|317=>93|318=>95|319=>96|320=>97|337=>159|338=>160|n=>n,fun|37=>128|46=>194|51=>191|53=>146|171=>145|173=>149|212=>190|213=>192|232=>344|233=>345|n=>n,fun|17=>0|18=>1|19=>2|n=>n⟩
theorem Tryz.laysM171:Go.Proofs.LaysM.n171 prog Tryz.laysM171_ren:={
 mixed:=by kernel_rfl
 f129:=func94.trans (congrArg some (by kernel_rfl))
 f171:=func12.trans (congrArg some (by kernel_rfl))
 f243:=func31.trans (congrArg some (by kernel_rfl))
 f246:=func41.trans (congrArg some (by kernel_rfl))
 f283:=func63.trans (congrArg some (by kernel_rfl))
 f284:=func64.trans (congrArg some (by kernel_rfl))
 f285:=func65.trans (congrArg some (by kernel_rfl))
 f286:=func66.trans (congrArg some (by kernel_rfl))
 f317:=func93.trans (congrArg some (by kernel_rfl))
 f318:=func95.trans (congrArg some (by kernel_rfl))
 f319:=func96.trans (congrArg some (by kernel_rfl))
 f320:=func97.trans (congrArg some (by kernel_rfl))
 f337:=func159.trans (congrArg some (by kernel_rfl))
 f338:=func160.trans (congrArg some (by kernel_rfl))
 t0:=underlying0
 a0:=Tryz.isAgg0
 z0:=Tryz.sizeOf0
 v0:=Tryz.zeroValue0
 t2:=underlying2
 a2:=Tryz.isAgg2
 z2:=Tryz.sizeOf2
 v2:=Tryz.zeroValue2
 t3:=underlying3
 a3:=Tryz.isAgg3
 z3:=Tryz.sizeOf3
 v3:=Tryz.zeroValue3
 t4:=underlying4
 a4:=Tryz.isAgg4
 z4:=Tryz.sizeOf4
 v4:=Tryz.zeroValue4
 t5:=underlying5
 a5:=Tryz.isAgg5
 z5:=Tryz.sizeOf5
 v5:=Tryz.zeroValue5
 t9:=underlying9
 a9:=Tryz.isAgg9
 z9:=Tryz.sizeOf9
 v9:=Tryz.zeroValue9
 t20:=underlying20
 a20:=Tryz.isAgg20
 z20:=Tryz.sizeOf20
 v20:=Tryz.zeroValue20
 t37:=underlying128
 a37:=Tryz.isAgg128
 z37:=Tryz.sizeOf128
 v37:=Tryz.zeroValue128
 t46:=underlying194
 a46:=Tryz.isAgg194
 z46:=Tryz.sizeOf194
 v46:=Tryz.zeroValue194
 t51:=underlying191
 a51:=Tryz.isAgg191
 z51:=Tryz.sizeOf191
 v51:=Tryz.zeroValue191
 t53:=underlying146
 a53:=Tryz.isAgg146
 z53:=Tryz.sizeOf146
 v53:=Tryz.zeroValue146
 t171:=underlying145
 a171:=Tryz.isAgg145
 z171:=Tryz.sizeOf145
 v171:=Tryz.zeroValue145
 t173:=underlying149
 a173:=Tryz.isAgg149
 z173:=Tryz.sizeOf149
 v173:=Tryz.zeroValue149
 t212:=underlying190
 a212:=Tryz.isAgg190
 z212:=Tryz.sizeOf190
 v212:=Tryz.zeroValue190
 t213:=underlying192
 a213:=Tryz.isAgg192
 z213:=Tryz.sizeOf192
 t232:=underlying344
 a232:=Tryz.isAgg344
 z232:=Tryz.sizeOf344
 v232:=Tryz.zeroValue344
 t233:=underlying345
 a233:=Tryz.isAgg345
 z233:=Tryz.sizeOf345
 v233:=Tryz.zeroValue345
 g17:=by kernel_rfl
 g18:=by kernel_rfl
 g19:=by kernel_rfl
 i0:=by kernel_rfl
 i2:=by kernel_rfl
 i3:=by kernel_rfl
 i4:=by kernel_rfl
 i5:=by kernel_rfl
 i9:=by kernel_rfl
 i20:=by kernel_rfl
 i37:=by kernel_rfl
 i46:=by kernel_rfl
 i51:=by kernel_rfl
 i53:=by kernel_rfl
 i171:=by kernel_rfl
 i173:=by kernel_rfl
 i212:=by kernel_rfl
 i232:=by kernel_rfl
 i233:=by kernel_rfl
 m17:=by kernel_rfl
 m18:=by kernel_rfl
 m19:=by kernel_rfl}
open Go.RowKit Go.Sort Go.Lib in
theorem Tryz.strconv_Itoa (n:Int) (h0:-9223372036854775808≤n) (h1:n≤9223372036854775807) (w:World) (htab:Lib.TabIs prog w "internal/strconv.uint64pow10" .u64 Lib.pow10Tab):
  Calls prog 12 #[.int .i64 n] w fun e w'=>e=.returned (.string ⟨(Lib.itoa n).toArray⟩)∧∃k os,w'=grow (w.drewN k) os:=Any.strconv_Itoa Tryz.laysM171 n h0 h1 w htab
def Tryz.laysC174_ren:Go.Shelf.Ren:=⟨fun|129=>94|171=>12|174=>247|205=>381|243=>31|245=>303|246=>41|247=>302|279=>344|280=>345|281=>346|282=>347|283=>63|284=>64|285=>65|286=>66|287=>343|316=>380|317=>93|318=>95|319=>96|320=>97|321=>378|322=>379|337=>159|338=>160|n=>n,fun|37=>128|46=>194|51=>191|53=>146|75=>142|80=>144|85=>341|127=>187|143=>473|145=>475|167=>428|168=>431|171=>145|173=>149|175=>429|210=>455|212=>190|213=>192|232=>344|233=>345|n=>n,fun|15=>4|16=>5|17=>0|18=>1|19=>2|n=>n⟩
theorem Tryz.laysC174:Go.Proofs.LaysC.n174 prog Tryz.laysC174_ren:={
 mixed:=by kernel_rfl
 f129:=func94.trans (congrArg some (by kernel_rfl))
 f171:=func12.trans (congrArg some (by kernel_rfl))
 f174:=func247.trans (congrArg some (by kernel_rfl))
 f205:=func381.trans (congrArg some (by kernel_rfl))
 f243:=func31.trans (congrArg some (by kernel_rfl))
 f245:=func303.trans (congrArg some (by kernel_rfl))
 f246:=func41.trans (congrArg some (by kernel_rfl))
 f247:=func302.trans (congrArg some (by kernel_rfl))
 f279:=func344.trans (congrArg some (by kernel_rfl))
 f280:=func345.trans (congrArg some (by kernel_rfl))
 f281:=func346.trans (congrArg some (by kernel_rfl))
 f282:=func347.trans (congrArg some (by kernel_rfl))
 f283:=func63.trans (congrArg some (by kernel_rfl))
 f284:=func64.trans (congrArg some (by kernel_rfl))
 f285:=func65.trans (congrArg some (by kernel_rfl))
 f286:=func66.trans (congrArg some (by kernel_rfl))
 f287:=func343.trans (congrArg some (by kernel_rfl))
 f316:=func380.trans (congrArg some (by kernel_rfl))
 f317:=func93.trans (congrArg some (by kernel_rfl))
 f318:=func95.trans (congrArg some (by kernel_rfl))
 f319:=func96.trans (congrArg some (by kernel_rfl))
 f320:=func97.trans (congrArg some (by kernel_rfl))
 f321:=func378.trans (congrArg some (by kernel_rfl))
 f322:=func379.trans (congrArg some (by kernel_rfl))
 f337:=func159.trans (congrArg some (by kernel_rfl))
 f338:=func160.trans (congrArg some (by kernel_rfl))
 t0:=underlying0
 a0:=Tryz.isAgg0
 z0:=Tryz.sizeOf0
 v0:=Tryz.zeroValue0
 t2:=underlying2
 a2:=Tryz.isAgg2
 z2:=Tryz.sizeOf2
 v2:=Tryz.zeroValue2
 t3:=underlying3
 a3:=Tryz.isAgg3
 z3:=Tryz.sizeOf3
 v3:=Tryz.zeroValue3
 t4:=underlying4
 a4:=Tryz.isAgg4
 z4:=Tryz.sizeOf4
 v4:=Tryz.zeroValue4
 t5:=underlying5
 a5:=Tryz.isAgg5
 z5:=Tryz.sizeOf5
 v5:=Tryz.zeroValue5
 t9:=underlying9
 a9:=Tryz.isAgg9
 z9:=Tryz.sizeOf9
 v9:=Tryz.zeroValue9
 t20:=underlying20
 a20:=Tryz.isAgg20
 z20:=Tryz.sizeOf20
 v20:=Tryz.zeroValue20
 t21:=underlying21
 a21:=Tryz.isAgg21
 z21:=Tryz.sizeOf21
 v21:=Tryz.zeroValue21
 t37:=underlying128
 a37:=Tryz.isAgg128
 z37:=Tryz.sizeOf128
 v37:=Tryz.zeroValue128
 t46:=underlying194
 a46:=Tryz.isAgg194
 z46:=Tryz.sizeOf194
 v46:=Tryz.zeroValue194
 t51:=underlying191
 a51:=Tryz.isAgg191
 z51:=Tryz.sizeOf191
 v51:=Tryz.zeroValue191
 t53:=underlying146
 a53:=Tryz.isAgg146
 z53:=Tryz.sizeOf146
 v53:=Tryz.zeroValue146
 t75:=underlying142
 a75:=Tryz.isAgg142
 z75:=Tryz.sizeOf142
 v75:=Tryz.zeroValue142
 t85:=underlying341
 a85:=Tryz.isAgg341
 z85:=Tryz.sizeOf341
 v85:=Tryz.zeroValue341
 t127:=underlying187
 a127:=Tryz.isAgg187
 z127:=Tryz.sizeOf187
 v127:=Tryz.zeroValue187
 t143:=underlying473
 a143:=Tryz.isAgg473
 z143:=Tryz.sizeOf473
 v143:=Tryz.zeroValue473
 t145:=underlying475
 a145:=Tryz.isAgg475
 z145:=Tryz.sizeOf475
 v145:=Tryz.zeroValue475
 t167:=underlying428
 a167:=Tryz.isAgg428
 z167:=Tryz.sizeOf428
 v167:=Tryz.zeroValue428
 t168:=underlying431
 a168:=Tryz.isAgg431
 z168:=Tryz.sizeOf431
 v168:=Tryz.zeroValue431
 t171:=underlying145
 a171:=Tryz.isAgg145
 z171:=Tryz.sizeOf145
 v171:=Tryz.zeroValue145
 t173:=underlying149
 a173:=Tryz.isAgg149
 z173:=Tryz.sizeOf149
 v173:=Tryz.zeroValue149
 t175:=underlying429
 a175:=Tryz.isAgg429
 z175:=Tryz.sizeOf429
 v175:=Tryz.zeroValue429
 t210:=underlying455
 a210:=Tryz.isAgg455
 z210:=Tryz.sizeOf455
 v210:=Tryz.zeroValue455
 t212:=underlying190
 a212:=Tryz.isAgg190
 z212:=Tryz.sizeOf190
 v212:=Tryz.zeroValue190
 t213:=underlying192
 a213:=Tryz.isAgg192
 z213:=Tryz.sizeOf192
 t232:=underlying344
 a232:=Tryz.isAgg344
 z232:=Tryz.sizeOf344
 v232:=Tryz.zeroValue344
 t233:=underlying345
 a233:=Tryz.isAgg345
 z233:=Tryz.sizeOf345
 v233:=Tryz.zeroValue345
 g15:=by kernel_rfl
 g16:=by kernel_rfl
 g17:=by kernel_rfl
 g18:=by kernel_rfl
 g19:=by kernel_rfl
 t80:=underlying144
 a80:=Tryz.isAgg144
 z80:=Tryz.sizeOf144
 v80:=Tryz.zeroValue144
 i0:=by kernel_rfl
 i2:=by kernel_rfl
 i3:=by kernel_rfl
 i4:=by kernel_rfl
 i5:=by kernel_rfl
 i9:=by kernel_rfl
 i20:=by kernel_rfl
 i21:=by kernel_rfl
 i37:=by kernel_rfl
 i46:=by kernel_rfl
 i51:=by kernel_rfl
 i53:=by kernel_rfl
 i75:=by kernel_rfl
 i80:=by kernel_rfl
 i85:=by kernel_rfl
 i127:=by kernel_rfl
 i143:=by kernel_rfl
 i145:=by kernel_rfl
 i167:=by kernel_rfl
 i168:=by kernel_rfl
 i171:=by kernel_rfl
 i173:=by kernel_rfl
 i175:=by kernel_rfl
 i210:=by kernel_rfl
 i212:=by kernel_rfl
 i232:=by kernel_rfl
 i233:=by kernel_rfl
 m15:=by kernel_rfl
 m16:=by kernel_rfl
 m17:=by kernel_rfl
 m18:=by kernel_rfl
 m19:=by kernel_rfl
 c0:=by kernel_rfl
 c2:=by kernel_rfl
 c3:=by kernel_rfl
 c4:=by kernel_rfl
 c5:=by kernel_rfl
 c9:=by kernel_rfl
 c20:=by kernel_rfl
 c21:=by kernel_rfl
 c37:=by kernel_rfl
 c46:=by kernel_rfl
 c51:=by kernel_rfl
 c53:=by kernel_rfl
 c75:=by kernel_rfl
 c80:=by kernel_rfl
 c85:=by kernel_rfl
 c127:=by kernel_rfl
 c143:=by kernel_rfl
 c145:=by kernel_rfl
 c167:=by kernel_rfl
 c168:=by kernel_rfl
 c171:=by kernel_rfl
 c173:=by kernel_rfl
 c175:=by kernel_rfl
 c210:=by kernel_rfl
 c212:=by kernel_rfl
 c213:=by kernel_rfl
 c232:=by kernel_rfl
 c233:=by kernel_rfl}
open Go.RowKit in
theorem Tryz.strconv_ParseInt_10_at64_ok (s:ByteArray) (hmax:s.size≤9223372036854775806) (v:Int) (h:Lib.parseIntB 64 s.data.toList=.ok v) (w:World):
  Calls prog 247 #[.string s,.int .i64 10,.int .i64 64] w fun e w'=>e=.returned (.tuple #[.int .i64 v,.nilIface])∧(w'=w∨∃t,w'=Lib.bytesWorld w 5 t):=Any.strconv_ParseInt_10_at64_ok Tryz.laysC174 s hmax v h w
open Go.RowKit in
theorem Tryz.strconv_ParseInt_10_at64_range_var (s:ByteArray) (hlim:s.size≤281474976710656) (h:Lib.parseIntB 64 s.data.toList=.range) (tp:TypeId) (p:Value) (w:World) (hvar:w.var? prog "strconv.ErrRange" =some #[.iface tp p]):
  Calls prog 247 #[.string s,.int .i64 10,.int .i64 64] w fun e w'=>∃N,e=.returned (.tuple #[.int .i64 (Lib.intSat 64 s.data.toList),.iface 431 (.pointer (some ⟨N,0,none⟩))])∧w.heap.size≤N∧w'.heap[N]? =some (.cells #[.string ⟨#[80,97,114,115,101,73,110,116]⟩,.string s,.iface tp p] 455 (0,0))∧Below w.heap.size w w':=Any.strconv_ParseInt_10_at64_range_var Tryz.laysC174 s hlim h tp p w hvar
def Tryz.lays101_ren:Go.Shelf.Ren:=⟨fun|101=>301|206=>377|208=>342|n=>n,fun|n=>n,fun|n=>n⟩
theorem Tryz.lays101:Go.Proofs.Lays.n101 prog Tryz.lays101_ren:={
 mixed:=by kernel_rfl
 f101:=func301.trans (congrArg some (by kernel_rfl))
 f206:=func377.trans (congrArg some (by kernel_rfl))
 f208:=func342.trans (congrArg some (by kernel_rfl))
 t3:=underlying3
 a3:=Tryz.isAgg3
 z3:=Tryz.sizeOf3
 v3:=Tryz.zeroValue3
 t4:=underlying4
 a4:=Tryz.isAgg4
 z4:=Tryz.sizeOf4
 v4:=Tryz.zeroValue4
 t9:=underlying9
 a9:=Tryz.isAgg9
 z9:=Tryz.sizeOf9
 v9:=Tryz.zeroValue9}
open Go.RowKit Go.Lib in
theorem Tryz.strings_TrimPrefix (s p:ByteArray) (w:World):
  Calls prog 301 #[.string s,.string p] w fun e w'=>e=.returned (.string ⟨(Lib.trimPrefix s.data.toList p.data.toList).toArray⟩)∧w'=w:=Any.strings_TrimPrefix Tryz.lays101 s p w
end Go.Proofs
namespace Go.Proofs.YtldaocpojcfljaaGreatDoor
open Tryz hiding parts
section
namespace Rd
open Go.RowKit
def Rd (b:Nat) (s:ByteArray) (p d:Nat) (w:World):Prop:=
 w.heap[b]? =some (.cells #[.string s,.int .i64 (p:Int),.int .i64 (d:Int)] 175 (0,0))
theorem Rd.c0 {b:Nat} {s:ByteArray} {p d:Nat} {w:World} (h:Rd b s p d w):w.cell? ⟨b,0,none⟩=some (.string s):=by
 unfold Rd at h;simp [World.cell?,h]
theorem Rd.c1 {b:Nat} {s:ByteArray} {p d:Nat} {w:World} (h:Rd b s p d w):w.cell? ⟨b,1,none⟩=some (.int .i64 (p:Int)):=by
 unfold Rd at h;simp [World.cell?,h]
theorem Rd.c2 {b:Nat} {s:ByteArray} {p d:Nat} {w:World} (h:Rd b s p d w):w.cell? ⟨b,2,none⟩=some (.int .i64 (d:Int)):=by
 unfold Rd at h;simp [World.cell?,h]
theorem Rd.fz {b:Nat} {s:ByteArray} {p d:Nat} {w:World} (h:Rd b s p d w) (o:Nat):w.frozen? ⟨b,o,none⟩=false:=by
 unfold Rd at h;simp [World.frozen?,h]
theorem Rd.drewN {b:Nat} {s:ByteArray} {p d:Nat} {w:World} (h:Rd b s p d w) (n:Nat):Rd b s p d (w.drewN n):=by
 unfold Rd at*;simpa using h
theorem qah (b:Nat) (s:ByteArray) (p d:Nat) (w:World) (h:Rd b s p d w):
  Calls prog 87 #[.pointer (some ⟨b,0,none⟩)] w fun e w'=>e=.returned (.bool (((p:Int)==(s.size:Int))))∧∃n,w'=w.drewN n:=by
 have h0:=h.c0
 have h1:=h.c1
 clear h
 go_enter func87,ntmps87
 go_wp2
 go_quiet (fail)
 go_wp2
 go_ret
 exact⟨rfl,_,rfl⟩
theorem qfg (b:Nat) (s:ByteArray) (p d:Nat) (c:Int) (w:World) (h:Rd b s p d w) (hp:p=s.size):
  Calls prog 237 #[.pointer (some ⟨b,0,none⟩),.int .u8 c] w fun e w'=>e=.returned (.bool false)∧∃n,w'=w.drewN n:=by
 have h0:=h.c0
 have h1:=h.c1
 have HR:Hid (Rd b s p d w):=h
 have hd:((p:Int)==(s.size:Int))=true:=by simp [hp]
 clear h hp
 go_enter func237,ntmps237
 go_wp2
 go_quiet ((go_at_call 87;exact Calls.quiet_of (qah b s p d _ (HR.out.drewN _))))
 go_wp2
 go_ret
 exact⟨rfl,_,rfl⟩
theorem qbj (b:Nat) (s:ByteArray) (p d:Nat) (c:Int) (w:World) (h:Rd b s p d w) (hp:p<s.size):
  Calls prog 237 #[.pointer (some ⟨b,0,none⟩),.int .u8 c] w fun e w'=>e=.returned (.bool ((s[p].toNat:Int)==c))∧∃n,w'=w.drewN n:=by
 have h0:=h.c0
 have h1:=h.c1
 have HR:Hid (Rd b s p d w):=h
 have hd:((p:Int)==(s.size:Int))=false:=by simp;omega
 clear h
 go_enter func237,ntmps237
 go_wp2
 go_quiet ((go_at_call 87;exact Calls.quiet_of (qah b s p d _ (HR.out.drewN _))))
 go_wp2
 go_ret
 exact⟨rfl,_,rfl⟩
def L (s:ByteArray) (p:Nat):List UInt8:=s.data.toList.drop p
theorem L_lt (s:ByteArray) (p:Nat) (h:p<s.size):L s p=s[p]::L s (p+1):=by
 unfold L
 rw [List.drop_eq_getElem_cons (by simpa using h)];rfl
theorem qgz (s:ByteArray) (p:Nat) (h:s.size≤p):L s p=[]:=by
 unfold L;exact List.drop_eq_nil_of_le (by simpa using h)
theorem qb3 (s:ByteArray) (p:Nat):(L s p).length=s.size-p:=by
 unfold L;rw [List.length_drop];rfl
abbrev Only (b:Nat) (w w':World):Prop:=w.grownBy w' (some b)
theorem Only.drewN {b:Nat} {w w':World} (h:Only b w w') (n:Nat):Only b w (w'.drewN n):=⟨h.os,h.tape,h.output,h.size,h.block⟩
theorem Only.refl (b:Nat) (w:World):Only b w w:=⟨rfl,rfl,rfl,Nat.le_refl _,fun _ _ _=>rfl⟩
theorem Only.trans {b:Nat} {w w1 w2:World} (h:Only b w w1) (k:Only b w1 w2):Only b w w2:=
 ⟨k.os.trans h.os,k.tape.trans h.tape,k.output.trans h.output,Nat.le_trans h.size k.size,fun i hi hn=>(k.block i (Nat.lt_of_lt_of_le hi h.size) hn).trans (h.block i hi hn)⟩
theorem Only.set {b:Nat} {w w':World} (h:Only b w w') (o:Nat) (v:Value):Only b w (w'.setCell ⟨b,o,none⟩ v):=
 h.trans ⟨rfl,rfl,rfl,by simp [World.setCell],fun k _ hk=>Below.heap_setCell _ _ _ _ (fun e=>hk (by rw [e]))⟩
theorem Only.alloc {b:Nat} {w w':World} (h:Only b w w') (o:Obj):Only b w (w'.alloc o):=h.trans (World.grownBy_alloc _ _ _)
theorem Rd.set1 {b:Nat} {s:ByteArray} {p d:Nat} {w:World} (h:Rd b s p d w) (q:Nat) (z:Int) (hz:z=(q:Int)):Rd b s q d (w.setCell ⟨b,1,none⟩ (.int .i64 z)):=by
 subst hz;unfold Rd at*;simp [World.setCell,Array.getElem?_modify,h]
theorem Rd.set2 {b:Nat} {s:ByteArray} {p d:Nat} {w:World} (h:Rd b s p d w) (q:Nat) (z:Int) (hz:z=(q:Int)):Rd b s p q (w.setCell ⟨b,2,none⟩ (.int .i64 z)):=by
 subst hz;unfold Rd at*;simp [World.setCell,Array.getElem?_modify,h]
theorem Rd.lt {b:Nat} {s:ByteArray} {p d:Nat} {w:World} (h:Rd b s p d w):b<w.heap.size:=(Array.getElem?_eq_some_iff.1 h).1
theorem Rd.alloc {b:Nat} {s:ByteArray} {p d:Nat} {w:World} (h:Rd b s p d w) (o:Obj):Rd b s p d (w.alloc o):=by
 have:=h.lt
 unfold Rd at*;rw [Below.heap_alloc w o b this];exact h
def posOf (b:Nat) (w:World):Nat:=match w.cell? ⟨b,1,none⟩with|some (.int _ q)=>q.toNat|_=>0
theorem Rd.pos {b:Nat} {s:ByteArray} {p d:Nat} {w:World} (h:Rd b s p d w):posOf b w=p:=by
 unfold posOf;rw [h.c1];simp
end Rd
end
section
namespace Rd
open Go.RowKit
theorem qlj (s:ByteArray) (q:Nat) (h:q<s.size) (hc:((s[q].toNat:Int)==10)=false):Px.skip true (L s q)=Px.skip true (L s (q+1)):=by
 rw [L_lt s q h,Px.skip,if_neg (by have:=beq_eq_false_iff_ne.1 hc;omega)]
theorem qnr (s:ByteArray) (q:Nat) (h:s.size≤q):Px.skip true (L s q)=Px.skip false (L s q):=by
 rw [qgz s q h];rfl
theorem qq7 (s:ByteArray) (q:Nat) (h:q<s.size) (hc:((s[q].toNat:Int)==10)=true):Px.skip true (L s q)=Px.skip false (L s q):=by
 have:s[q].toNat=10:=by have:=beq_iff_eq.1 hc;omega
 rw [L_lt s q h,Px.skip,Px.skip,if_pos this,if_pos (.inr this)]
theorem qeb (b:Nat) (s:ByteArray) (p d:Nat) (w:World) (h:Rd b s p d w) (hp:p≤s.size) (hs:s.size≤1200):
  Calls prog 146 #[.pointer (some ⟨b,0,none⟩)] w fun e w'=>e=.returned (.tuple #[])∧∃q,p≤q∧q≤s.size∧Px.skip true (L s p)=Px.skip false (L s q)∧(∀h:q<s.size,(s[q].toNat:Int)=10)∧Rd b s q d w'∧Only b w w':=by
 go_enter func146,ntmps146
 go_wp2
 go_loopw [] (fun wr=>∃q,p≤q∧q≤s.size∧Px.skip true (L s p)=Px.skip true (L s q)∧Rd b s q d wr∧Only b w wr) (fun wr=>s.size-posOf b wr)
 case atStart=>exact⟨p,Nat.le_refl _,hp,rfl,h,Only.refl _ _⟩
 case round=>
  obtain⟨q,hpq,hq,hsk,hR,hO⟩:=hrel
  have HS:Hid (Px.skip true (L s p)=Px.skip true (L s q)):=hsk
  clear hsk
  have h0:=hR.c0
  have h1:=hR.c1
  have hf:=hR.fz 1
  have HR:Hid (Rd b s q d wr):=hR
  have HO:Hid (Only b w wr):=hO
  have hpos:posOf b wr=q:=hR.pos
  have HPos:Hid (posOf b wr=q):=hpos
  clear hR hO hpos h
  by_cases hlt:q<s.size
  ·have hd:((q:Int)==(s.size:Int))=false:=by simp;omega
   cases hc:((s[q].toNat:Int)==10)
   ·have Hst:=qlj s q hlt hc
    have HSt:Hid (Px.skip true (L s q)=Px.skip true (L s (q+1))):=Hst
    clear Hst
    go_wp2_with (first|(go_at_call 87;refine(qah b s q d _ HR.out).mono ?_;rintro e w' ⟨rfl,n1,rfl⟩)|(go_at_call 237;refine(qbj b s q d _ _ (HR.out.drewN _) hlt).mono ?_;rintro e w' ⟨rfl,n2,rfl⟩))
    go_roundw
    case rel=>exact⟨q+1,by omega,by omega,HS.out.trans HSt.out,(HR.out.drewN _).set1 _ _ (by omega),(HO.out.drewN _).set _ _⟩
    case measure=>
     have e1:=HPos.out
     have e2:=((HR.out.drewN (n1+n2)).set1 (q+1) ((q:Int)+1) (by omega)).pos
     rw [e1,e2];omega
   ·have HSt:Hid (Px.skip true (L s q)=Px.skip false (L s q)):=qq7 s q hlt hc
    go_wp2_with (first|(go_at_call 87;refine(qah b s q d _ HR.out).mono ?_;rintro e w' ⟨rfl,n1,rfl⟩)|(go_at_call 237;refine(qbj b s q d _ _ (HR.out.drewN _) hlt).mono ?_;rintro e w' ⟨rfl,n2,rfl⟩))
    go_end0
    exact⟨rfl,q,hpq,hq,HS.out.trans HSt.out,fun _=>beq_iff_eq.1 hc,HR.out.drewN _,HO.out.drewN _⟩
  ·have hd:((q:Int)==(s.size:Int))=true:=by simp;omega
   have HSt:Hid (Px.skip true (L s q)=Px.skip false (L s q)):=qnr s q (by omega)
   go_wp2_with (first|(go_at_call 87;refine(qah b s q d _ HR.out).mono ?_;rintro e w' ⟨rfl,n1,rfl⟩))
   go_end0
   exact⟨rfl,q,hpq,hq,HS.out.trans HSt.out,fun h=>absurd h hlt,(HR.out.drewN _),(HO.out.drewN _)⟩
theorem qfi (s:ByteArray) (q:Nat) (h:q<s.size) (hc:(s[q].toNat:Int)=32∨(s[q].toNat:Int)=10):Px.skip false (L s q)=Px.skip false (L s (q+1)):=by
 rw [L_lt s q h,Px.skip,if_pos (by omega)]
theorem qg9 (s:ByteArray) (q:Nat) (h:q<s.size) (hc:(s[q].toNat:Int)=59):Px.skip false (L s q)=Px.skip true (L s q):=by
 have e:s[q].toNat=59:=by omega
 rw [L_lt s q h,Px.skip,Px.skip,if_neg (by omega),if_pos e,if_neg (by omega)]
theorem qnq (s:ByteArray) (q:Nat) (h:q<s.size) (h1:(s[q].toNat:Int)≠32) (h2:(s[q].toNat:Int)≠10) (h3:(s[q].toNat:Int)≠59):Px.skip false (L s q)=L s q:=by
 rw [L_lt s q h,Px.skip,if_neg (by omega),if_neg (by omega)]
theorem qq6 (s:ByteArray) (q:Nat) (h:s.size≤q):Px.skip false (L s q)=L s q:=by
 rw [qgz s q h];rfl
theorem qa2 (b:Nat) (s:ByteArray) (p d:Nat) (w:World) (h:Rd b s p d w) (hp:p≤s.size) (hs:s.size≤1200):
  Calls prog 86 #[.pointer (some ⟨b,0,none⟩)] w fun e w'=>e=.returned (.tuple #[])∧∃q,p≤q∧q≤s.size∧Px.skip false (L s p)=L s q∧Rd b s q d w'∧Only b w w':=by
 go_enter func86,ntmps86
 go_wp2
 go_loopw [] (fun wr=>∃q,p≤q∧q≤s.size∧Px.skip false (L s p)=Px.skip false (L s q)∧Rd b s q d wr∧Only b w wr) (fun wr=>s.size-posOf b wr)
 case atStart=>exact⟨p,Nat.le_refl _,hp,rfl,h,Only.refl _ _⟩
 case round=>
  obtain⟨q,hpq,hq,hsk,hR,hO⟩:=hrel
  have HS:Hid (Px.skip false (L s p)=Px.skip false (L s q)):=hsk
  clear hsk
  have h0:=hR.c0
  have h1:=hR.c1
  have hf:=hR.fz 1
  have HR:Hid (Rd b s q d wr):=hR
  have HO:Hid (Only b w wr):=hO
  have hpos:posOf b wr=q:=hR.pos
  have HPos:Hid (posOf b wr=q):=hpos
  clear hR hO hpos h
  by_cases hlt:q<s.size
  ·have hd:((q:Int)==(s.size:Int))=false:=by simp;omega
   cases c32:((s[q].toNat:Int)==32)
   ·cases c10:((s[q].toNat:Int)==10)
    ·cases c59:((s[q].toNat:Int)==59)
     ·have HSt:Hid (Px.skip false (L s q)=L s q):=qnq s q hlt (beq_eq_false_iff_ne.1 c32) (beq_eq_false_iff_ne.1 c10) (beq_eq_false_iff_ne.1 c59)
      go_wp2_with (first|(go_at_call 87;refine(qah b s q d _ HR.out).mono ?_;rintro e w' ⟨rfl,n1,rfl⟩))
      go_quiet (fail)
      go_wp2_with (first|(go_at_call 87;refine(qah b s q d _ HR.out).mono ?_;rintro e w' ⟨rfl,n1,rfl⟩))
      refine bodyPost_ret (results_none rfl _ _ _) rfl ?_
      exact⟨rfl,q,hpq,hq,HS.out.trans HSt.out,HR.out.drewN _,HO.out.drewN _⟩
     ·have HSt:Hid (Px.skip false (L s q)=Px.skip true (L s q)):=qg9 s q hlt (beq_iff_eq.1 c59)
      go_wp2_with (first|(go_at_call 87;refine(qah b s q d _ HR.out).mono ?_;rintro e w' ⟨rfl,n1,rfl⟩))
      go_quiet (fail)
      go_wp2_with (first|(go_at_call 146;refine(qeb b s q d _ (HR.out.drewN _) hq hs).mono ?_;rintro e w' ⟨rfl,q',hq1,hq2,hsk',h10,hR',hO'⟩;refine Hid.out ?_))
      have hne:q<q':=by
       rcases Nat.lt_or_ge q q' with h'|h'
       ·exact h'
       ·exfalso
        have e:q'=q:=by omega
        subst e
        have e1:=h10 hlt
        rw [e1]at c59
        exact absurd c59 (by decide)
      have HSk:Hid (Px.skip true (L s q)=Px.skip false (L s q')):=hsk'
      have HPos':Hid (posOf b w'=q'):=hR'.pos
      have HR':Hid (Rd b s q' d w'):=hR'
      have HO':Hid (Only b w w'):=(HO.out.drewN _).trans hO'
      clear hsk' hR' hO' h10
      refine hZ ?_
      go_wp2
      go_roundw
      case rel=>exact⟨q',by omega,hq2,HS.out.trans (HSt.out.trans HSk.out),HR'.out,HO'.out⟩
      case measure=>
       have e1:=HPos.out
       have e2:=HPos'.out
       rw [e1,e2];omega
    ·have HSt:Hid (Px.skip false (L s q)=Px.skip false (L s (q+1))):=qfi s q hlt (.inr (beq_iff_eq.1 c10))
     go_wp2_with (first|(go_at_call 87;refine(qah b s q d _ HR.out).mono ?_;rintro e w' ⟨rfl,n1,rfl⟩))
     go_quiet (fail)
     go_wp2
     go_roundw
     case rel=>exact⟨q+1,by omega,by omega,HS.out.trans HSt.out,(HR.out.drewN _).set1 _ _ (by omega),(HO.out.drewN _).set _ _⟩
     case measure=>
      have e1:=HPos.out
      have e2:=((HR.out.drewN (n1+nq)).set1 (q+1) ((q:Int)+1) (by omega)).pos
      rw [e1,e2];omega
   ·have HSt:Hid (Px.skip false (L s q)=Px.skip false (L s (q+1))):=qfi s q hlt (.inl (beq_iff_eq.1 c32))
    go_wp2_with (first|(go_at_call 87;refine(qah b s q d _ HR.out).mono ?_;rintro e w' ⟨rfl,n1,rfl⟩))
    go_quiet (fail)
    go_wp2
    go_roundw
    case rel=>exact⟨q+1,by omega,by omega,HS.out.trans HSt.out,(HR.out.drewN _).set1 _ _ (by omega),(HO.out.drewN _).set _ _⟩
    case measure=>
     have e1:=HPos.out
     have e2:=((HR.out.drewN (n1+nq)).set1 (q+1) ((q:Int)+1) (by omega)).pos
     rw [e1,e2];omega
  ·have hd:((q:Int)==(s.size:Int))=true:=by simp;omega
   have HSt:Hid (Px.skip false (L s q)=L s q):=qq6 s q (by omega)
   go_wp2_with (first|(go_at_call 87;refine(qah b s q d _ HR.out).mono ?_;rintro e w' ⟨rfl,n1,rfl⟩))
   go_end0
   exact⟨rfl,q,hpq,hq,HS.out.trans HSt.out,HR.out.drewN _,HO.out.drewN _⟩
end Rd
end
end Go.Proofs.YtldaocpojcfljaaGreatDoor
