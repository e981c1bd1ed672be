import Derived.Test.YtldaocpojcfljaaGreatDoorD01
import Derived.Shelf.Small.Strs
import Derived.Shelf.Strings.Prefix
import Derived.Shelf.Strconv.Itoa4
import Derived.Shelf.Strconv.ErrVarParseInt
import Derived.WalkKit
import Derived.WalkSpells
import Derived.WalkLawsBesides
import Derived.Deep.QuietTactic
import Derived.BigQuiet
set_option maxRecDepth 100000
set_option maxHeartbeats 4000000
namespace Go.Proofs.YtldaocpojcfljaaGreatDoor
theorem hZ {p : Prop} (h : p) : Go.RowKit.Hid p := h
open Tryz hiding parts
end Go.Proofs.YtldaocpojcfljaaGreatDoor
namespace Go.Proofs
open Tryz
open Go.Shelf
def Tryz.lays137_ren:Go.Shelf.Ren:=⟨fun|137=>245|217=>300|266=>341|n=>n,fun|n=>n,fun|n=>n⟩
theorem Tryz.lays137:Go.Proofs.Lays.n137 prog Tryz.lays137_ren:={
 mixed:=by kernel_rfl
 f137:=func245.trans (congrArg some (by kernel_rfl))
 f217:=func300.trans (congrArg some (by kernel_rfl))
 f266:=func341.trans (congrArg some (by kernel_rfl))
 t3:=underlying3
 a3:=Tryz.isAgg3
 z3:=Tryz.sizeOf3
 v3:=Tryz.zeroValue3
 t5:=underlying5
 a5:=Tryz.isAgg5
 z5:=Tryz.sizeOf5
 v5:=Tryz.zeroValue5
 t9:=underlying9
 a9:=Tryz.isAgg9
 z9:=Tryz.sizeOf9
 v9:=Tryz.zeroValue9}
open Go.RowKit in
theorem Tryz.strings_IndexByte(s:ByteArray)(c:Int)(w:World):
  Calls prog 245 #[.string s,.int .u8 c] w fun e w'=>e=.returned (.int .i64 (Lib.indexByte s.data.toList c.toNat.toUInt8))/\w'=w:=Any.strings_IndexByte Tryz.lays137 s c w
def Tryz.laysM173_ren:Go.Shelf.Ren:=⟨fun|129=>94|173=>218|246=>41|283=>63|284=>64|285=>65|286=>66|317=>93|318=>95|319=>96|320=>97|337=>159|338=>160|n=>n,fun|37=>128|46=>194|51=>191|53=>146|171=>145|173=>149|212=>190|213=>192|232=>344|233=>345|n=>n,fun|17=>0|18=>1|19=>2|n=>n⟩
theorem Tryz.laysM173:Go.Proofs.LaysM.n173 prog Tryz.laysM173_ren:={
 mixed:=by kernel_rfl
 f129:=func94.trans (congrArg some (by kernel_rfl))
 f173:=func218.trans (congrArg some (by kernel_rfl))
 f246:=func41.trans (congrArg some (by kernel_rfl))
 f283:=func63.trans (congrArg some (by kernel_rfl))
 f284:=func64.trans (congrArg some (by kernel_rfl))
 f285:=func65.trans (congrArg some (by kernel_rfl))
 f286:=func66.trans (congrArg some (by kernel_rfl))
 f317:=func93.trans (congrArg some (by kernel_rfl))
 f318:=func95.trans (congrArg some (by kernel_rfl))
 f319:=func96.trans (congrArg some (by kernel_rfl))
 f320:=func97.trans (congrArg some (by kernel_rfl))
 f337:=func159.trans (congrArg some (by kernel_rfl))
 f338:=func160.trans (congrArg some (by kernel_rfl))
 t0:=underlying0
 a0:=Tryz.isAgg0
 z0:=Tryz.sizeOf0
 v0:=Tryz.zeroValue0
 t2:=underlying2
 a2:=Tryz.isAgg2
 z2:=Tryz.sizeOf2
 v2:=Tryz.zeroValue2
 t3:=underlying3
 a3:=Tryz.isAgg3
 z3:=Tryz.sizeOf3
 v3:=Tryz.zeroValue3
 t4:=underlying4
 a4:=Tryz.isAgg4
 z4:=Tryz.sizeOf4
 v4:=Tryz.zeroValue4
 t5:=underlying5
 a5:=Tryz.isAgg5
 z5:=Tryz.sizeOf5
 v5:=Tryz.zeroValue5
 t9:=underlying9
 a9:=Tryz.isAgg9
 z9:=Tryz.sizeOf9
 v9:=Tryz.zeroValue9
 t20:=underlying20
 a20:=Tryz.isAgg20
 z20:=Tryz.sizeOf20
 v20:=Tryz.zeroValue20
 t37:=underlying128
 a37:=Tryz.isAgg128
 z37:=Tryz.sizeOf128
 v37:=Tryz.zeroValue128
 t46:=underlying194
 a46:=Tryz.isAgg194
 z46:=Tryz.sizeOf194
 v46:=Tryz.zeroValue194
 t51:=underlying191
 a51:=Tryz.isAgg191
 z51:=Tryz.sizeOf191
 v51:=Tryz.zeroValue191
 t53:=underlying146
 a53:=Tryz.isAgg146
 z53:=Tryz.sizeOf146
 v53:=Tryz.zeroValue146
 t171:=underlying145
 a171:=Tryz.isAgg145
 z171:=Tryz.sizeOf145
 v171:=Tryz.zeroValue145
 t173:=underlying149
 a173:=Tryz.isAgg149
 z173:=Tryz.sizeOf149
 v173:=Tryz.zeroValue149
 t212:=underlying190
 a212:=Tryz.isAgg190
 z212:=Tryz.sizeOf190
 v212:=Tryz.zeroValue190
 t213:=underlying192
 a213:=Tryz.isAgg192
 z213:=Tryz.sizeOf192
 t232:=underlying344
 a232:=Tryz.isAgg344
 z232:=Tryz.sizeOf344
 v232:=Tryz.zeroValue344
 t233:=underlying345
 a233:=Tryz.isAgg345
 z233:=Tryz.sizeOf345
 v233:=Tryz.zeroValue345
 g17:=by kernel_rfl
 g18:=by kernel_rfl
 g19:=by kernel_rfl
 i0:=by kernel_rfl
 i2:=by kernel_rfl
 i3:=by kernel_rfl
 i4:=by kernel_rfl
 i5:=by kernel_rfl
 i9:=by kernel_rfl
 i20:=by kernel_rfl
 i37:=by kernel_rfl
 i46:=by kernel_rfl
 i51:=by kernel_rfl
 i53:=by kernel_rfl
 i171:=by kernel_rfl
 i173:=by kernel_rfl
 i212:=by kernel_rfl
 i232:=by kernel_rfl
 i233:=by kernel_rfl
 m17:=by kernel_rfl
 m18:=by kernel_rfl
 m19:=by kernel_rfl}
open Go.RowKit Go.Sort Go.Lib in
theorem Tryz.strconv_FormatInt_10(n:Int)(h0:-9223372036854775808<=n)(h1:n<=9223372036854775807)(w:World)(htab:Lib.TabIs prog w "internal/strconv.uint64pow10" .u64 Lib.pow10Tab):
  Calls prog 218 #[.int .i64 n,.int .i64 10] w fun e w'=>e=.returned (.string ⟨(Lib.itoa n).toArray⟩)/\∃k os,w'=grow (w.drewN k) os:=Any.strconv_FormatInt_10 Tryz.laysM173 n h0 h1 w htab
def Tryz.laysM171_ren:Go.Shelf.Ren:=⟨fun|129=>94|171=>12|243=>31|246=>41|283=>63|284=>64|285=>65|286=>66|317=>93|318=>95|319=>96|320=>97|337=>159|338=>160|n=>n,fun|37=>128|46=>194|51=>191|53=>146|171=>145|173=>149|212=>190|213=>192|232=>344|233=>345|n=>n,fun|17=>0|18=>1|19=>2|n=>n⟩
theorem Tryz.laysM171:Go.Proofs.LaysM.n171 prog Tryz.laysM171_ren:={
 mixed:=by kernel_rfl
 f129:=func94.trans (congrArg some (by kernel_rfl))
 f171:=func12.trans (congrArg some (by kernel_rfl))
 f243:=func31.trans (congrArg some (by kernel_rfl))
 f246:=func41.trans (congrArg some (by kernel_rfl))
 f283:=func63.trans (congrArg some (by kernel_rfl))
 f284:=func64.trans (congrArg some (by kernel_rfl))
 f285:=func65.trans (congrArg some (by kernel_rfl))
 f286:=func66.trans (congrArg some (by kernel_rfl))
 f317:=func93.trans (congrArg some (by kernel_rfl))
 f318:=func95.trans (congrArg some (by kernel_rfl))
 f319:=func96.trans (congrArg some (by kernel_rfl))
 f320:=func97.trans (congrArg some (by kernel_rfl))
 f337:=func159.trans (congrArg some (by kernel_rfl))
 f338:=func160.trans (congrArg some (by kernel_rfl))
 t0:=underlying0
 a0:=Tryz.isAgg0
 z0:=Tryz.sizeOf0
 v0:=Tryz.zeroValue0
 t2:=underlying2
 a2:=Tryz.isAgg2
 z2:=Tryz.sizeOf2
 v2:=Tryz.zeroValue2
 t3:=underlying3
 a3:=Tryz.isAgg3
 z3:=Tryz.sizeOf3
 v3:=Tryz.zeroValue3
 t4:=underlying4
 a4:=Tryz.isAgg4
 z4:=Tryz.sizeOf4
 v4:=Tryz.zeroValue4
 t5:=underlying5
 a5:=Tryz.isAgg5
 z5:=Tryz.sizeOf5
 v5:=Tryz.zeroValue5
 t9:=underlying9
 a9:=Tryz.isAgg9
 z9:=Tryz.sizeOf9
 v9:=Tryz.zeroValue9
 t20:=underlying20
 a20:=Tryz.isAgg20
 z20:=Tryz.sizeOf20
 v20:=Tryz.zeroValue20
 t37:=underlying128
 a37:=Tryz.isAgg128
 z37:=Tryz.sizeOf128
 v37:=Tryz.zeroValue128
 t46:=underlying194
 a46:=Tryz.isAgg194
 z46:=Tryz.sizeOf194
 v46:=Tryz.zeroValue194
 t51:=underlying191
 a51:=Tryz.isAgg191
 z51:=Tryz.sizeOf191
 v51:=Tryz.zeroValue191
 t53:=underlying146
 a53:=Tryz.isAgg146
 z53:=Tryz.sizeOf146
 v53:=Tryz.zeroValue146
 t171:=underlying145
 a171:=Tryz.isAgg145
 z171:=Tryz.sizeOf145
 v171:=Tryz.zeroValue145
 t173:=underlying149
 a173:=Tryz.isAgg149
 z173:=Tryz.sizeOf149
 v173:=Tryz.zeroValue149
 t212:=underlying190
 a212:=Tryz.isAgg190
 z212:=Tryz.sizeOf190
 v212:=Tryz.zeroValue190
 t213:=underlying192
 a213:=Tryz.isAgg192
 z213:=Tryz.sizeOf192
 t232:=underlying344
 a232:=Tryz.isAgg344
 z232:=Tryz.sizeOf344
 v232:=Tryz.zeroValue344
 t233:=underlying345
 a233:=Tryz.isAgg345
 z233:=Tryz.sizeOf345
 v233:=Tryz.zeroValue345
 g17:=by kernel_rfl
 g18:=by kernel_rfl
 g19:=by kernel_rfl
 i0:=by kernel_rfl
 i2:=by kernel_rfl
 i3:=by kernel_rfl
 i4:=by kernel_rfl
 i5:=by kernel_rfl
 i9:=by kernel_rfl
 i20:=by kernel_rfl
 i37:=by kernel_rfl
 i46:=by kernel_rfl
 i51:=by kernel_rfl
 i53:=by kernel_rfl
 i171:=by kernel_rfl
 i173:=by kernel_rfl
 i212:=by kernel_rfl
 i232:=by kernel_rfl
 i233:=by kernel_rfl
 m17:=by kernel_rfl
 m18:=by kernel_rfl
 m19:=by kernel_rfl}
open Go.RowKit Go.Sort Go.Lib in
theorem Tryz.strconv_Itoa(n:Int)(h0:-9223372036854775808<=n)(h1:n<=9223372036854775807)(w:World)(htab:Lib.TabIs prog w "internal/strconv.uint64pow10" .u64 Lib.pow10Tab):
  Calls prog 12 #[.int .i64 n] w fun e w'=>e=.returned (.string ⟨(Lib.itoa n).toArray⟩)/\∃k os,w'=grow (w.drewN k) os:=Any.strconv_Itoa Tryz.laysM171 n h0 h1 w htab
def Tryz.laysC174_ren:Go.Shelf.Ren:=⟨fun|129=>94|171=>12|174=>247|205=>381|243=>31|245=>303|246=>41|247=>302|279=>344|280=>345|281=>346|282=>347|283=>63|284=>64|285=>65|286=>66|287=>343|316=>380|317=>93|318=>95|319=>96|320=>97|321=>378|322=>379|337=>159|338=>160|n=>n,fun|37=>128|46=>194|51=>191|53=>146|75=>142|80=>144|85=>341|127=>187|143=>473|145=>475|167=>428|168=>431|171=>145|173=>149|175=>429|210=>455|212=>190|213=>192|232=>344|233=>345|n=>n,fun|15=>4|16=>5|17=>0|18=>1|19=>2|n=>n⟩
theorem Tryz.laysC174:Go.Proofs.LaysC.n174 prog Tryz.laysC174_ren:={
 mixed:=by kernel_rfl
 f129:=func94.trans (congrArg some (by kernel_rfl))
 f171:=func12.trans (congrArg some (by kernel_rfl))
 f174:=func247.trans (congrArg some (by kernel_rfl))
 f205:=func381.trans (congrArg some (by kernel_rfl))
 f243:=func31.trans (congrArg some (by kernel_rfl))
 f245:=func303.trans (congrArg some (by kernel_rfl))
 f246:=func41.trans (congrArg some (by kernel_rfl))
 f247:=func302.trans (congrArg some (by kernel_rfl))
 f279:=func344.trans (congrArg some (by kernel_rfl))
 f280:=func345.trans (congrArg some (by kernel_rfl))
 f281:=func346.trans (congrArg some (by kernel_rfl))
 f282:=func347.trans (congrArg some (by kernel_rfl))
 f283:=func63.trans (congrArg some (by kernel_rfl))
 f284:=func64.trans (congrArg some (by kernel_rfl))
 f285:=func65.trans (congrArg some (by kernel_rfl))
 f286:=func66.trans (congrArg some (by kernel_rfl))
 f287:=func343.trans (congrArg some (by kernel_rfl))
 f316:=func380.trans (congrArg some (by kernel_rfl))
 f317:=func93.trans (congrArg some (by kernel_rfl))
 f318:=func95.trans (congrArg some (by kernel_rfl))
 f319:=func96.trans (congrArg some (by kernel_rfl))
 f320:=func97.trans (congrArg some (by kernel_rfl))
 f321:=func378.trans (congrArg some (by kernel_rfl))
 f322:=func379.trans (congrArg some (by kernel_rfl))
 f337:=func159.trans (congrArg some (by kernel_rfl))
 f338:=func160.trans (congrArg some (by kernel_rfl))
 t0:=underlying0
 a0:=Tryz.isAgg0
 z0:=Tryz.sizeOf0
 v0:=Tryz.zeroValue0
 t2:=underlying2
 a2:=Tryz.isAgg2
 z2:=Tryz.sizeOf2
 v2:=Tryz.zeroValue2
 t3:=underlying3
 a3:=Tryz.isAgg3
 z3:=Tryz.sizeOf3
 v3:=Tryz.zeroValue3
 t4:=underlying4
 a4:=Tryz.isAgg4
 z4:=Tryz.sizeOf4
 v4:=Tryz.zeroValue4
 t5:=underlying5
 a5:=Tryz.isAgg5
 z5:=Tryz.sizeOf5
 v5:=Tryz.zeroValue5
 t9:=underlying9
 a9:=Tryz.isAgg9
 z9:=Tryz.sizeOf9
 v9:=Tryz.zeroValue9
 t20:=underlying20
 a20:=Tryz.isAgg20
 z20:=Tryz.sizeOf20
 v20:=Tryz.zeroValue20
 t21:=underlying21
 a21:=Tryz.isAgg21
 z21:=Tryz.sizeOf21
 v21:=Tryz.zeroValue21
 t37:=underlying128
 a37:=Tryz.isAgg128
 z37:=Tryz.sizeOf128
 v37:=Tryz.zeroValue128
 t46:=underlying194
 a46:=Tryz.isAgg194
 z46:=Tryz.sizeOf194
 v46:=Tryz.zeroValue194
 t51:=underlying191
 a51:=Tryz.isAgg191
 z51:=Tryz.sizeOf191
 v51:=Tryz.zeroValue191
 t53:=underlying146
 a53:=Tryz.isAgg146
 z53:=Tryz.sizeOf146
 v53:=Tryz.zeroValue146
 t75:=underlying142
 a75:=Tryz.isAgg142
 z75:=Tryz.sizeOf142
 v75:=Tryz.zeroValue142
 t85:=underlying341
 a85:=Tryz.isAgg341
 z85:=Tryz.sizeOf341
 v85:=Tryz.zeroValue341
 t127:=underlying187
 a127:=Tryz.isAgg187
 z127:=Tryz.sizeOf187
 v127:=Tryz.zeroValue187
 t143:=underlying473
 a143:=Tryz.isAgg473
 z143:=Tryz.sizeOf473
 v143:=Tryz.zeroValue473
 t145:=underlying475
 a145:=Tryz.isAgg475
 z145:=Tryz.sizeOf475
 v145:=Tryz.zeroValue475
 t167:=underlying428
 a167:=Tryz.isAgg428
 z167:=Tryz.sizeOf428
 v167:=Tryz.zeroValue428
 t168:=underlying431
 a168:=Tryz.isAgg431
 z168:=Tryz.sizeOf431
 v168:=Tryz.zeroValue431
 t171:=underlying145
 a171:=Tryz.isAgg145
 z171:=Tryz.sizeOf145
 v171:=Tryz.zeroValue145
 t173:=underlying149
 a173:=Tryz.isAgg149
 z173:=Tryz.sizeOf149
 v173:=Tryz.zeroValue149
 t175:=underlying429
 a175:=Tryz.isAgg429
 z175:=Tryz.sizeOf429
 v175:=Tryz.zeroValue429
 t210:=underlying455
 a210:=Tryz.isAgg455
 z210:=Tryz.sizeOf455
 v210:=Tryz.zeroValue455
 t212:=underlying190
 a212:=Tryz.isAgg190
 z212:=Tryz.sizeOf190
 v212:=Tryz.zeroValue190
 t213:=underlying192
 a213:=Tryz.isAgg192
 z213:=Tryz.sizeOf192
 t232:=underlying344
 a232:=Tryz.isAgg344
 z232:=Tryz.sizeOf344
 v232:=Tryz.zeroValue344
 t233:=underlying345
 a233:=Tryz.isAgg345
 z233:=Tryz.sizeOf345
 v233:=Tryz.zeroValue345
 g15:=by kernel_rfl
 g16:=by kernel_rfl
 g17:=by kernel_rfl
 g18:=by kernel_rfl
 g19:=by kernel_rfl
 t80:=underlying144
 a80:=Tryz.isAgg144
 z80:=Tryz.sizeOf144
 v80:=Tryz.zeroValue144
 i0:=by kernel_rfl
 i2:=by kernel_rfl
 i3:=by kernel_rfl
 i4:=by kernel_rfl
 i5:=by kernel_rfl
 i9:=by kernel_rfl
 i20:=by kernel_rfl
 i21:=by kernel_rfl
 i37:=by kernel_rfl
 i46:=by kernel_rfl
 i51:=by kernel_rfl
 i53:=by kernel_rfl
 i75:=by kernel_rfl
 i80:=by kernel_rfl
 i85:=by kernel_rfl
 i127:=by kernel_rfl
 i143:=by kernel_rfl
 i145:=by kernel_rfl
 i167:=by kernel_rfl
 i168:=by kernel_rfl
 i171:=by kernel_rfl
 i173:=by kernel_rfl
 i175:=by kernel_rfl
 i210:=by kernel_rfl
 i212:=by kernel_rfl
 i232:=by kernel_rfl
 i233:=by kernel_rfl
 m15:=by kernel_rfl
 m16:=by kernel_rfl
 m17:=by kernel_rfl
 m18:=by kernel_rfl
 m19:=by kernel_rfl
 c0:=by kernel_rfl
 c2:=by kernel_rfl
 c3:=by kernel_rfl
 c4:=by kernel_rfl
 c5:=by kernel_rfl
 c9:=by kernel_rfl
 c20:=by kernel_rfl
 c21:=by kernel_rfl
 c37:=by kernel_rfl
 c46:=by kernel_rfl
 c51:=by kernel_rfl
 c53:=by kernel_rfl
 c75:=by kernel_rfl
 c80:=by kernel_rfl
 c85:=by kernel_rfl
 c127:=by kernel_rfl
 c143:=by kernel_rfl
 c145:=by kernel_rfl
 c167:=by kernel_rfl
 c168:=by kernel_rfl
 c171:=by kernel_rfl
 c173:=by kernel_rfl
 c175:=by kernel_rfl
 c210:=by kernel_rfl
 c212:=by kernel_rfl
 c213:=by kernel_rfl
 c232:=by kernel_rfl
 c233:=by kernel_rfl}
open Go.RowKit in
theorem Tryz.strconv_ParseInt_10_at64_ok(s:ByteArray)(hmax:s.size<=9223372036854775806)(v:Int)(h:Lib.parseIntB 64 s.data.toList=.ok v)(w:World):
  Calls prog 247 #[.string s,.int .i64 10,.int .i64 64] w fun e w'=>e=.returned (.tuple #[.int .i64 v,.nilIface])/\(w'=w\/∃t,w'=Lib.bytesWorld w 5 t):=Any.strconv_ParseInt_10_at64_ok Tryz.laysC174 s hmax v h w
open Go.RowKit in
theorem Tryz.strconv_ParseInt_10_at64_range_var(s:ByteArray)(hlim:s.size<=281474976710656)(h:Lib.parseIntB 64 s.data.toList=.range)(tp:TypeId)(p:Value)(w:World)(hvar:w.var? prog "strconv.ErrRange" =some #[.iface tp p]):
  Calls prog 247 #[.string s,.int .i64 10,.int .i64 64] w fun e w'=>∃N,e=.returned (.tuple #[.int .i64 (Lib.intSat 64 s.data.toList),.iface 431 (.pointer (some ⟨N,0,none⟩))])/\w.heap.size<=N/\w'.heap[N]? =some (.cells #[.string ⟨#[80,97,114,115,101,73,110,116]⟩,.string s,.iface tp p] 455 (0,0))/\Below w.heap.size w w':=Any.strconv_ParseInt_10_at64_range_var Tryz.laysC174 s hlim h tp p w hvar
def Tryz.lays101_ren:Go.Shelf.Ren:=⟨fun|101=>301|206=>377|208=>342|n=>n,fun|n=>n,fun|n=>n⟩
theorem Tryz.lays101:Go.Proofs.Lays.n101 prog Tryz.lays101_ren:={
 mixed:=by kernel_rfl
 f101:=func301.trans (congrArg some (by kernel_rfl))
 f206:=func377.trans (congrArg some (by kernel_rfl))
 f208:=func342.trans (congrArg some (by kernel_rfl))
 t3:=underlying3
 a3:=Tryz.isAgg3
 z3:=Tryz.sizeOf3
 v3:=Tryz.zeroValue3
 t4:=underlying4
 a4:=Tryz.isAgg4
 z4:=Tryz.sizeOf4
 v4:=Tryz.zeroValue4
 t9:=underlying9
 a9:=Tryz.isAgg9
 z9:=Tryz.sizeOf9
 v9:=Tryz.zeroValue9}
open Go.RowKit Go.Lib in
theorem Tryz.strings_TrimPrefix(s p:ByteArray)(w:World):
  Calls prog 301 #[.string s,.string p] w fun e w'=>e=.returned (.string ⟨(Lib.trimPrefix s.data.toList p.data.toList).toArray⟩)/\w'=w:=Any.strings_TrimPrefix Tryz.lays101 s p w
end Go.Proofs
namespace Go.Proofs.YtldaocpojcfljaaGreatDoor
open Tryz hiding parts
section
namespace Rd
open Go.RowKit
def Rd(b:Nat)(s:ByteArray)(p d:Nat)(w:World):Prop:=
 w.heap[b]? =some (.cells #[.string s,.int .i64 (p:Int),.int .i64 (d:Int)] 175 (0,0))
theorem Rd.c0{b:Nat}{s:ByteArray}{p d:Nat}{w:World}(h:Rd b s p d w):w.cell? ⟨b,0,none⟩=some (.string s):=by
 unfold Rd at h;simp[World.cell?,h]
theorem Rd.c1{b:Nat}{s:ByteArray}{p d:Nat}{w:World}(h:Rd b s p d w):w.cell? ⟨b,1,none⟩=some (.int .i64 (p:Int)):=by
 unfold Rd at h;simp[World.cell?,h]
theorem Rd.c2{b:Nat}{s:ByteArray}{p d:Nat}{w:World}(h:Rd b s p d w):w.cell? ⟨b,2,none⟩=some (.int .i64 (d:Int)):=by
 unfold Rd at h;simp[World.cell?,h]
theorem Rd.fz{b:Nat}{s:ByteArray}{p d:Nat}{w:World}(h:Rd b s p d w)(o:Nat):w.frozen? ⟨b,o,none⟩=false:=by
 unfold Rd at h;simp[World.frozen?,h]
theorem Rd.drewN{b:Nat}{s:ByteArray}{p d:Nat}{w:World}(h:Rd b s p d w)(n:Nat):Rd b s p d (w.drewN n):=by
 unfold Rd at*;simpa using h
theorem qah(b:Nat)(s:ByteArray)(p d:Nat)(w:World)(h:Rd b s p d w):
  Calls prog 87 #[.pointer (some ⟨b,0,none⟩)] w fun e w'=>e=.returned (.bool (((p:Int)==(s.size:Int))))/\∃n,w'=w.drewN n:=by
 have h0:=h.c0;have h1:=h.c1;clear h;go_enter func87,ntmps87
 go_wp2;go_quiet (fail)
 go_wp2;go_ret;exact⟨rfl,_,rfl⟩
theorem qfg(b:Nat)(s:ByteArray)(p d:Nat)(c:Int)(w:World)(h:Rd b s p d w)(hp:p=s.size):
  Calls prog 237 #[.pointer (some ⟨b,0,none⟩),.int .u8 c] w fun e w'=>e=.returned (.bool false)/\∃n,w'=w.drewN n:=by
 have h0:=h.c0;have h1:=h.c1;have HR:Hid (Rd b s p d w):=h;have hd:((p:Int)==(s.size:Int))=true:=by simp[hp]
 clear h hp;go_enter func237,ntmps237
 go_wp2;go_quiet ((go_at_call 87;exact Calls.quiet_of (qah b s p d _ (HR.out.drewN _))))
 go_wp2;go_ret;exact⟨rfl,_,rfl⟩
theorem qbj(b:Nat)(s:ByteArray)(p d:Nat)(c:Int)(w:World)(h:Rd b s p d w)(hp:p<s.size):
  Calls prog 237 #[.pointer (some ⟨b,0,none⟩),.int .u8 c] w fun e w'=>e=.returned (.bool ((s[p].toNat:Int)==c))/\∃n,w'=w.drewN n:=by
 have h0:=h.c0;have h1:=h.c1;have HR:Hid (Rd b s p d w):=h;have hd:((p:Int)==(s.size:Int))=false:=by simp;omega
 clear h;go_enter func237,ntmps237
 go_wp2;go_quiet ((go_at_call 87;exact Calls.quiet_of (qah b s p d _ (HR.out.drewN _))))
 go_wp2;go_ret;exact⟨rfl,_,rfl⟩
def L(s:ByteArray)(p:Nat):List UInt8:=s.data.toList.drop p
theorem L_lt(s:ByteArray)(p:Nat)(h:p<s.size):L s p=s[p]::L s (p+1):=by
 unfold L;rw[List.drop_eq_getElem_cons (by simpa using h)];rfl
theorem qgz(s:ByteArray)(p:Nat)(h:s.size<=p):L s p=[]:=by
 unfold L;exact List.drop_eq_nil_of_le (by simpa using h)
theorem qb3(s:ByteArray)(p:Nat):(L s p).length=s.size-p:=by
 unfold L;rw[List.length_drop];rfl
abbrev Only(b:Nat)(w w':World):Prop:=w.grownBy w' (some b)
theorem Only.drewN{b:Nat}{w w':World}(h:Only b w w')(n:Nat):Only b w (w'.drewN n):=⟨h.os,h.tape,h.output,h.size,h.block⟩
theorem Only.refl(b:Nat)(w:World):Only b w w:=⟨rfl,rfl,rfl,Nat.le_refl _,fun _ _ _=>rfl⟩
theorem Only.trans{b:Nat}{w w1 w2:World}(h:Only b w w1)(k:Only b w1 w2):Only b w w2:=
 ⟨k.os.trans h.os,k.tape.trans h.tape,k.output.trans h.output,Nat.le_trans h.size k.size,fun i hi hn=>(k.block i (Nat.lt_of_lt_of_le hi h.size) hn).trans (h.block i hi hn)⟩
theorem Only.set{b:Nat}{w w':World}(h:Only b w w')(o:Nat)(v:Value):Only b w (w'.setCell ⟨b,o,none⟩ v):=
 h.trans ⟨rfl,rfl,rfl,by simp[World.setCell],fun k _ hk=>Below.heap_setCell _ _ _ _ (fun e=>hk (by rw[e]))⟩
theorem Only.alloc{b:Nat}{w w':World}(h:Only b w w')(o:Obj):Only b w (w'.alloc o):=h.trans (World.grownBy_alloc _ _ _)
theorem Rd.set1{b:Nat}{s:ByteArray}{p d:Nat}{w:World}(h:Rd b s p d w)(q:Nat)(z:Int)(hz:z=(q:Int)):Rd b s q d (w.setCell ⟨b,1,none⟩ (.int .i64 z)):=by
 subst hz;unfold Rd at*;simp[World.setCell,Array.getElem?_modify,h]
theorem Rd.set2{b:Nat}{s:ByteArray}{p d:Nat}{w:World}(h:Rd b s p d w)(q:Nat)(z:Int)(hz:z=(q:Int)):Rd b s p q (w.setCell ⟨b,2,none⟩ (.int .i64 z)):=by
 subst hz;unfold Rd at*;simp[World.setCell,Array.getElem?_modify,h]
theorem Rd.lt{b:Nat}{s:ByteArray}{p d:Nat}{w:World}(h:Rd b s p d w):b<w.heap.size:=(Array.getElem?_eq_some_iff.1 h).1
theorem Rd.alloc{b:Nat}{s:ByteArray}{p d:Nat}{w:World}(h:Rd b s p d w)(o:Obj):Rd b s p d (w.alloc o):=by
 have:=h.lt;unfold Rd at*;rw[Below.heap_alloc w o b this];exact h
def posOf(b:Nat)(w:World):Nat:=match w.cell? ⟨b,1,none⟩with|some (.int _ q)=>q.toNat|_=>0
theorem Rd.pos{b:Nat}{s:ByteArray}{p d:Nat}{w:World}(h:Rd b s p d w):posOf b w=p:=by
 unfold posOf;rw[h.c1];simp
end Rd
end
section
namespace Rd
open Go.RowKit
theorem qlj(s:ByteArray)(q:Nat)(h:q<s.size)(hc:((s[q].toNat:Int)==10)=false):Px.skip true (L s q)=Px.skip true (L s (q+1)):=by
 rw[L_lt s q h,Px.skip,if_neg (by have:=beq_eq_false_iff_ne.1 hc;omega)]
theorem qnr(s:ByteArray)(q:Nat)(h:s.size<=q):Px.skip true (L s q)=Px.skip false (L s q):=by
 rw[qgz s q h];rfl
theorem qq7(s:ByteArray)(q:Nat)(h:q<s.size)(hc:((s[q].toNat:Int)==10)=true):Px.skip true (L s q)=Px.skip false (L s q):=by
 have:s[q].toNat=10:=by have:=beq_iff_eq.1 hc;omega
 rw[L_lt s q h,Px.skip,Px.skip,if_pos this,if_pos (.inr this)]
theorem qeb(b:Nat)(s:ByteArray)(p d:Nat)(w:World)(h:Rd b s p d w)(hp:p<=s.size)(hs:s.size<=1200):
  Calls prog 146 #[.pointer (some ⟨b,0,none⟩)] w fun e w'=>e=.returned (.tuple #[])/\∃q,p<=q/\q<=s.size/\Px.skip true (L s p)=Px.skip false (L s q)/\(∀h:q<s.size,(s[q].toNat:Int)=10)/\Rd b s q d w'/\Only b w w':=by
 go_enter func146,ntmps146
 go_wp2;go_loopw [] (fun wr=>∃q,p<=q/\q<=s.size/\Px.skip true (L s p)=Px.skip true (L s q)/\Rd b s q d wr/\Only b w wr) (fun wr=>s.size-posOf b wr)
 case atStart=>exact⟨p,Nat.le_refl _,hp,rfl,h,Only.refl _ _⟩
 case round=>
  obtain⟨q,hpq,hq,hsk,hR,hO⟩:=hrel;have HS:Hid (Px.skip true (L s p)=Px.skip true (L s q)):=hsk;clear hsk;have h0:=hR.c0;have h1:=hR.c1;have hf:=hR.fz 1;have HR:Hid (Rd b s q d wr):=hR;have HO:Hid (Only b w wr):=hO;have hpos:posOf b wr=q:=hR.pos;have HPos:Hid (posOf b wr=q):=hpos;clear hR hO hpos h;by_cases hlt:q<s.size
  ·have hd:((q:Int)==(s.size:Int))=false:=by simp;omega
   cases hc:((s[q].toNat:Int)==10)
   ·have Hst:=qlj s q hlt hc;have HSt:Hid (Px.skip true (L s q)=Px.skip true (L s (q+1))):=Hst;clear Hst;go_wp2_with (first|(go_at_call 87;refine(qah b s q d _ HR.out).mono ?_;rintro e w' ⟨rfl,n1,rfl⟩)|(go_at_call 237;refine(qbj b s q d _ _ (HR.out.drewN _) hlt).mono ?_;rintro e w' ⟨rfl,n2,rfl⟩))
    go_roundw
    case rel=>exact⟨q+1,by omega,by omega,HS.out.trans HSt.out,(HR.out.drewN _).set1 _ _ (by omega),(HO.out.drewN _).set _ _⟩
    case measure=>
     have e1:=HPos.out;have e2:=((HR.out.drewN (n1+n2)).set1 (q+1) ((q:Int)+1) (by omega)).pos;rw[e1,e2];omega
   ·have HSt:Hid (Px.skip true (L s q)=Px.skip false (L s q)):=qq7 s q hlt hc;go_wp2_with (first|(go_at_call 87;refine(qah b s q d _ HR.out).mono ?_;rintro e w' ⟨rfl,n1,rfl⟩)|(go_at_call 237;refine(qbj b s q d _ _ (HR.out.drewN _) hlt).mono ?_;rintro e w' ⟨rfl,n2,rfl⟩))
    go_end0;exact⟨rfl,q,hpq,hq,HS.out.trans HSt.out,fun _=>beq_iff_eq.1 hc,HR.out.drewN _,HO.out.drewN _⟩
  ·have hd:((q:Int)==(s.size:Int))=true:=by simp;omega
   have HSt:Hid (Px.skip true (L s q)=Px.skip false (L s q)):=qnr s q (by omega);go_wp2_with (first|(go_at_call 87;refine(qah b s q d _ HR.out).mono ?_;rintro e w' ⟨rfl,n1,rfl⟩))
   go_end0;exact⟨rfl,q,hpq,hq,HS.out.trans HSt.out,fun h=>absurd h hlt,(HR.out.drewN _),(HO.out.drewN _)⟩
theorem qfi(s:ByteArray)(q:Nat)(h:q<s.size)(hc:(s[q].toNat:Int)=32\/(s[q].toNat:Int)=10):Px.skip false (L s q)=Px.skip false (L s (q+1)):=by
 rw[L_lt s q h,Px.skip,if_pos (by omega)]
theorem qg9(s:ByteArray)(q:Nat)(h:q<s.size)(hc:(s[q].toNat:Int)=59):Px.skip false (L s q)=Px.skip true (L s q):=by
 have e:s[q].toNat=59:=by omega
 rw[L_lt s q h,Px.skip,Px.skip,if_neg (by omega),if_pos e,if_neg (by omega)]
theorem qnq(s:ByteArray)(q:Nat)(h:q<s.size)(h1:(s[q].toNat:Int)≠32)(h2:(s[q].toNat:Int)≠10)(h3:(s[q].toNat:Int)≠59):Px.skip false (L s q)=L s q:=by
 rw[L_lt s q h,Px.skip,if_neg (by omega),if_neg (by omega)]
theorem qq6(s:ByteArray)(q:Nat)(h:s.size<=q):Px.skip false (L s q)=L s q:=by
 rw[qgz s q h];rfl
theorem qa2(b:Nat)(s:ByteArray)(p d:Nat)(w:World)(h:Rd b s p d w)(hp:p<=s.size)(hs:s.size<=1200):
  Calls prog 86 #[.pointer (some ⟨b,0,none⟩)] w fun e w'=>e=.returned (.tuple #[])/\∃q,p<=q/\q<=s.size/\Px.skip false (L s p)=L s q/\Rd b s q d w'/\Only b w w':=by
 go_enter func86,ntmps86
 go_wp2;go_loopw [] (fun wr=>∃q,p<=q/\q<=s.size/\Px.skip false (L s p)=Px.skip false (L s q)/\Rd b s q d wr/\Only b w wr) (fun wr=>s.size-posOf b wr)
 case atStart=>exact⟨p,Nat.le_refl _,hp,rfl,h,Only.refl _ _⟩
 case round=>
  obtain⟨q,hpq,hq,hsk,hR,hO⟩:=hrel;have HS:Hid (Px.skip false (L s p)=Px.skip false (L s q)):=hsk;clear hsk;have h0:=hR.c0;have h1:=hR.c1;have hf:=hR.fz 1;have HR:Hid (Rd b s q d wr):=hR;have HO:Hid (Only b w wr):=hO;have hpos:posOf b wr=q:=hR.pos;have HPos:Hid (posOf b wr=q):=hpos;clear hR hO hpos h;by_cases hlt:q<s.size
  ·have hd:((q:Int)==(s.size:Int))=false:=by simp;omega
   cases c32:((s[q].toNat:Int)==32)
   ·cases c10:((s[q].toNat:Int)==10)
    ·cases c59:((s[q].toNat:Int)==59)
     ·have HSt:Hid (Px.skip false (L s q)=L s q):=qnq s q hlt (beq_eq_false_iff_ne.1 c32) (beq_eq_false_iff_ne.1 c10) (beq_eq_false_iff_ne.1 c59);go_wp2_with (first|(go_at_call 87;refine(qah b s q d _ HR.out).mono ?_;rintro e w' ⟨rfl,n1,rfl⟩))
      go_quiet (fail)
      go_wp2_with (first|(go_at_call 87;refine(qah b s q d _ HR.out).mono ?_;rintro e w' ⟨rfl,n1,rfl⟩))
      refine bodyPost_ret (results_none rfl _ _ _) rfl ?_;exact⟨rfl,q,hpq,hq,HS.out.trans HSt.out,HR.out.drewN _,HO.out.drewN _⟩
     ·have HSt:Hid (Px.skip false (L s q)=Px.skip true (L s q)):=qg9 s q hlt (beq_iff_eq.1 c59);go_wp2_with (first|(go_at_call 87;refine(qah b s q d _ HR.out).mono ?_;rintro e w' ⟨rfl,n1,rfl⟩))
      go_quiet (fail)
      go_wp2_with (first|(go_at_call 146;refine(qeb b s q d _ (HR.out.drewN _) hq hs).mono ?_;rintro e w' ⟨rfl,q',hq1,hq2,hsk',h10,hR',hO'⟩;refine Hid.out ?_))
      have hne:q<q':=by
       rcases Nat.lt_or_ge q q' with h'|h'
       ·exact h'
       ·exfalso;have e:q'=q:=by omega
        subst e;have e1:=h10 hlt;rw[e1]at c59;exact absurd c59 (by decide)
      have HSk:Hid (Px.skip true (L s q)=Px.skip false (L s q')):=hsk';have HPos':Hid (posOf b w'=q'):=hR'.pos;have HR':Hid (Rd b s q' d w'):=hR';have HO':Hid (Only b w w'):=(HO.out.drewN _).trans hO';clear hsk' hR' hO' h10;refine hZ ?_;go_wp2;go_roundw
      case rel=>exact⟨q',by omega,hq2,HS.out.trans (HSt.out.trans HSk.out),HR'.out,HO'.out⟩
      case measure=>
       have e1:=HPos.out;have e2:=HPos'.out;rw[e1,e2];omega
    ·have HSt:Hid (Px.skip false (L s q)=Px.skip false (L s (q+1))):=qfi s q hlt (.inr (beq_iff_eq.1 c10));go_wp2_with (first|(go_at_call 87;refine(qah b s q d _ HR.out).mono ?_;rintro e w' ⟨rfl,n1,rfl⟩))
     go_quiet (fail)
     go_wp2;go_roundw
     case rel=>exact⟨q+1,by omega,by omega,HS.out.trans HSt.out,(HR.out.drewN _).set1 _ _ (by omega),(HO.out.drewN _).set _ _⟩
     case measure=>
      have e1:=HPos.out;have e2:=((HR.out.drewN (n1+nq)).set1 (q+1) ((q:Int)+1) (by omega)).pos;rw[e1,e2];omega
   ·have HSt:Hid (Px.skip false (L s q)=Px.skip false (L s (q+1))):=qfi s q hlt (.inl (beq_iff_eq.1 c32));go_wp2_with (first|(go_at_call 87;refine(qah b s q d _ HR.out).mono ?_;rintro e w' ⟨rfl,n1,rfl⟩))
    go_quiet (fail)
    go_wp2;go_roundw
    case rel=>exact⟨q+1,by omega,by omega,HS.out.trans HSt.out,(HR.out.drewN _).set1 _ _ (by omega),(HO.out.drewN _).set _ _⟩
    case measure=>
     have e1:=HPos.out;have e2:=((HR.out.drewN (n1+nq)).set1 (q+1) ((q:Int)+1) (by omega)).pos;rw[e1,e2];omega
  ·have hd:((q:Int)==(s.size:Int))=true:=by simp;omega
   have HSt:Hid (Px.skip false (L s q)=L s q):=qq6 s q (by omega);go_wp2_with (first|(go_at_call 87;refine(qah b s q d _ HR.out).mono ?_;rintro e w' ⟨rfl,n1,rfl⟩))
   go_end0;exact⟨rfl,q,hpq,hq,HS.out.trans HSt.out,HR.out.drewN _,HO.out.drewN _⟩
end Rd
end
section
namespace Rd
open Go.RowKit
theorem _root_.Go.RowKit.Below.drewN'{B:Nat}{a w:World}(h:Below B a w)(n:Nat):Below B a (w.drewN n):=⟨h.os,h.tape,h.output,h.size,h.block⟩
theorem Bset{B:Nat}{a w:World}{g o:Nat}{v:Value}(h:Below B a w)(hg:B<=g):Below B a (w.setCell ⟨g,o,none⟩ v):=h.setCell (p:=⟨g,o,none⟩) hg v
theorem B6{B:Nat}{a w:World}{g:Nat}(h:Below B a w)(hg:B<=g)(v0 v1 v2 v3 v4 v5:Value):Below B a ((((((w.setCell ⟨g,0,none⟩ v0).setCell ⟨g,1,none⟩ v1).setCell ⟨g,2,none⟩ v2).setCell ⟨g,3,none⟩ v3).setCell ⟨g,4,none⟩ v4).setCell ⟨g,5,none⟩ v5):=
 Bset (Bset (Bset (Bset (Bset (Bset h hg) hg) hg) hg) hg) hg
theorem qo6(w:World)(g k:Nat)(hk:k≠g)(v0 v1 v2 v3 v4 v5:Value):((((((w.setCell ⟨g,0,none⟩ v0).setCell ⟨g,1,none⟩ v1).setCell ⟨g,2,none⟩ v2).setCell ⟨g,3,none⟩ v3).setCell ⟨g,4,none⟩ v4).setCell ⟨g,5,none⟩ v5).heap[k]? =w.heap[k]?:=by
 rw[Below.heap_setCell _ _ _ _ hk,Below.heap_setCell _ _ _ _ hk,Below.heap_setCell _ _ _ _ hk,Below.heap_setCell _ _ _ _ hk,Below.heap_setCell _ _ _ _ hk,Below.heap_setCell _ _ _ _ hk]
structure Box (g:Nat) (w:World):Prop where
 c0:∃v,w.cell? ⟨g,0,none⟩=some v
 c1:∃v,w.cell? ⟨g,1,none⟩=some v
 c2:∃v,w.cell? ⟨g,2,none⟩=some v
 c3:∃v,w.cell? ⟨g,3,none⟩=some v
 c4:∃v,w.cell? ⟨g,4,none⟩=some v
 c5:∃v,w.cell? ⟨g,5,none⟩=some v
 fz:∀o,w.frozen? ⟨g,o,none⟩=false
theorem Box.of{g:Nat}{w:World}{v0 v1 v2 v3 v4 v5:Value}(h:w.heap[g]? =some (.cells #[v0,v1,v2,v3,v4,v5] 134 (0,0))):Box g w:=
 ⟨⟨v0,by simp[World.cell?,h]⟩,⟨v1,by simp[World.cell?,h]⟩,⟨v2,by simp[World.cell?,h]⟩,⟨v3,by simp[World.cell?,h]⟩,⟨v4,by simp[World.cell?,h]⟩,⟨v5,by simp[World.cell?,h]⟩,fun o=>by simp[World.frozen?,h]⟩
theorem qgt(w:World)(o1 o2:Obj)(n:Nat):Below w.heap.size w (((w.alloc o1).alloc o2).drewN n):=
 (((Below.refl _ _).alloc (Nat.le_refl _) _).alloc (by simp) _).drewN' _
structure El where
 k:Int
 n:Int
 tr:Bool
 tx:ByteArray
 m:Int
 a:Option Addr
 len:Nat
 cap:Nat
abbrev El.v(e:El):Value:=.agg #[.int .i64 e.k,.int .i64 e.n,.bool e.tr,.string e.tx,.int .i64 e.m,.slice e.a e.len e.cap]
abbrev El.nil:El:=⟨0,0,false,⟨#[]⟩,0,none,0,0⟩
theorem qdu(tx:ByteArray)(w:World):
  Calls prog 239 #[.string tx] w fun e w'=>e=.returned (El.v ⟨3,0,false,tx,0,none,0,0⟩)/\Below w.heap.size w w':=by
 go_enter func239,ntmps239
 go_wp2;exact bodyPost_ret (v:=El.v ⟨3,0,false,tx,0,none,0,0⟩) (by simp[results,results239,go_sem]) rfl ⟨rfl,(Below.refl _ _).alloc (Nat.le_refl _) _⟩
theorem qdv(tx:ByteArray)(w:World):
  Calls prog 241 #[.string tx] w fun e w'=>e=.returned (El.v ⟨2,0,false,tx,0,none,0,0⟩)/\Below w.heap.size w w':=by
 go_enter func241,ntmps241
 go_wp2;exact bodyPost_ret (v:=El.v ⟨2,0,false,tx,0,none,0,0⟩) (by simp[results,results241,go_sem]) rfl ⟨rfl,(Below.refl _ _).alloc (Nat.le_refl _) _⟩
theorem qei(b:Bool)(w:World):
  Calls prog 243 #[.bool b] w fun e w'=>e=.returned (El.v ⟨1,0,b,⟨#[]⟩,0,none,0,0⟩)/\Below w.heap.size w w':=by
 go_enter func243,ntmps243
 go_wp2;exact bodyPost_ret (v:=El.v ⟨1,0,b,⟨#[]⟩,0,none,0,0⟩) (by simp[results,results243,go_sem]) rfl ⟨rfl,(Below.refl _ _).alloc (Nat.le_refl _) _⟩
theorem qdw(n:Int)(w:World):
  Calls prog 248 #[.int .i64 n] w fun e w'=>e=.returned (El.v ⟨0,n,false,⟨#[]⟩,0,none,0,0⟩)/\Below w.heap.size w w':=by
 go_enter func248,ntmps248
 go_wp2;exact bodyPost_ret (v:=El.v ⟨0,n,false,⟨#[]⟩,0,none,0,0⟩) (by simp[results,results248,go_sem]) rfl ⟨rfl,(Below.refl _ _).alloc (Nat.le_refl _) _⟩
theorem new2(w:World)(o1 o2:Obj):((w.alloc o1).alloc o2).heap[w.heap.size+1]? =some o2:=by
 have:=heap_alloc_new (w.alloc o1) o2
 rwa [show(w.alloc o1).heap.size=w.heap.size+1 from by simp]at this
theorem qbb(c p:Int)(w:World):
  Calls prog 147 #[.int .i64 c,.int .i64 p] w fun e w'=>∃N,e=.returned (.tuple #[El.nil.v,.pointer (some ⟨N,0,none⟩)])/\w.heap.size<=N/\w'.heap[N]? =some (.cells #[.int .i64 c,.int .i64 p] 126 (0,0))/\Below w.heap.size w w':=by
 go_enter func147,ntmps147
 go_wp2;exact bodyPost_ret (v:=.tuple #[El.nil.v,.pointer (some ⟨w.heap.size+1,0,none⟩)]) (by simp[results,results147,go_sem]) rfl ⟨_,rfl,by omega,new2 _ _ _,((Below.refl _ _).alloc (Nat.le_refl _) _).alloc (by simp) _⟩
theorem qs2(c:UInt8):Px.digB c=(decide (48<=(c.toNat:Int))&&decide ((c.toNat:Int)<=57)):=by
 unfold Px.digB;rw[Bool.eq_iff_iff];simp;omega
theorem qc2(c:UInt8)(w:World):
  Calls prog 244 #[.int .u8 (c.toNat:Int)] w fun e w'=>e=.returned (.bool (Px.digB c))/\w'=w:=by
 rw[qs2];go_enter func244,ntmps244
 go_wp2;all_goals go_ret
 all_goals exact⟨by simp[*] <;> omega,rfl⟩
theorem qqx(c:UInt8):Px.strB c=(decide (32<=(c.toNat:Int))&&decide ((c.toNat:Int)<=126)&&!((c.toNat:Int)==34)&&!((c.toNat:Int)==92)):=by
 unfold Px.strB;rw[Bool.eq_iff_iff];simp;omega
theorem qbe(c:UInt8)(w:World):
  Calls prog 240 #[.int .u8 (c.toNat:Int)] w fun e w'=>e=.returned (.bool (Px.strB c))/\w'=w:=by
 rw[qqx];go_enter func240,ntmps240
 go_wp2;all_goals go_ret
 all_goals refine⟨?_,rfl⟩
 all_goals simp[*]
 all_goals first|omega|rfl
theorem qs1:∀n:Fin 256,decide (0<=Lib.indexByte [32,10,40,41,39,34,59] (UInt8.ofNat n.val))=Px.endB (UInt8.ofNat n.val):=by decide+kernel
theorem qs0(c:UInt8):decide (0<=Lib.indexByte [32,10,40,41,39,34,59] c)=Px.endB c:=by
 have:=qs1 ⟨c.toNat,c.toNat_lt⟩;simpa using this
theorem qbm(c:UInt8)(w:World):
  Calls prog 299 #[.int .u8 (c.toNat:Int)] w fun e w'=>e=.returned (.bool (Px.endB c))/\w'=w:=by
 rw[<-qs0];go_enter func299,ntmps299
 go_wp2_with (go_at_call 245;refine(Tryz.strings_IndexByte _ _ _).mono ?_;rintro e w' ⟨rfl,rfl⟩)
 go_ret;exact⟨by simp,rfl⟩
theorem qnc:∀n:Fin 256,Px.wordB (UInt8.ofNat n.val)=(decide (97<=n.val/\n.val<=122)||Px.digB (UInt8.ofNat n.val)||decide (0<=Lib.indexByte [43,45,42,47,60,62,61,63,33,95,46,58] (UInt8.ofNat n.val))):=by decide+kernel
theorem qnb(c:UInt8):Px.wordB c=(decide (97<=c.toNat/\c.toNat<=122)||Px.digB c||decide (0<=Lib.indexByte [43,45,42,47,60,62,61,63,33,95,46,58] c)):=by
 have:=qnc ⟨c.toNat,c.toNat_lt⟩;simpa using this
theorem qa0(c:UInt8)(w:World):
  Calls prog 153 #[.int .u8 (c.toNat:Int)] w fun e w'=>e=.returned (.bool (Px.wordB c))/\w'=w:=by
 have HW:Hid (Px.wordB c=(decide (97<=c.toNat/\c.toNat<=122)||Px.digB c||decide (0<=Lib.indexByte [43,45,42,47,60,62,61,63,33,95,46,58] c))):=qnb c;cases hd:Px.digB c;all_goals
  go_enter func153,ntmps153
  go_wp2_with (first|(go_at_call 244;refine(qc2 c _).mono ?_;rintro e w' ⟨rfl,rfl⟩)|(go_at_call 245;refine(Tryz.strings_IndexByte _ _ _).mono ?_;rintro e w' ⟨rfl,rfl⟩))
  all_goals go_ret
  all_goals refine⟨?_,rfl⟩
  all_goals rw[HW.out]
  all_goals simp[*]
  all_goals first|omega|(rw[Bool.eq_iff_iff];simp;omega)
theorem qb6(b:Nat)(s:ByteArray)(p d:Nat)(x:El)(w:World)(h:Rd b s p d w)(hp:∀hlt:p<s.size,Px.endB s[p]=true)(hps:p<=s.size):
  Calls prog 242 #[.pointer (some ⟨b,0,none⟩),x.v] w fun e w'=>e=.returned (.tuple #[x.v,.pointer none])/\Below w.heap.size w w':=by
 obtain⟨k,n,tr,tx,m,a,len,cap⟩:=x;have h0:=h.c0;have h1:=h.c1;have HR:Hid (Rd b s p d w):=h;have hb:=h.lt;clear h;by_cases hlt:p<s.size
 ·have hd:((p:Int)==(s.size:Int))=false:=by simp;omega
  have he:=hp hlt;clear hp;go_enter func242,ntmps242
  go_wp2;go_quiet ((first|(go_at_call 87;exact Calls.quiet_of (qah b s p d _ (((HR.out.alloc _).alloc _).drewN _)))|(go_at_call 299;exact Calls.quiet_of_same (qbm _ _))))
  go_wp2;refine bodyPost_ret (v:=.tuple #[El.v ⟨k,n,tr,tx,m,a,len,cap⟩,.pointer none]) (by simp[results,results242,go_sem]) rfl ⟨rfl,B6 (qgt _ _ _ _) (by omega) _ _ _ _ _ _⟩
 ·have hd:((p:Int)==(s.size:Int))=true:=by simp;omega
  clear hp;go_enter func242,ntmps242
  go_wp2;go_quiet ((first|(go_at_call 87;exact Calls.quiet_of (qah b s p d _ (((HR.out.alloc _).alloc _).drewN _)))|(go_at_call 299;exact Calls.quiet_of_same (qbm _ _))))
  go_wp2;refine bodyPost_ret (v:=.tuple #[El.v ⟨k,n,tr,tx,m,a,len,cap⟩,.pointer none]) (by simp[results,results242,go_sem]) rfl ⟨rfl,B6 (qgt _ _ _ _) (by omega) _ _ _ _ _ _⟩
theorem qct(b:Nat)(s:ByteArray)(p d:Nat)(x:El)(w:World)(h:Rd b s p d w)(hlt:p<s.size)(he:Px.endB s[p]=false):
  Calls prog 242 #[.pointer (some ⟨b,0,none⟩),x.v] w fun e w'=>∃N,e=.returned (.tuple #[El.nil.v,.pointer (some ⟨N,0,none⟩)])/\w.heap.size<=N/\w'.heap[N]? =some (.cells #[.int .i64 2,.int .i64 p] 126 (0,0))/\Below w.heap.size w w':=by
 obtain⟨k,n,tr,tx,m,a,len,cap⟩:=x;have h0:=h.c0;have h1:=h.c1;have HR:Hid (Rd b s p d w):=h;have hb:=h.lt;clear h;have hd:((p:Int)==(s.size:Int))=false:=by simp;omega
 go_enter func242,ntmps242
 go_wp2;go_quiet ((first|(go_at_call 87;exact Calls.quiet_of (qah b s p d _ (((HR.out.alloc _).alloc _).drewN _)))|(go_at_call 299;exact Calls.quiet_of_same (qbm _ _))))
 go_wp2_with (go_at_call 147;refine(qbb _ _ _).mono ?_;rintro e w' ⟨N,rfl,hN,hN2,hbl⟩;refine Hid.out ?_)
 refine hZ ?_;have hsz:w.heap.size+2<=N:=by simpa using hN
 have hb2:Below w.heap.size w w':=(qgt w _ _ nq).trans (hbl.mono (by simp;omega));have hsz2:N<w'.heap.size:=(Array.getElem?_eq_some_iff.1 hN2).1;have H2:Hid (w'.heap[N]? =some (Obj.cells #[Value.int IntKind.i64 2,Value.int IntKind.i64 ↑p] 126)):=hN2;have HB2:Hid (Below w.heap.size w w'):=hb2;have hx:Box (w.heap.size+1) w':=Box.of (by rw[hbl.block _ (by simp)];exact new2 _ _ _);obtain⟨⟨y0,k0⟩,⟨y1,k1⟩,⟨y2,k2⟩,⟨y3,k3⟩,⟨y4,k4⟩,⟨y5,k5⟩,kf⟩:=hx;clear hN hN2 hbl hb2;go_wp2;exact bodyPost_ret (v:=.tuple #[El.nil.v,.pointer (some ⟨N,0,none⟩)]) (by simp[results,results242,go_sem, *]) rfl ⟨N,rfl,by omega,by rw[qo6 _ _ _ (by omega)];exact H2.out,B6 HB2.out (by omega) _ _ _ _ _ _⟩
end Rd
end
section
namespace Rd
open Go.RowKit
def El.cells(e:El):List Value:=[.int .i64 e.k,.int .i64 e.n,.bool e.tr,.string e.tx,.int .i64 e.m,.slice e.a e.len e.cap]
abbrev El.sl(e:El):Value:=.slice e.a e.len e.cap
abbrev NoB:Nat->Prop:=fun _=>False
structure Row (lo:Nat) (own:Nat->Prop) (w:World) (e:El) (es:List El):Prop where
 len:es.length=e.len
 owns:w.ownsRow lo 134 6 e.sl e.len (es.flatMap El.cells)
 far:∀g,own g->e.sl.ownBlock≠some g
def Rep(lo:Nat)(own:Nat->Prop)(w:World):Nat->El->Dt->Prop
 |0,_,_=>False
 |m+1,e,t=>
  (e.k=0/\t=.num e.n/\-9223372036854775808<=e.n/\e.n<=9223372036854775807/\e.len=0/\e.tr=false/\e.tx=⟨#[]⟩)\/(e.k=1/\t=.bool e.tr/\e.len=0/\e.n=0/\e.tx=⟨#[]⟩)\/(e.k=2/\t=.str e.tx.data.toList/\e.len=0/\e.n=0/\e.tr=false)\/(e.k=3/\t=.sym e.tx.data.toList e.m/\e.len=0)\/
  (e.k=4/\∃(es:List El) (ts:List Dt),t=.list ts/\es.length=ts.length/\Row lo own w e es/\∀(i:Nat) (x:El) (u:Dt),es[i]? =some x->ts[i]? =some u->Rep lo own w m x u)
theorem qdj{w:World}{lo lo':Nat}{e:TypeId}{z:Nat}{v:Value}{n:Nat}{xs:List Value}(h:w.ownsRow lo e z v n xs)(hl:lo'<=lo):w.ownsRow lo' e z v n xs:=by
 refine⟨h.1,?_⟩;rcases h.2 with h|⟨g,cap,cur,h1,h2,r⟩
 ·exact .inl h
 ·exact .inr ⟨g,cap,cur,h1,Nat.le_trans hl h2,r⟩
theorem Row.kept{lo:Nat}{own:Nat->Prop}{row:Option Nat}{w w':World}{e:El}{es:List El}(h:Row lo own w e es)(hg:w.grownBy w' row)(hr:∀g,row=some g->g<lo\/own g):Row lo own w' e es:=by
 refine⟨h.len,h.owns.kept hg ?_,h.far⟩;cases hv:e.sl.ownBlock with
 |none=>exact .inl rfl
 |some k=>
  right;intro hk;have h1:=h.owns.lt k hv;rcases hr k hk.symm with h2|h2
  ·omega
  ·exact h.far k h2 hv
theorem Rep.kept{lo:Nat}{own:Nat->Prop}{row:Option Nat}{w w':World}(hg:w.grownBy w' row)(hr:∀g,row=some g->g<lo\/own g):
  ∀{m:Nat} {e:El} {t:Dt},Rep lo own w m e t->Rep lo own w' m e t
 |0,_,_,h=>False.elim h
 |m+1,e,t,h=>by
  rcases h with h|h|h|h|⟨hk,es,ts,ht,hl,hrow,hall⟩
  ·exact .inl h
  ·exact .inr (.inl h)
  ·exact .inr (.inr (.inl h))
  ·exact .inr (.inr (.inr (.inl h)))
  ·exact .inr (.inr (.inr (.inr ⟨hk,es,ts,ht,hl,hrow.kept hg hr,fun i x u h1 h2=>Rep.kept hg hr (hall i x u h1 h2)⟩)))
theorem Rep.turn{lo lo':Nat}{own own':Nat->Prop}{w:World}(hlo:lo'<=lo)(ho:∀g,own' g->own g\/w.heap.size<=g\/g<lo):
  ∀{m:Nat} {e:El} {t:Dt},Rep lo own w m e t->Rep lo' own' w m e t
 |0,_,_,h=>False.elim h
 |m+1,e,t,h=>by
  rcases h with h|h|h|h|⟨hk,es,ts,ht,hl,hrow,hall⟩
  ·exact .inl h
  ·exact .inr (.inl h)
  ·exact .inr (.inr (.inl h))
  ·exact .inr (.inr (.inr (.inl h)))
  ·refine .inr (.inr (.inr (.inr ⟨hk,es,ts,ht,hl,⟨hrow.len,qdj hrow.owns hlo,fun g hg hv=>?_⟩,fun i x u h1 h2=>Rep.turn hlo ho (hall i x u h1 h2)⟩)));have h1:=hrow.owns.lt g hv;rcases ho g hg with h2|h2|h2
   ·exact hrow.far g h2 hv
   ·omega
   ·omega
def Res(b:Nat)(s:ByteArray)(d:Nat)(r:Py.R)(w:World)(e:Ending)(w':World):Prop:=
 Only b w w'/\
 match r with
 | .inl (c,k)=>∃N,e=.returned (.tuple #[El.nil.v,.pointer (some ⟨N,0,none⟩)])/\w.heap.size<=N/\w'.heap[N]? =some (.cells #[.int .i64 (c:Int),.int .i64 ((s.size-k:Nat):Int)] 126 (0,0))/\∃p',Rd b s p' d w'
 | .inr (ts,r)=>∃(x:El) (t:Dt),ts=[t]/\e=.returned (.tuple #[x.v,.pointer none])/\Rep w.heap.size NoB w' (32-d) x t/\Rd b s (s.size-r.length) d w'
abbrev put6(w:World)(g:Nat)(v0 v1 v2 v3 v4 v5:Value):World:=(((((w.setCell ⟨g,0,none⟩ v0).setCell ⟨g,1,none⟩ v1).setCell ⟨g,2,none⟩ v2).setCell ⟨g,3,none⟩ v3).setCell ⟨g,4,none⟩ v4).setCell ⟨g,5,none⟩ v5
theorem qbo(w:World)(g:Nat)(v0 v1 v2 v3 v4 v5:Value):w.grownBy (put6 w g v0 v1 v2 v3 v4 v5) (some g):=
 ((((((Only.refl g w).set 0 v0).set 1 v1).set 2 v2).set 3 v3).set 4 v4).set 5 v5
theorem Only.new{b g:Nat}{w w' w2:World}(h:Only b w w')(hg:w'.grownBy w2 (some g))(hn:w.heap.size<=g):Only b w w2:=
 ⟨hg.os.trans h.os,hg.tape.trans h.tape,hg.output.trans h.output,Nat.le_trans h.size hg.size,fun i hi hne=>(hg.block i (Nat.lt_of_lt_of_le hi h.size) (by intro e;cases e;omega)).trans (h.block i hi hne)⟩
theorem Only.of{b:Nat}{w w1 w2:World}(h:Only b w w1)(k:Below w1.heap.size w1 w2):Only b w w2:=
 ⟨k.os.trans h.os,k.tape.trans h.tape,k.output.trans h.output,Nat.le_trans h.size k.size,fun i hi hn=>(k.block i (Nat.lt_of_lt_of_le hi h.size)).trans (h.block i hi hn)⟩
theorem Rd.kept{b:Nat}{s:ByteArray}{p d:Nat}{w w':World}{row:Option Nat}(h:Rd b s p d w)(hg:w.grownBy w' row)(hne:some b≠row):Rd b s p d w':=by
 have:=h.lt;unfold Rd at*;rw[hg.block b this hne];exact h
theorem Rd.below{b:Nat}{s:ByteArray}{p d B:Nat}{w w':World}(h:Rd b s p d w)(hg:Below B w w')(hb:b<B):Rd b s p d w':=by
 unfold Rd at*;rw[hg.block b hb];exact h
theorem Box.below{g B:Nat}{w w':World}(h:Box g w)(hb:Below B w w')(hg:g<B):Box g w':=by
 have e:∀o,w'.cell? ⟨g,o,none⟩=w.cell? ⟨g,o,none⟩:=fun o=>hb.cell (p:=⟨g,o,none⟩) hg
 have f:∀o,w'.frozen? ⟨g,o,none⟩=w.frozen? ⟨g,o,none⟩:=fun o=>hb.frozen (p:=⟨g,o,none⟩) hg
 obtain⟨c0,c1,c2,c3,c4,c5,fz⟩:=h;exact⟨by rw[e];exact c0,by rw[e];exact c1,by rw[e];exact c2,by rw[e];exact c3,by rw[e];exact c4,by rw[e];exact c5,fun o=>by rw[f];exact fz o⟩
theorem Box.new(w:World)(v0 v1 v2 v3 v4 v5:Value):Box w.heap.size (w.alloc (.cells #[v0,v1,v2,v3,v4,v5] 134 (0,0))):=Box.of (heap_alloc_new w _)
theorem Box.set{g b o:Nat}{w:World}(h:Box g w)(hne:g≠b)(v:Value):Box g (w.setCell ⟨b,o,none⟩ v):=by
 have hh:=Below.heap_setCell w ⟨b,o,none⟩ v g hne;have e:∀o',(w.setCell ⟨b,o,none⟩ v).cell? ⟨g,o',none⟩=w.cell? ⟨g,o',none⟩:=fun o'=>World.cell?_of_block (w:=w) hh
 have f:∀o',(w.setCell ⟨b,o,none⟩ v).frozen? ⟨g,o',none⟩=w.frozen? ⟨g,o',none⟩:=fun o'=>World.frozen?_of_block (w:=w) hh
 obtain⟨c0,c1,c2,c3,c4,c5,fz⟩:=h;exact⟨by rw[e];exact c0,by rw[e];exact c1,by rw[e];exact c2,by rw[e];exact c3,by rw[e];exact c4,by rw[e];exact c5,fun o=>by rw[f];exact fz o⟩
theorem Box.drewN{g:Nat}{w:World}(h:Box g w)(n:Nat):Box g (w.drewN n):=⟨h.c0,h.c1,h.c2,h.c3,h.c4,h.c5,h.fz⟩
theorem Box.new1(w:World)(a:Addr)(u v0 v1 v2 v3 v4 v5:Value):Box w.heap.size ((w.setCell a u).alloc (.cells #[v0,v1,v2,v3,v4,v5] 134 (0,0))):=by
 have:=Box.new (w.setCell a u) v0 v1 v2 v3 v4 v5
 rwa [show(w.setCell a u).heap.size=w.heap.size from by simp]at this
theorem Box.kept{g:Nat}{w w':World}{row:Option Nat}(h:Box g w)(hg:w.grownBy w' row)(hne:some g≠row)(hlt:g<w.heap.size):Box g w':=by
 have hh:=hg.block g hlt hne;have e:∀o',w'.cell? ⟨g,o',none⟩=w.cell? ⟨g,o',none⟩:=fun o'=>World.cell?_of_block (w:=w) hh
 have f:∀o',w'.frozen? ⟨g,o',none⟩=w.frozen? ⟨g,o',none⟩:=fun o'=>World.frozen?_of_block (w:=w) hh
 obtain⟨c0,c1,c2,c3,c4,c5,fz⟩:=h;exact⟨by rw[e];exact c0,by rw[e];exact c1,by rw[e];exact c2,by rw[e];exact c3,by rw[e];exact c4,by rw[e];exact c5,fun o=>by rw[f];exact fz o⟩
theorem Box.new2(w:World)(a a':Addr)(u u' v0 v1 v2 v3 v4 v5:Value):Box w.heap.size (((w.setCell a u).setCell a' u').alloc (.cells #[v0,v1,v2,v3,v4,v5] 134 (0,0))):=by
 have:=Box.new ((w.setCell a u).setCell a' u') v0 v1 v2 v3 v4 v5
 rwa [show((w.setCell a u).setCell a' u').heap.size=w.heap.size from by simp]at this
theorem Res.err{b:Nat}{s:ByteArray}{d c k N g:Nat}{w w':World}{z pl:Int}(hO:Only b w w')(hg:w.heap.size<=g)(hN0:w.heap.size<=N)(hNg:N≠g)
  (hN:w'.heap[N]? =some (.cells #[.int .i64 z,.int .i64 pl] 126 (0,0)))(hz:z=(c:Int))(hpl:pl=((s.size-k:Nat):Int)){p':Nat}(hd:Rd b s p' d w')(hb:b<w.heap.size)(v0 v1 v2 v3 v4 v5:Value):
  Res b s d (.inl (c,k)) w (.returned (.tuple #[El.nil.v,.pointer (some ⟨N,0,none⟩)])) (put6 w' g v0 v1 v2 v3 v4 v5):=by
 subst hz;subst hpl;exact⟨hO.new (qbo _ _ _ _ _ _ _ _) hg,N,rfl,hN0,by rw[qo6 _ _ _ hNg];exact hN,p',hd.kept (qbo _ _ _ _ _ _ _ _) (by intro e;cases e;omega)⟩
theorem Res.ok{b:Nat}{s:ByteArray}{d p g lo:Nat}{w w':World}{x:El}{t:Dt}{r:List UInt8}(hO:Only b w w')(hg:w.heap.size<=g)(hlo:g<lo)(hb:b<w.heap.size)
  (hR:Rep lo NoB w' (32-d) x t)(hd:Rd b s p d w')(hp:p=s.size-r.length)(v0 v1 v2 v3 v4 v5:Value):
  Res b s d (.inr ([t],r)) w (.returned (.tuple #[x.v,.pointer none])) (put6 w' g v0 v1 v2 v3 v4 v5):=by
 subst hp;refine⟨hO.new (qbo _ _ _ _ _ _ _ _) hg,x,t,rfl,rfl,Rep.turn (lo:=lo) (own:=NoB) (by omega) (fun g h=>by cases h) (Rep.kept (qbo _ _ _ _ _ _ _ _) (fun g' h=>by cases h;exact .inl hlo) hR),hd.kept (qbo _ _ _ _ _ _ _ _) (by intro e;cases e;omega)⟩
theorem Res.alloc{b:Nat}{s:ByteArray}{d:Nat}{r:Py.R}{w w':World}{e:Ending}(h:Res b s d r w e w')(o:Obj):Res b s d r w e (w'.alloc o):=by
 rcases r with⟨c,k⟩|⟨ts,rr⟩
 ·obtain⟨hO,N,he,hN0,hN,p',hR⟩:=h;exact⟨hO.alloc o,N,he,hN0,by rw[Below.heap_alloc _ _ _ (Array.getElem?_eq_some_iff.1 hN).1];exact hN,p',hR.alloc o⟩
 ·obtain⟨hO,x,t,ht,he,hrep,hR⟩:=h;exact⟨hO.alloc o,x,t,ht,he,Rep.kept (World.grownBy_alloc w' o none) (fun g h=>by cases h) hrep,hR.alloc o⟩
end Rd
end
section
namespace Rd
open Go.RowKit
theorem qbv(s:ByteArray)(q:Nat)(t:Dt)(h:∀hlt:q<s.size,Px.endB s[q]=true):Py.closed t (L s q)=.inr ([t],L s q):=by
 by_cases hlt:q<s.size
 ·rw[L_lt s q hlt];simp[Py.closed,h hlt]
 ·rw[qgz s q (by omega)];rfl
theorem qch(s:ByteArray)(q:Nat)(t:Dt)(hlt:q<s.size)(h:Px.endB s[q]=false):Py.closed t (L s q)=.inl (2,s.size-q):=by
 rw[L_lt s q hlt];simp[Py.closed,h,qb3];omega
theorem qnh(s:ByteArray)(p:Nat)(h:p+1=s.size):Py.truth (L s (p+1))=.inl (2,s.size-p):=by
 rw[qgz s (p+1) (by omega)];simp[Py.truth];omega
theorem truth_t(s:ByteArray)(p:Nat)(h:p+1<s.size)(hc:((s[p+1].toNat:Int)==116)=true):Py.truth (L s (p+1))=Py.closed (.bool true) (L s (p+2)):=by
 have:=beq_iff_eq.1 hc;rw[L_lt s (p+1) h,Py.truth,if_pos (by omega)]
theorem truth_f(s:ByteArray)(p:Nat)(h:p+1<s.size)(hn:((s[p+1].toNat:Int)==116)=false)(hc:((s[p+1].toNat:Int)==102)=true):Py.truth (L s (p+1))=Py.closed (.bool false) (L s (p+2)):=by
 have:=beq_iff_eq.1 hc;have:=beq_eq_false_iff_ne.1 hn;rw[L_lt s (p+1) h,Py.truth,if_neg (by omega),if_pos (by omega)]
theorem qqq(s:ByteArray)(p:Nat)(h:p+1<s.size)(hn:((s[p+1].toNat:Int)==116)=false)(hc:((s[p+1].toNat:Int)==102)=false):Py.truth (L s (p+1))=.inl (2,s.size-p):=by
 have:=beq_eq_false_iff_ne.1 hc;have:=beq_eq_false_iff_ne.1 hn;rw[L_lt s (p+1) h,Py.truth,if_neg (by omega),if_neg (by omega),qb3];congr 2;omega
theorem qni(b:Nat)(s:ByteArray)(p d:Nat)(w:World)(h:Rd b s p d w)(hp:p<s.size)(hs:s.size<=1200)(hd30:d<=30):
  Calls prog 152 #[.pointer (some ⟨b,0,none⟩)] w fun e w'=>Res b s d (Py.truth (L s (p+1))) w e w':=by
 have h1:=h.c1;have hf:=h.fz 1;have hb:=h.lt;have HR:Hid (Rd b s p d w):=h;clear h;by_cases hlt:p+1<s.size
 ·cases ct:((s[p+1].toNat:Int)==116)
  ·cases cf:((s[p+1].toNat:Int)==102)
   ·have HT:Hid (Py.truth (L s (p+1))=.inl (2,s.size-p)):=qqq s p hlt ct cf;go_enter func152,ntmps152
    go_wp2_with (first|(go_at_call 237;refine(qbj b s (p+1) d _ _ (by first|exact(HR.out.set1 (p+1) _ (by omega)).alloc _|exact((HR.out.set1 (p+1) _ (by omega)).alloc _).drewN _) hlt).mono ?_;rintro e w' ⟨rfl,n1,rfl⟩)|(go_at_call 147;refine(qbb _ _ _).mono ?_;rintro e w' ⟨N,rfl,hN,hN2,hbl⟩;refine Hid.out ?_))
    have hsz:w.heap.size+1<=N:=by simpa using hN
    have hO:Only b w w':=Only.of (((Only.refl b w).set _ _).alloc _|>.drewN _) hbl;have HR9:=hZ ((((HR.out.set1 (p+1) _ (by omega)).alloc _).drewN _).below hbl (by first|omega|(simp;done)|(simp;omega)));have hx:Box w.heap.size w':=((Box.new1 w _ _ _ _ _ _ _ _).drewN _).below hbl (by simp);obtain⟨⟨y0,k0⟩,⟨y1,k1⟩,⟨y2,k2⟩,⟨y3,k3⟩,⟨y4,k4⟩,⟨y5,k5⟩,kf⟩:=hx;have HN2:=hZ hN2;have HO:=hZ hO;clear hN hN2 hbl hO;refine hZ ?_;go_wp2;refine bodyPost_ret (v:=.tuple #[El.nil.v,.pointer (some ⟨N,0,none⟩)]) (by simp[results,results152,go_sem, *]) rfl ?_;rw[HT.out];exact Res.err HO.out (Nat.le_refl _) (by omega) (by omega) HN2.out rfl (by omega) HR9.out (by omega) _ _ _ _ _ _
   ·have HT:Hid (Py.truth (L s (p+1))=Py.closed (.bool false) (L s (p+2))):=truth_f s p hlt ct cf;go_enter func152,ntmps152
    go_wp2_with (first|(go_at_call 237;refine(qbj b s (p+1) d _ _ (by first|exact(HR.out.set1 (p+1) _ (by omega)).alloc _|exact((HR.out.set1 (p+1) _ (by omega)).alloc _).drewN _) hlt).mono ?_;rintro e w' ⟨rfl,n1,rfl⟩)|(go_at_call 243;refine(qei _ _).mono ?_;rintro e w1 ⟨rfl,hbl⟩;refine Hid.out ?_))
    have hR1:Rd b s (p+2) d w1:=((((HR.out.set1 (p+1) _ (by omega)).alloc _).drewN _).set1 (p+2) _ (by omega)).below hbl (by simp;omega);have hO1:Only b w w1:=Only.of ((((Only.refl b w).set _ _).alloc _|>.drewN _).set _ _) hbl;have hx1:Box w.heap.size w1:=(((Box.new1 w _ _ _ _ _ _ _ _).drewN _).set (by omega) _).below hbl (by simp);have hz1:w.heap.size+1<=w1.heap.size:=by have:=hbl.size;simp at this;omega
    have HR1:=hZ hR1;have HO1:=hZ hO1;have HX1:=hZ hx1;clear hbl hR1 hO1 hx1;refine hZ ?_;by_cases hcl:∀hlt:p+2<s.size,Px.endB s[p+2]=true
    ·have HC:Hid (Py.closed (.bool false) (L s (p+2))=.inr ([.bool false],L s (p+2))):=qbv s (p+2) _ hcl;have HCl:=hZ hcl;clear hcl;go_wp2_with (go_at_call 242;refine(qb6 b s (p+2) d ⟨1,0,false,⟨#[]⟩,0,none,0,0⟩ _ HR1.out HCl.out (by omega)).mono ?_;rintro e w2 ⟨rfl,hbl⟩;refine Hid.out ?_)
     have HR2:=hZ (HR1.out.below hbl (by omega));have HO2:=hZ (Only.of HO1.out hbl);have HR9:=hZ (HR1.out.below hbl (by first|omega|(simp;done)|(simp;omega)));obtain⟨⟨y0,k0⟩,⟨y1,k1⟩,⟨y2,k2⟩,⟨y3,k3⟩,⟨y4,k4⟩,⟨y5,k5⟩,kf⟩:=HX1.out.below hbl (by omega);clear hbl;refine hZ ?_;go_wp2;refine bodyPost_ret (v:=.tuple #[El.v ⟨1,0,false,⟨#[]⟩,0,none,0,0⟩,.pointer none]) (by simp[results,results152,go_sem, *]) rfl ?_;rw[HT.out,HC.out];exact Res.ok HO2.out (Nat.le_refl _) (Nat.lt_succ_self _) hb (by rw[show 32-d=(31-d)+1 from by omega];exact .inr (.inl ⟨rfl,rfl,rfl,rfl,rfl⟩)) HR2.out (by rw[qb3];omega) _ _ _ _ _ _
    ·have hcl':∃hlt:p+2<s.size,Px.endB s[p+2]=false:=by
      rcases Classical.not_forall.1 hcl with⟨a,ha⟩;exact⟨a,by simpa using ha⟩
     obtain⟨hl2,he2⟩:=hcl';have HC:Hid (Py.closed (.bool false) (L s (p+2))=.inl (2,s.size-(p+2))):=qch s (p+2) _ hl2 he2;clear hcl;go_wp2_with (go_at_call 242;refine(qct b s (p+2) d ⟨1,0,false,⟨#[]⟩,0,none,0,0⟩ _ HR1.out hl2 he2).mono ?_;rintro e w2 ⟨N,rfl,hN,hN2,hbl⟩;refine Hid.out ?_)
     have HN2:=hZ hN2;have HO2:=hZ (Only.of HO1.out hbl);have HR9:=hZ (HR1.out.below hbl (by first|omega|(simp;done)|(simp;omega)));obtain⟨⟨y0,k0⟩,⟨y1,k1⟩,⟨y2,k2⟩,⟨y3,k3⟩,⟨y4,k4⟩,⟨y5,k5⟩,kf⟩:=HX1.out.below hbl (by omega);clear hbl hN2;refine hZ ?_;go_wp2;refine bodyPost_ret (v:=.tuple #[El.nil.v,.pointer (some ⟨N,0,none⟩)]) (by simp[results,results152,go_sem, *]) rfl ?_;rw[HT.out,HC.out];exact Res.err HO2.out (Nat.le_refl _) (by omega) (by omega) HN2.out rfl (by omega) HR9.out (by omega) _ _ _ _ _ _
  ·have HT:Hid (Py.truth (L s (p+1))=Py.closed (.bool true) (L s (p+2))):=truth_t s p hlt ct;go_enter func152,ntmps152
   go_wp2_with (first|(go_at_call 237;refine(qbj b s (p+1) d _ _ (by first|exact(HR.out.set1 (p+1) _ (by omega)).alloc _|exact((HR.out.set1 (p+1) _ (by omega)).alloc _).drewN _) hlt).mono ?_;rintro e w' ⟨rfl,n1,rfl⟩)|(go_at_call 243;refine(qei _ _).mono ?_;rintro e w1 ⟨rfl,hbl⟩;refine Hid.out ?_))
   have hR1:Rd b s (p+2) d w1:=((((HR.out.set1 (p+1) _ (by omega)).alloc _).drewN _).set1 (p+2) _ (by omega)).below hbl (by simp;omega);have hO1:Only b w w1:=Only.of ((((Only.refl b w).set _ _).alloc _|>.drewN _).set _ _) hbl;have hx1:Box w.heap.size w1:=(((Box.new1 w _ _ _ _ _ _ _ _).drewN _).set (by omega) _).below hbl (by simp);have hz1:w.heap.size+1<=w1.heap.size:=by have:=hbl.size;simp at this;omega
   have HR1:=hZ hR1;have HO1:=hZ hO1;have HX1:=hZ hx1;clear hbl hR1 hO1 hx1;refine hZ ?_;by_cases hcl:∀hlt:p+2<s.size,Px.endB s[p+2]=true
   ·have HC:Hid (Py.closed (.bool true) (L s (p+2))=.inr ([.bool true],L s (p+2))):=qbv s (p+2) _ hcl;have HCl:=hZ hcl;clear hcl;go_wp2_with (go_at_call 242;refine(qb6 b s (p+2) d ⟨1,0,true,⟨#[]⟩,0,none,0,0⟩ _ HR1.out HCl.out (by omega)).mono ?_;rintro e w2 ⟨rfl,hbl⟩;refine Hid.out ?_)
    have HR2:=hZ (HR1.out.below hbl (by omega));have HO2:=hZ (Only.of HO1.out hbl);have HR9:=hZ (HR1.out.below hbl (by first|omega|(simp;done)|(simp;omega)));obtain⟨⟨y0,k0⟩,⟨y1,k1⟩,⟨y2,k2⟩,⟨y3,k3⟩,⟨y4,k4⟩,⟨y5,k5⟩,kf⟩:=HX1.out.below hbl (by omega);clear hbl;refine hZ ?_;go_wp2;refine bodyPost_ret (v:=.tuple #[El.v ⟨1,0,true,⟨#[]⟩,0,none,0,0⟩,.pointer none]) (by simp[results,results152,go_sem, *]) rfl ?_;rw[HT.out,HC.out];exact Res.ok HO2.out (Nat.le_refl _) (Nat.lt_succ_self _) hb (by rw[show 32-d=(31-d)+1 from by omega];exact .inr (.inl ⟨rfl,rfl,rfl,rfl,rfl⟩)) HR2.out (by rw[qb3];omega) _ _ _ _ _ _
   ·have hcl':∃hlt:p+2<s.size,Px.endB s[p+2]=false:=by
     rcases Classical.not_forall.1 hcl with⟨a,ha⟩;exact⟨a,by simpa using ha⟩
    obtain⟨hl2,he2⟩:=hcl';have HC:Hid (Py.closed (.bool true) (L s (p+2))=.inl (2,s.size-(p+2))):=qch s (p+2) _ hl2 he2;clear hcl;go_wp2_with (go_at_call 242;refine(qct b s (p+2) d ⟨1,0,true,⟨#[]⟩,0,none,0,0⟩ _ HR1.out hl2 he2).mono ?_;rintro e w2 ⟨N,rfl,hN,hN2,hbl⟩;refine Hid.out ?_)
    have HN2:=hZ hN2;have HO2:=hZ (Only.of HO1.out hbl);have HR9:=hZ (HR1.out.below hbl (by first|omega|(simp;done)|(simp;omega)));obtain⟨⟨y0,k0⟩,⟨y1,k1⟩,⟨y2,k2⟩,⟨y3,k3⟩,⟨y4,k4⟩,⟨y5,k5⟩,kf⟩:=HX1.out.below hbl (by omega);clear hbl hN2;refine hZ ?_;go_wp2;refine bodyPost_ret (v:=.tuple #[El.nil.v,.pointer (some ⟨N,0,none⟩)]) (by simp[results,results152,go_sem, *]) rfl ?_;rw[HT.out,HC.out];exact Res.err HO2.out (Nat.le_refl _) (by omega) (by omega) HN2.out rfl (by omega) HR9.out (by omega) _ _ _ _ _ _
 ·have HT:Hid (Py.truth (L s (p+1))=.inl (2,s.size-p)):=qnh s p (by omega);go_enter func152,ntmps152
  go_wp2_with (first|(go_at_call 237;refine(qfg b s (p+1) d _ _ (by first|exact(HR.out.set1 (p+1) _ (by omega)).alloc _|exact((HR.out.set1 (p+1) _ (by omega)).alloc _).drewN _) (by omega)).mono ?_;rintro e w' ⟨rfl,n1,rfl⟩)|(go_at_call 147;refine(qbb _ _ _).mono ?_;rintro e w' ⟨N,rfl,hN,hN2,hbl⟩;refine Hid.out ?_))
  have hsz:w.heap.size+1<=N:=by simpa using hN
  have hO:Only b w w':=Only.of (((Only.refl b w).set _ _).alloc _|>.drewN _) hbl;have HR9:=hZ ((((HR.out.set1 (p+1) _ (by omega)).alloc _).drewN _).below hbl (by first|omega|(simp;done)|(simp;omega)));have hx:Box w.heap.size w':=((Box.new1 w _ _ _ _ _ _ _ _).drewN _).below hbl (by simp);obtain⟨⟨y0,k0⟩,⟨y1,k1⟩,⟨y2,k2⟩,⟨y3,k3⟩,⟨y4,k4⟩,⟨y5,k5⟩,kf⟩:=hx;have HN2:=hZ hN2;have HO:=hZ hO;clear hN hN2 hbl hO;refine hZ ?_;go_wp2;refine bodyPost_ret (v:=.tuple #[El.nil.v,.pointer (some ⟨N,0,none⟩)]) (by simp[results,results152,go_sem, *]) rfl ?_;rw[HT.out];exact Res.err HO.out (Nat.le_refl _) (by omega) (by omega) HN2.out rfl (by omega) HR9.out (by omega) _ _ _ _ _ _
end Rd
end
section
namespace Rd
open Go.RowKit
structure Scan (P:UInt8->Bool) (s:ByteArray) (a q:Nat):Prop where
 le:a<=q
 lim:q<=s.size
 all:∀i (h:i<s.size),a<=i->i<q->P s[i]=true
theorem Scan.refl(P:UInt8->Bool)(s:ByteArray)(a:Nat)(h:a<=s.size):Scan P s a a:=⟨Nat.le_refl _,h,fun i _ h1 h2=>by omega⟩
theorem Scan.next{P:UInt8->Bool}{s:ByteArray}{a q:Nat}(h:Scan P s a q)(hq:q<s.size)(hP:P s[q]=true):Scan P s a (q+1):=
 ⟨by have:=h.le;omega,by omega,fun i hi h1 h2=>by
  by_cases e:i=q
  ·subst e;exact hP
  ·exact h.all i hi h1 (by omega)⟩
theorem qku(s:ByteArray)(a q:Nat):(s.extract a q).data.toList=(L s a).take (q-a):=by
 unfold L;rw[ByteArray.data_extract,Array.toList_extract,List.extract_eq_take_drop]
theorem Scan.ends{P:UInt8->Bool}{s:ByteArray}:∀(n a q:Nat),q=a+n->Scan P s a q->(∀h:q<s.size,P s[q]=false)->(L s a).takeWhile P=(L s a).take (q-a)/\(L s a).dropWhile P=L s q
 |0,a,q,e,h,hq=>by
  have e':q=a:=by omega
  subst e';by_cases hl:q<s.size
  ·rw[L_lt s q hl];simp[List.takeWhile,List.dropWhile,hq hl]
  ·rw[qgz s q (by omega)];simp
 |n+1,a,q,e,h,hq=>by
  have hl:a<s.size:=by have:=h.lim;omega
  have hP:=h.all a hl (Nat.le_refl _) (by omega);have ih:=Scan.ends n (a+1) q (by omega) ⟨by omega,h.lim,fun i hi h1 h2=>h.all i hi (by omega) h2⟩ hq;rw[L_lt s a hl];rw[show q-a=(q-(a+1))+1 from by omega];simp[List.takeWhile,List.dropWhile,hP,ih.1,ih.2]
theorem Scan.fin{P:UInt8->Bool}{s:ByteArray}{a q:Nat}(h:Scan P s a q)(hq:∀h:q<s.size,P s[q]=false):(L s a).takeWhile P=(s.extract a q).data.toList/\(L s a).dropWhile P=L s q:=by
 have:=Scan.ends (q-a) a q (by have:=h.le;omega) h hq;rw[qku s a q];exact this
theorem str_end{s:ByteArray}{a q:Nat}(h:Scan Px.strB s a q)(e:q=s.size):Py.str (L s a)=.inl (3,0):=by
 have f:=h.fin (fun h'=>by omega);unfold Py.str;rw[f.2,qgz s q (by omega)]
theorem qnn{s:ByteArray}{a q:Nat}(h:Scan Px.strB s a q)(hl:q<s.size)(hc:((s[q].toNat:Int)==34)=true):Py.str (L s a)=.inr ([.str (s.extract a q).data.toList],L s (q+1)):=by
 have e:s[q].toNat=34:=by have:=beq_iff_eq.1 hc;omega
 have f:=h.fin (fun h'=>by unfold Px.strB;simp[e]);unfold Py.str;rw[f.1,f.2,L_lt s q hl];simp[e]
theorem str_bad{s:ByteArray}{a q:Nat}(h:Scan Px.strB s a q)(hl:q<s.size)(hb:Px.strB s[q]=false)(hc:((s[q].toNat:Int)==34)=false):Py.str (L s a)=.inl (2,s.size-q):=by
 have e:s[q].toNat≠34:=by have:=beq_eq_false_iff_ne.1 hc;omega
 have f:=h.fin (fun h'=>hb);unfold Py.str;rw[f.2,L_lt s q hl];simp[e,qb3];omega
theorem qlg(b:Nat)(s:ByteArray)(p d:Nat)(w:World)(h:Rd b s p d w)(hp:p<s.size)(hs:s.size<=1200)(hd30:d<=30):
  Calls prog 151 #[.pointer (some ⟨b,0,none⟩)] w fun e w'=>Res b s d (Py.str (L s (p+1))) w e w':=by
 have h1:=h.c1;have hf:=h.fz 1;have hb:=h.lt;have HR:Hid (Rd b s p d w):=h;clear h;go_enter func151,ntmps151
 go_wp2;go_loopw [] (fun wr=>∃q,Scan Px.strB s (p+1) q/\Rd b s q d wr/\Only b w wr/\Box w.heap.size wr/\w.heap.size<wr.heap.size) (fun wr=>s.size-posOf b wr)
 case atStart=>exact⟨p+1,Scan.refl _ _ _ (by omega),(HR.out.set1 (p+1) _ (by omega)).alloc _,((Only.refl b w).set _ _).alloc _,Box.new1 w _ _ _ _ _ _ _ _,by simp⟩
 case round=>
  obtain⟨q,hS,hR,hO,hX,hz⟩:=hrel;have h0':=hR.c0;have h1':=hR.c1;have hf':=hR.fz 1;have hq:=hS.lim;have hpq:=hS.le;have HRq:=hZ hR;have HO:=hZ hO;have HX:=hZ hX;have HS:=hZ hS;have HPos:Hid (posOf b wr=q):=hR.pos;clear hR hO hX hS;by_cases hlt:q<s.size
  ·have hd:((q:Int)==(s.size:Int))=false:=by simp;omega
   cases hc:Px.strB s[q]
   ·cases cq:((s[q].toNat:Int)==34)
    ·have HT:Hid (Py.str (L s (p+1))=.inl (2,s.size-q)):=str_bad HS.out hlt hc cq;go_wp2;go_quiet ((first|(go_at_call 87;exact Calls.quiet_of (qah b s q d _ (HRq.out.drewN _)))|(go_at_call 240;exact Calls.quiet_of_same (qbe _ _))))
     go_wp2_with (first|(go_at_call 87;refine(qah b s q d _ (HRq.out.drewN _)).mono ?_;rintro e w' ⟨rfl,n1,rfl⟩)|(go_at_call 237;refine(qbj b s q d _ _ (HRq.out.drewN _) hlt).mono ?_;rintro e w' ⟨rfl,n2,rfl⟩)|(go_at_call 147;refine(qbb _ _ _).mono ?_;rintro e w' ⟨N,rfl,hN,hN2,hbl⟩;refine Hid.out ?_))
     have hO2:Only b w w':=Only.of (HO.out.drewN _) hbl;have HR9:=hZ ((HRq.out.drewN _).below hbl (by first|omega|(simp;done)|(simp;omega)));have hx:Box w.heap.size w':=(HX.out.drewN _).below hbl (by simp;try omega);have hsz:w.heap.size+1<=N:=by simp at hN;omega
     obtain⟨⟨y0,k0⟩,⟨y1,k1⟩,⟨y2,k2⟩,⟨y3,k3⟩,⟨y4,k4⟩,⟨y5,k5⟩,kf⟩:=hx;have HN2:=hZ hN2;have HO2:=hZ hO2;clear hN hN2 hbl hO2;refine hZ ?_;go_wp2;refine bodyPost_ret (v:=.tuple #[El.nil.v,.pointer (some ⟨N,0,none⟩)]) (by simp[results,results151,go_sem, *]) rfl ?_;rw[HT.out];exact Res.err HO2.out (Nat.le_refl _) (by omega) (by omega) HN2.out rfl (by omega) HR9.out (by omega) _ _ _ _ _ _
    ·have HT:Hid (Py.str (L s (p+1))=.inr ([.str (s.extract (p+1) q).data.toList],L s (q+1))):=qnn HS.out hlt cq;go_wp2;go_quiet ((first|(go_at_call 87;exact Calls.quiet_of (qah b s q d _ (HRq.out.drewN _)))|(go_at_call 240;exact Calls.quiet_of_same (qbe _ _))))
     go_wp2_with (first|(go_at_call 87;refine(qah b s q d _ (HRq.out.drewN _)).mono ?_;rintro e w' ⟨rfl,n1,rfl⟩)|(go_at_call 237;refine(qbj b s q d _ _ (HRq.out.drewN _) hlt).mono ?_;rintro e w' ⟨rfl,n2,rfl⟩)|(go_at_call 241;refine(qdv _ _).mono ?_;rintro e w1 ⟨rfl,hbl⟩;refine Hid.out ?_))
     go_quiet (fail)
     go_wp2_with (go_at_call 241;refine(qdv _ _).mono ?_;rintro e w1 ⟨rfl,hbl⟩;refine Hid.out ?_)
     have HR2:=hZ (((HRq.out.drewN _).set1 (q+1) _ (by omega)).below hbl (by simp;omega));have HO2:=hZ (Only.of ((HO.out.drewN _).set _ _) hbl);obtain⟨⟨y0,k0⟩,⟨y1,k1⟩,⟨y2,k2⟩,⟨y3,k3⟩,⟨y4,k4⟩,⟨y5,k5⟩,kf⟩:=((HX.out.drewN _).set (by omega) _).below hbl (by simp;omega);clear hbl;refine hZ ?_;go_wp2;refine bodyPost_ret (v:=.tuple #[El.v ⟨2,0,false,s.extract (p+1) q,0,none,0,0⟩,.pointer none]) (by simp[results,results151,go_sem, *]) rfl ?_;rw[HT.out];exact Res.ok HO2.out (Nat.le_refl _) (Nat.lt_succ_self _) hb (by rw[show 32-d=(31-d)+1 from by omega];exact .inr (.inr (.inl ⟨rfl,rfl,rfl,rfl,rfl⟩))) HR2.out (by rw[qb3];omega) _ _ _ _ _ _
   ·go_wp2;go_quiet ((first|(go_at_call 87;exact Calls.quiet_of (qah b s q d _ (HRq.out.drewN _)))|(go_at_call 240;exact Calls.quiet_of_same (qbe _ _))))
    go_wp2;go_roundw
    case rel=>exact⟨q+1,HS.out.next hlt hc,(HRq.out.drewN _).set1 _ _ (by omega),(HO.out.drewN _).set _ _,(HX.out.drewN _).set (by omega) _,by simpa using hz⟩
    case measure=>
     have e1:=HPos.out;have e2:=((HRq.out.drewN nq).set1 (q+1) ((q:Int)+1) (by omega)).pos;rw[e1,e2];omega
  ·have hd:((q:Int)==(s.size:Int))=true:=by simp;omega
   have HT:Hid (Py.str (L s (p+1))=.inl (3,0)):=str_end HS.out (by omega);go_wp2;go_quiet ((first|(go_at_call 87;exact Calls.quiet_of (qah b s q d _ (HRq.out.drewN _)))|(go_at_call 240;exact Calls.quiet_of_same (qbe _ _))))
   go_wp2_with (first|(go_at_call 87;refine(qah b s q d _ (HRq.out.drewN _)).mono ?_;rintro e w' ⟨rfl,n1,rfl⟩)|(go_at_call 147;refine(qbb _ _ _).mono ?_;rintro e w' ⟨N,rfl,hN,hN2,hbl⟩;refine Hid.out ?_))
   have hO2:Only b w w':=Only.of (HO.out.drewN _) hbl;have HR9:=hZ ((HRq.out.drewN _).below hbl (by first|omega|(simp;done)|(simp;omega)));have hx:Box w.heap.size w':=(HX.out.drewN _).below hbl (by simp;try omega);have hsz:w.heap.size+1<=N:=by simp at hN;omega
   obtain⟨⟨y0,k0⟩,⟨y1,k1⟩,⟨y2,k2⟩,⟨y3,k3⟩,⟨y4,k4⟩,⟨y5,k5⟩,kf⟩:=hx;have HN2:=hZ hN2;have HO2:=hZ hO2;clear hN hN2 hbl hO2;refine hZ ?_;go_wp2;refine bodyPost_ret (v:=.tuple #[El.nil.v,.pointer (some ⟨N,0,none⟩)]) (by simp[results,results151,go_sem, *]) rfl ?_;rw[HT.out];exact Res.err HO2.out (Nat.le_refl _) (by omega) (by omega) HN2.out rfl (by omega) HR9.out (by omega) _ _ _ _ _ _
end Rd
end
section
namespace Rd
open Go.RowKit
theorem qif(l:List UInt8):Lib.trimPrefix l [45]=Px.unsign l:=by
 unfold Lib.trimPrefix Lib.hasPrefix Px.unsign;cases l with
 |nil=>simp
 |cons c r=>
  by_cases h:c=45
  ·subst h;simp
  ·have h':¬c.toNat=45:=fun e=>h (by rw[<-UInt8.toNat_inj];simpa using e)
   simp[h',Ne.symm h]
theorem qk9(l:List UInt8):(Px.unsign l).length<=l.length:=by
 cases l with
 |nil=>simp[Px.unsign]
 |cons c r=>
  by_cases h:c.toNat=45
  ·simp[Px.unsign,h]
  ·simp[Px.unsign,h]
theorem qgy(u:ByteArray)(k:Nat)(h:k<u.size):(u.data.toList.take (k+1)).all Px.digB=((u.data.toList.take k).all Px.digB&&Px.digB u[k]):=by
 rw[List.take_succ_eq_append_getElem (by simpa using h),List.all_append];simp;rfl
theorem qj5(u:ByteArray)(k:Nat)(h:k<u.size)(hd:Px.digB u[k]=false):u.data.toList.all Px.digB=false:=by
 rw[List.all_eq_false];exact⟨u[k],by show u.data[k]∈_;simp,by simp[hd]⟩
theorem qa7(t:ByteArray)(w:World)(ht:t.size<=1200):
  Calls prog 246 #[.string t] w fun e w'=>e=.returned (.bool (Px.numB t.data.toList))/\w'=w:=by
 go_enter func246,ntmps246
 go_wp2_with (go_at_call 301;refine(Tryz.strings_TrimPrefix _ _ _).mono ?_;rintro e w' ⟨rfl,rfl⟩;refine Hid.out ?_)
 refine hZ ?_;obtain⟨u,hu⟩:∃u:ByteArray,u=⟨(Lib.trimPrefix t.data.toList [45]).toArray⟩:=⟨_,rfl⟩;have hul:u.data.toList=Px.unsign t.data.toList:=by rw[hu,<-qif]
 have hsz:u.size<=1200:=by
  have e1:u.size=u.data.toList.length:=by simp
  have e2:t.size=t.data.toList.length:=by simp
  rw[e1,hul];have:=qk9 t.data.toList;omega
 have HU:=hZ hul;clear hul;simp only[<-hu];clear hu;go_wp2;go_loop [9] (fun i=>∃k:Nat,k<=u.size/\i=.int .i64 k/\(u.data.toList.take k).all Px.digB=true) (fun i=>u.size-(intOf i).toNat)
 case atStart=>exact⟨0,Nat.zero_le _,rfl,rfl⟩
 case round=>
  obtain⟨k,hk,rfl,hall⟩:=hrel;have HA:=hZ hall;clear hall;by_cases hlt:k<u.size
  ·cases hd:Px.digB u[k]
   ·go_wp2_with (go_at_call 244;refine(qc2 _ _).mono ?_;rintro e w' ⟨rfl,rfl⟩)
    go_ret;refine⟨?_,rfl⟩;unfold Px.numB;rw[<-HU.out,qj5 u k hlt hd];rfl
   ·go_wp2_with (go_at_call 244;refine(qc2 _ _).mono ?_;rintro e w' ⟨rfl,rfl⟩)
    go_round
    case rel=>exact⟨k+1,by omega,by go_num,by rw[qgy u k hlt,HA.out,hd];rfl⟩
    case measure=>simp[intOf];omega
  ·go_wp2;go_ret;refine⟨?_,rfl⟩;have e:(u.data.toList.take k)=u.data.toList:=List.take_of_length_le (by simp;omega);have:=HA.out;rw[e]at this;unfold Px.numB;rw[<-HU.out,this];show Ending.returned (Value.bool !u.toList.isEmpty)=_;rw[Lib.toList_data];rfl
end Rd
end
end Go.Proofs.YtldaocpojcfljaaGreatDoor
