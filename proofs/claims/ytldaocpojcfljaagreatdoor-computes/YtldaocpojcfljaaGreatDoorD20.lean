import Derived.Test.YtldaocpojcfljaaGreatDoorD19
set_option maxRecDepth 100000
set_option maxHeartbeats 4000000
namespace Go.Proofs.YtldaocpojcfljaaGreatDoor
open Tryz hiding parts
open Go.RowKit Go.Shelf
section
open Sc
def Sc.Pm.most:List Pm:=[.add,.sub,.mul,.quot,.rem,.eql,.lss,.nullQ,.pairQ,.intQ,.symQ,.strQ,.boolQ,.procQ,.sealQ,.not,.eqQ,.equalQ,.cons,.car,.cdr,.list,.length,.append,.strAppend,.strLength,.numStr,.symStr,.apply,.callcc,.wind,.error,.seal]
def Sc.Pm.off:Pm->Nat
 | .add=>1
 | .sub=>4
 | .mul=>7
 | .quot=>10
 | .rem=>13
 | .eql=>16
 | .lss=>19
 | .nullQ=>22
 | .pairQ=>25
 | .intQ=>28
 | .symQ=>31
 | .strQ=>34
 | .boolQ=>37
 | .procQ=>40
 | .sealQ=>43
 | .not=>47
 | .eqQ=>50
 | .equalQ=>53
 | .cons=>57
 | .car=>60
 | .cdr=>63
 | .list=>66
 | .length=>69
 | .append=>72
 | .strAppend=>76
 | .strLength=>79
 | .numStr=>82
 | .symStr=>85
 | .apply=>89
 | .callcc=>92
 | .wind=>95
 | .error=>98
 | .seal=>101
 |_=>0
def globs(l:List Pm):List (Bs×Vl):=l.foldl (fun g p=>put p.name (.prim p) g) []
theorem qmh(l:List Pm)(p:Pm):globs (l++[p])=put p.name (.prim p) (globs l):=by simp[globs]
def PSt(G0:Gh)(w0:World)(S:Sub)(br:Option Nat)(done:List Pm)(n:Nat)(w:World):Prop:=
 ∃G,Inv G S {({}:Mc)with glob:=globs done} w/\w.heap.size=w0.heap.size+n/\G.B.map (·.1)=done.map Pm.name/\Mv G0 w0 G w/\∀r,br=some r->G.mbox r
theorem PSt.lk{G0:Gh}{w0:World}{S:Sub}{br:Option Nat}{done:List Pm}{n:Nat}{w w':World}(h:PSt G0 w0 S br done n w)(hl:Lk w w'):PSt G0 w0 S br done n w':=by
 obtain⟨G,h1,h2,h3,h4,h5⟩:=h;exact⟨G,Inv.lk hl h1,by rw[hl.heap];exact h2,h3,h4.lk hl,h5⟩
theorem PSt.box{G0:Gh}{w0:World}{S:Sub}{done:List Pm}{n:Nat}{w w':World}(h:PSt G0 w0 S none done n w)(hl:Lk (w.alloc (.cells #[bp G0.mb] 107)) w'):PSt G0 w0 S (some w.heap.size) done (n+1) w':=by
 obtain⟨G,h1,h2,h3,h4,_⟩:=h;have x1:=h1.x1 (.cells #[bp G0.mb] 107);refine⟨G.add w.heap.size (.cells #[bp G0.mb] 107),Inv.lk hl (h1.alloc _),by rw[hl.heap];simp[h2];omega,h3,h4.trans ((Mv.ext x1 (qab _ _)).lk hl),fun r hr=>?_⟩;cases hr;show Gh.I _ _=_;have hmb:(G.add w.heap.size (.cells #[bp G0.mb] 107)).mb=G0.mb:=h4.up.le.mb;rw[hmb];exact Gh.add_at _ _ _
theorem PSt.off{G0:Gh}{w0:World}{S:Sub}{br:Option Nat}{done:List Pm}{n:Nat}{w:World}(h:PSt G0 w0 S br done n w):PSt G0 w0 S none done n w:=by
 obtain⟨G,h1,h2,h3,h4,_⟩:=h;exact⟨G,h1,h2,h3,h4,nofun⟩
theorem PSt.cell{G0:Gh}{w0:World}{S:Sub}{q:Nat}{done:List Pm}{n:Nat}{w:World}(h:PSt G0 w0 S (some q) done n w):w.cell? ⟨q,0,none⟩=some (bp G0.mb):=by
 obtain⟨G,h1,_,_,h4,h5⟩:=h;have:=h1.cell (h5 q rfl) 0;rw[h4.up.le.mb]at this;exact this
theorem qeo{s:Bs}:∀{B:List (Bs×Nat)},s∉B.map (·.1)->lookB s B=none
 | [],_=>rfl
 |(t,b)::r,h=>by
  simp only[List.map_cons,List.mem_cons,not_or]at h;simp[lookB,h.1,qeo h.2]
theorem PSt.fin{G0:Gh}{w0:World}{S:Sub}{br:Option Nat}{done:List Pm}{_n d:Nat}{_w w2:World}{b:Nat}{x:Value}{p:Pm}{G1:Gh}{_m1:List (Bs×Vl)}(i:Inv G1 S {({}:Mc)with glob:=globs done} w2)(hsz:w2.heap.size=w0.heap.size+d)(hB:G1.B.map (·.1)=done.map Pm.name)(hmv:Mv G0 w0 G1 w2)(hbr:∀r,br=some r->G1.mbox r)
  (hP:∀p,G0.P p=w0.heap.size+p.off)(hb:b=w0.heap.size+p.off)(hI:G1.I b=some (.cells #[x] 300 (0,0)))(hrep:PRep G1 p x)(hnew:p.name∉done.map Pm.name):Calls prog 139 #[bp G0.mb,.string ⟨p.name.toArray⟩,.iface 281 (bp b)] w2 fun e w3=>e=.returned (.tuple #[])/\PSt G0 w0 S br (done++[p]) (d+1) w3:=by
 have hmb:G1.mb=G0.mb:=hmv.up.le.mb;have hPp:G1.P p=b:=by rw[hmv.up.le.P,hP,hb]
 have hv:VRep G1 (.prim p) (.iface 281 (bp b)):=by
  have:=VRep.proc (G:=G1) (.prim p) (G1.P p) (.prim p x (by rw[hPp];exact hI) hrep);rw[hPp]at this;exact this
 have key:=qfv G1 S _ w2 ⟨p.name.toArray⟩ (.prim p) _ i (qeo (by rw[hB];simpa using hnew)) hv;rw[hmb]at key;refine Calls.mono key ?_;rintro e w3 ⟨rfl,h1,h2,h3⟩;have hnm:(⟨p.name.toArray⟩:ByteArray).data.toList=p.name:=by simp
 rw[hnm]at h1 h2;refine⟨rfl,G1.glob p.name w2.heap.size,?_,by omega,?_,hmv.trans h1,fun r hr=>h1.up.le.mbox (hbr r hr)⟩
 ·rw[qmh];exact h2
 ·show(G1.B++[(p.name,w2.heap.size)]).map (·.1)=_;simp[hB]
theorem PSt.two{G0:Gh}{w0:World}{S:Sub}{br:Option Nat}{done:List Pm}{n:Nat}{w w2:World}(h:PSt G0 w0 S br done n w)(hP:∀p,G0.P p=w0.heap.size+p.off)(p:Pm)(ho:p.off=n+1)(hnew:p.name∉done.map Pm.name){x1:Value}{T:Nat}
  (hrep:∀G:Gh,G.I w.heap.size=some (.cells #[x1] T (0,0))->(∀r,br=some r->G.mbox r)->G.mb=G0.mb->PRep G p (.func (.func p.wrapF) #[] #[bp w.heap.size]))(hw2:Lk ((w.alloc (.cells #[x1] T)).alloc (.cells #[.func (.func p.wrapF) #[] #[bp w.heap.size]] 300)) w2):
  Calls prog 139 #[bp G0.mb,.string ⟨p.name.toArray⟩,.iface 281 (bp (w.heap.size+1))] w2 fun e w3=>e=.returned (.tuple #[])/\PSt G0 w0 S br (done++[p]) (n+3) w3:=by
 obtain⟨G,h1,h2,h3,h4,h5⟩:=h;have i2:=Inv.lk hw2 (h1.alloc2 (.cells #[x1] T) (.cells #[.func (.func p.wrapF) #[] #[bp w.heap.size]] 300));have x2:=h1.x2 (.cells #[x1] T) (.cells #[.func (.func p.wrapF) #[] #[bp w.heap.size]] 300);have mv2:Mv G0 w0 _ w2:=h4.trans ((Mv.ext x2 ((qab _ _).alloc (by simp) _)).lk hw2);exact PSt.fin (_n:=n) (_w:=w) (_m1:=[]) i2 (d:=n+2) (by rw[hw2.heap];simp[h2];omega) h3 mv2 (fun r hr=>x2.le.mbox (h5 r hr)) hP (by omega) (Gh.add_at _ _ _) (hrep _ (by rw[qae _ (by omega)];exact Gh.add_at _ _ _) (fun r hr=>x2.le.mbox (h5 r hr)) mv2.up.le.mb) hnew
theorem PSt.one{G0:Gh}{w0:World}{S:Sub}{q:Nat}{done:List Pm}{n:Nat}{w w2:World}(h:PSt G0 w0 S (some q) done n w)(hP:∀p,G0.P p=w0.heap.size+p.off)(p:Pm)(ho:p.off=n)(hf:p.form=2)(hnew:p.name∉done.map Pm.name)(hw2:Lk (w.alloc (.cells #[.func (.func p.wrapF) #[] #[bp q]] 300)) w2):
  Calls prog 139 #[bp G0.mb,.string ⟨p.name.toArray⟩,.iface 281 (bp w.heap.size)] w2 fun e w3=>e=.returned (.tuple #[])/\PSt G0 w0 S (some q) (done++[p]) (n+2) w3:=by
 obtain⟨G,h1,h2,h3,h4,h5⟩:=h;have i2:=Inv.lk hw2 (h1.alloc (.cells #[.func (.func p.wrapF) #[] #[bp q]] 300));have x2:=h1.x1 (.cells #[.func (.func p.wrapF) #[] #[bp q]] 300);have mv2:Mv G0 w0 _ w2:=h4.trans ((Mv.ext x2 (qab _ _)).lk hw2);exact PSt.fin (_n:=n) (_w:=w) (_m1:=[]) i2 (d:=n+1) (by rw[hw2.heap];simp[h2];omega) h3 mv2 (fun r hr=>x2.le.mbox (h5 r hr)) hP (by omega) (Gh.add_at _ _ _) (.self p q hf (x2.le.mbox (h5 q rfl))) hnew
theorem qat{a b c:World}(h:Lk a b)(h2:Lk b c):Lk a c:=⟨h2.heap.trans h.heap,h2.tape.trans h.tape,h2.os.trans h.os,h2.output.trans h.output⟩
theorem mkis185(w:World):Calls prog 185 #[] w fun e w'=>e=.returned (bp (w.heap.size+1))/\Lk ((w.alloc (.cells #[.func (.func 260) #[] #[]] 287)).alloc (.cells #[.func (.func 268) #[] #[bp w.heap.size]] 300)) w':=by
 have H:=hZ (qd0 260 #[] w);go_enter func185,ntmps185
 go_wp2_with (first|(go_at_call 193;refine H.out.mono ?_;rintro e w2 ⟨rfl,hl⟩;have HL:=hZ hl;clear hl))
 go_ret;exact⟨rfl,HL.out⟩
theorem mkis186(w:World):Calls prog 186 #[] w fun e w'=>e=.returned (bp (w.heap.size+1))/\Lk ((w.alloc (.cells #[.func (.func 261) #[] #[]] 287)).alloc (.cells #[.func (.func 268) #[] #[bp w.heap.size]] 300)) w':=by
 have H:=hZ (qd0 261 #[] w);go_enter func186,ntmps186
 go_wp2_with (first|(go_at_call 193;refine H.out.mono ?_;rintro e w2 ⟨rfl,hl⟩;have HL:=hZ hl;clear hl))
 go_ret;exact⟨rfl,HL.out⟩
theorem mkis187(w:World):Calls prog 187 #[] w fun e w'=>e=.returned (bp (w.heap.size+1))/\Lk ((w.alloc (.cells #[.func (.func 262) #[] #[]] 287)).alloc (.cells #[.func (.func 268) #[] #[bp w.heap.size]] 300)) w':=by
 have H:=hZ (qd0 262 #[] w);go_enter func187,ntmps187
 go_wp2_with (first|(go_at_call 193;refine H.out.mono ?_;rintro e w2 ⟨rfl,hl⟩;have HL:=hZ hl;clear hl))
 go_ret;exact⟨rfl,HL.out⟩
theorem mkis188(w:World):Calls prog 188 #[] w fun e w'=>e=.returned (bp (w.heap.size+1))/\Lk ((w.alloc (.cells #[.func (.func 263) #[] #[]] 287)).alloc (.cells #[.func (.func 268) #[] #[bp w.heap.size]] 300)) w':=by
 have H:=hZ (qd0 263 #[] w);go_enter func188,ntmps188
 go_wp2_with (first|(go_at_call 193;refine H.out.mono ?_;rintro e w2 ⟨rfl,hl⟩;have HL:=hZ hl;clear hl))
 go_ret;exact⟨rfl,HL.out⟩
theorem mkis189(w:World):Calls prog 189 #[] w fun e w'=>e=.returned (bp (w.heap.size+1))/\Lk ((w.alloc (.cells #[.func (.func 264) #[] #[]] 287)).alloc (.cells #[.func (.func 268) #[] #[bp w.heap.size]] 300)) w':=by
 have H:=hZ (qd0 264 #[] w);go_enter func189,ntmps189
 go_wp2_with (first|(go_at_call 193;refine H.out.mono ?_;rintro e w2 ⟨rfl,hl⟩;have HL:=hZ hl;clear hl))
 go_ret;exact⟨rfl,HL.out⟩
theorem mkis190(w:World):Calls prog 190 #[] w fun e w'=>e=.returned (bp (w.heap.size+1))/\Lk ((w.alloc (.cells #[.func (.func 265) #[] #[]] 287)).alloc (.cells #[.func (.func 268) #[] #[bp w.heap.size]] 300)) w':=by
 have H:=hZ (qd0 265 #[] w);go_enter func190,ntmps190
 go_wp2_with (first|(go_at_call 193;refine H.out.mono ?_;rintro e w2 ⟨rfl,hl⟩;have HL:=hZ hl;clear hl))
 go_ret;exact⟨rfl,HL.out⟩
theorem mkis191(w:World):Calls prog 191 #[] w fun e w'=>e=.returned (bp (w.heap.size+1))/\Lk ((w.alloc (.cells #[.func (.func 266) #[] #[]] 287)).alloc (.cells #[.func (.func 268) #[] #[bp w.heap.size]] 300)) w':=by
 have H:=hZ (qd0 266 #[] w);go_enter func191,ntmps191
 go_wp2_with (first|(go_at_call 193;refine H.out.mono ?_;rintro e w2 ⟨rfl,hl⟩;have HL:=hZ hl;clear hl))
 go_ret;exact⟨rfl,HL.out⟩
theorem mkis192(w:World):Calls prog 192 #[] w fun e w'=>e=.returned (bp (w.heap.size+1))/\Lk ((w.alloc (.cells #[.func (.func 267) #[] #[]] 287)).alloc (.cells #[.func (.func 268) #[] #[bp w.heap.size]] 300)) w':=by
 have H:=hZ (qd0 267 #[] w);go_enter func192,ntmps192
 go_wp2_with (first|(go_at_call 193;refine H.out.mono ?_;rintro e w2 ⟨rfl,hl⟩;have HL:=hZ hl;clear hl))
 go_ret;exact⟨rfl,HL.out⟩
theorem defs132(G0:Gh)(w0:World)(S:Sub)(hP:∀p,G0.P p=w0.heap.size+p.off)(w:World)(h:PSt G0 w0 S none [] 0 w):Calls prog 132 #[bp G0.mb] w fun e w'=>e=.returned (.tuple #[])/\PSt G0 w0 S none [.add,.sub,.mul,.quot,.rem,.eql,.lss] 21 w':=by
 refine qpr G0.mb w _ (fun k w'=>match k with
  |0=>PSt G0 w0 S none [] 0 w'
  |1=>PSt G0 w0 S none [.add] 3 w'
  |2=>PSt G0 w0 S none [.add,.sub] 6 w'
  |3=>PSt G0 w0 S none [.add,.sub,.mul] 9 w'
  |4=>PSt G0 w0 S none [.add,.sub,.mul,.quot] 12 w'
  |5=>PSt G0 w0 S none [.add,.sub,.mul,.quot,.rem] 15 w'
  |6=>PSt G0 w0 S none [.add,.sub,.mul,.quot,.rem,.eql] 18 w'
  |_=>PSt G0 w0 S none [.add,.sub,.mul,.quot,.rem,.eql,.lss] 21 w') h ?_ ?_ ?_ ?_ ?_ ?_ ?_ (fun w' h1=>⟨rfl,h1⟩)
 ·intro w1 h1;refine Calls.mono (qi5 178 #[] w1) ?_;rintro e w2 ⟨rfl,hl⟩;refine⟨_,rfl,fun w3 hl3=>?_⟩;exact PSt.two h1 hP .add rfl (by decide) (fun G a b c=>.bare .add _ rfl a) (qat hl hl3)
 ·intro w1 h1;refine Calls.mono (qi5 179 #[] w1) ?_;rintro e w2 ⟨rfl,hl⟩;refine⟨_,rfl,fun w3 hl3=>?_⟩;exact PSt.two h1 hP .sub rfl (by decide) (fun G a b c=>.bare .sub _ rfl a) (qat hl hl3)
 ·intro w1 h1;refine Calls.mono (qi5 180 #[] w1) ?_;rintro e w2 ⟨rfl,hl⟩;refine⟨_,rfl,fun w3 hl3=>?_⟩;exact PSt.two h1 hP .mul rfl (by decide) (fun G a b c=>.bare .mul _ rfl a) (qat hl hl3)
 ·intro w1 h1;refine Calls.mono (qi5 181 #[] w1) ?_;rintro e w2 ⟨rfl,hl⟩;refine⟨_,rfl,fun w3 hl3=>?_⟩;exact PSt.two h1 hP .quot rfl (by decide) (fun G a b c=>.bare .quot _ rfl a) (qat hl hl3)
 ·intro w1 h1;refine Calls.mono (qi5 182 #[] w1) ?_;rintro e w2 ⟨rfl,hl⟩;refine⟨_,rfl,fun w3 hl3=>?_⟩;exact PSt.two h1 hP .rem rfl (by decide) (fun G a b c=>.bare .rem _ rfl a) (qat hl hl3)
 ·intro w1 h1;refine Calls.mono (qi5 183 #[] w1) ?_;rintro e w2 ⟨rfl,hl⟩;refine⟨_,rfl,fun w3 hl3=>?_⟩;exact PSt.two h1 hP .eql rfl (by decide) (fun G a b c=>.bare .eql _ rfl a) (qat hl hl3)
 ·intro w1 h1;refine Calls.mono (qi5 184 #[] w1) ?_;rintro e w2 ⟨rfl,hl⟩;refine⟨_,rfl,fun w3 hl3=>?_⟩;exact PSt.two h1 hP .lss rfl (by decide) (fun G a b c=>.bare .lss _ rfl a) (qat hl hl3)
theorem defs133(G0:Gh)(w0:World)(S:Sub)(hP:∀p,G0.P p=w0.heap.size+p.off)(w:World)(h:PSt G0 w0 S none [.add,.sub,.mul,.quot,.rem,.eql,.lss] 21 w):Calls prog 133 #[bp G0.mb] w fun e w'=>e=.returned (.tuple #[])/\PSt G0 w0 S none [.add,.sub,.mul,.quot,.rem,.eql,.lss,.nullQ,.pairQ,.intQ,.symQ,.strQ,.boolQ,.procQ,.sealQ] 45 w':=by
 refine qpq G0.mb w _ (fun k w'=>match k with
  |0=>PSt G0 w0 S none [.add,.sub,.mul,.quot,.rem,.eql,.lss] 21 w'
  |1=>PSt G0 w0 S none [.add,.sub,.mul,.quot,.rem,.eql,.lss,.nullQ] 24 w'
  |2=>PSt G0 w0 S none [.add,.sub,.mul,.quot,.rem,.eql,.lss,.nullQ,.pairQ] 27 w'
  |3=>PSt G0 w0 S none [.add,.sub,.mul,.quot,.rem,.eql,.lss,.nullQ,.pairQ,.intQ] 30 w'
  |4=>PSt G0 w0 S none [.add,.sub,.mul,.quot,.rem,.eql,.lss,.nullQ,.pairQ,.intQ,.symQ] 33 w'
  |5=>PSt G0 w0 S none [.add,.sub,.mul,.quot,.rem,.eql,.lss,.nullQ,.pairQ,.intQ,.symQ,.strQ] 36 w'
  |6=>PSt G0 w0 S none [.add,.sub,.mul,.quot,.rem,.eql,.lss,.nullQ,.pairQ,.intQ,.symQ,.strQ,.boolQ] 39 w'
  |7=>PSt G0 w0 S none [.add,.sub,.mul,.quot,.rem,.eql,.lss,.nullQ,.pairQ,.intQ,.symQ,.strQ,.boolQ,.procQ] 42 w'
  |_=>PSt G0 w0 S none [.add,.sub,.mul,.quot,.rem,.eql,.lss,.nullQ,.pairQ,.intQ,.symQ,.strQ,.boolQ,.procQ,.sealQ] 45 w') h ?_ ?_ ?_ ?_ ?_ ?_ ?_ ?_ (fun w' h1=>⟨rfl,h1⟩)
 ·intro w1 h1;refine Calls.mono (mkis185 w1) ?_;rintro e w2 ⟨rfl,hl⟩;refine⟨_,rfl,fun w3 hl3=>?_⟩;exact PSt.two h1 hP .nullQ rfl (by decide) (fun G a b c=>.bare .nullQ _ rfl a) (qat hl hl3)
 ·intro w1 h1;refine Calls.mono (mkis186 w1) ?_;rintro e w2 ⟨rfl,hl⟩;refine⟨_,rfl,fun w3 hl3=>?_⟩;exact PSt.two h1 hP .pairQ rfl (by decide) (fun G a b c=>.bare .pairQ _ rfl a) (qat hl hl3)
 ·intro w1 h1;refine Calls.mono (mkis187 w1) ?_;rintro e w2 ⟨rfl,hl⟩;refine⟨_,rfl,fun w3 hl3=>?_⟩;exact PSt.two h1 hP .intQ rfl (by decide) (fun G a b c=>.bare .intQ _ rfl a) (qat hl hl3)
 ·intro w1 h1;refine Calls.mono (mkis188 w1) ?_;rintro e w2 ⟨rfl,hl⟩;refine⟨_,rfl,fun w3 hl3=>?_⟩;exact PSt.two h1 hP .symQ rfl (by decide) (fun G a b c=>.bare .symQ _ rfl a) (qat hl hl3)
 ·intro w1 h1;refine Calls.mono (mkis189 w1) ?_;rintro e w2 ⟨rfl,hl⟩;refine⟨_,rfl,fun w3 hl3=>?_⟩;exact PSt.two h1 hP .strQ rfl (by decide) (fun G a b c=>.bare .strQ _ rfl a) (qat hl hl3)
 ·intro w1 h1;refine Calls.mono (mkis190 w1) ?_;rintro e w2 ⟨rfl,hl⟩;refine⟨_,rfl,fun w3 hl3=>?_⟩;exact PSt.two h1 hP .boolQ rfl (by decide) (fun G a b c=>.bare .boolQ _ rfl a) (qat hl hl3)
 ·intro w1 h1;refine Calls.mono (mkis191 w1) ?_;rintro e w2 ⟨rfl,hl⟩;refine⟨_,rfl,fun w3 hl3=>?_⟩;exact PSt.two h1 hP .procQ rfl (by decide) (fun G a b c=>.bare .procQ _ rfl a) (qat hl hl3)
 ·intro w1 h1;refine Calls.mono (mkis192 w1) ?_;rintro e w2 ⟨rfl,hl⟩;refine⟨_,rfl,fun w3 hl3=>?_⟩;exact PSt.two h1 hP .sealQ rfl (by decide) (fun G a b c=>.bare .sealQ _ rfl a) (qat hl hl3)
theorem defs134(G0:Gh)(w0:World)(S:Sub)(hP:∀p,G0.P p=w0.heap.size+p.off)(w:World)(h:PSt G0 w0 S none [.add,.sub,.mul,.quot,.rem,.eql,.lss,.nullQ,.pairQ,.intQ,.symQ,.strQ,.boolQ,.procQ,.sealQ] 45 w):Calls prog 134 #[bp G0.mb] w fun e w'=>e=.returned (.tuple #[])/\PSt G0 w0 S none [.add,.sub,.mul,.quot,.rem,.eql,.lss,.nullQ,.pairQ,.intQ,.symQ,.strQ,.boolQ,.procQ,.sealQ,.not,.eqQ,.equalQ] 55 w':=by
 refine qpp G0.mb w _ (fun k w'=>match k with
  |0=>PSt G0 w0 S (some w.heap.size) [.add,.sub,.mul,.quot,.rem,.eql,.lss,.nullQ,.pairQ,.intQ,.symQ,.strQ,.boolQ,.procQ,.sealQ] 46 w'
  |1=>PSt G0 w0 S (some w.heap.size) [.add,.sub,.mul,.quot,.rem,.eql,.lss,.nullQ,.pairQ,.intQ,.symQ,.strQ,.boolQ,.procQ,.sealQ,.not] 49 w'
  |2=>PSt G0 w0 S (some w.heap.size) [.add,.sub,.mul,.quot,.rem,.eql,.lss,.nullQ,.pairQ,.intQ,.symQ,.strQ,.boolQ,.procQ,.sealQ,.not,.eqQ] 52 w'
  |_=>PSt G0 w0 S (some w.heap.size) [.add,.sub,.mul,.quot,.rem,.eql,.lss,.nullQ,.pairQ,.intQ,.symQ,.strQ,.boolQ,.procQ,.sealQ,.not,.eqQ,.equalQ] 55 w') (fun w1 hw=>h.box hw) (fun k w1 w2 h1 hl=>by
  match k,h1 with
  |0,h1=>exact PSt.lk h1 hl
  |1,h1=>exact PSt.lk h1 hl
  |2,h1=>exact PSt.lk h1 hl
  |_+3,h1=>exact PSt.lk h1 hl) ?_ ?_ ?_ (fun w' h1=>⟨rfl,PSt.off h1⟩)
 ·intro w1 h1;refine Calls.mono (qd0 194 #[] w1) ?_;rintro e w2 ⟨rfl,hl⟩;refine⟨_,rfl,?_,fun w3 hl3=>?_⟩
  ·exact(qas hl _).trans (qaj (qaj (PSt.cell h1)))
  ·refine Calls.mono (PSt.two h1 hP .not rfl (by decide) (fun G a b c=>.bare .not _ rfl a) (qat hl hl3)) ?_;rintro e w4 ⟨rfl,h4⟩;exact⟨rfl,PSt.cell h4,h4⟩
 ·intro w1 h1;refine Calls.mono (qry 196 #[] w1) ?_;rintro e w2 ⟨rfl,hl⟩;refine⟨_,rfl,?_,fun w3 hl3=>?_⟩
  ·exact(qas hl _).trans (qaj (qaj (PSt.cell h1)))
  ·refine Calls.mono (PSt.two h1 hP .eqQ rfl (by decide) (fun G a b c=>.bare .eqQ _ rfl a) (qat hl hl3)) ?_;rintro e w4 ⟨rfl,h4⟩;exact⟨rfl,PSt.cell h4,h4⟩
 ·intro w1 h1;refine Calls.mono (qry 197 #[bp w.heap.size] w1) ?_;rintro e w2 ⟨rfl,hl⟩;refine⟨_,rfl,?_,fun w3 hl3=>?_⟩
  ·exact(qas hl _).trans (qaj (qaj (PSt.cell h1)))
  ·refine Calls.mono (PSt.two h1 hP .equalQ rfl (by decide) (fun G a b c=>.mach .equalQ _ _ rfl a (b _ rfl)) (qat hl hl3)) ?_;rintro e w4 ⟨rfl,h4⟩;exact⟨rfl,PSt.cell h4,h4⟩
theorem defs135(G0:Gh)(w0:World)(S:Sub)(hP:∀p,G0.P p=w0.heap.size+p.off)(w:World)(h:PSt G0 w0 S none [.add,.sub,.mul,.quot,.rem,.eql,.lss,.nullQ,.pairQ,.intQ,.symQ,.strQ,.boolQ,.procQ,.sealQ,.not,.eqQ,.equalQ] 55 w):Calls prog 135 #[bp G0.mb] w fun e w'=>e=.returned (.tuple #[])/\PSt G0 w0 S none [.add,.sub,.mul,.quot,.rem,.eql,.lss,.nullQ,.pairQ,.intQ,.symQ,.strQ,.boolQ,.procQ,.sealQ,.not,.eqQ,.equalQ,.cons,.car,.cdr] 65 w':=by
 refine qpo G0.mb w _ (fun k w'=>match k with
  |0=>PSt G0 w0 S (some w.heap.size) [.add,.sub,.mul,.quot,.rem,.eql,.lss,.nullQ,.pairQ,.intQ,.symQ,.strQ,.boolQ,.procQ,.sealQ,.not,.eqQ,.equalQ] 56 w'
  |1=>PSt G0 w0 S (some w.heap.size) [.add,.sub,.mul,.quot,.rem,.eql,.lss,.nullQ,.pairQ,.intQ,.symQ,.strQ,.boolQ,.procQ,.sealQ,.not,.eqQ,.equalQ,.cons] 59 w'
  |2=>PSt G0 w0 S (some w.heap.size) [.add,.sub,.mul,.quot,.rem,.eql,.lss,.nullQ,.pairQ,.intQ,.symQ,.strQ,.boolQ,.procQ,.sealQ,.not,.eqQ,.equalQ,.cons,.car] 62 w'
  |_=>PSt G0 w0 S (some w.heap.size) [.add,.sub,.mul,.quot,.rem,.eql,.lss,.nullQ,.pairQ,.intQ,.symQ,.strQ,.boolQ,.procQ,.sealQ,.not,.eqQ,.equalQ,.cons,.car,.cdr] 65 w') (fun w1 hw=>h.box hw) (fun k w1 w2 h1 hl=>by
  match k,h1 with
  |0,h1=>exact PSt.lk h1 hl
  |1,h1=>exact PSt.lk h1 hl
  |2,h1=>exact PSt.lk h1 hl
  |_+3,h1=>exact PSt.lk h1 hl) ?_ ?_ ?_ (fun w' h1=>⟨rfl,PSt.off h1⟩)
 ·intro w1 h1;refine Calls.mono (qry 199 #[bp w.heap.size] w1) ?_;rintro e w2 ⟨rfl,hl⟩;refine⟨_,rfl,?_,fun w3 hl3=>?_⟩
  ·exact(qas hl _).trans (qaj (qaj (PSt.cell h1)))
  ·refine Calls.mono (PSt.two h1 hP .cons rfl (by decide) (fun G a b c=>.mach .cons _ _ rfl a (b _ rfl)) (qat hl hl3)) ?_;rintro e w4 ⟨rfl,h4⟩;exact⟨rfl,PSt.cell h4,h4⟩
 ·intro w1 h1;refine Calls.mono (mk201 202 #[] w1) ?_;rintro e w2 ⟨rfl,hl⟩;refine⟨_,rfl,?_,fun w3 hl3=>?_⟩
  ·exact(qas hl _).trans (qaj (qaj (PSt.cell h1)))
  ·refine Calls.mono (PSt.two h1 hP .car rfl (by decide) (fun G a b c=>.bare .car _ rfl a) (qat hl hl3)) ?_;rintro e w4 ⟨rfl,h4⟩;exact⟨rfl,PSt.cell h4,h4⟩
 ·intro w1 h1;refine Calls.mono (mk201 203 #[] w1) ?_;rintro e w2 ⟨rfl,hl⟩;refine⟨_,rfl,?_,fun w3 hl3=>?_⟩
  ·exact(qas hl _).trans (qaj (qaj (PSt.cell h1)))
  ·refine Calls.mono (PSt.two h1 hP .cdr rfl (by decide) (fun G a b c=>.bare .cdr _ rfl a) (qat hl hl3)) ?_;rintro e w4 ⟨rfl,h4⟩;exact⟨rfl,PSt.cell h4,h4⟩
theorem defs136(G0:Gh)(w0:World)(S:Sub)(hP:∀p,G0.P p=w0.heap.size+p.off)(w:World)(h:PSt G0 w0 S none [.add,.sub,.mul,.quot,.rem,.eql,.lss,.nullQ,.pairQ,.intQ,.symQ,.strQ,.boolQ,.procQ,.sealQ,.not,.eqQ,.equalQ,.cons,.car,.cdr] 65 w):Calls prog 136 #[bp G0.mb] w fun e w'=>e=.returned (.tuple #[])/\PSt G0 w0 S none [.add,.sub,.mul,.quot,.rem,.eql,.lss,.nullQ,.pairQ,.intQ,.symQ,.strQ,.boolQ,.procQ,.sealQ,.not,.eqQ,.equalQ,.cons,.car,.cdr,.list,.length,.append] 74 w':=by
 refine qpn G0.mb w _ (fun k w'=>match k with
  |0=>PSt G0 w0 S (some w.heap.size) [.add,.sub,.mul,.quot,.rem,.eql,.lss,.nullQ,.pairQ,.intQ,.symQ,.strQ,.boolQ,.procQ,.sealQ,.not,.eqQ,.equalQ,.cons,.car,.cdr] 66 w'
  |1=>PSt G0 w0 S (some w.heap.size) [.add,.sub,.mul,.quot,.rem,.eql,.lss,.nullQ,.pairQ,.intQ,.symQ,.strQ,.boolQ,.procQ,.sealQ,.not,.eqQ,.equalQ,.cons,.car,.cdr,.list] 68 w'
  |2=>PSt G0 w0 S (some w.heap.size) [.add,.sub,.mul,.quot,.rem,.eql,.lss,.nullQ,.pairQ,.intQ,.symQ,.strQ,.boolQ,.procQ,.sealQ,.not,.eqQ,.equalQ,.cons,.car,.cdr,.list,.length] 71 w'
  |_=>PSt G0 w0 S (some w.heap.size) [.add,.sub,.mul,.quot,.rem,.eql,.lss,.nullQ,.pairQ,.intQ,.symQ,.strQ,.boolQ,.procQ,.sealQ,.not,.eqQ,.equalQ,.cons,.car,.cdr,.list,.length,.append] 74 w') (fun w1 hw=>h.box hw) (fun k w1 w2 h1 hl=>by
  match k,h1 with
  |0,h1=>exact PSt.lk h1 hl
  |1,h1=>exact PSt.lk h1 hl
  |2,h1=>exact PSt.lk h1 hl
  |_+3,h1=>exact PSt.lk h1 hl) ?_ ?_ ?_ (fun w' h1=>⟨rfl,PSt.off h1⟩)
 ·intro w1 h1 w2 hl;refine Calls.mono (PSt.one h1 hP .list rfl rfl (by decide) hl) ?_;rintro e w3 ⟨rfl,h3⟩;exact⟨rfl,PSt.cell h3,h3⟩
 ·intro w1 h1;refine Calls.mono (qd0 205 #[bp w.heap.size] w1) ?_;rintro e w2 ⟨rfl,hl⟩;refine⟨_,rfl,?_,fun w3 hl3=>?_⟩
  ·exact(qas hl _).trans (qaj (qaj (PSt.cell h1)))
  ·refine Calls.mono (PSt.two h1 hP .length rfl (by decide) (fun G a b c=>.mach .length _ _ rfl a (b _ rfl)) (qat hl hl3)) ?_;rintro e w4 ⟨rfl,h4⟩;exact⟨rfl,PSt.cell h4,h4⟩
 ·intro w1 h1;refine Calls.mono (qry 208 #[bp w.heap.size] w1) ?_;rintro e w2 ⟨rfl,hl⟩;refine⟨_,rfl,?_,fun w3 hl3=>?_⟩
  ·exact(qas hl _).trans (qaj (qaj (PSt.cell h1)))
  ·refine Calls.mono (PSt.two h1 hP .append rfl (by decide) (fun G a b c=>.mach .append _ _ rfl a (b _ rfl)) (qat hl hl3)) ?_;rintro e w4 ⟨rfl,h4⟩;exact⟨rfl,PSt.cell h4,h4⟩
theorem defs137(G0:Gh)(w0:World)(S:Sub)(hP:∀p,G0.P p=w0.heap.size+p.off)(w:World)(h:PSt G0 w0 S none [.add,.sub,.mul,.quot,.rem,.eql,.lss,.nullQ,.pairQ,.intQ,.symQ,.strQ,.boolQ,.procQ,.sealQ,.not,.eqQ,.equalQ,.cons,.car,.cdr,.list,.length,.append] 74 w):Calls prog 137 #[bp G0.mb] w fun e w'=>e=.returned (.tuple #[])/\PSt G0 w0 S none [.add,.sub,.mul,.quot,.rem,.eql,.lss,.nullQ,.pairQ,.intQ,.symQ,.strQ,.boolQ,.procQ,.sealQ,.not,.eqQ,.equalQ,.cons,.car,.cdr,.list,.length,.append,.strAppend,.strLength,.numStr,.symStr] 87 w':=by
 refine qpm G0.mb w _ (fun k w'=>match k with
  |0=>PSt G0 w0 S (some w.heap.size) [.add,.sub,.mul,.quot,.rem,.eql,.lss,.nullQ,.pairQ,.intQ,.symQ,.strQ,.boolQ,.procQ,.sealQ,.not,.eqQ,.equalQ,.cons,.car,.cdr,.list,.length,.append] 75 w'
  |1=>PSt G0 w0 S (some w.heap.size) [.add,.sub,.mul,.quot,.rem,.eql,.lss,.nullQ,.pairQ,.intQ,.symQ,.strQ,.boolQ,.procQ,.sealQ,.not,.eqQ,.equalQ,.cons,.car,.cdr,.list,.length,.append,.strAppend] 78 w'
  |2=>PSt G0 w0 S (some w.heap.size) [.add,.sub,.mul,.quot,.rem,.eql,.lss,.nullQ,.pairQ,.intQ,.symQ,.strQ,.boolQ,.procQ,.sealQ,.not,.eqQ,.equalQ,.cons,.car,.cdr,.list,.length,.append,.strAppend,.strLength] 81 w'
  |3=>PSt G0 w0 S (some w.heap.size) [.add,.sub,.mul,.quot,.rem,.eql,.lss,.nullQ,.pairQ,.intQ,.symQ,.strQ,.boolQ,.procQ,.sealQ,.not,.eqQ,.equalQ,.cons,.car,.cdr,.list,.length,.append,.strAppend,.strLength,.numStr] 84 w'
  |_=>PSt G0 w0 S (some w.heap.size) [.add,.sub,.mul,.quot,.rem,.eql,.lss,.nullQ,.pairQ,.intQ,.symQ,.strQ,.boolQ,.procQ,.sealQ,.not,.eqQ,.equalQ,.cons,.car,.cdr,.list,.length,.append,.strAppend,.strLength,.numStr,.symStr] 87 w') (fun w1 hw=>h.box hw) (fun k w1 w2 h1 hl=>by
  match k,h1 with
  |0,h1=>exact PSt.lk h1 hl
  |1,h1=>exact PSt.lk h1 hl
  |2,h1=>exact PSt.lk h1 hl
  |3,h1=>exact PSt.lk h1 hl
  |_+4,h1=>exact PSt.lk h1 hl) ?_ ?_ ?_ ?_ (fun w' h1=>⟨rfl,PSt.off h1⟩)
 ·intro w1 h1;refine Calls.mono (mk210 211 #[bp w.heap.size] w1) ?_;rintro e w2 ⟨rfl,hl⟩;refine⟨_,rfl,?_,fun w3 hl3=>?_⟩
  ·exact(qas hl _).trans (qaj (qaj (PSt.cell h1)))
  ·refine Calls.mono (PSt.two h1 hP .strAppend rfl (by decide) (fun G a b c=>.mach .strAppend _ _ rfl a (b _ rfl)) (qat hl hl3)) ?_;rintro e w4 ⟨rfl,h4⟩;exact⟨rfl,PSt.cell h4,h4⟩
 ·intro w1 h1;refine Calls.mono (mk214 215 #[] w1) ?_;rintro e w2 ⟨rfl,hl⟩;refine⟨_,rfl,?_,fun w3 hl3=>?_⟩
  ·exact(qas hl _).trans (qaj (qaj (PSt.cell h1)))
  ·refine Calls.mono (PSt.two h1 hP .strLength rfl (by decide) (fun G a b c=>.bare .strLength _ rfl a) (qat hl hl3)) ?_;rintro e w4 ⟨rfl,h4⟩;exact⟨rfl,PSt.cell h4,h4⟩
 ·intro w1 h1;refine Calls.mono (mk216 217 #[bp w.heap.size] w1) ?_;rintro e w2 ⟨rfl,hl⟩;refine⟨_,rfl,?_,fun w3 hl3=>?_⟩
  ·exact(qas hl _).trans (qaj (qaj (PSt.cell h1)))
  ·refine Calls.mono (PSt.two h1 hP .numStr rfl (by decide) (fun G a b c=>.mach .numStr _ _ rfl a (b _ rfl)) (qat hl hl3)) ?_;rintro e w4 ⟨rfl,h4⟩;exact⟨rfl,PSt.cell h4,h4⟩
 ·intro w1 h1;refine Calls.mono (mk219 220 #[bp w.heap.size] w1) ?_;rintro e w2 ⟨rfl,hl⟩;refine⟨_,rfl,?_,fun w3 hl3=>?_⟩
  ·exact(qas hl _).trans (qaj (qaj (PSt.cell h1)))
  ·refine Calls.mono (PSt.two h1 hP .symStr rfl (by decide) (fun G a b c=>.mach .symStr _ _ rfl a (b _ rfl)) (qat hl hl3)) ?_;rintro e w4 ⟨rfl,h4⟩;exact⟨rfl,PSt.cell h4,h4⟩
theorem defs138(G0:Gh)(w0:World)(S:Sub)(hP:∀p,G0.P p=w0.heap.size+p.off)(w:World)(h:PSt G0 w0 S none [.add,.sub,.mul,.quot,.rem,.eql,.lss,.nullQ,.pairQ,.intQ,.symQ,.strQ,.boolQ,.procQ,.sealQ,.not,.eqQ,.equalQ,.cons,.car,.cdr,.list,.length,.append,.strAppend,.strLength,.numStr,.symStr] 87 w):Calls prog 138 #[bp G0.mb] w fun e w'=>e=.returned (.tuple #[])/\PSt G0 w0 S none [.add,.sub,.mul,.quot,.rem,.eql,.lss,.nullQ,.pairQ,.intQ,.symQ,.strQ,.boolQ,.procQ,.sealQ,.not,.eqQ,.equalQ,.cons,.car,.cdr,.list,.length,.append,.strAppend,.strLength,.numStr,.symStr,.apply,.callcc,.wind,.error,.seal] 103 w':=by
 refine qpl G0.mb w _ (fun k w'=>match k with
  |0=>PSt G0 w0 S (some w.heap.size) [.add,.sub,.mul,.quot,.rem,.eql,.lss,.nullQ,.pairQ,.intQ,.symQ,.strQ,.boolQ,.procQ,.sealQ,.not,.eqQ,.equalQ,.cons,.car,.cdr,.list,.length,.append,.strAppend,.strLength,.numStr,.symStr] 88 w'
  |1=>PSt G0 w0 S (some w.heap.size) [.add,.sub,.mul,.quot,.rem,.eql,.lss,.nullQ,.pairQ,.intQ,.symQ,.strQ,.boolQ,.procQ,.sealQ,.not,.eqQ,.equalQ,.cons,.car,.cdr,.list,.length,.append,.strAppend,.strLength,.numStr,.symStr,.apply] 91 w'
  |2=>PSt G0 w0 S (some w.heap.size) [.add,.sub,.mul,.quot,.rem,.eql,.lss,.nullQ,.pairQ,.intQ,.symQ,.strQ,.boolQ,.procQ,.sealQ,.not,.eqQ,.equalQ,.cons,.car,.cdr,.list,.length,.append,.strAppend,.strLength,.numStr,.symStr,.apply,.callcc] 94 w'
  |3=>PSt G0 w0 S (some w.heap.size) [.add,.sub,.mul,.quot,.rem,.eql,.lss,.nullQ,.pairQ,.intQ,.symQ,.strQ,.boolQ,.procQ,.sealQ,.not,.eqQ,.equalQ,.cons,.car,.cdr,.list,.length,.append,.strAppend,.strLength,.numStr,.symStr,.apply,.callcc,.wind] 97 w'
  |4=>PSt G0 w0 S (some w.heap.size) [.add,.sub,.mul,.quot,.rem,.eql,.lss,.nullQ,.pairQ,.intQ,.symQ,.strQ,.boolQ,.procQ,.sealQ,.not,.eqQ,.equalQ,.cons,.car,.cdr,.list,.length,.append,.strAppend,.strLength,.numStr,.symStr,.apply,.callcc,.wind,.error] 100 w'
  |_=>PSt G0 w0 S (some w.heap.size) [.add,.sub,.mul,.quot,.rem,.eql,.lss,.nullQ,.pairQ,.intQ,.symQ,.strQ,.boolQ,.procQ,.sealQ,.not,.eqQ,.equalQ,.cons,.car,.cdr,.list,.length,.append,.strAppend,.strLength,.numStr,.symStr,.apply,.callcc,.wind,.error,.seal] 103 w') (fun w1 hw=>h.box hw) (fun k w1 w2 h1 hl=>by
  match k,h1 with
  |0,h1=>exact PSt.lk h1 hl
  |1,h1=>exact PSt.lk h1 hl
  |2,h1=>exact PSt.lk h1 hl
  |3,h1=>exact PSt.lk h1 hl
  |4,h1=>exact PSt.lk h1 hl
  |_+5,h1=>exact PSt.lk h1 hl) ?_ ?_ ?_ ?_ ?_ (fun w' h1=>⟨rfl,PSt.off h1⟩)
 ·intro w1 h1;refine Calls.mono (mk221 G0.mb w1) ?_;rintro e w2 ⟨rfl,hl⟩;refine⟨_,rfl,?_,fun w3 hl3=>?_⟩
  ·exact(qas hl _).trans (qaj (qaj (PSt.cell h1)))
  ·refine Calls.mono (PSt.two h1 hP .apply rfl (by decide) (fun G a b c=>.self .apply _ rfl (by show G.I _=_;rw[c];exact a)) (qat hl hl3)) ?_;rintro e w4 ⟨rfl,h4⟩;exact⟨rfl,PSt.cell h4,h4⟩
 ·intro w1 h1;refine Calls.mono (mk222 G0.mb w1) ?_;rintro e w2 ⟨rfl,hl⟩;refine⟨_,rfl,?_,fun w3 hl3=>?_⟩
  ·exact(qas hl _).trans (qaj (qaj (PSt.cell h1)))
  ·refine Calls.mono (PSt.two h1 hP .callcc rfl (by decide) (fun G a b c=>.self .callcc _ rfl (by show G.I _=_;rw[c];exact a)) (qat hl hl3)) ?_;rintro e w4 ⟨rfl,h4⟩;exact⟨rfl,PSt.cell h4,h4⟩
 ·intro w1 h1;refine Calls.mono (mk223 G0.mb w1) ?_;rintro e w2 ⟨rfl,hl⟩;refine⟨_,rfl,?_,fun w3 hl3=>?_⟩
  ·exact(qas hl _).trans (qaj (qaj (PSt.cell h1)))
  ·refine Calls.mono (PSt.two h1 hP .wind rfl (by decide) (fun G a b c=>.self .wind _ rfl (by show G.I _=_;rw[c];exact a)) (qat hl hl3)) ?_;rintro e w4 ⟨rfl,h4⟩;exact⟨rfl,PSt.cell h4,h4⟩
 ·intro w1 h1;refine Calls.mono (qd0 224 #[] w1) ?_;rintro e w2 ⟨rfl,hl⟩;refine⟨_,rfl,?_,fun w3 hl3=>?_⟩
  ·exact(qas hl _).trans (qaj (qaj (PSt.cell h1)))
  ·refine Calls.mono (PSt.two h1 hP .error rfl (by decide) (fun G a b c=>.bare .error _ rfl a) (qat hl hl3)) ?_;rintro e w4 ⟨rfl,h4⟩;exact⟨rfl,PSt.cell h4,h4⟩
 ·intro w1 h1;refine Calls.mono (qd0 225 #[bp w.heap.size] w1) ?_;rintro e w2 ⟨rfl,hl⟩;refine⟨_,rfl,?_,fun w3 hl3=>?_⟩
  ·exact(qas hl _).trans (qaj (qaj (PSt.cell h1)))
  ·refine Calls.mono (PSt.two h1 hP .seal rfl (by decide) (fun G a b c=>.mach .seal _ _ rfl a (b _ rfl)) (qat hl hl3)) ?_;rintro e w4 ⟨rfl,h4⟩;exact⟨rfl,PSt.cell h4,h4⟩
theorem qoc(G0:Gh)(w0:World)(S:Sub)(hP:∀p,G0.P p=w0.heap.size+p.off)(h:PSt G0 w0 S none [] 0 w0):Calls prog 83 #[bp G0.mb] w0 fun e w'=>e=.returned (.tuple #[])/\PSt G0 w0 S none Pm.most 103 w':=by
 have H132:=hZ (defs132 G0 w0 S hP);have H133:=hZ (defs133 G0 w0 S hP);have H134:=hZ (defs134 G0 w0 S hP);have H135:=hZ (defs135 G0 w0 S hP);have H136:=hZ (defs136 G0 w0 S hP);have H137:=hZ (defs137 G0 w0 S hP);have H138:=hZ (defs138 G0 w0 S hP);have X:=hZ h;clear hP h;go_enter func83,ntmps83
 go_wp2_with (first
  |(go_at_call 132;refine(H132.out _ X.out).mono ?_;rintro e w132 ⟨rfl,h132⟩;have X132:=hZ h132;clear h132)
  |(go_at_call 133;refine(H133.out _ X132.out).mono ?_;rintro e w133 ⟨rfl,h133⟩;have X133:=hZ h133;clear h133)
  |(go_at_call 134;refine(H134.out _ X133.out).mono ?_;rintro e w134 ⟨rfl,h134⟩;have X134:=hZ h134;clear h134)
  |(go_at_call 135;refine(H135.out _ X134.out).mono ?_;rintro e w135 ⟨rfl,h135⟩;have X135:=hZ h135;clear h135)
  |(go_at_call 136;refine(H136.out _ X135.out).mono ?_;rintro e w136 ⟨rfl,h136⟩;have X136:=hZ h136;clear h136)
  |(go_at_call 137;refine(H137.out _ X136.out).mono ?_;rintro e w137 ⟨rfl,h137⟩;have X137:=hZ h137;clear h137)
  |(go_at_call 138;refine(H138.out _ X137.out).mono ?_;rintro e w138 ⟨rfl,h138⟩;have X138:=hZ h138;clear h138))
 go_end0;exact⟨rfl,X138.out⟩
end
section
open Sc
theorem qsi(w:World):Calls prog 141 #[.int .i64 0,.int .i64 1] w fun e w'=>e=.returned (.iface 181 (.bool false))/\Lk w w':=by
 go_enter func141,ntmps141
 go_wp2;go_ret;exact⟨rfl,rfl,rfl,rfl,rfl⟩
theorem qsh(w:World):Calls prog 141 #[.int .i64 0,.int .i64 2] w fun e w'=>e=.returned (.iface 181 (.bool false))/\Lk w w':=by
 go_enter func141,ntmps141
 go_wp2;go_ret;exact⟨rfl,rfl,rfl,rfl,rfl⟩
theorem qsg(w:World):Calls prog 141 #[.int .i64 0,.int .i64 4] w fun e w'=>e=.returned (.iface 181 (.bool false))/\Lk w w':=by
 go_enter func141,ntmps141
 go_wp2;go_ret;exact⟨rfl,rfl,rfl,rfl,rfl⟩
theorem qsf(w:World):Calls prog 141 #[.int .i64 0,.int .i64 8] w fun e w'=>e=.returned (.iface 181 (.bool false))/\Lk w w':=by
 go_enter func141,ntmps141
 go_wp2;go_ret;exact⟨rfl,rfl,rfl,rfl,rfl⟩
theorem qo7(w:World):Calls prog 141 #[.int .i64 0,.int .i64 16] w fun e w'=>e=.returned (.iface 181 (.bool false))/\Lk w w':=by
 go_enter func141,ntmps141
 go_wp2;go_ret;exact⟨rfl,rfl,rfl,rfl,rfl⟩
theorem sealed0(mb:Nat)(w:World)(hE:∀a c w',Below w.heap.size w w'->Calls prog 91 #[.slice a 0 c,.iface 186 (.agg #[])] w' fun e w2=>e=.returned (.iface 186 (.agg #[]))/\Below w.heap.size w w2):Calls prog 140 #[bp mb,.slice none 0 0] w fun e w'=>e=.returned (.iface 186 (.agg #[]))/\Below w.heap.size w w':=by
 have HE:=hZ hE;have hmk:∀w:World,(Instr.makeSlice 184 (.int .i64 0) (.int .i64 0)).run prog w=.ok (.slice (some ⟨w.heap.size,0,none⟩) 0 0) (w.alloc (.cells (madeCells #[.nilIface] 0) 116)):=
  fun w=>run_make_row' 184 116 .nilIface 16 underlying184 qet rfl .i64 .i64 0 (by omega) (by omega) w
 clear hE;go_enter func140,ntmps140
 go_wp2;go_loopw [13] (fun c wr=>c=.int .i64 0/\Below w.heap.size w wr) (fun _ _=>0)
 case atStart=>exact⟨rfl,((Below.refl _ _).alloc (Nat.le_refl _) _).alloc (by simp) _⟩
 case round=>
  obtain⟨rfl,hb⟩:=hrel;have HB:=hZ hb;clear hb;go_wp2_with (first|(go_at_call 91;refine(HE.out _ _ _ HB.out).mono ?_;rintro e w2 ⟨rfl,hb⟩;have HB2:=hZ hb;clear hb))
  go_ret;exact⟨rfl,HB2.out⟩
theorem qna(mb:Nat)(w:World)(Q:Ending->World->Prop)(St:Nat->World->Prop)
  (h0:Calls prog 140 #[bp mb,.slice none 0 0] w fun e w1=>e=.returned (.iface 186 (.agg #[]))/\∀w2,Lk w1 w2->Calls prog 139 #[bp mb,.string ⟨#[115,101,99,114,101,116,115]⟩,.iface 186 (.agg #[])] w2 fun e w3=>e=.returned (.tuple #[])/\St 1 w3)
  (s1:∀w1,St 1 w1->∀w2,Lk w1 w2->Calls prog 139 #[bp mb,.string ⟨#[111,117,116]⟩,.iface 181 (.bool false)] w2 fun e w3=>e=.returned (.tuple #[])/\St 2 w3)
  (s2:∀w1,St 2 w1->∀w2,Lk w1 w2->Calls prog 139 #[bp mb,.string ⟨#[105,110]⟩,.iface 181 (.bool false)] w2 fun e w3=>e=.returned (.tuple #[])/\St 3 w3)
  (s3:∀w1,St 3 w1->∀w2,Lk w1 w2->Calls prog 139 #[bp mb,.string ⟨#[99,108,111,99,107]⟩,.iface 181 (.bool false)] w2 fun e w3=>e=.returned (.tuple #[])/\St 4 w3)
  (s4:∀w1,St 4 w1->∀w2,Lk w1 w2->Calls prog 139 #[bp mb,.string ⟨#[100,105,99,101]⟩,.iface 181 (.bool false)] w2 fun e w3=>e=.returned (.tuple #[])/\St 5 w3)
  (s5:∀w1,St 5 w1->∀w2,Lk w1 w2->Calls prog 139 #[bp mb,.string ⟨#[107,101,121]⟩,.iface 181 (.bool false)] w2 fun e w3=>e=.returned (.tuple #[])/\St 6 w3)
  (hQ:∀w',St 6 w'->Q (.returned (.tuple #[])) w'):Calls prog 84 #[bp mb,.int .i64 0,.slice none 0 0] w Q:=by
 have HQ:=hZ hQ;have H0:=hZ h0;have S1:=hZ s1;have S2:=hZ s2;have S3:=hZ s3;have S4:=hZ s4;have S5:=hZ s5;clear hQ h0 s1 s2 s3 s4 s5;go_enter func84,ntmps84
 go_wp2_with (first|(go_at_call 140;refine H0.out.mono ?_;rintro e w1 ⟨rfl,hk⟩;have K:=hZ hk;clear hk)|(go_at_fn 139;refine(K.out _ (by exact⟨rfl,rfl,rfl,rfl⟩)).mono ?_;rintro e v1 ⟨rfl,hk⟩;have X1:=hZ hk;clear hk;refine Hid.out ?_)|(go_at_call 139;refine(K.out _ (by exact⟨rfl,rfl,rfl,rfl⟩)).mono ?_;rintro e v1 ⟨rfl,hk⟩;have X1:=hZ hk;clear hk;refine Hid.out ?_))
 refine hZ ?_;go_wp2_with (first|(go_at_call 141;refine(qsi _).mono ?_;rintro e w1 ⟨rfl,hl⟩;have HL1:=hZ hl;clear hl)|(go_at_fn 139;(refine(S1.out _ X1.out _ (qat HL1.out (by exact⟨rfl,rfl,rfl,rfl⟩))).mono ?_;rintro e v2 ⟨rfl,hk⟩;have X2:=hZ hk;clear hk;refine Hid.out ?_))|(go_at_call 139;(refine(S1.out _ X1.out _ (qat HL1.out (by exact⟨rfl,rfl,rfl,rfl⟩))).mono ?_;rintro e v2 ⟨rfl,hk⟩;have X2:=hZ hk;clear hk;refine Hid.out ?_)))
 refine hZ ?_;go_wp2_with (first|(go_at_call 141;refine(qsh _).mono ?_;rintro e w1 ⟨rfl,hl⟩;have HL2:=hZ hl;clear hl)|(go_at_fn 139;(refine(S2.out _ X2.out _ (qat HL2.out (by exact⟨rfl,rfl,rfl,rfl⟩))).mono ?_;rintro e v3 ⟨rfl,hk⟩;have X3:=hZ hk;clear hk;refine Hid.out ?_))|(go_at_call 139;(refine(S2.out _ X2.out _ (qat HL2.out (by exact⟨rfl,rfl,rfl,rfl⟩))).mono ?_;rintro e v3 ⟨rfl,hk⟩;have X3:=hZ hk;clear hk;refine Hid.out ?_)))
 refine hZ ?_;go_wp2_with (first|(go_at_call 141;refine(qsg _).mono ?_;rintro e w1 ⟨rfl,hl⟩;have HL3:=hZ hl;clear hl)|(go_at_fn 139;(refine(S3.out _ X3.out _ (qat HL3.out (by exact⟨rfl,rfl,rfl,rfl⟩))).mono ?_;rintro e v4 ⟨rfl,hk⟩;have X4:=hZ hk;clear hk;refine Hid.out ?_))|(go_at_call 139;(refine(S3.out _ X3.out _ (qat HL3.out (by exact⟨rfl,rfl,rfl,rfl⟩))).mono ?_;rintro e v4 ⟨rfl,hk⟩;have X4:=hZ hk;clear hk;refine Hid.out ?_)))
 refine hZ ?_;go_wp2_with (first|(go_at_call 141;refine(qsf _).mono ?_;rintro e w1 ⟨rfl,hl⟩;have HL4:=hZ hl;clear hl)|(go_at_fn 139;(refine(S4.out _ X4.out _ (qat HL4.out (by exact⟨rfl,rfl,rfl,rfl⟩))).mono ?_;rintro e v5 ⟨rfl,hk⟩;have X5:=hZ hk;clear hk;refine Hid.out ?_))|(go_at_call 139;(refine(S4.out _ X4.out _ (qat HL4.out (by exact⟨rfl,rfl,rfl,rfl⟩))).mono ?_;rintro e v5 ⟨rfl,hk⟩;have X5:=hZ hk;clear hk;refine Hid.out ?_)))
 refine hZ ?_;go_wp2_with (first|(go_at_call 141;refine(qo7 _).mono ?_;rintro e w1 ⟨rfl,hl⟩;have HL5:=hZ hl;clear hl)|(go_at_fn 139;(refine(S5.out _ X5.out _ (qat HL5.out (by exact⟨rfl,rfl,rfl,rfl⟩))).mono ?_;rintro e v6 ⟨rfl,hk⟩;have X6:=hZ hk;clear hk;refine Hid.out ?_))|(go_at_call 139;(refine(S5.out _ X5.out _ (qat HL5.out (by exact⟨rfl,rfl,rfl,rfl⟩))).mono ?_;rintro e v6 ⟨rfl,hk⟩;have X6:=hZ hk;clear hk;refine Hid.out ?_)))
 refine hZ ?_;go_wp2;go_end0;exact HQ.out _ X6.out
def world0:List (Bs×Vl):=[([115,101,99,114,101,116,115],.nil),([111,117,116],.bool false),([105,110],.bool false),([99,108,111,99,107],.bool false),([100,105,99,101],.bool false),([107,101,121],.bool false)]
def puts(l:List (Bs×Vl))(g:List (Bs×Vl)):List (Bs×Vl):=l.foldl (fun g p=>put p.1 p.2 g) g
def WSt(G0:Gh)(w0:World)(S:Sub)(m:Mc)(k:Nat)(w:World):Prop:=∃G,Inv G S {m with glob:=puts (world0.take k) m.glob} w/\G.B.map (·.1)=G0.B.map (·.1)++(world0.take k).map (·.1)/\Mv G0 w0 G w
theorem WSt.step{G0:Gh}{w0:World}{S:Sub}{m:Mc}{k:Nat}{w w2:World}(h:WSt G0 w0 S m k w)(hl:Below w.heap.size w w2){s:ByteArray}{v:Vl}{x:Value}(hk:world0[k]? =some (s.data.toList,v))(hn:∀p,p∈world0->p.1∉G0.B.map (·.1))(hv:∀G,VRep G v x):
  Calls prog 139 #[bp G0.mb,.string s,x] w2 fun e w3=>e=.returned (.tuple #[])/\WSt G0 w0 S m (k+1) w3:=by
 obtain⟨G,h1,h2,h3⟩:=h;have hlt:k<world0.length:=(List.getElem?_eq_some_iff.1 hk).1;have htk:world0.take (k+1)=world0.take k++[(s.data.toList,v)]:=by rw[List.take_add_one,hk];rfl
 have hnew:s.data.toList∉G.B.map (·.1):=by
  rw[h2,List.mem_append];rintro(h|h)
  ·exact hn _ (List.mem_of_getElem? hk) h
  ·have hnd:(world0.map (·.1)).Nodup:=by decide
   rw[List.map_take]at h;obtain⟨j,hj,he⟩:=List.mem_take_iff_getElem.1 h;have e2:(world0.map (·.1))[k]? =some s.data.toList:=by rw[List.getElem?_map,hk];rfl
   have e3:(world0.map (·.1))[j]? =some s.data.toList:=by rw[<-he];exact List.getElem?_eq_getElem _
   have:=(List.getElem?_inj (by simp at hj|-;omega) hnd).1 (e3.trans e2.symm);omega
 have key:=qfv G S _ w2 s v x (h1.below hl) (qeo hnew) (hv G);have hmb:G.mb=G0.mb:=h3.up.le.mb;rw[hmb]at key;refine Calls.mono key ?_;rintro e w3 ⟨rfl,q1,q2,_⟩;refine⟨rfl,_,?_,?_,(h3.trans (Mv.ext (Gh.ext.refl _ _) hl)).trans q1⟩
 ·have:puts (world0.take (k+1)) m.glob=put s.data.toList v (puts (world0.take k) m.glob):=by rw[htk];simp[puts]
  rw[this];exact q2
 ·show(G.B++[(s.data.toList,w2.heap.size)]).map (·.1)=_;rw[htk];simp[h2]
theorem qm9{G:Gh}{S:Sub}{m:Mc}{w:World}(i:Inv G S m w)(hn:∀p,p∈world0->p.1∉G.B.map (·.1)):Calls prog 84 #[bp G.mb,.int .i64 0,.slice none 0 0] w fun e w'=>e=.returned (.tuple #[])/\WSt G w S m 6 w':=by
 have h0:WSt G w S m 0 w:=⟨G,i,by simp,Mv.refl _ _⟩;refine qna G.mb w _ (WSt G w S m) ?_ (fun w1 h w2 hl=>h.step (bl0 hl) rfl hn fun _=>.bool _) (fun w1 h w2 hl=>h.step (bl0 hl) rfl hn fun _=>.bool _) (fun w1 h w2 hl=>h.step (bl0 hl) rfl hn fun _=>.bool _) (fun w1 h w2 hl=>h.step (bl0 hl) rfl hn fun _=>.bool _) (fun w1 h w2 hl=>h.step (bl0 hl) rfl hn fun _=>.bool _) (fun w' h=>⟨rfl,h⟩);refine Calls.mono (sealed0 G.mb w fun a c w' hb=>?_) ?_
 ·refine Calls.mono (qc9 G S m w' a c [] [] .nil _ (i.below hb) ⟨rfl,fun j v x h=>by simp at h⟩ .nil (.inl rfl) (by simp)) ?_;rintro e w2 ⟨H,x,rfl,_,_,hx,hb2⟩;have hx:VRep H .nil x:=hx;cases hx with
  |nil=>exact⟨rfl,hb.trans (hb2.mono hb.size)⟩
  |proc _ b h=>cases h
 ·rintro e w1 ⟨rfl,hb⟩;exact⟨rfl,fun w2 hl=>h0.step (hb.trans ((bl0 hl).mono hb.size)) rfl hn fun _=>.nil⟩
def Gh.at(G:Gh)(w:World)(F:Nat->Prop):Gh:={G with W:=w,F:=F}
theorem Gh.le_at(G:Gh)(w:World)(F:Nat->Prop):G.le (G.at w F):=⟨fun h=>h,fun h=>h,fun h=>h,fun h=>h,rfl,rfl,rfl,rfl,rfl,rfl⟩
theorem Inv.at{G:Gh}{S:Sub}{m:Mc}{w W:World}{F:Nat->Prop}(i:Inv G S m w)(ho:w.os=W.os/\w.tape=W.tape/\w.output=W.output)(hF:∀b,F b->b<w.heap.size/\w.heap[b]? =W.heap[b]?/\b∉G.mut/\G.I b=none):Inv (G.at W F) S m w:=by
 have l:=G.le_at W F;refine⟨i.imm,i.nd,i.mi,i.ml,i.st,i.ce,i.sl,i.cl,?_,i.mp,?_,i.gd,i.gk,?_,i.el,i.jl,i.jn,i.ji,ho,fun {b} hb=>⟨(hF b hb).2.1,(hF b hb).1⟩,fun {b} hm hb=>(hF b hb).2.2.1 hm,fun {b} hb=>(hF b hb).2.2.2⟩
 ·obtain⟨gv,wp,a,b⟩:=i.ma;exact⟨gv,wp,a,b.mono l⟩
 ·intro s b hs;obtain⟨x,a,k⟩:=i.gl hs;exact⟨x,a,k.mono l⟩
 ·intro j vs e hj;obtain⟨fb,sv,pf,a,b,c,d⟩:=i.en hj;exact⟨fb,sv,pf,a,b,c.mono l,d.mono l fun _ _ _ _ _=>rfl⟩
theorem qpc(mb rb:Nat)(w:World):Calls prog 142 #[bp mb,bp rb] w fun e w'=>e=.returned (bp (w.heap.size+3))/\Lk ((((w.alloc (.map #[] 0)).alloc (.map #[] 0)).alloc (.cells #[.int .i64 0,.map (some (w.heap.size+1))] 329)).alloc (.cells #[bp mb,bp rb,.map (some w.heap.size),bp (w.heap.size+2)] 331)) w':=by
 have hm1:∀w:World,(Instr.makeMap 325 none).run prog w=.ok (.map (some w.heap.size)) (w.alloc (.map #[] 0)):=fun w=>by simp[Instr.makeMap]
 have hm2:∀w:World,(Instr.makeMap 327 none).run prog w=.ok (.map (some w.heap.size)) (w.alloc (.map #[] 0)):=fun w=>by simp[Instr.makeMap]
 go_enter func142,ntmps142
 go_wp2;go_ret;exact⟨rfl,rfl,rfl,rfl,rfl⟩
end
section
open Sc
theorem cellO{w:World}{b o o':Nat}{x v:Value}(h:w.cell? ⟨b,o,none⟩=some x)(hn:o≠o'):(w.setCell ⟨b,o',none⟩ v).cell? ⟨b,o,none⟩=some x:=by
 simp only[World.cell?,World.setCell,Array.getElem?_modify]at h|-;cases hw:w.heap[b]? with
 |none=>rw[hw]at h;simp at h
 |some ob=>
  rw[hw]at h;cases ob with
  |cells c t fr=>simp at h|-;rw[Array.getElem?_setIfInBounds_ne (Ne.symm hn)];exact h
  |_=>simp at h
theorem qs4(rk mb rb:Nat)(ga:Option Addr)(n cap:Nat)(dk:Nat->Dl)(pk:Nat->Int)(w:World)(Q:Ending->World->Prop)(R:Nat->Nat->World->Prop)(h100:n<=1000000)
  (c0:w.cell? ⟨rk,0,none⟩=some (bp mb))(c1:w.cell? ⟨rk,1,none⟩=some (bp rb))
  (h0:∀w',Lk w w'->Calls prog 142 #[bp mb,bp rb] w' fun e w2=>∃xb,e=.returned (bp xb)/\∀w3,Lk w2 w3->R xb 0 w3)
  (hrow:∀xb k wr,R xb k wr->k<n->∃g o,ga=some ⟨g,o,none⟩/\(∀j,j<6->wr.cell? ⟨g,o+k*7+j,none⟩=(dk k).cells[j]?)/\wr.cell? ⟨g,o+k*7+6,none⟩=some (.int .i64 (pk k)))
  (hrun:∀xb k wr,R xb k wr->k<n->wr.cell? ⟨rk,0,none⟩=some (bp mb)/\(∃p,wr.cell? ⟨rk,4,none⟩=some (.int .i64 p))/\(∀o,wr.frozen? ⟨rk,o,none⟩=false))
  (hform:∀xb k wr,R xb k wr->k<n->∀w1,Lk ((wr.setCell ⟨rk,4,none⟩ (.int .i64 (pk k))).alloc (.cells ((dk k).cells++#[.int .i64 (pk k)]) 136)) w1->Calls prog 144 #[bp xb,.agg (dk k).cells] w1 (RetP (fun v w2=>(∃kx cx,v=.func (.func kx) #[] cx)/\w2.cell? ⟨rk,0,none⟩=some (bp mb)/\w2.heap[wr.heap.size]? =some (.cells ((dk k).cells++#[.int .i64 (pk k)]) 136 (0,0))/\
   ∀w3,Lk w2 w3->Calls prog 143 #[bp mb,v] w3 (RetP (fun x w4=>(∃t y,x=.iface t y)/\w4.cell? ⟨rk,0,none⟩=some (bp mb)/\w4.heap[wr.heap.size]? =some (.cells ((dk k).cells++#[.int .i64 (pk k)]) 136 (0,0))/\(k+1<n->∀w5,Lk w4 w5->R xb (k+1) w5)/\
    (k+1=n->∀w5,Lk w4 w5->Calls prog 145 #[x,.int .i64 1200] w5 fun e w6=>∃s,e=.returned (.string s)/\(∃z,w6.cell? ⟨rk,5,none⟩=some (.string z))/\(∀o,w6.frozen? ⟨rk,o,none⟩=false)/\∀w7,Lk (w6.setCell ⟨rk,5,none⟩ (.string s)) w7->R xb (k+1) w7)) Q)) Q))
  (hend:∀xb wr,R xb n wr->Q (.returned (.tuple #[])) wr):
  Calls prog 85 #[bp rk,.slice ga n cap] w Q:=by
 have H0:=hZ h0;have HRow:=hZ hrow;have HRun:=hZ hrun;have HForm:=hZ hform;have HEnd:=hZ hend;clear h0 hrow hrun hform hend;go_enter func85,ntmps85
 go_wp2_with (fail)
 refine qai 8 (by kernel_rfl) (by kernel_rfl) ?_;simp only[List.take_succ_cons,List.take_zero,List.drop_succ_cons,List.drop_zero];repeat still_step
 refine wpStill_nil ?_;go_wp2_with (go_at_call 142;refine(H0.out _ (by exact⟨rfl,rfl,rfl,rfl⟩)).mono ?_;rintro e w2 ⟨xb,rfl,hK⟩;have HK:=hZ hK;clear hK;refine Hid.out ?_)
 refine hZ ?_;go_wp2;go_loopw [19] (fun c wr=>∃(k:Nat),k<=n/\c=.int .i64 (k:Int)/\R xb k wr) (fun c _=>n-(intOf c).toNat)
 case atStart=>exact⟨0,Nat.zero_le _,rfl,HK.out _ (by exact⟨rfl,rfl,rfl,rfl⟩)⟩
 case round=>
  obtain⟨k,hk,rfl,hR⟩:=hrel;have HR:=hZ hR;clear hR;by_cases hlt:k<n
  ·obtain⟨⟨yk,yn,ytr,ytx,ym,ya,ylen,ycap⟩,hy⟩:∃y,y=dk k:=⟨_,rfl⟩;obtain⟨pp,hp⟩:∃y,y=pk k:=⟨_,rfl⟩;obtain⟨g,o,rfl,cell,d6⟩:=HRow.out xb k wr HR.out hlt;obtain⟨r0,⟨q4,r4⟩,rf⟩:=HRun.out xb k wr HR.out hlt;rw[<-hy]at cell;rw[<-hp]at d6;have d0:wr.cell? ⟨g,o+k*7,none⟩=some (.int .i64 yk):=cell 0 (by omega);have d1:wr.cell? ⟨g,o+k*7+1,none⟩=some (.int .i64 yn):=cell 1 (by omega);have d2:wr.cell? ⟨g,o+k*7+2,none⟩=some (.bool ytr):=cell 2 (by omega);have d3:wr.cell? ⟨g,o+k*7+3,none⟩=some (.string ytx):=cell 3 (by omega);have d4:wr.cell? ⟨g,o+k*7+4,none⟩=some (.int .i64 ym):=cell 4 (by omega);have d5:wr.cell? ⟨g,o+k*7+5,none⟩=some (.slice ya ylen ycap):=cell 5 (by omega);have hc:=HForm.out xb k wr HR.out hlt;rw[<-hy,<-hp]at hc;have HC:=hZ hc;clear cell hc hy hp;have lrk:=qac r0;have hkl':(k:Int)<(n:Int):=by omega
   go_wp2_with (fail)
   have hz:=qaf (w:=wr) (a:=⟨rk,4,none⟩) (v:=.int .i64 pp);have e0:=qaj (o:=.cells #[.int .i64 yk,.int .i64 yn,.bool ytr,.string ytx,.int .i64 ym,.slice ya ylen ycap,.int .i64 pp] 136) (cellO (o':=4) (v:=.int .i64 pp) r0 (by omega));have hnew:=heap_alloc_new (wr.setCell ⟨rk,4,none⟩ (.int .i64 pp)) (.cells #[.int .i64 yk,.int .i64 yn,.bool ytr,.string ytx,.int .i64 ym,.slice ya ylen ycap,.int .i64 pp] 136);rw[hz]at hnew;have HC':=HC.out;clear HC;have eA:(Dl.cells ⟨yk,yn,ytr,ytx,ym,ya,ylen,ycap⟩++#[Value.int .i64 pp])=#[.int .i64 yk,.int .i64 yn,.bool ytr,.string ytx,.int .i64 ym,.slice ya ylen ycap,.int .i64 pp]:=rfl;rw[eA]at HC';generalize (wr.setCell ⟨rk,4,none⟩ (.int .i64 pp)).alloc (.cells #[.int .i64 yk,.int .i64 yn,.bool ytr,.string ytx,.int .i64 ym,.slice ya ylen ycap,.int .i64 pp] 136)=W at e0 hnew HC'|-;have HC:=hZ HC';clear HC' eA hz;have a0:W.cell? ⟨wr.heap.size,0,none⟩=some (.int .i64 yk):=by simp only[World.cell?,hnew];rfl
   have a1:W.cell? ⟨wr.heap.size,1,none⟩=some (.int .i64 yn):=by simp only[World.cell?,hnew];rfl
   have a2:W.cell? ⟨wr.heap.size,2,none⟩=some (.bool ytr):=by simp only[World.cell?,hnew];rfl
   have a3:W.cell? ⟨wr.heap.size,3,none⟩=some (.string ytx):=by simp only[World.cell?,hnew];rfl
   have a4:W.cell? ⟨wr.heap.size,4,none⟩=some (.int .i64 ym):=by simp only[World.cell?,hnew];rfl
   have a5:W.cell? ⟨wr.heap.size,5,none⟩=some (.slice ya ylen ycap):=by simp only[World.cell?,hnew];rfl
   clear hnew;have mkS:∀W:World,W.cell? ⟨rk,0,none⟩=some (bp mb)->W.heap[wr.heap.size]? =some (.cells #[.int .i64 yk,.int .i64 yn,.bool ytr,.string ytx,.int .i64 ym,.slice ya ylen ycap,.int .i64 pp] 136 (0,0))->W.cell? ⟨rk,0,none⟩=some (bp mb)/\W.cell? ⟨wr.heap.size,0,none⟩=some (.int .i64 yk)/\W.cell? ⟨wr.heap.size,1,none⟩=some (.int .i64 yn)/\W.cell? ⟨wr.heap.size,2,none⟩=some (.bool ytr)/\W.cell? ⟨wr.heap.size,3,none⟩=some (.string ytx)/\W.cell? ⟨wr.heap.size,4,none⟩=some (.int .i64 ym)/\W.cell? ⟨wr.heap.size,5,none⟩=some (.slice ya ylen ycap):=fun W h0 h=>by
    refine⟨h0,?_,?_,?_,?_,?_,?_⟩ <;> simp only[World.cell?,h] <;> rfl
   have HM:=hZ mkS;clear mkS;go_region_held2 (fun w'=>w'.cell? ⟨rk,0,none⟩=some (bp mb)/\w'.cell? ⟨wr.heap.size,0,none⟩=some (.int .i64 yk)/\w'.cell? ⟨wr.heap.size,1,none⟩=some (.int .i64 yn)/\w'.cell? ⟨wr.heap.size,2,none⟩=some (.bool ytr)/\w'.cell? ⟨wr.heap.size,3,none⟩=some (.string ytx)/\w'.cell? ⟨wr.heap.size,4,none⟩=some (.int .i64 ym)/\w'.cell? ⟨wr.heap.size,5,none⟩=some (.slice ya ylen ycap)) (first|(exact⟨e0,a0,a1,a2,a3,a4,a5⟩)|(exact HS1.out)|(exact HS2.out)|go_keep)
    (first
     |(go_at_call 144;refine(HC.out _ (by exact⟨rfl,rfl,rfl,rfl⟩)).mono ?_;rintro e w2 (⟨ps,rfl,hq⟩|⟨v,rfl,⟨kx,cx,rfl⟩,hs,hs',hK⟩);(exact⟨rfl,hq⟩);have HK2:=hZ hK;have HS1:=hZ (HM.out _ hs hs');clear hK hs hs')
     |(go_at_call 143;refine(HK2.out _ (by exact⟨rfl,rfl,rfl,rfl⟩)).mono ?_;rintro e w4 (⟨ps,rfl,hq⟩|⟨v,rfl,⟨ty,y,rfl⟩,hs,hs',hA,hB⟩);(exact⟨rfl,hq⟩);have HA:=hZ hA;have HBB:=hZ hB;have HS2:=hZ (HM.out _ hs hs');clear hA hB hs hs'))
   by_cases hl:k+1=n
   ·have hB:=HBB.out hl;have HB5:=hZ hB;clear hB;have e5:((k:Int)==(n:Int)-1)=true:=by simp;omega
    have e6:(k:Int)=(n:Int)-1:=by omega
    go_wp2_with (go_at_call 145;refine(HB5.out _ (by exact⟨rfl,rfl,rfl,rfl⟩)).mono ?_;rintro e w6 ⟨s,rfl,⟨z,hz5⟩,hf6,hK⟩;have HK6:=hZ hK;clear hK;refine Hid.out ?_)
    refine hZ ?_;go_wp2;go_roundw
    case rel=>exact⟨k+1,by omega,by go_num,HK6.out _ (by exact⟨rfl,rfl,rfl,rfl⟩)⟩
    case measure=>simp[intOf];omega
   ·have hA:=HA.out (by omega);have HA5:=hZ hA;clear hA;have e5:((k:Int)==(n:Int)-1)=false:=by simp;omega
    have e6:¬(k:Int)=(n:Int)-1:=by omega
    go_wp2;go_roundw
    case rel=>exact⟨k+1,by omega,by go_num,HA5.out _ (by exact⟨rfl,rfl,rfl,rfl⟩)⟩
    case measure=>simp[intOf];omega
  ·have hke:k=n:=by omega
   have hR:=HR.out;rw[hke]at hR;have HR2:=hZ hR;clear hR HR;have hnl:¬(k:Int)<(n:Int):=by omega
   clear hke;go_wp2;go_end0;exact HEnd.out _ _ HR2.out
end
end Go.Proofs.YtldaocpojcfljaaGreatDoor
