import Derived.Test.YtldaocpojcfljaaGreatDoorC41
set_option maxRecDepth 100000
set_option maxHeartbeats 4000000
namespace Go.Proofs.YtldaocpojcfljaaGreatDoor
open Tryz hiding parts
open Go.RowKit Go.Shelf
section
open Sc
def Sc.Pm.most:List Pm:=[.add,.sub,.mul,.quot,.rem,.eql,.lss,.nullQ,.pairQ,.intQ,.symQ,.strQ,.boolQ,.procQ,.sealQ,.not,.eqQ,.equalQ,.cons,.car,.cdr,.list,.length,.append,.strAppend,.strLength,.numStr,.symStr,.apply,.callcc,.wind,.error,.seal]
def Sc.Pm.off:Pm→Nat
 | .add=>1
 | .sub=>4
 | .mul=>7
 | .quot=>10
 | .rem=>13
 | .eql=>16
 | .lss=>19
 | .nullQ=>22
 | .pairQ=>25
 | .intQ=>28
 | .symQ=>31
 | .strQ=>34
 | .boolQ=>37
 | .procQ=>40
 | .sealQ=>43
 | .not=>47
 | .eqQ=>50
 | .equalQ=>53
 | .cons=>57
 | .car=>60
 | .cdr=>63
 | .list=>66
 | .length=>69
 | .append=>72
 | .strAppend=>76
 | .strLength=>79
 | .numStr=>82
 | .symStr=>85
 | .apply=>89
 | .callcc=>92
 | .wind=>95
 | .error=>98
 | .seal=>101
 |_=>0
def globs (l:List Pm):List (Bs×Vl):=l.foldl (fun g p=>put p.name (.prim p) g) []
theorem qmh (l:List Pm) (p:Pm):globs (l++[p])=put p.name (.prim p) (globs l):=by simp [globs]
def PSt (G0:Gh) (w0:World) (S:Sub) (br:Option Nat) (done:List Pm) (n:Nat) (w:World):Prop:=
 ∃G,Inv G S {({}:Mc)with glob:=globs done} w∧w.heap.size=w0.heap.size+n∧G.B.map (·.1)=done.map Pm.name∧Mv G0 w0 G w∧∀r,br=some r→G.mbox r
theorem PSt.lk {G0:Gh} {w0:World} {S:Sub} {br:Option Nat} {done:List Pm} {n:Nat} {w w':World} (h:PSt G0 w0 S br done n w) (hl:Lk w w'):PSt G0 w0 S br done n w':=by
 obtain⟨G,h1,h2,h3,h4,h5⟩:=h
 exact⟨G,Inv.lk hl h1,by rw [hl.heap];exact h2,h3,h4.lk hl,h5⟩
theorem PSt.box {G0:Gh} {w0:World} {S:Sub} {done:List Pm} {n:Nat} {w w':World} (h:PSt G0 w0 S none done n w) (hl:Lk (w.alloc (.cells #[bp G0.mb] 107)) w'):PSt G0 w0 S (some w.heap.size) done (n+1) w':=by
 obtain⟨G,h1,h2,h3,h4,_⟩:=h
 have x1:=h1.x1 (.cells #[bp G0.mb] 107)
 refine⟨G.add w.heap.size (.cells #[bp G0.mb] 107),Inv.lk hl (h1.alloc _),by rw [hl.heap];simp [h2];omega,h3,h4.trans ((Mv.ext x1 (qab _ _)).lk hl),fun r hr=>?_⟩
 cases hr
 show Gh.I _ _=_
 have hmb:(G.add w.heap.size (.cells #[bp G0.mb] 107)).mb=G0.mb:=h4.up.le.mb
 rw [hmb];exact Gh.add_at _ _ _
theorem PSt.off {G0:Gh} {w0:World} {S:Sub} {br:Option Nat} {done:List Pm} {n:Nat} {w:World} (h:PSt G0 w0 S br done n w):PSt G0 w0 S none done n w:=by
 obtain⟨G,h1,h2,h3,h4,_⟩:=h
 exact⟨G,h1,h2,h3,h4,nofun⟩
theorem PSt.cell {G0:Gh} {w0:World} {S:Sub} {q:Nat} {done:List Pm} {n:Nat} {w:World} (h:PSt G0 w0 S (some q) done n w):w.cell? ⟨q,0,none⟩=some (bp G0.mb):=by
 obtain⟨G,h1,_,_,h4,h5⟩:=h
 have:=h1.cell (h5 q rfl) 0
 rw [h4.up.le.mb]at this;exact this
theorem qeo {s:Bs}:∀{B:List (Bs×Nat)},s∉B.map (·.1)→lookB s B=none
 | [],_=>rfl
 |(t,b)::r,h=>by
  simp only [List.map_cons,List.mem_cons,not_or]at h
  simp [lookB,h.1,qeo h.2]
theorem PSt.fin {G0:Gh} {w0:World} {S:Sub} {br:Option Nat} {done:List Pm} {_n d:Nat} {_w w2:World} {b:Nat} {x:Value} {p:Pm} {G1:Gh} {_m1:List (Bs×Vl)} (i:Inv G1 S {({}:Mc)with glob:=globs done} w2) (hsz:w2.heap.size=w0.heap.size+d) (hB:G1.B.map (·.1)=done.map Pm.name) (hmv:Mv G0 w0 G1 w2) (hbr:∀r,br=some r→G1.mbox r)
  (hP:∀p,G0.P p=w0.heap.size+p.off) (hb:b=w0.heap.size+p.off) (hI:G1.I b=some (.cells #[x] 300 (0,0))) (hrep:PRep G1 p x) (hnew:p.name∉done.map Pm.name):Calls prog 139 #[bp G0.mb,.string ⟨p.name.toArray⟩,.iface 281 (bp b)] w2 fun e w3=>e=.returned (.tuple #[])∧PSt G0 w0 S br (done++[p]) (d+1) w3:=by
 have hmb:G1.mb=G0.mb:=hmv.up.le.mb
 have hPp:G1.P p=b:=by rw [hmv.up.le.P,hP,hb]
 have hv:VRep G1 (.prim p) (.iface 281 (bp b)):=by
  have:=VRep.proc (G:=G1) (.prim p) (G1.P p) (.prim p x (by rw [hPp];exact hI) hrep)
  rw [hPp]at this;exact this
 have key:=qfv G1 S _ w2 ⟨p.name.toArray⟩ (.prim p) _ i (qeo (by rw [hB];simpa using hnew)) hv
 rw [hmb]at key
 refine Calls.mono key ?_
 rintro e w3 ⟨rfl,h1,h2,h3⟩
 have hnm:(⟨p.name.toArray⟩:ByteArray).data.toList=p.name:=by simp
 rw [hnm]at h1 h2
 refine⟨rfl,G1.glob p.name w2.heap.size,?_,by omega,?_,hmv.trans h1,fun r hr=>h1.up.le.mbox (hbr r hr)⟩
 ·rw [qmh];exact h2
 ·show(G1.B++[(p.name,w2.heap.size)]).map (·.1)=_
  simp [hB]
theorem PSt.two {G0:Gh} {w0:World} {S:Sub} {br:Option Nat} {done:List Pm} {n:Nat} {w w2:World} (h:PSt G0 w0 S br done n w) (hP:∀p,G0.P p=w0.heap.size+p.off) (p:Pm) (ho:p.off=n+1) (hnew:p.name∉done.map Pm.name) {x1:Value} {T:Nat}
  (hrep:∀G:Gh,G.I w.heap.size=some (.cells #[x1] T (0,0))→(∀r,br=some r→G.mbox r)→G.mb=G0.mb→PRep G p (.func (.func p.wrapF) #[] #[bp w.heap.size])) (hw2:Lk ((w.alloc (.cells #[x1] T)).alloc (.cells #[.func (.func p.wrapF) #[] #[bp w.heap.size]] 300)) w2):
  Calls prog 139 #[bp G0.mb,.string ⟨p.name.toArray⟩,.iface 281 (bp (w.heap.size+1))] w2 fun e w3=>e=.returned (.tuple #[])∧PSt G0 w0 S br (done++[p]) (n+3) w3:=by
 obtain⟨G,h1,h2,h3,h4,h5⟩:=h
 have i2:=Inv.lk hw2 (h1.alloc2 (.cells #[x1] T) (.cells #[.func (.func p.wrapF) #[] #[bp w.heap.size]] 300))
 have x2:=h1.x2 (.cells #[x1] T) (.cells #[.func (.func p.wrapF) #[] #[bp w.heap.size]] 300)
 have mv2:Mv G0 w0 _ w2:=h4.trans ((Mv.ext x2 ((qab _ _).alloc (by simp) _)).lk hw2)
 exact PSt.fin (_n:=n) (_w:=w) (_m1:=[]) i2 (d:=n+2) (by rw [hw2.heap];simp [h2];omega) h3 mv2 (fun r hr=>x2.le.mbox (h5 r hr)) hP (by omega) (Gh.add_at _ _ _) (hrep _ (by rw [qae _ (by omega)];exact Gh.add_at _ _ _) (fun r hr=>x2.le.mbox (h5 r hr)) mv2.up.le.mb) hnew
theorem PSt.one {G0:Gh} {w0:World} {S:Sub} {q:Nat} {done:List Pm} {n:Nat} {w w2:World} (h:PSt G0 w0 S (some q) done n w) (hP:∀p,G0.P p=w0.heap.size+p.off) (p:Pm) (ho:p.off=n) (hf:p.form=2) (hnew:p.name∉done.map Pm.name) (hw2:Lk (w.alloc (.cells #[.func (.func p.wrapF) #[] #[bp q]] 300)) w2):
  Calls prog 139 #[bp G0.mb,.string ⟨p.name.toArray⟩,.iface 281 (bp w.heap.size)] w2 fun e w3=>e=.returned (.tuple #[])∧PSt G0 w0 S (some q) (done++[p]) (n+2) w3:=by
 obtain⟨G,h1,h2,h3,h4,h5⟩:=h
 have i2:=Inv.lk hw2 (h1.alloc (.cells #[.func (.func p.wrapF) #[] #[bp q]] 300))
 have x2:=h1.x1 (.cells #[.func (.func p.wrapF) #[] #[bp q]] 300)
 have mv2:Mv G0 w0 _ w2:=h4.trans ((Mv.ext x2 (qab _ _)).lk hw2)
 exact PSt.fin (_n:=n) (_w:=w) (_m1:=[]) i2 (d:=n+1) (by rw [hw2.heap];simp [h2];omega) h3 mv2 (fun r hr=>x2.le.mbox (h5 r hr)) hP (by omega) (Gh.add_at _ _ _) (.self p q hf (x2.le.mbox (h5 q rfl))) hnew
theorem qat {a b c:World} (h:Lk a b) (h2:Lk b c):Lk a c:=⟨h2.heap.trans h.heap,h2.tape.trans h.tape,h2.os.trans h.os,h2.output.trans h.output⟩
theorem mkis185 (w:World):Calls prog 185 #[] w fun e w'=>e=.returned (bp (w.heap.size+1))∧Lk ((w.alloc (.cells #[.func (.func 260) #[] #[]] 287)).alloc (.cells #[.func (.func 268) #[] #[bp w.heap.size]] 300)) w':=by
 have H:=hZ (qd0 260 #[] w)
 go_enter func185,ntmps185
 go_wp2_with (first|(go_at_call 193;refine H.out.mono ?_;rintro e w2 ⟨rfl,hl⟩;have HL:=hZ hl;clear hl))
 go_ret
 exact⟨rfl,HL.out⟩
theorem mkis186 (w:World):Calls prog 186 #[] w fun e w'=>e=.returned (bp (w.heap.size+1))∧Lk ((w.alloc (.cells #[.func (.func 261) #[] #[]] 287)).alloc (.cells #[.func (.func 268) #[] #[bp w.heap.size]] 300)) w':=by
 have H:=hZ (qd0 261 #[] w)
 go_enter func186,ntmps186
 go_wp2_with (first|(go_at_call 193;refine H.out.mono ?_;rintro e w2 ⟨rfl,hl⟩;have HL:=hZ hl;clear hl))
 go_ret
 exact⟨rfl,HL.out⟩
theorem mkis187 (w:World):Calls prog 187 #[] w fun e w'=>e=.returned (bp (w.heap.size+1))∧Lk ((w.alloc (.cells #[.func (.func 262) #[] #[]] 287)).alloc (.cells #[.func (.func 268) #[] #[bp w.heap.size]] 300)) w':=by
 have H:=hZ (qd0 262 #[] w)
 go_enter func187,ntmps187
 go_wp2_with (first|(go_at_call 193;refine H.out.mono ?_;rintro e w2 ⟨rfl,hl⟩;have HL:=hZ hl;clear hl))
 go_ret
 exact⟨rfl,HL.out⟩
theorem mkis188 (w:World):Calls prog 188 #[] w fun e w'=>e=.returned (bp (w.heap.size+1))∧Lk ((w.alloc (.cells #[.func (.func 263) #[] #[]] 287)).alloc (.cells #[.func (.func 268) #[] #[bp w.heap.size]] 300)) w':=by
 have H:=hZ (qd0 263 #[] w)
 go_enter func188,ntmps188
 go_wp2_with (first|(go_at_call 193;refine H.out.mono ?_;rintro e w2 ⟨rfl,hl⟩;have HL:=hZ hl;clear hl))
 go_ret
 exact⟨rfl,HL.out⟩
theorem mkis189 (w:World):Calls prog 189 #[] w fun e w'=>e=.returned (bp (w.heap.size+1))∧Lk ((w.alloc (.cells #[.func (.func 264) #[] #[]] 287)).alloc (.cells #[.func (.func 268) #[] #[bp w.heap.size]] 300)) w':=by
 have H:=hZ (qd0 264 #[] w)
 go_enter func189,ntmps189
 go_wp2_with (first|(go_at_call 193;refine H.out.mono ?_;rintro e w2 ⟨rfl,hl⟩;have HL:=hZ hl;clear hl))
 go_ret
 exact⟨rfl,HL.out⟩
theorem mkis190 (w:World):Calls prog 190 #[] w fun e w'=>e=.returned (bp (w.heap.size+1))∧Lk ((w.alloc (.cells #[.func (.func 265) #[] #[]] 287)).alloc (.cells #[.func (.func 268) #[] #[bp w.heap.size]] 300)) w':=by
 have H:=hZ (qd0 265 #[] w)
 go_enter func190,ntmps190
 go_wp2_with (first|(go_at_call 193;refine H.out.mono ?_;rintro e w2 ⟨rfl,hl⟩;have HL:=hZ hl;clear hl))
 go_ret
 exact⟨rfl,HL.out⟩
theorem mkis191 (w:World):Calls prog 191 #[] w fun e w'=>e=.returned (bp (w.heap.size+1))∧Lk ((w.alloc (.cells #[.func (.func 266) #[] #[]] 287)).alloc (.cells #[.func (.func 268) #[] #[bp w.heap.size]] 300)) w':=by
 have H:=hZ (qd0 266 #[] w)
 go_enter func191,ntmps191
 go_wp2_with (first|(go_at_call 193;refine H.out.mono ?_;rintro e w2 ⟨rfl,hl⟩;have HL:=hZ hl;clear hl))
 go_ret
 exact⟨rfl,HL.out⟩
theorem mkis192 (w:World):Calls prog 192 #[] w fun e w'=>e=.returned (bp (w.heap.size+1))∧Lk ((w.alloc (.cells #[.func (.func 267) #[] #[]] 287)).alloc (.cells #[.func (.func 268) #[] #[bp w.heap.size]] 300)) w':=by
 have H:=hZ (qd0 267 #[] w)
 go_enter func192,ntmps192
 go_wp2_with (first|(go_at_call 193;refine H.out.mono ?_;rintro e w2 ⟨rfl,hl⟩;have HL:=hZ hl;clear hl))
 go_ret
 exact⟨rfl,HL.out⟩
theorem defs132 (G0:Gh) (w0:World) (S:Sub) (hP:∀p,G0.P p=w0.heap.size+p.off) (w:World) (h:PSt G0 w0 S none [] 0 w):Calls prog 132 #[bp G0.mb] w fun e w'=>e=.returned (.tuple #[])∧PSt G0 w0 S none [.add,.sub,.mul,.quot,.rem,.eql,.lss] 21 w':=by
 refine qpr G0.mb w _ (fun k w'=>match k with
  |0=>PSt G0 w0 S none [] 0 w'
  |1=>PSt G0 w0 S none [.add] 3 w'
  |2=>PSt G0 w0 S none [.add,.sub] 6 w'
  |3=>PSt G0 w0 S none [.add,.sub,.mul] 9 w'
  |4=>PSt G0 w0 S none [.add,.sub,.mul,.quot] 12 w'
  |5=>PSt G0 w0 S none [.add,.sub,.mul,.quot,.rem] 15 w'
  |6=>PSt G0 w0 S none [.add,.sub,.mul,.quot,.rem,.eql] 18 w'
  |_=>PSt G0 w0 S none [.add,.sub,.mul,.quot,.rem,.eql,.lss] 21 w') h ?_ ?_ ?_ ?_ ?_ ?_ ?_ (fun w' h1=>⟨rfl,h1⟩)
 ·intro w1 h1
  refine Calls.mono (qi5 178 #[] w1) ?_
  rintro e w2 ⟨rfl,hl⟩
  refine⟨_,rfl,fun w3 hl3=>?_⟩
  exact PSt.two h1 hP .add rfl (by decide) (fun G a b c=>.bare .add _ rfl a) (qat hl hl3)
 ·intro w1 h1
  refine Calls.mono (qi5 179 #[] w1) ?_
  rintro e w2 ⟨rfl,hl⟩
  refine⟨_,rfl,fun w3 hl3=>?_⟩
  exact PSt.two h1 hP .sub rfl (by decide) (fun G a b c=>.bare .sub _ rfl a) (qat hl hl3)
 ·intro w1 h1
  refine Calls.mono (qi5 180 #[] w1) ?_
  rintro e w2 ⟨rfl,hl⟩
  refine⟨_,rfl,fun w3 hl3=>?_⟩
  exact PSt.two h1 hP .mul rfl (by decide) (fun G a b c=>.bare .mul _ rfl a) (qat hl hl3)
 ·intro w1 h1
  refine Calls.mono (qi5 181 #[] w1) ?_
  rintro e w2 ⟨rfl,hl⟩
  refine⟨_,rfl,fun w3 hl3=>?_⟩
  exact PSt.two h1 hP .quot rfl (by decide) (fun G a b c=>.bare .quot _ rfl a) (qat hl hl3)
 ·intro w1 h1
  refine Calls.mono (qi5 182 #[] w1) ?_
  rintro e w2 ⟨rfl,hl⟩
  refine⟨_,rfl,fun w3 hl3=>?_⟩
  exact PSt.two h1 hP .rem rfl (by decide) (fun G a b c=>.bare .rem _ rfl a) (qat hl hl3)
 ·intro w1 h1
  refine Calls.mono (qi5 183 #[] w1) ?_
  rintro e w2 ⟨rfl,hl⟩
  refine⟨_,rfl,fun w3 hl3=>?_⟩
  exact PSt.two h1 hP .eql rfl (by decide) (fun G a b c=>.bare .eql _ rfl a) (qat hl hl3)
 ·intro w1 h1
  refine Calls.mono (qi5 184 #[] w1) ?_
  rintro e w2 ⟨rfl,hl⟩
  refine⟨_,rfl,fun w3 hl3=>?_⟩
  exact PSt.two h1 hP .lss rfl (by decide) (fun G a b c=>.bare .lss _ rfl a) (qat hl hl3)
theorem defs133 (G0:Gh) (w0:World) (S:Sub) (hP:∀p,G0.P p=w0.heap.size+p.off) (w:World) (h:PSt G0 w0 S none [.add,.sub,.mul,.quot,.rem,.eql,.lss] 21 w):Calls prog 133 #[bp G0.mb] w fun e w'=>e=.returned (.tuple #[])∧PSt G0 w0 S none [.add,.sub,.mul,.quot,.rem,.eql,.lss,.nullQ,.pairQ,.intQ,.symQ,.strQ,.boolQ,.procQ,.sealQ] 45 w':=by
 refine qpq G0.mb w _ (fun k w'=>match k with
  |0=>PSt G0 w0 S none [.add,.sub,.mul,.quot,.rem,.eql,.lss] 21 w'
  |1=>PSt G0 w0 S none [.add,.sub,.mul,.quot,.rem,.eql,.lss,.nullQ] 24 w'
  |2=>PSt G0 w0 S none [.add,.sub,.mul,.quot,.rem,.eql,.lss,.nullQ,.pairQ] 27 w'
  |3=>PSt G0 w0 S none [.add,.sub,.mul,.quot,.rem,.eql,.lss,.nullQ,.pairQ,.intQ] 30 w'
  |4=>PSt G0 w0 S none [.add,.sub,.mul,.quot,.rem,.eql,.lss,.nullQ,.pairQ,.intQ,.symQ] 33 w'
  |5=>PSt G0 w0 S none [.add,.sub,.mul,.quot,.rem,.eql,.lss,.nullQ,.pairQ,.intQ,.symQ,.strQ] 36 w'
  |6=>PSt G0 w0 S none [.add,.sub,.mul,.quot,.rem,.eql,.lss,.nullQ,.pairQ,.intQ,.symQ,.strQ,.boolQ] 39 w'
  |7=>PSt G0 w0 S none [.add,.sub,.mul,.quot,.rem,.eql,.lss,.nullQ,.pairQ,.intQ,.symQ,.strQ,.boolQ,.procQ] 42 w'
  |_=>PSt G0 w0 S none [.add,.sub,.mul,.quot,.rem,.eql,.lss,.nullQ,.pairQ,.intQ,.symQ,.strQ,.boolQ,.procQ,.sealQ] 45 w') h ?_ ?_ ?_ ?_ ?_ ?_ ?_ ?_ (fun w' h1=>⟨rfl,h1⟩)
 ·intro w1 h1
  refine Calls.mono (mkis185 w1) ?_
  rintro e w2 ⟨rfl,hl⟩
  refine⟨_,rfl,fun w3 hl3=>?_⟩
  exact PSt.two h1 hP .nullQ rfl (by decide) (fun G a b c=>.bare .nullQ _ rfl a) (qat hl hl3)
 ·intro w1 h1
  refine Calls.mono (mkis186 w1) ?_
  rintro e w2 ⟨rfl,hl⟩
  refine⟨_,rfl,fun w3 hl3=>?_⟩
  exact PSt.two h1 hP .pairQ rfl (by decide) (fun G a b c=>.bare .pairQ _ rfl a) (qat hl hl3)
 ·intro w1 h1
  refine Calls.mono (mkis187 w1) ?_
  rintro e w2 ⟨rfl,hl⟩
  refine⟨_,rfl,fun w3 hl3=>?_⟩
  exact PSt.two h1 hP .intQ rfl (by decide) (fun G a b c=>.bare .intQ _ rfl a) (qat hl hl3)
 ·intro w1 h1
  refine Calls.mono (mkis188 w1) ?_
  rintro e w2 ⟨rfl,hl⟩
  refine⟨_,rfl,fun w3 hl3=>?_⟩
  exact PSt.two h1 hP .symQ rfl (by decide) (fun G a b c=>.bare .symQ _ rfl a) (qat hl hl3)
 ·intro w1 h1
  refine Calls.mono (mkis189 w1) ?_
  rintro e w2 ⟨rfl,hl⟩
  refine⟨_,rfl,fun w3 hl3=>?_⟩
  exact PSt.two h1 hP .strQ rfl (by decide) (fun G a b c=>.bare .strQ _ rfl a) (qat hl hl3)
 ·intro w1 h1
  refine Calls.mono (mkis190 w1) ?_
  rintro e w2 ⟨rfl,hl⟩
  refine⟨_,rfl,fun w3 hl3=>?_⟩
  exact PSt.two h1 hP .boolQ rfl (by decide) (fun G a b c=>.bare .boolQ _ rfl a) (qat hl hl3)
 ·intro w1 h1
  refine Calls.mono (mkis191 w1) ?_
  rintro e w2 ⟨rfl,hl⟩
  refine⟨_,rfl,fun w3 hl3=>?_⟩
  exact PSt.two h1 hP .procQ rfl (by decide) (fun G a b c=>.bare .procQ _ rfl a) (qat hl hl3)
 ·intro w1 h1
  refine Calls.mono (mkis192 w1) ?_
  rintro e w2 ⟨rfl,hl⟩
  refine⟨_,rfl,fun w3 hl3=>?_⟩
  exact PSt.two h1 hP .sealQ rfl (by decide) (fun G a b c=>.bare .sealQ _ rfl a) (qat hl hl3)
theorem defs134 (G0:Gh) (w0:World) (S:Sub) (hP:∀p,G0.P p=w0.heap.size+p.off) (w:World) (h:PSt G0 w0 S none [.add,.sub,.mul,.quot,.rem,.eql,.lss,.nullQ,.pairQ,.intQ,.symQ,.strQ,.boolQ,.procQ,.sealQ] 45 w):Calls prog 134 #[bp G0.mb] w fun e w'=>e=.returned (.tuple #[])∧PSt G0 w0 S none [.add,.sub,.mul,.quot,.rem,.eql,.lss,.nullQ,.pairQ,.intQ,.symQ,.strQ,.boolQ,.procQ,.sealQ,.not,.eqQ,.equalQ] 55 w':=by
 refine qpp G0.mb w _ (fun k w'=>match k with
  |0=>PSt G0 w0 S (some w.heap.size) [.add,.sub,.mul,.quot,.rem,.eql,.lss,.nullQ,.pairQ,.intQ,.symQ,.strQ,.boolQ,.procQ,.sealQ] 46 w'
  |1=>PSt G0 w0 S (some w.heap.size) [.add,.sub,.mul,.quot,.rem,.eql,.lss,.nullQ,.pairQ,.intQ,.symQ,.strQ,.boolQ,.procQ,.sealQ,.not] 49 w'
  |2=>PSt G0 w0 S (some w.heap.size) [.add,.sub,.mul,.quot,.rem,.eql,.lss,.nullQ,.pairQ,.intQ,.symQ,.strQ,.boolQ,.procQ,.sealQ,.not,.eqQ] 52 w'
  |_=>PSt G0 w0 S (some w.heap.size) [.add,.sub,.mul,.quot,.rem,.eql,.lss,.nullQ,.pairQ,.intQ,.symQ,.strQ,.boolQ,.procQ,.sealQ,.not,.eqQ,.equalQ] 55 w') (fun w1 hw=>h.box hw) (fun k w1 w2 h1 hl=>by
  match k,h1 with
  |0,h1=>exact PSt.lk h1 hl
  |1,h1=>exact PSt.lk h1 hl
  |2,h1=>exact PSt.lk h1 hl
  |_+3,h1=>exact PSt.lk h1 hl) ?_ ?_ ?_ (fun w' h1=>⟨rfl,PSt.off h1⟩)
 ·intro w1 h1
  refine Calls.mono (qd0 194 #[] w1) ?_
  rintro e w2 ⟨rfl,hl⟩
  refine⟨_,rfl,?_,fun w3 hl3=>?_⟩
  ·exact(qas hl _).trans (qaj (qaj (PSt.cell h1)))
  ·refine Calls.mono (PSt.two h1 hP .not rfl (by decide) (fun G a b c=>.bare .not _ rfl a) (qat hl hl3)) ?_
   rintro e w4 ⟨rfl,h4⟩
   exact⟨rfl,PSt.cell h4,h4⟩
 ·intro w1 h1
  refine Calls.mono (qry 196 #[] w1) ?_
  rintro e w2 ⟨rfl,hl⟩
  refine⟨_,rfl,?_,fun w3 hl3=>?_⟩
  ·exact(qas hl _).trans (qaj (qaj (PSt.cell h1)))
  ·refine Calls.mono (PSt.two h1 hP .eqQ rfl (by decide) (fun G a b c=>.bare .eqQ _ rfl a) (qat hl hl3)) ?_
   rintro e w4 ⟨rfl,h4⟩
   exact⟨rfl,PSt.cell h4,h4⟩
 ·intro w1 h1
  refine Calls.mono (qry 197 #[bp w.heap.size] w1) ?_
  rintro e w2 ⟨rfl,hl⟩
  refine⟨_,rfl,?_,fun w3 hl3=>?_⟩
  ·exact(qas hl _).trans (qaj (qaj (PSt.cell h1)))
  ·refine Calls.mono (PSt.two h1 hP .equalQ rfl (by decide) (fun G a b c=>.mach .equalQ _ _ rfl a (b _ rfl)) (qat hl hl3)) ?_
   rintro e w4 ⟨rfl,h4⟩
   exact⟨rfl,PSt.cell h4,h4⟩
theorem defs135 (G0:Gh) (w0:World) (S:Sub) (hP:∀p,G0.P p=w0.heap.size+p.off) (w:World) (h:PSt G0 w0 S none [.add,.sub,.mul,.quot,.rem,.eql,.lss,.nullQ,.pairQ,.intQ,.symQ,.strQ,.boolQ,.procQ,.sealQ,.not,.eqQ,.equalQ] 55 w):Calls prog 135 #[bp G0.mb] w fun e w'=>e=.returned (.tuple #[])∧PSt G0 w0 S none [.add,.sub,.mul,.quot,.rem,.eql,.lss,.nullQ,.pairQ,.intQ,.symQ,.strQ,.boolQ,.procQ,.sealQ,.not,.eqQ,.equalQ,.cons,.car,.cdr] 65 w':=by
 refine qpo G0.mb w _ (fun k w'=>match k with
  |0=>PSt G0 w0 S (some w.heap.size) [.add,.sub,.mul,.quot,.rem,.eql,.lss,.nullQ,.pairQ,.intQ,.symQ,.strQ,.boolQ,.procQ,.sealQ,.not,.eqQ,.equalQ] 56 w'
  |1=>PSt G0 w0 S (some w.heap.size) [.add,.sub,.mul,.quot,.rem,.eql,.lss,.nullQ,.pairQ,.intQ,.symQ,.strQ,.boolQ,.procQ,.sealQ,.not,.eqQ,.equalQ,.cons] 59 w'
  |2=>PSt G0 w0 S (some w.heap.size) [.add,.sub,.mul,.quot,.rem,.eql,.lss,.nullQ,.pairQ,.intQ,.symQ,.strQ,.boolQ,.procQ,.sealQ,.not,.eqQ,.equalQ,.cons,.car] 62 w'
  |_=>PSt G0 w0 S (some w.heap.size) [.add,.sub,.mul,.quot,.rem,.eql,.lss,.nullQ,.pairQ,.intQ,.symQ,.strQ,.boolQ,.procQ,.sealQ,.not,.eqQ,.equalQ,.cons,.car,.cdr] 65 w') (fun w1 hw=>h.box hw) (fun k w1 w2 h1 hl=>by
  match k,h1 with
  |0,h1=>exact PSt.lk h1 hl
  |1,h1=>exact PSt.lk h1 hl
  |2,h1=>exact PSt.lk h1 hl
  |_+3,h1=>exact PSt.lk h1 hl) ?_ ?_ ?_ (fun w' h1=>⟨rfl,PSt.off h1⟩)
 ·intro w1 h1
  refine Calls.mono (qry 199 #[bp w.heap.size] w1) ?_
  rintro e w2 ⟨rfl,hl⟩
  refine⟨_,rfl,?_,fun w3 hl3=>?_⟩
  ·exact(qas hl _).trans (qaj (qaj (PSt.cell h1)))
  ·refine Calls.mono (PSt.two h1 hP .cons rfl (by decide) (fun G a b c=>.mach .cons _ _ rfl a (b _ rfl)) (qat hl hl3)) ?_
   rintro e w4 ⟨rfl,h4⟩
   exact⟨rfl,PSt.cell h4,h4⟩
 ·intro w1 h1
  refine Calls.mono (mk201 202 #[] w1) ?_
  rintro e w2 ⟨rfl,hl⟩
  refine⟨_,rfl,?_,fun w3 hl3=>?_⟩
  ·exact(qas hl _).trans (qaj (qaj (PSt.cell h1)))
  ·refine Calls.mono (PSt.two h1 hP .car rfl (by decide) (fun G a b c=>.bare .car _ rfl a) (qat hl hl3)) ?_
   rintro e w4 ⟨rfl,h4⟩
   exact⟨rfl,PSt.cell h4,h4⟩
 ·intro w1 h1
  refine Calls.mono (mk201 203 #[] w1) ?_
  rintro e w2 ⟨rfl,hl⟩
  refine⟨_,rfl,?_,fun w3 hl3=>?_⟩
  ·exact(qas hl _).trans (qaj (qaj (PSt.cell h1)))
  ·refine Calls.mono (PSt.two h1 hP .cdr rfl (by decide) (fun G a b c=>.bare .cdr _ rfl a) (qat hl hl3)) ?_
   rintro e w4 ⟨rfl,h4⟩
   exact⟨rfl,PSt.cell h4,h4⟩
theorem defs136 (G0:Gh) (w0:World) (S:Sub) (hP:∀p,G0.P p=w0.heap.size+p.off) (w:World) (h:PSt G0 w0 S none [.add,.sub,.mul,.quot,.rem,.eql,.lss,.nullQ,.pairQ,.intQ,.symQ,.strQ,.boolQ,.procQ,.sealQ,.not,.eqQ,.equalQ,.cons,.car,.cdr] 65 w):Calls prog 136 #[bp G0.mb] w fun e w'=>e=.returned (.tuple #[])∧PSt G0 w0 S none [.add,.sub,.mul,.quot,.rem,.eql,.lss,.nullQ,.pairQ,.intQ,.symQ,.strQ,.boolQ,.procQ,.sealQ,.not,.eqQ,.equalQ,.cons,.car,.cdr,.list,.length,.append] 74 w':=by
 refine qpn G0.mb w _ (fun k w'=>match k with
  |0=>PSt G0 w0 S (some w.heap.size) [.add,.sub,.mul,.quot,.rem,.eql,.lss,.nullQ,.pairQ,.intQ,.symQ,.strQ,.boolQ,.procQ,.sealQ,.not,.eqQ,.equalQ,.cons,.car,.cdr] 66 w'
  |1=>PSt G0 w0 S (some w.heap.size) [.add,.sub,.mul,.quot,.rem,.eql,.lss,.nullQ,.pairQ,.intQ,.symQ,.strQ,.boolQ,.procQ,.sealQ,.not,.eqQ,.equalQ,.cons,.car,.cdr,.list] 68 w'
  |2=>PSt G0 w0 S (some w.heap.size) [.add,.sub,.mul,.quot,.rem,.eql,.lss,.nullQ,.pairQ,.intQ,.symQ,.strQ,.boolQ,.procQ,.sealQ,.not,.eqQ,.equalQ,.cons,.car,.cdr,.list,.length] 71 w'
  |_=>PSt G0 w0 S (some w.heap.size) [.add,.sub,.mul,.quot,.rem,.eql,.lss,.nullQ,.pairQ,.intQ,.symQ,.strQ,.boolQ,.procQ,.sealQ,.not,.eqQ,.equalQ,.cons,.car,.cdr,.list,.length,.append] 74 w') (fun w1 hw=>h.box hw) (fun k w1 w2 h1 hl=>by
  match k,h1 with
  |0,h1=>exact PSt.lk h1 hl
  |1,h1=>exact PSt.lk h1 hl
  |2,h1=>exact PSt.lk h1 hl
  |_+3,h1=>exact PSt.lk h1 hl) ?_ ?_ ?_ (fun w' h1=>⟨rfl,PSt.off h1⟩)
 ·intro w1 h1 w2 hl
  refine Calls.mono (PSt.one h1 hP .list rfl rfl (by decide) hl) ?_
  rintro e w3 ⟨rfl,h3⟩
  exact⟨rfl,PSt.cell h3,h3⟩
 ·intro w1 h1
  refine Calls.mono (qd0 205 #[bp w.heap.size] w1) ?_
  rintro e w2 ⟨rfl,hl⟩
  refine⟨_,rfl,?_,fun w3 hl3=>?_⟩
  ·exact(qas hl _).trans (qaj (qaj (PSt.cell h1)))
  ·refine Calls.mono (PSt.two h1 hP .length rfl (by decide) (fun G a b c=>.mach .length _ _ rfl a (b _ rfl)) (qat hl hl3)) ?_
   rintro e w4 ⟨rfl,h4⟩
   exact⟨rfl,PSt.cell h4,h4⟩
 ·intro w1 h1
  refine Calls.mono (qry 208 #[bp w.heap.size] w1) ?_
  rintro e w2 ⟨rfl,hl⟩
  refine⟨_,rfl,?_,fun w3 hl3=>?_⟩
  ·exact(qas hl _).trans (qaj (qaj (PSt.cell h1)))
  ·refine Calls.mono (PSt.two h1 hP .append rfl (by decide) (fun G a b c=>.mach .append _ _ rfl a (b _ rfl)) (qat hl hl3)) ?_
   rintro e w4 ⟨rfl,h4⟩
   exact⟨rfl,PSt.cell h4,h4⟩
theorem defs137 (G0:Gh) (w0:World) (S:Sub) (hP:∀p,G0.P p=w0.heap.size+p.off) (w:World) (h:PSt G0 w0 S none [.add,.sub,.mul,.quot,.rem,.eql,.lss,.nullQ,.pairQ,.intQ,.symQ,.strQ,.boolQ,.procQ,.sealQ,.not,.eqQ,.equalQ,.cons,.car,.cdr,.list,.length,.append] 74 w):Calls prog 137 #[bp G0.mb] w fun e w'=>e=.returned (.tuple #[])∧PSt G0 w0 S none [.add,.sub,.mul,.quot,.rem,.eql,.lss,.nullQ,.pairQ,.intQ,.symQ,.strQ,.boolQ,.procQ,.sealQ,.not,.eqQ,.equalQ,.cons,.car,.cdr,.list,.length,.append,.strAppend,.strLength,.numStr,.symStr] 87 w':=by
 refine qpm G0.mb w _ (fun k w'=>match k with
  |0=>PSt G0 w0 S (some w.heap.size) [.add,.sub,.mul,.quot,.rem,.eql,.lss,.nullQ,.pairQ,.intQ,.symQ,.strQ,.boolQ,.procQ,.sealQ,.not,.eqQ,.equalQ,.cons,.car,.cdr,.list,.length,.append] 75 w'
  |1=>PSt G0 w0 S (some w.heap.size) [.add,.sub,.mul,.quot,.rem,.eql,.lss,.nullQ,.pairQ,.intQ,.symQ,.strQ,.boolQ,.procQ,.sealQ,.not,.eqQ,.equalQ,.cons,.car,.cdr,.list,.length,.append,.strAppend] 78 w'
  |2=>PSt G0 w0 S (some w.heap.size) [.add,.sub,.mul,.quot,.rem,.eql,.lss,.nullQ,.pairQ,.intQ,.symQ,.strQ,.boolQ,.procQ,.sealQ,.not,.eqQ,.equalQ,.cons,.car,.cdr,.list,.length,.append,.strAppend,.strLength] 81 w'
  |3=>PSt G0 w0 S (some w.heap.size) [.add,.sub,.mul,.quot,.rem,.eql,.lss,.nullQ,.pairQ,.intQ,.symQ,.strQ,.boolQ,.procQ,.sealQ,.not,.eqQ,.equalQ,.cons,.car,.cdr,.list,.length,.append,.strAppend,.strLength,.numStr] 84 w'
  |_=>PSt G0 w0 S (some w.heap.size) [.add,.sub,.mul,.quot,.rem,.eql,.lss,.nullQ,.pairQ,.intQ,.symQ,.strQ,.boolQ,.procQ,.sealQ,.not,.eqQ,.equalQ,.cons,.car,.cdr,.list,.length,.append,.strAppend,.strLength,.numStr,.symStr] 87 w') (fun w1 hw=>h.box hw) (fun k w1 w2 h1 hl=>by
  match k,h1 with
  |0,h1=>exact PSt.lk h1 hl
  |1,h1=>exact PSt.lk h1 hl
  |2,h1=>exact PSt.lk h1 hl
  |3,h1=>exact PSt.lk h1 hl
  |_+4,h1=>exact PSt.lk h1 hl) ?_ ?_ ?_ ?_ (fun w' h1=>⟨rfl,PSt.off h1⟩)
 ·intro w1 h1
  refine Calls.mono (mk210 211 #[bp w.heap.size] w1) ?_
  rintro e w2 ⟨rfl,hl⟩
  refine⟨_,rfl,?_,fun w3 hl3=>?_⟩
  ·exact(qas hl _).trans (qaj (qaj (PSt.cell h1)))
  ·refine Calls.mono (PSt.two h1 hP .strAppend rfl (by decide) (fun G a b c=>.mach .strAppend _ _ rfl a (b _ rfl)) (qat hl hl3)) ?_
   rintro e w4 ⟨rfl,h4⟩
   exact⟨rfl,PSt.cell h4,h4⟩
 ·intro w1 h1
  refine Calls.mono (mk214 215 #[] w1) ?_
  rintro e w2 ⟨rfl,hl⟩
  refine⟨_,rfl,?_,fun w3 hl3=>?_⟩
  ·exact(qas hl _).trans (qaj (qaj (PSt.cell h1)))
  ·refine Calls.mono (PSt.two h1 hP .strLength rfl (by decide) (fun G a b c=>.bare .strLength _ rfl a) (qat hl hl3)) ?_
   rintro e w4 ⟨rfl,h4⟩
   exact⟨rfl,PSt.cell h4,h4⟩
 ·intro w1 h1
  refine Calls.mono (mk216 217 #[bp w.heap.size] w1) ?_
  rintro e w2 ⟨rfl,hl⟩
  refine⟨_,rfl,?_,fun w3 hl3=>?_⟩
  ·exact(qas hl _).trans (qaj (qaj (PSt.cell h1)))
  ·refine Calls.mono (PSt.two h1 hP .numStr rfl (by decide) (fun G a b c=>.mach .numStr _ _ rfl a (b _ rfl)) (qat hl hl3)) ?_
   rintro e w4 ⟨rfl,h4⟩
   exact⟨rfl,PSt.cell h4,h4⟩
 ·intro w1 h1
  refine Calls.mono (mk219 220 #[bp w.heap.size] w1) ?_
  rintro e w2 ⟨rfl,hl⟩
  refine⟨_,rfl,?_,fun w3 hl3=>?_⟩
  ·exact(qas hl _).trans (qaj (qaj (PSt.cell h1)))
  ·refine Calls.mono (PSt.two h1 hP .symStr rfl (by decide) (fun G a b c=>.mach .symStr _ _ rfl a (b _ rfl)) (qat hl hl3)) ?_
   rintro e w4 ⟨rfl,h4⟩
   exact⟨rfl,PSt.cell h4,h4⟩
theorem defs138 (G0:Gh) (w0:World) (S:Sub) (hP:∀p,G0.P p=w0.heap.size+p.off) (w:World) (h:PSt G0 w0 S none [.add,.sub,.mul,.quot,.rem,.eql,.lss,.nullQ,.pairQ,.intQ,.symQ,.strQ,.boolQ,.procQ,.sealQ,.not,.eqQ,.equalQ,.cons,.car,.cdr,.list,.length,.append,.strAppend,.strLength,.numStr,.symStr] 87 w):Calls prog 138 #[bp G0.mb] w fun e w'=>e=.returned (.tuple #[])∧PSt G0 w0 S none [.add,.sub,.mul,.quot,.rem,.eql,.lss,.nullQ,.pairQ,.intQ,.symQ,.strQ,.boolQ,.procQ,.sealQ,.not,.eqQ,.equalQ,.cons,.car,.cdr,.list,.length,.append,.strAppend,.strLength,.numStr,.symStr,.apply,.callcc,.wind,.error,.seal] 103 w':=by
 refine qpl G0.mb w _ (fun k w'=>match k with
  |0=>PSt G0 w0 S (some w.heap.size) [.add,.sub,.mul,.quot,.rem,.eql,.lss,.nullQ,.pairQ,.intQ,.symQ,.strQ,.boolQ,.procQ,.sealQ,.not,.eqQ,.equalQ,.cons,.car,.cdr,.list,.length,.append,.strAppend,.strLength,.numStr,.symStr] 88 w'
  |1=>PSt G0 w0 S (some w.heap.size) [.add,.sub,.mul,.quot,.rem,.eql,.lss,.nullQ,.pairQ,.intQ,.symQ,.strQ,.boolQ,.procQ,.sealQ,.not,.eqQ,.equalQ,.cons,.car,.cdr,.list,.length,.append,.strAppend,.strLength,.numStr,.symStr,.apply] 91 w'
  |2=>PSt G0 w0 S (some w.heap.size) [.add,.sub,.mul,.quot,.rem,.eql,.lss,.nullQ,.pairQ,.intQ,.symQ,.strQ,.boolQ,.procQ,.sealQ,.not,.eqQ,.equalQ,.cons,.car,.cdr,.list,.length,.append,.strAppend,.strLength,.numStr,.symStr,.apply,.callcc] 94 w'
  |3=>PSt G0 w0 S (some w.heap.size) [.add,.sub,.mul,.quot,.rem,.eql,.lss,.nullQ,.pairQ,.intQ,.symQ,.strQ,.boolQ,.procQ,.sealQ,.not,.eqQ,.equalQ,.cons,.car,.cdr,.list,.length,.append,.strAppend,.strLength,.numStr,.symStr,.apply,.callcc,.wind] 97 w'
  |4=>PSt G0 w0 S (some w.heap.size) [.add,.sub,.mul,.quot,.rem,.eql,.lss,.nullQ,.pairQ,.intQ,.symQ,.strQ,.boolQ,.procQ,.sealQ,.not,.eqQ,.equalQ,.cons,.car,.cdr,.list,.length,.append,.strAppend,.strLength,.numStr,.symStr,.apply,.callcc,.wind,.error] 100 w'
  |_=>PSt G0 w0 S (some w.heap.size) [.add,.sub,.mul,.quot,.rem,.eql,.lss,.nullQ,.pairQ,.intQ,.symQ,.strQ,.boolQ,.procQ,.sealQ,.not,.eqQ,.equalQ,.cons,.car,.cdr,.list,.length,.append,.strAppend,.strLength,.numStr,.symStr,.apply,.callcc,.wind,.error,.seal] 103 w') (fun w1 hw=>h.box hw) (fun k w1 w2 h1 hl=>by
  match k,h1 with
  |0,h1=>exact PSt.lk h1 hl
  |1,h1=>exact PSt.lk h1 hl
  |2,h1=>exact PSt.lk h1 hl
  |3,h1=>exact PSt.lk h1 hl
  |4,h1=>exact PSt.lk h1 hl
  |_+5,h1=>exact PSt.lk h1 hl) ?_ ?_ ?_ ?_ ?_ (fun w' h1=>⟨rfl,PSt.off h1⟩)
 ·intro w1 h1
  refine Calls.mono (mk221 G0.mb w1) ?_
  rintro e w2 ⟨rfl,hl⟩
  refine⟨_,rfl,?_,fun w3 hl3=>?_⟩
  ·exact(qas hl _).trans (qaj (qaj (PSt.cell h1)))
  ·refine Calls.mono (PSt.two h1 hP .apply rfl (by decide) (fun G a b c=>.self .apply _ rfl (by show G.I _=_;rw [c];exact a)) (qat hl hl3)) ?_
   rintro e w4 ⟨rfl,h4⟩
   exact⟨rfl,PSt.cell h4,h4⟩
 ·intro w1 h1
  refine Calls.mono (mk222 G0.mb w1) ?_
  rintro e w2 ⟨rfl,hl⟩
  refine⟨_,rfl,?_,fun w3 hl3=>?_⟩
  ·exact(qas hl _).trans (qaj (qaj (PSt.cell h1)))
  ·refine Calls.mono (PSt.two h1 hP .callcc rfl (by decide) (fun G a b c=>.self .callcc _ rfl (by show G.I _=_;rw [c];exact a)) (qat hl hl3)) ?_
   rintro e w4 ⟨rfl,h4⟩
   exact⟨rfl,PSt.cell h4,h4⟩
 ·intro w1 h1
  refine Calls.mono (mk223 G0.mb w1) ?_
  rintro e w2 ⟨rfl,hl⟩
  refine⟨_,rfl,?_,fun w3 hl3=>?_⟩
  ·exact(qas hl _).trans (qaj (qaj (PSt.cell h1)))
  ·refine Calls.mono (PSt.two h1 hP .wind rfl (by decide) (fun G a b c=>.self .wind _ rfl (by show G.I _=_;rw [c];exact a)) (qat hl hl3)) ?_
   rintro e w4 ⟨rfl,h4⟩
   exact⟨rfl,PSt.cell h4,h4⟩
 ·intro w1 h1
  refine Calls.mono (qd0 224 #[] w1) ?_
  rintro e w2 ⟨rfl,hl⟩
  refine⟨_,rfl,?_,fun w3 hl3=>?_⟩
  ·exact(qas hl _).trans (qaj (qaj (PSt.cell h1)))
  ·refine Calls.mono (PSt.two h1 hP .error rfl (by decide) (fun G a b c=>.bare .error _ rfl a) (qat hl hl3)) ?_
   rintro e w4 ⟨rfl,h4⟩
   exact⟨rfl,PSt.cell h4,h4⟩
 ·intro w1 h1
  refine Calls.mono (qd0 225 #[bp w.heap.size] w1) ?_
  rintro e w2 ⟨rfl,hl⟩
  refine⟨_,rfl,?_,fun w3 hl3=>?_⟩
  ·exact(qas hl _).trans (qaj (qaj (PSt.cell h1)))
  ·refine Calls.mono (PSt.two h1 hP .seal rfl (by decide) (fun G a b c=>.mach .seal _ _ rfl a (b _ rfl)) (qat hl hl3)) ?_
   rintro e w4 ⟨rfl,h4⟩
   exact⟨rfl,PSt.cell h4,h4⟩
theorem qoc (G0:Gh) (w0:World) (S:Sub) (hP:∀p,G0.P p=w0.heap.size+p.off) (h:PSt G0 w0 S none [] 0 w0):Calls prog 83 #[bp G0.mb] w0 fun e w'=>e=.returned (.tuple #[])∧PSt G0 w0 S none Pm.most 103 w':=by
 have H132:=hZ (defs132 G0 w0 S hP)
 have H133:=hZ (defs133 G0 w0 S hP)
 have H134:=hZ (defs134 G0 w0 S hP)
 have H135:=hZ (defs135 G0 w0 S hP)
 have H136:=hZ (defs136 G0 w0 S hP)
 have H137:=hZ (defs137 G0 w0 S hP)
 have H138:=hZ (defs138 G0 w0 S hP)
 have X:=hZ h
 clear hP h
 go_enter func83,ntmps83
 go_wp2_with (first
  |(go_at_call 132;refine(H132.out _ X.out).mono ?_;rintro e w132 ⟨rfl,h132⟩;have X132:=hZ h132;clear h132)
  |(go_at_call 133;refine(H133.out _ X132.out).mono ?_;rintro e w133 ⟨rfl,h133⟩;have X133:=hZ h133;clear h133)
  |(go_at_call 134;refine(H134.out _ X133.out).mono ?_;rintro e w134 ⟨rfl,h134⟩;have X134:=hZ h134;clear h134)
  |(go_at_call 135;refine(H135.out _ X134.out).mono ?_;rintro e w135 ⟨rfl,h135⟩;have X135:=hZ h135;clear h135)
  |(go_at_call 136;refine(H136.out _ X135.out).mono ?_;rintro e w136 ⟨rfl,h136⟩;have X136:=hZ h136;clear h136)
  |(go_at_call 137;refine(H137.out _ X136.out).mono ?_;rintro e w137 ⟨rfl,h137⟩;have X137:=hZ h137;clear h137)
  |(go_at_call 138;refine(H138.out _ X137.out).mono ?_;rintro e w138 ⟨rfl,h138⟩;have X138:=hZ h138;clear h138))
 go_end0
 exact⟨rfl,X138.out⟩
end
end Go.Proofs.YtldaocpojcfljaaGreatDoor
