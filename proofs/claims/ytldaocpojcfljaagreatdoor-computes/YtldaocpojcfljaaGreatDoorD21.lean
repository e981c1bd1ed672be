import Derived.Test.YtldaocpojcfljaaGreatDoorD20
import Derived.Defers
import Derived.Recover
set_option maxRecDepth 100000
set_option maxHeartbeats 4000000
namespace Go.Proofs.YtldaocpojcfljaaGreatDoor
open Tryz hiding parts
open Go.RowKit Go.Shelf
section
open Sc
theorem qos{a b:Array Obj}{k:Nat}(h:k<a.size)(e:b[k]? =a[k]?):k<b.size:=by
 rw[Array.getElem?_eq_getElem h]at e;exact(Array.getElem?_eq_some_iff.1 e).1
theorem qal{w:World}{b o t:Nat}{c:Array Value}{fr:Nat×Nat}{v:Value}(h:w.heap[b]? =some (.cells c t fr)):(w.setCell ⟨b,o,none⟩ v).heap[b]? =some (.cells (c.setIfInBounds o v) t fr):=by
 simp[World.setCell,Array.getElem?_modify,h]
theorem XInv.to{K:Rl}{X:Xe}{G H:Gh}{S:Sub}{x:Xs}{sc:Scope}{w w':World}(i:XInv K X G S x sc w)(hl:G.le H)(hk:∀b,b∈[X.rb,X.mm,X.ab,X.bm]\/X.Rw b->w'.heap[b]? =w.heap[b]?/\H.I b=none/\b∉H.mut/\¬H.F b)(hs:X.lo<=w'.heap.size):XInv K X H S x sc w':=by
 have kb:∀b,b∈[X.rb,X.mm,X.ab,X.bm]->w'.heap[b]? =w.heap[b]?:=fun b hb=>(hk b (.inl hb)).1
 obtain⟨L,hL,hLb⟩:=i.bd;obtain⟨es,clock,M,hm1,hm2,hm3⟩:=i.mc;refine⟨by rw[hl.mb];exact hl.I i.xe,i.mt.keep (kb _ (by simp)),i.ml,by rw[kb _ (by simp)];exact i.ab,⟨L,⟨?_,hL.2.1,fun p hp=>?_,hL.2.2.2⟩,hLb⟩,fun b hb=>?_,⟨es,clock,M,by rw[kb _ (by simp)];exact hm1,hm2,hm3.mono hl⟩,fun b hb=>?_,i.nd,hs,i.sz⟩
 ·rw[kb _ (by simp)];exact hL.1
 ·have ho:=hL.2.2.1 p hp;refine⟨ho.1,?_⟩;rcases ho.2 with h|⟨g,cap,cur,hv,hb,hg,hr⟩
  ·exact .inl h
  ·have hmem:g∈L.filterMap (·.2.ownBlock):=List.mem_filterMap.2 ⟨p,hp,by rw[hv];rfl⟩;exact .inr ⟨g,cap,cur,hv,hb,by rw[(hk g (.inr (hLb g hmem))).1];exact hg,hr⟩
 ·obtain⟨h1,h2,h3,h4,h5⟩:=i.rr b hb;obtain⟨k1,k2,k3,k4⟩:=hk b (.inr hb);exact⟨k2,k3,h3,qos h4 k1,k4⟩
 ·obtain⟨h1,h2,h3,h4⟩:=i.lo b hb;obtain⟨_,k2,k3,k4⟩:=hk b (.inl hb);exact⟨k2,k3,h3,k4⟩
theorem XInv.lts{K:Rl}{X:Xe}{G:Gh}{S:Sub}{x:Xs}{sc:Scope}{w:World}(i:XInv K X G S x sc w){b:Nat}(h:b∈[X.rb,X.mm,X.ab,X.bm]\/X.Rw b):b<w.heap.size/\G.I b=none/\b∉G.mut/\¬G.F b:=by
 rcases h with h|h
 ·obtain⟨h1,h2,h3,h4⟩:=i.lo b h;exact⟨Nat.lt_of_lt_of_le h3 i.sl,h1,h2,h4⟩
 ·obtain⟨h1,h2,_,h4,h5⟩:=i.rr b h;exact⟨h4,h1,h2,h5⟩
def runC(mb rb:Nat)(ve re pl:Int)(va:ByteArray):Array Value:=#[bp mb,bp rb,.int .i64 ve,.int .i64 re,.int .i64 pl,.string va,.string ⟨#[]⟩,.int .i64 0,.int .i64 0,.int .i64 0,.slice none 0 0]
structure DSt (K:Rl) (G:Gh) (S:Sub) (w0:World) (rk:Nat) (X:Xe) (H:Gh) (m:Mc) (x:Xs) (pl:Int) (va:ByteArray) (w:World):Prop where
 g:Inv H S m w
 i:XInv K X H S x [] w
 le:G.le H
 F:H.F=G.F
 lo:X.lo<=X.xb+1
 bk:w.heap[rk]? =some (.cells (runC G.mb X.rb 0 0 pl va) 112 (0,0))
 kp:∀{b:Nat},G.F b->b≠rk->w.heap[b]? =w0.heap[b]?
 fo:w.os=w0.os/\w.tape=w0.tape/\w.output=w0.output
theorem DSt.move{K:Rl}{G:Gh}{S:Sub}{w0:World}{rk:Nat}{X:Xe}{H:Gh}{m:Mc}{x:Xs}{pl pl':Int}{va va':ByteArray}{w w1:World}(d:DSt K G S w0 rk X H m x pl va w)(hrk:G.F rk)(hk:∀b,b<w.heap.size->b≠rk->w1.heap[b]? =w.heap[b]?)(hr:w1.heap[rk]? =some (.cells (runC G.mb X.rb 0 0 pl' va') 112 (0,0)))(hs:w.heap.size<=w1.heap.size)(ho:w1.os=w.os/\w1.tape=w.tape/\w1.output=w.output):
  DSt K G S w0 rk X (H.at w1 G.F) m x pl' va' w1:=by
 have hF:∀b,G.F b->b<w.heap.size/\b∉H.mut/\H.I b=none:=fun b hb=>by
  have hb':H.F b:=by rw[d.F];exact hb
  exact⟨(d.g.ff hb').2,fun h=>d.g.fm h hb',d.g.fi hb'⟩
 have g0:Inv (H.at w (fun b=>G.F b/\b≠rk)) S m w:=d.g.at ⟨rfl,rfl,rfl⟩ fun b hb=>⟨(hF b hb.1).1,rfl,(hF b hb.1).2.1,(hF b hb.1).2.2⟩
 have g1:Inv (H.at w (fun b=>G.F b/\b≠rk)) S m w1:=g0.turns (fun j hj hn=>hk j hj fun e=>hn (by subst e;exact⟨(hF j hrk).2.2,(hF j hrk).2.1,fun h=>h.2 rfl⟩)) hs ho;have g2:Inv ((H.at w (fun b=>G.F b/\b≠rk)).at w1 G.F) S m w1:=g1.at ⟨rfl,rfl,rfl⟩ fun b hb=>⟨Nat.lt_of_lt_of_le (hF b hb).1 hs,rfl,(hF b hb).2.1,(hF b hb).2.2⟩
 refine⟨g2,d.i.to (H.le_at _ _) (fun b hb=>?_) (Nat.le_trans d.i.sl hs),d.le.trans (H.le_at _ _),rfl,d.lo,hr,fun {b} hb hn=>by rw[hk b (hF b hb).1 hn];exact d.kp hb hn,by rw[ho.1,ho.2.1,ho.2.2];exact d.fo⟩;obtain⟨h1,h2,h3,h4⟩:=d.i.lts hb;rw[d.F]at h4;exact⟨hk b h1 fun e=>h4 (e▸hrk),h2,h3,h4⟩
structure DEnd (G:Gh) (S:Sub) (w0:World) (rk rb:Nat) (m:Mc) (x:Xs) (pl:Int) (va:ByteArray) (w:World):Prop where
 bk:w.heap[rk]? =some (.cells (runC G.mb rb 0 0 pl va) 112 (0,0))
 st:Mt G.sb m.steps S.fuel 10 w
 ce:Mt G.cb m.cells S.quota 11 w
 rw:Mt rb x.count S.rewrites 12 w
 kp:∀{b:Nat},G.F b->b≠rk->w.heap[b]? =w0.heap[b]?
 fo:w.os=w0.os/\w.tape=w0.tape/\w.output=w0.output
 mb:∃gv wp,w.heap[G.mb]? =some (.cells #[bp G.sb,bp G.cb,.map (some G.mp),gv,wp] 119 (0,0))
theorem DSt.fin{K:Rl}{G:Gh}{S:Sub}{w0:World}{rk:Nat}{X:Xe}{H:Gh}{m:Mc}{x:Xs}{pl:Int}{va:ByteArray}{w:World}(d:DSt K G S w0 rk X H m x pl va w):DEnd G S w0 rk X.rb m x pl va w:=
 ⟨d.bk,by rw[<-d.le.sb];exact d.g.st,by rw[<-d.le.cb];exact d.g.ce,d.i.mt,d.kp,d.fo,by obtain⟨gv,wp,h,_⟩:=d.g.ma;rw[d.le.mb,d.le.sb,d.le.cb,d.le.mp]at h;exact⟨gv,_,h⟩⟩
theorem DSt.cnt{K:Rl}{G:Gh}{S:Sub}{w0:World}{rk:Nat}{X:Xe}{H:Gh}{m m':Mc}{x x':Xs}{pl:Int}{va:ByteArray}{w w':World}(d:DSt K G S w0 rk X (H.at w G.F) m x pl va w)(hrk:G.F rk)(hc:Cnt (H.at w G.F) S m' w')(hm:Mt X.rb x'.count S.rewrites 12 w'):DEnd G S w0 rk X.rb m' x' pl va w':=
 ⟨(hc.ff hrk).trans d.bk,by rw[<-d.le.sb];exact hc.st,by rw[<-d.le.cb];exact hc.ce,hm,fun hb hn=>(hc.ff hb).trans (d.kp hb hn),by obtain⟨h1,h2,h3⟩:=hc.fo;exact⟨h1.trans d.fo.1,h2.trans d.fo.2.1,h3.trans d.fo.2.2⟩,by obtain⟨gv,wp,h⟩:=hc.mb;rw[d.le.mb,d.le.sb,d.le.cb,d.le.mp]at h;exact⟨gv,wp,h⟩⟩
def lastV(v:Option Vl):ByteArray:=match v with|some v=>⟨((Sc.wr v).take 1200).toArray⟩|none=>⟨#[]⟩
def DPost(G:Gh)(S:Sub)(w0:World)(rk rb:Nat)(_fs:List (Dt×Nat))(r:(Option Nat×Nat)×Option Vl×Xs×Mc)(e:Ending)(w:World):Prop:=match r with
 |((some vd,p),_,x,m)=>∃raised va,e=.panicked (stopP (.iface 166 (.agg #[.int .i64 (vd:Int),.string raised])))/\(vd≠14->raised=⟨#[]⟩)/\(vd=14->raised=⟨m.raised.toArray⟩\/raised=⟨#[]⟩)/\DEnd G S w0 rk rb m x p va w
 |((none,_),v,x,m)=>∃pl,e=.returned (.tuple #[])/\DEnd G S w0 rk rb m x pl (lastV v) w
theorem new_of{K:Rl}{S:Sub}{G:Gh}{m:Mc}{w w2:World}{rb:Nat}(g:Inv G S m w)(hrb:Mt rb 0 S.rewrites 12 w)(hrw:0<=S.rewrites/\S.rewrites<=100000)(hrb':G.I rb=none/\rb∉G.mut/\¬G.F rb)
  (hw:Lk ((((w.alloc (.map #[] 0)).alloc (.map #[] 0)).alloc (.cells #[.int .i64 0,.map (some (w.heap.size+1))] 329)).alloc (.cells #[bp G.mb,bp rb,.map (some w.heap.size),bp (w.heap.size+2)] 331)) w2):
  ∃X H,X.xb=w.heap.size+3/\X.rb=rb/\Inv H S m w2/\XInv K X H S {} [] w2/\G.le H/\H.F=G.F/\X.lo<=X.xb+1:=by
 have hlr:=hrb.lt;have b1:=qab w (.map #[] 0);have b3:Below w.heap.size w (((w.alloc (.map #[] 0)).alloc (.map #[] 0)).alloc (.cells #[.int .i64 0,.map (some (w.heap.size+1))] 329)):=(b1.alloc (by simp) _).alloc (by simp;omega) _;have b4:Below w.heap.size w ((((w.alloc (.map #[] 0)).alloc (.map #[] 0)).alloc (.cells #[.int .i64 0,.map (some (w.heap.size+1))] 329)).alloc (.cells #[bp G.mb,bp rb,.map (some w.heap.size),bp (w.heap.size+2)] 331)):=b3.alloc (by simp;omega) _;have g4:=Inv.lk hw ((g.below b3).alloc (.cells #[bp G.mb,bp rb,.map (some w.heap.size),bp (w.heap.size+2)] 331));have hsz:(((w.alloc (.map #[] 0)).alloc (.map #[] 0)).alloc (.cells #[.int .i64 0,.map (some (w.heap.size+1))] 329)).heap.size=w.heap.size+3:=by simp
 rw[hsz]at g4;have y1:=heap_alloc_new (w.alloc (.map #[] 0)) (.map #[] 0);have y2:=heap_alloc_new ((w.alloc (.map #[] 0)).alloc (.map #[] 0)) (.cells #[.int .i64 0,.map (some (w.heap.size+1))] 329);have e1:(w.alloc (.map #[] 0)).heap.size=w.heap.size+1:=by simp
 have e2:((w.alloc (.map #[] 0)).alloc (.map #[] 0)).heap.size=w.heap.size+2:=by simp
 rw[e1]at y1;rw[e2]at y2;have z0:w2.heap[w.heap.size]? =some (.map #[] 0):=by rw[hw.heap,Below.heap_alloc _ _ _ (by simp;omega),Below.heap_alloc _ _ _ (by simp;omega),Below.heap_alloc _ _ _ (by simp)];exact heap_alloc_new _ _
 have z1:w2.heap[w.heap.size+1]? =some (.map #[] 0):=by rw[hw.heap,Below.heap_alloc _ _ _ (by simp),Below.heap_alloc _ _ _ (by simp)];exact y1
 have z2:w2.heap[w.heap.size+2]? =some (.cells #[.int .i64 0,.map (some (w.heap.size+1))] 329 (0,0)):=by rw[hw.heap,Below.heap_alloc _ _ _ (by simp)];exact y2
 have hs2:w2.heap.size=w.heap.size+4:=by rw[hw.heap];simp
 have hle:G.le (G.add (w.heap.size+3) (.cells #[bp G.mb,bp rb,.map (some w.heap.size),bp (w.heap.size+2)] 331)):=Gh.le_add (g.fresh (by omega));have new:∀b,w.heap.size<=b->b<w.heap.size+3->(G.add (w.heap.size+3) (.cells #[bp G.mb,bp rb,.map (some w.heap.size),bp (w.heap.size+2)] 331)).I b=none/\b∉G.mut/\b<w.heap.size+4/\¬G.F b:=fun b h1 h2=>
  ⟨by rw[qae _ (by omega)];exact g.fresh h1,fun h=>by have:=g.ml h;omega,by omega,fun h=>by have:=(g.ff h).2;omega⟩
 refine⟨⟨w.heap.size+3,rb,w.heap.size,w.heap.size+2,w.heap.size+1,w.heap.size+4,fun _=>False⟩,_,rfl,rfl,g4,?_,hle,rfl,Nat.le_refl _⟩;refine⟨Gh.add_at _ _ _,?_,⟨hrw.1,hrw.2⟩,z2,⟨[],⟨⟨#[],0,z1,rfl,by simp,by simp⟩,by simp,fun p hp=>by simp at hp,fun i _=>rfl,by simp⟩,fun b hb=>by simp at hb⟩,fun b hb=>hb.elim,⟨#[],0,[],z0,rfl,.nil⟩,fun b hb=>?_,?_,by show w.heap.size+4<=_;omega,by simp⟩
 ·exact hrb.keep (by rw[hw.heap];exact b4.block _ hlr)
 ·simp only[List.mem_cons,List.not_mem_nil,or_false]at hb;rcases hb with rfl|rfl|rfl|rfl
  ·exact⟨by rw[qae _ (by omega)];exact hrb'.1,hrb'.2.1,by show _<w.heap.size+4;omega,hrb'.2.2⟩
  ·exact new _ (by omega) (by omega)
  ·exact new _ (by omega) (by omega)
  ·exact new _ (by omega) (by omega)
 ·have h1:rb≠w.heap.size:=by omega
  have h2:rb≠w.heap.size+2:=by omega
  have h3:rb≠w.heap.size+1:=by omega
  simp[h1,h2,h3]
theorem deal_of{K:Rl}{S:Sub}(hR:SimRewr K S)(hS:SimSyn K S\/∀(X:Xe) (G:Gh) (w:World) (x:Xs) (F:Nat) (d d':Dt) (x':Xs),XInv K X G S x [] w->rewr S F x [] d=(.ok d',x')->¬isSyn d->¬isSyn d')(G:Gh)(m0:Mc)(w:World)(rk rb:Nat)(ga:Option Addr)(cap:Nat)(fs:List (Dt×Nat))(dk:Nat->Dl)(g:Inv G S m0 w)(hrk:G.F rk)(hrk6:6<=rk)(tw:TabW G)
  (hrb:Mt rb 0 S.rewrites 12 w)(hrw:0<=S.rewrites/\S.rewrites<=100000)(hrb':G.I rb=none/\rb∉G.mut/\¬G.F rb)(hbk:w.heap[rk]? =some (.cells (runC G.mb rb 0 0 0 ⟨#[]⟩) 112 (0,0)))
  (hrow:∀k,k<fs.length->∃gg o arr,ga=some ⟨gg,o,none⟩/\G.I gg=some (.cells arr 136 (0,0))/\(∀j,j<6->arr[o+k*7+j]? =(dk k).cells[j]?)/\arr[o+k*7+6]? =some (.int .i64 ((fs[k]?.map (·.2)).getD 0:Nat)))
  (hd:∀k f,fs[k]? =some f->DRep G f.1 (dk k))(hmb:∀f,f∈fs->members f.1<=1000000000000)(hns:SimSyn K S\/∀f,f∈fs->¬isSyn f.1)(hn:fs.length<=1000000)(hne:(deal S fs none {} m0).1.1≠some 0):
  Calls prog 85 #[bp rk,.slice ga fs.length cap] w (DPost G S w rk rb fs (deal S fs none {} m0)):=by
 have rlt:=(Array.getElem?_eq_some_iff.1 hbk).1;have cR:∀{W:World} {pl:Int} {va:ByteArray} (o:Nat),W.heap[rk]? =some (.cells (runC G.mb rb 0 0 pl va) 112 (0,0))->W.cell? ⟨rk,o,none⟩=(runC G.mb rb 0 0 pl va)[o]?:=fun o h=>by simp only[World.cell?,h];rfl
 refine qs4 rk G.mb rb ga fs.length cap dk (fun k=>((fs[k]?.map (·.2)).getD 0:Nat)) w _ (fun xb k wr=>∃X H m x v pl va,X.xb=xb/\X.rb=rb/\DSt K G S w rk X H m x pl va wr/\deal S fs none {} m0=deal S (fs.drop k) v x m/\(k=fs.length->va=lastV v)) hn (cR 0 hbk) (cR 1 hbk) ?_ ?_ ?_ ?_ ?_
 ·intro w' hw';refine Calls.mono (qpc G.mb rb w') ?_;rintro e w2 ⟨rfl,hw2⟩;refine⟨_,rfl,fun w3 hw3=>?_⟩;have b0:Below w.heap.size w w':=bl0 hw';obtain⟨X,H,h1,h2,h3,h4,h5,h6,h7⟩:=new_of (K:=K) (Inv.lk hw' g) (hrb.keep (by rw[hw'.heap])) hrw hrb' (qat hw2 hw3);have hblk:∀b,b<w.heap.size->w3.heap[b]? =w.heap[b]?:=fun b hb=>by
   rw[hw3.heap,hw2.heap];have hb':b<w'.heap.size:=by rw[hw'.heap];exact hb
   rw[Below.heap_alloc _ _ _ (by simp;omega),Below.heap_alloc _ _ _ (by simp;omega),Below.heap_alloc _ _ _ (by simp;omega),Below.heap_alloc _ _ _ hb',hw'.heap]
  have ho:w3.os=w.os/\w3.tape=w.tape/\w3.output=w.output:=by
   rw[hw3.os,hw3.tape,hw3.output,hw2.os,hw2.tape,hw2.output];exact⟨hw'.os,hw'.tape,hw'.output⟩
  refine⟨X,H,m0,{},none,0,⟨#[]⟩,h1,h2,⟨h3,h4,h5,h6,h7,by rw[hblk _ rlt,h2];exact hbk,fun {b} hb _=>hblk b (g.ff hb).2,ho⟩,by simp,fun _=>rfl⟩
 ·rintro xb k wr ⟨X,H,m,x,v,pl,va,h1,h2,d,h3,h4⟩ hk;obtain⟨gg,o,arr,q1,q2,q3,q4⟩:=hrow k hk;exact⟨gg,o,q1,fun j hj=>by rw[d.g.cell (d.le.I q2)];exact q3 j hj,by rw[d.g.cell (d.le.I q2)];exact q4⟩
 ·rintro xb k wr ⟨X,H,m,x,v,pl,va,h1,h2,d,h3,h4⟩ hk;have hb:=d.bk;rw[h2]at hb;exact⟨cR 0 hb,⟨pl,cR 4 hb⟩,fun o=>by simp[World.frozen?,hb]⟩
 ·rintro xb k wr ⟨X,H,m,x,v,pl,va,rfl,rfl,d,h3,h4⟩ hk w1 hw1;have hfk:fs[k]? =some fs[k]:=List.getElem?_eq_getElem hk;have hpk:((fs[k]?.map (·.2)).getD 0:Nat)=fs[k].2:=by rw[hfk];rfl
  simp only[hpk]at hw1;have hdrop:=List.drop_eq_getElem_cons hk;generalize hf:fs[k]=f at hdrop hw1 hfk;obtain⟨fd,fp⟩:=f;rw[hdrop]at h3;have hblk1:∀b,b<wr.heap.size->b≠rk->w1.heap[b]? =wr.heap[b]?:=fun b hb hn=>by
   rw[hw1.heap,Below.heap_alloc _ _ _ (by rw[qaf];exact hb),qaa _ hn]
  have hrl:rk<wr.heap.size:=(Array.getElem?_eq_some_iff.1 d.bk).1;have d1:DSt K G S w rk X (H.at w1 G.F) m x fp va w1:=d.move hrk hblk1 (by
   rw[hw1.heap,Below.heap_alloc _ _ _ (by rw[qaf];exact hrl),qal d.bk];rfl) (by rw[hw1.heap];simp) ⟨hw1.os,hw1.tape,hw1.output⟩
  have htne:(top S plentyN x fd).1≠.error 0:=fun h=>by
   cases ht:top S plentyN x fd with
   |mk tr tx=>
    rw[ht]at h;have h:tr=.error 0:=h;subst h;rw[h3]at hne;simp[deal,ht]at hne
  have hmem:(fd,fp)∈fs:=List.mem_of_getElem? hfk;have hGw:GT w:=TabW.now tw g;have hG1:GT w1:=hGw.keep (d1.kp (tw.1 0 (by omega)) (by omega));refine Calls.mono (top_of (f:=plentyN) hR hS X (H.at w1 G.F) m x w1 fd (dk k) d1.g d1.i ((hd k _ hfk).mono d1.le) (hmb _ hmem) (Nat.le_refl _) htne (hns.imp id fun h=>h _ hmem)) ?_;rintro e2 w2 (⟨vd,x',htop,rfl,hc,hmt⟩|⟨Y,L,ex,x',vv,htop,rfl,mx,gL,iL,hcode⟩)
  ·refine .inl ⟨_,rfl,?_⟩;rw[h3];simp only[deal,htop];exact⟨⟨#[]⟩,va,rfl,fun _=>rfl,fun _=>.inr rfl,d1.cnt hrk hc hmt⟩
  ·have hLF:L.F=G.F:=mx.up.F;have hLW:L.W=w1:=mx.up.W;have k2:∀b,G.F b->w2.heap[b]? =w1.heap[b]?:=fun b hb=>by
    have:=(gL.ff (b:=b) (by rw[hLF];exact hb)).1;rw[hLW]at this;exact this
   have o2:w2.os=w1.os/\w2.tape=w1.tape/\w2.output=w1.output:=by have:=gL.fo;rw[hLW]at this;exact this
   obtain⟨s1,s2,s3,s4,s5,s6⟩:=mx.same;have hrk2:=(k2 rk hrk).trans d1.bk;have hfun:∃kx cx,vv=.func (.func kx) #[] cx:=by
    rcases hcode with⟨_,h⟩|h
    ·exact⟨_,_,h⟩
    ·obtain⟨kk,cc,h,_⟩:=h.isF;exact⟨kk,cc,h⟩
   have hz1:wr.heap.size<w1.heap.size:=by rw[hw1.heap];simp
   have hzb:w1.heap[wr.heap.size]? =some (.cells ((dk k).cells++#[.int .i64 ((fs[k]?.map (·.2)).getD 0:Nat)]) 136 (0,0)):=by
    rw[hpk,hf,hw1.heap];have:=heap_alloc_new (wr.setCell ⟨rk,4,none⟩ (.int .i64 (fp:Int))) (.cells ((dk k).cells++#[.int .i64 (fp:Int)]) 136);rw[qaf]at this;exact this
   have hzm:wr.heap.size∉(H.at w1 G.F).mut:=fun h=>by have:=d.g.ml (b:=wr.heap.size) h;omega
   have hzx:∀b,b∈[X.rb,X.mm,X.ab,X.bm]\/X.Rw b->b≠wr.heap.size:=fun b hb e=>by have:=(d.i.lts hb).1;omega
   have hz2:w2.heap[wr.heap.size]? =w1.heap[wr.heap.size]?:=mx.blk hz1 hzm (fun h=>hzx _ (.inl h) rfl) (fun h=>hzx _ (.inr h) rfl);have hzI:L.I wr.heap.size=none:=by rw[mx.I hz1];exact d.g.fresh (Nat.le_refl _)
   have hzM:wr.heap.size∉L.mut:=fun h=>(mx.mu h).elim hzm (fun h=>by omega)
   refine .inr ⟨vv,rfl,hfun,cR 0 hrk2,hz2.trans hzb,fun w3 hw3=>?_⟩;have gL3:=Inv.lk hw3 gL;have iL3:=iL.below (bl0 hw3);have g3:Inv (L.at w3 (fun b=>G.F b\/(b∈[Y.rb,Y.mm,Y.ab,Y.bm]\/Y.Rw b)\/b=wr.heap.size)) S m w3:=gL3.at ⟨rfl,rfl,rfl⟩ fun b hb=>by
    rcases hb with hb|hb|rfl
    ·have hb':L.F b:=by rw[hLF];exact hb
     exact⟨(gL3.ff hb').2,rfl,fun h=>gL3.fm h hb',gL3.fi hb'⟩
    ·obtain⟨q1,q2,q3,_⟩:=iL3.lts hb;exact⟨q1,rfl,q3,q2⟩
    ·exact⟨by rw[hw3.heap];exact qos hz1 hz2,rfl,hzM,hzI⟩
   have k3:∀b,G.F b->w3.heap[b]? =w1.heap[b]?:=fun b hb=>by rw[hw3.heap];exact k2 b hb
   have hG3:GT w3:=hG1.keep (k3 0 (tw.1 0 (by omega)));have tw3:TabW (L.at w3 (fun b=>G.F b\/(b∈[Y.rb,Y.mm,Y.ab,Y.bm]\/Y.Rw b)\/b=wr.heap.size)):=⟨fun b hb=>.inl (tw.1 b hb),hG3⟩;have hmbL:L.mb=G.mb:=(mx.up.le.mb).trans d.le.mb;have hmbs:L.sb=G.sb:=(mx.up.le.sb).trans d.le.sb;have hmbc:L.cb=G.cb:=(mx.up.le.cb).trans d.le.cb;generalize hgo:go S plentyN (.ev ex none []) m=r at*;obtain⟨c',m'⟩:=r;have hend:Ct.ended c'=true:=by
    rw[h3]at hne;simp only[deal,htop,hgo]at hne;cases c' with
    |done v=>rfl
    |stop e=>rfl
    |_=>exact absurd rfl hne
   have hrun:Calls prog 143 #[bp G.mb,vv] w3 (RunOut (L.at w3 (fun b=>G.F b\/(b∈[Y.rb,Y.mm,Y.ab,Y.bm]\/Y.Rw b)\/b=wr.heap.size)) S c' m'):=by
    rcases hcode with⟨rfl,rfl⟩|hcode
    ·have:=qq5 (simP S) _ tw3 m w3 plentyN g3 (by rw[hgo];exact hend);rw[hgo]at this;have e:(L.at w3 (fun b=>G.F b\/(b∈[Y.rb,Y.mm,Y.ab,Y.bm]\/Y.Rw b)\/b=wr.heap.size)).mb=G.mb:=hmbL;rw[e]at this;exact this
    ·obtain⟨kx,cx,rfl⟩:=hfun;have:=qsn (simP S) _ tw3 m w3 ex kx cx plentyN g3 (hcode.mono (L.le_at _ _)) (by rw[hgo];exact hend);rw[hgo]at this;have e:(L.at w3 (fun b=>G.F b\/(b∈[Y.rb,Y.mm,Y.ab,Y.bm]\/Y.Rw b)\/b=wr.heap.size)).mb=G.mb:=hmbL;rw[e]at this;exact this
   refine Calls.mono hrun ?_;intro e4 w4 hout;cases hout with
   |stop vd _ _ hc=>
    refine .inl ⟨_,rfl,?_⟩;rw[h3];simp only[deal,htop,hgo];have k4:∀b,G.F b\/(b∈[Y.rb,Y.mm,Y.ab,Y.bm]\/Y.Rw b)\/b=wr.heap.size->w4.heap[b]? =w3.heap[b]?:=fun b hb=>hc.ff hb
    refine⟨_,va,rfl,fun h=>if_neg h,fun h=>.inl (if_pos h),⟨?_,?_,?_,?_,?_,?_,?_⟩⟩
    ·rw[k4 rk (.inl hrk),k3 rk hrk];exact d1.bk
    ·rw[<-hmbs];exact hc.st
    ·rw[<-hmbc];exact hc.ce
    ·rw[<-s2];exact iL3.mt.keep (k4 _ (.inr (.inl (.inl (by simp)))))
    ·intro b hb hn;rw[k4 b (.inl hb),k3 b hb];exact d1.kp hb hn
    ·obtain⟨f1,f2,f3⟩:=hc.fo;obtain⟨p1,p2,p3⟩:=d1.fo;exact⟨f1.trans (hw3.os.trans (o2.1.trans p1)),f2.trans (hw3.tape.trans (o2.2.1.trans p2)),f3.trans (hw3.output.trans (o2.2.2.trans p3))⟩
    ·obtain⟨gv,wp,h⟩:=hc.mb;have h:w4.heap[L.mb]? =some (.cells #[bp L.sb,bp L.cb,.map (some L.mp),gv,wp] 119 (0,0)):=h;rw[hmbL,hmbs,hmbc,(mx.up.le.mp).trans d.le.mp]at h;exact⟨gv,wp,h⟩
   |done v' _ _ M y hu hi hx=>
    have hMF:M.F=fun b=>G.F b\/(b∈[Y.rb,Y.mm,Y.ab,Y.bm]\/Y.Rw b)\/b=wr.heap.size:=hu.F
    have hMW:M.W=w3:=hu.W;have k4:∀b,G.F b\/(b∈[Y.rb,Y.mm,Y.ab,Y.bm]\/Y.Rw b)\/b=wr.heap.size->w4.heap[b]? =w3.heap[b]?/\b<w4.heap.size/\b∉M.mut/\M.I b=none:=fun b hb=>by
     have hb':M.F b:=by rw[hMF];exact hb
     have:=hi.ff hb';rw[hMW]at this;exact⟨this.1,this.2,fun h=>hi.fm h hb',hi.fi hb'⟩
    have hle:L.le M:=(L.le_at _ _).trans hu.le;have hrk4:w4.heap[rk]? =some (.cells (runC G.mb X.rb 0 0 fp va) 112 (0,0)):=by rw[(k4 rk (.inl hrk)).1,k3 rk hrk];exact d1.bk
    have o4:w4.os=w.os/\w4.tape=w.tape/\w4.output=w.output:=by
     have f:=hi.fo;rw[hMW]at f;obtain⟨f1,f2,f3⟩:=f;obtain⟨p1,p2,p3⟩:=d1.fo;exact⟨f1.trans (hw3.os.trans (o2.1.trans p1)),f2.trans (hw3.tape.trans (o2.2.1.trans p2)),f3.trans (hw3.output.trans (o2.2.2.trans p3))⟩
    have dN:∀w5,Lk w4 w5->DSt K G S w rk Y (M.at w5 G.F) m' x' fp va w5:=fun w5 hw5=>by
     have hi5:=Inv.lk hw5 hi;have xl:Y.xb<w5.heap.size:=(Array.getElem?_eq_some_iff.1 (hi5.imm (hle.I iL3.xe))).1;have hlo:Y.lo<=Y.xb+1:=by rw[s6,s1];exact d.lo
     refine⟨hi5.at ⟨rfl,rfl,rfl⟩ fun b hb=>?_,iL3.to (hle.trans (M.le_at _ _)) (fun b hb=>?_) (by omega),((d1.le.trans mx.up.le).trans hle).trans (M.le_at _ _),rfl,hlo,by rw[hw5.heap,s2];exact hrk4,fun {b} hb hn=>?_,by rw[hw5.os,hw5.tape,hw5.output];exact o4⟩
     ·obtain⟨q1,q2,q3,q4⟩:=k4 b (.inl hb);exact⟨by rw[hw5.heap];exact q2,rfl,q3,q4⟩
     ·obtain⟨q1,q2,q3,q4⟩:=k4 b (.inr (.inl hb));obtain⟨_,_,_,r4⟩:=iL3.lts hb;rw[hLF]at r4;exact⟨by rw[hw5.heap];exact q1,q4,q3,r4⟩
     ·rw[hw5.heap,(k4 b (.inl hb)).1,k3 b hb];exact d1.kp hb hn
    have hdeal:deal S fs none {} m0=deal S (fs.drop (k+1)) (some v') x' m':=by rw[h3];simp only[deal,htop,hgo]
    refine .inr ⟨y,rfl,hx.form,cR 0 hrk4,((k4 _ (.inr (.inr rfl))).1.trans (by rw[hw3.heap];exact hz2)).trans hzb,fun hk1 w5 hw5=>⟨Y,_,m',x',some v',fp,va,s1,s2,dN w5 hw5,hdeal,fun h=>by omega⟩,fun hk1 w5 hw5=>?_⟩;have hG5:GT w5:=hG3.keep (by rw[hw5.heap];exact(k4 0 (.inl (tw.1 0 (by omega)))).1);have h65:6<=w5.heap.size:=by
     have:=(k4 5 (.inl (tw.1 5 (by omega)))).2.1;rw[hw5.heap];omega
    have hi5:=Inv.lk hw5 hi;refine Calls.mono (qg6 M v' y w5 hx hG5 h65 fun b c t h=>⟨hi5.imm h,(Array.getElem?_eq_some_iff.1 (hi5.imm h)).1⟩) ?_;rintro e6 w6 ⟨rfl,hb6⟩;have d5:=dN w5 hw5;have hrl5:rk<w5.heap.size:=(Array.getElem?_eq_some_iff.1 d5.bk).1;have hrk6:w6.heap[rk]? =some (.cells (runC G.mb X.rb 0 0 fp va) 112 (0,0)):=by
     have:=d5.bk;rw[s2]at this;rw[hb6.block _ hrl5];exact this
    refine⟨_,rfl,⟨va,cR 5 hrk6⟩,fun o=>by simp[World.frozen?,hrk6],fun w7 hw7=>⟨Y,_,m',x',some v',fp,⟨((Sc.wr v').take 1200).toArray⟩,s1,s2,d5.move hrk (fun b hb hn=>?_) ?_ ?_ ?_,hdeal,fun _=>rfl⟩⟩
    ·rw[hw7.heap,qaa _ hn,hb6.block _ hb]
    ·rw[hw7.heap,qal hrk6,s2];rfl
    ·rw[hw7.heap,qaf];exact hb6.size
    ·rw[hw7.os,hw7.tape,hw7.output];exact⟨hb6.os,hb6.tape,hb6.output⟩
 ·rintro xb wr ⟨X,H,m,x,v,pl,va,h1,h2,d,h3,h4⟩;have:=d.fin;rw[h3,h4 rfl]at*;simp only[List.drop_length,deal];rw[h2]at this;exact⟨pl,rfl,this⟩
end
section
open Sc
theorem lkA{a b:World}(h:Lk a b)(o:Obj):Lk (a.alloc o) (b.alloc o):=⟨by show b.heap.push o=a.heap.push o;rw[h.heap],h.tape,h.os,h.output⟩
theorem Lk.lkA'{a b:World}(h:Lk a b)(o:Obj):Lk (a.alloc o) (b.alloc o):=lkA h o
theorem qi6(a b:Int)(w:World):Calls prog 55 #[.int .i64 a,.int .i64 b] w fun e w'=>e=.returned (bp w.heap.size)/\Lk (w.alloc (.cells #[.int .i64 0,.int .i64 a,.int .i64 b] 164)) w':=by
 go_enter func55,ntmps55
 go_wp2;go_ret;exact⟨rfl,rfl,rfl,rfl,rfl⟩
theorem qor(a b:Int)(w:World):Calls prog 54 #[.int .i64 a,.int .i64 b] w fun e w'=>e=.returned (bp (w.heap.size+3))/\Lk ((((w.alloc (.cells #[.int .i64 0,.int .i64 a,.int .i64 10] 164)).alloc (.cells #[.int .i64 0,.int .i64 b,.int .i64 11] 164)).alloc (.map #[] 0)).alloc (.cells #[bp w.heap.size,bp (w.heap.size+1),.map (some (w.heap.size+2)),.nilIface,.pointer none] 119)) w':=by
 have hm1:∀w:World,(Instr.makeMap 114 none).run prog w=.ok (.map (some w.heap.size)) (w.alloc (.map #[] 0)):=fun w=>by simp[Instr.makeMap]
 have M1:=qi6 a 10;have M2:=qi6 b 11;have H1:=hZ M1;have H2:=hZ M2;clear M1 M2;go_enter func54,ntmps54
 go_wp2_with (first|(go_at_call 55;refine(H1.out _).mono ?_;rintro e w1 ⟨rfl,hl⟩;have HL1:=hZ hl;clear hl)|(go_at_call 55;refine(H2.out _).mono ?_;rintro e w2 ⟨rfl,hl⟩;have HL2:=hZ hl;clear hl))
 go_ret;have h1:w1.heap.size=w.heap.size+1:=by rw[HL1.out.heap];simp
 have h2:w2.heap.size=w.heap.size+2:=by rw[HL2.out.heap];simp[h1]
 rw[h1,h2];exact⟨rfl,qat (((qat (lkA HL1.out _) HL2.out).lkA' _).lkA' _) ⟨rfl,rfl,rfl,rfl⟩⟩
def subC(t:ByteArray):Array Value:=#[.string t,.slice none 0 0,.slice none 0 0,.slice none 0 0,.slice none 0 0,.int .i64 0,.int .i64 20000,.int .i64 500,.int .i64 5000,.int .i64 2000]
theorem qrp(t:ByteArray)(w:World):Calls prog 15 #[.string t,.int .i64 0] w fun e w'=>e=.returned (.agg (subC t))/\Below w.heap.size w w':=by
 go_enter func15,ntmps15
 go_wp2;refine bodyPost_ret (results_cell_row (p:=4) (ty:=34) (by kernel_rfl) _ _ w.heap.size 34 (subC t) (0,0) _ rfl (heap_alloc_new _ _) underlying34 rfl (by kernel_rfl)) rfl ?_;exact⟨rfl,qab _ _⟩
end
section
open Sc
theorem upTo(a b:Int)(w:World)(h1:0<=a)(h2:a<=b):Calls prog 130 #[.int .i64 a,.int .i64 b] w fun e w'=>e=.returned (.bool true)/\w'=w:=by
 go_enter func130,ntmps130
 go_wp2;go_ret;exact⟨rfl,rfl⟩
theorem qqh(t:ByteArray)(w:World):Calls prog 80 #[.agg (subC t)] w fun e w'=>e=.returned (.tuple #[])/\Lk (w.alloc (.cells (subC t) 34)) w':=by
 have U1:=hZ upTo;show Calls prog 80 #[.agg #[.string t,.slice none 0 0,.slice none 0 0,.slice none 0 0,.slice none 0 0,.int .i64 0,.int .i64 20000,.int .i64 500,.int .i64 5000,.int .i64 2000]] w fun e w'=>e=.returned (.tuple #[])/\Lk (w.alloc (.cells (subC t) 34)) w'
 go_enter func80,ntmps80
 go_wp2_with (go_at_call 130;refine(U1.out _ _ _ (by omega) (by omega)).mono ?_;rintro e w1 ⟨rfl,rfl⟩)
 go_end0;exact⟨rfl,rfl,rfl,rfl,rfl⟩
end
section
open Sc
theorem qny(w:World):Calls prog 81 #[.slice none 0 0] w fun e w'=>e=.returned (.slice none 0 0)/\Lk w w':=by
 go_enter func81,ntmps81
 go_wp2;go_loopw [10,3] (fun c s wr=>c=.int .i64 0/\s=.slice none 0 0/\Lk w wr) (fun _ _ _=>0)
 case atStart=>exact⟨rfl,rfl,rfl,rfl,rfl,rfl⟩
 case round=>
  obtain⟨rfl,rfl,hb⟩:=hrel;have HB:=hZ hb;clear hb;go_wp2;go_ret;exact⟨rfl,HB.out⟩
end
section
open Sc
theorem is166(v:Value)(w:World):(Instr.typeAssert (.iface 166 v) 20 166 true).run prog w=.ok (.tuple #[v,.bool true]) w:=by kernel_rfl
theorem isnt166(w:World):(Instr.typeAssert .nilIface 20 166 true).run prog w=.ok (.tuple #[.agg #[.int .i64 0,.string ⟨#[]⟩],.bool false]) w:=by kernel_rfl
theorem catch79(q rk mb rb:Nat)(vd:Int)(s:ByteArray)(re pl:Int)(va:ByteArray)(older:List PanicEntry)(w:World)(nq:q≠rk)(hq:w.cell? ⟨q,0,none⟩=some (bp rk))(hr:w.heap[rk]? =some (.cells (runC mb rb 0 re pl va) 112 (0,0))):
  CallsD prog 79 #[bp q] (.panicking ({v:=.iface 166 (.agg #[.int .i64 vd,.string s]),recovered:=false}::older)) w fun e u' w'=>
   e=.returned (.tuple #[])/\u'=.panicking ({v:=.iface 166 (.agg #[.int .i64 vd,.string s]),recovered:=true}::older)/\Lk (((w.alloc (.cells #[.int .i64 vd,.string s] 166)).setCell ⟨rk,2,none⟩ (.int .i64 vd)).setCell ⟨rk,5,none⟩ (.string s)) w':=by
 refine callsD_of_wpS func79 rfl fun c₀ cs hu=>?_
 have e21:#[bp q]++Array.replicate (21-(#[bp q]:Array Value).size) undef=#[bp q,undef,undef,undef,undef,undef,undef,undef,undef,undef,undef,undef,undef,undef,undef,undef,undef,undef,undef,undef,undef]:=by kernel_rfl
 rw[ntmps79,e21];apply wpS_seq;apply wpS_region;have hrec:recoverD (c₀::cs)=some (.iface 166 (.agg #[.int .i64 vd,.string s]),{c₀ with mode:=.panicking ({v:=.iface 166 (.agg #[.int .i64 vd,.string s]),recovered:=true}::older)}::cs):=by simp only[recoverD,hu]
 simp[wpOpsS,go_sem,hrec,is166,Exit.thenS,Act.put];refine wpS_of_wp ?_;have lq:=qac hq;have hr':(w.alloc (.cells #[.int .i64 vd,.string s] 166)).heap[rk]? =some (.cells (runC mb rb 0 re pl va) 112 (0,0)):=by rw[Below.heap_alloc _ _ _ (Array.getElem?_eq_some_iff.1 hr).1];exact hr
 have hn':=heap_alloc_new w (.cells #[.int .i64 vd,.string s] 166);have k0:=qaj (o:=.cells #[.int .i64 vd,.string s] 166) hq;have nr:w.heap.size≠rk:=fun e=>by have:=(Array.getElem?_eq_some_iff.1 hr).1;omega
 generalize hZ:w.heap.size=Z at*;generalize hW:w.alloc (.cells #[.int .i64 vd,.string s] 166)=W at*;have c2:W.cell? ⟨rk,2,none⟩=some (.int .i64 0):=by simp only[World.cell?,hr'];rfl
 have c5:W.cell? ⟨rk,5,none⟩=some (.string va):=by simp only[World.cell?,hr'];rfl
 have cf:∀o,W.frozen? ⟨rk,o,none⟩=false:=fun o=>by simp[World.frozen?,hr']
 have k1:W.cell? ⟨Z,0,none⟩=some (.int .i64 vd):=by simp only[World.cell?,hn'];rfl
 have k2:W.cell? ⟨Z,1,none⟩=some (.string s):=by simp only[World.cell?,hn'];rfl
 clear hn' hr' hr hW hq lq;go_wp2_with (fail)
 go_region_held3 (fun w'=>w'.cell? ⟨q,0,none⟩=some (bp rk)/\w'.cell? ⟨Z,0,none⟩=some (.int .i64 vd)/\w'.cell? ⟨Z,1,none⟩=some (.string s)) (first|(exact⟨k0,k1,k2⟩)|(exact⟨qap k0 nq,qap k1 nr,qap k2 nr⟩)|(exact⟨qap (qap k0 nq) nq,qap (qap k1 nr) nr,qap (qap k2 nr) nr⟩)|go_keep) (fail)
 have hL:∀X:World,Lk X X.drew:=fun X=>⟨rfl,rfl,rfl,rfl⟩
 all_goals(try go_wp2)
 exact⟨rfl,_,rfl,_,results_none (by kernel_rfl) _ _ _,rfl,rfl,hL _⟩
theorem idle79(q:Nat)(w:World):CallsD prog 79 #[bp q] .returning w fun e u' w'=>e=.returned (.tuple #[])/\u'=.returning/\Lk (w.alloc (.cells #[.int .i64 0,.string ⟨#[]⟩] 166)) w':=by
 refine callsD_of_wpS func79 rfl fun c₀ cs hu=>?_
 have e21:#[bp q]++Array.replicate (21-(#[bp q]:Array Value).size) undef=#[bp q,undef,undef,undef,undef,undef,undef,undef,undef,undef,undef,undef,undef,undef,undef,undef,undef,undef,undef,undef,undef]:=by kernel_rfl
 rw[ntmps79,e21];apply wpS_seq;apply wpS_region;have hrec:recoverD (c₀::cs)=none:=by simp only[recoverD,hu]
 simp[wpOpsS,go_sem,hrec,isnt166,Exit.thenS,Act.put];refine wpS_of_wp ?_;go_wp2;have hL:∀X:World,Lk X X:=fun X=>⟨rfl,rfl,rfl,rfl⟩
 exact⟨rfl,.returning,by rw[<-hu],_,results_none (by kernel_rfl) _ _ _,rfl,rfl,hL _⟩
end
section
open Sc
theorem qmm(rk:Nat)(t:ByteArray)(w:World)(P:Option Addr->Nat->Nat->World->Prop)(h:Calls prog 58 #[.string t] w fun e w'=>∃a n c,e=.returned (.tuple #[.slice a n c,.pointer none])/\P a n c w'):Calls prog 82 #[bp rk,.string t] w fun e w'=>∃a n c,e=.returned (.slice a n c)/\P a n c w':=by
 have H:=hZ h;clear h;go_enter func82,ntmps82
 go_wp2_with (go_at_call 58;refine H.out.mono ?_;rintro e w1 ⟨a,n,c,rfl,hp⟩;have HP:=hZ hp;clear hp)
 go_ret;exact⟨a,n,c,rfl,HP.out⟩
def Ks(n rk mb:Nat)(t:ByteArray)(w:World):Prop:=w.cell? ⟨n,0,none⟩=some (bp rk)/\w.cell? ⟨n+1,0,none⟩=some (.string t)/\w.cell? ⟨n+1,1,none⟩=some (.slice none 0 0)/\w.cell? ⟨n+1,5,none⟩=some (.int .i64 0)/\w.cell? ⟨rk,0,none⟩=some (bp mb)
def SEnd(n rk mb rb:Nat)(Q:World->Prop)(e:Ending)(w8:World):Prop:=
 (∃vd s pl va,e=.panicked (stopP (.iface 166 (.agg #[.int .i64 vd,.string s])))/\w8.cell? ⟨n,0,none⟩=some (bp rk)/\w8.heap[rk]? =some (.cells (runC mb rb 0 0 pl va) 112 (0,0))/\∀w9,Lk (((w8.alloc (.cells #[.int .i64 vd,.string s] 166)).setCell ⟨rk,2,none⟩ (.int .i64 vd)).setCell ⟨rk,5,none⟩ (.string s)) w9->Q w9)\/
 (∃pl va,e=.returned (.tuple #[])/\w8.cell? ⟨n,0,none⟩=some (bp rk)/\w8.heap[rk]? =some (.cells (runC mb rb 0 0 pl va) 112 (0,0))/\∀w9,Lk (((w8.setCell ⟨rk,2,none⟩ (.int .i64 1)).setCell ⟨rk,4,none⟩ (.int .i64 0)).alloc (.cells #[.int .i64 0,.string ⟨#[]⟩] 166)) w9->Q w9)
theorem qe6(rk mb rb:Nat)(t:ByteArray)(w:World)(Q:World->Prop)(hrk:rk<w.heap.size)
  (hF:∀w',Lk (((w.alloc (.cells #[bp rk] 106)).alloc (.cells (subC t) 34)).alloc (.cells (subC t) 34)) w'->Calls prog 82 #[bp rk,.string t] w' fun e w2=>∃a m c,e=.returned (.slice a m c)/\Ks w.heap.size rk mb t w2/\
   ∀w3,Lk w2 w3->Calls prog 83 #[bp mb] w3 fun e w4=>e=.returned (.tuple #[])/\Ks w.heap.size rk mb t w4/\
    ∀w5,Lk w4 w5->Calls prog 84 #[bp mb,.int .i64 0,.slice none 0 0] w5 fun e w6=>e=.returned (.tuple #[])/\Ks w.heap.size rk mb t w6/\
     ∀w7,Lk w6 w7->Calls prog 85 #[bp rk,.slice a m c] w7 (SEnd w.heap.size rk mb rb Q)):
  Calls prog 56 #[bp rk,.agg (subC t)] w fun e w'=>e=.returned (.tuple #[])/\Q w':=by
 have hmf:∀(fn:Fn) (first cap:Array Value) (w:World),(Instr.makeFunc fn first cap).run prog w=.ok (.func fn first cap) w:=fun _ _ _ _=>rfl
 have HF:=hZ hF;have A80:=hZ (qqh t);clear hF;show Calls prog 56 #[bp rk,.agg #[.string t,.slice none 0 0,.slice none 0 0,.slice none 0 0,.slice none 0 0,.int .i64 0,.int .i64 20000,.int .i64 500,.int .i64 5000,.int .i64 2000]] w fun e w'=>e=.returned (.tuple #[])/\Q w'
 go_enter_defers func56,ntmps56
 go_wp2_with (go_at_call 80;refine(A80.out _).mono ?_;rintro e w1 ⟨rfl,hl⟩;refine Hid.out ?_)
 have hb0:w1.heap[w.heap.size]? =some (.cells #[bp rk] 106 (0,0)):=by
  rw[hl.heap,Below.heap_alloc _ _ _ (by simp;omega),Below.heap_alloc _ _ _ (by simp)];exact heap_alloc_new _ _
 have hb1:w1.heap[w.heap.size+1]? =some (.cells (subC t) 34 (0,0)):=by
  rw[hl.heap,Below.heap_alloc _ _ _ (by simp)];have h1:=heap_alloc_new (w.alloc (.cells #[bp rk] 106)) (.cells (subC t) 34);have h2:(w.alloc (.cells #[bp rk] 106)).heap.size=w.heap.size+1:=by simp
  rw[h2]at h1;exact h1
 have k0:w1.cell? ⟨w.heap.size,0,none⟩=some (bp rk):=by simp only[World.cell?,hb0];rfl
 have k1:w1.cell? ⟨w.heap.size+1,0,none⟩=some (.string t):=by simp only[World.cell?,hb1];rfl
 have k2:w1.cell? ⟨w.heap.size+1,1,none⟩=some (.slice none 0 0):=by simp only[World.cell?,hb1];rfl
 have HL:=hZ hl;clear hl hb0 hb1;refine hZ ?_;go_wp2_with (go_at_call 81;refine(qny _).mono ?_;rintro e w2 ⟨rfl,hl2⟩;refine Hid.out ?_)
 have k0':w2.cell? ⟨w.heap.size,0,none⟩=some (bp rk):=(qas hl2 _).trans k0;have k1':w2.cell? ⟨w.heap.size+1,0,none⟩=some (.string t):=(qas hl2 _).trans k1;have HL2:=hZ (qat HL.out hl2);clear HL hl2 k0 k1 k2;refine hZ ?_;go_wp2_with (go_at_call 82;refine(HF.out _ (qat HL2.out (by exact⟨rfl,rfl,rfl,rfl⟩))).mono ?_;rintro e w3 ⟨a,m,c,rfl,⟨k0,k1,k2,k3,k4⟩,hK⟩;have HK:=hZ hK;clear hK;refine Hid.out ?_)
 clear k0' k1';refine hZ ?_;go_wp2_with (go_at_call 83;refine(HK.out _ (by exact⟨rfl,rfl,rfl,rfl⟩)).mono ?_;rintro e w4 ⟨rfl,⟨j0,j1,j2,j3,j4⟩,hK⟩;have HK4:=hZ hK;clear hK;refine Hid.out ?_)
 clear k0 k1 k2 k3 k4;refine hZ ?_;go_wp2_with (fail)
 refine qai 7 (by kernel_rfl) (by kernel_rfl) ?_;simp only[List.take_succ_cons,List.take_zero,List.drop_succ_cons,List.drop_zero];repeat still_step
 refine wpStill_nil ?_;go_wp2_with (go_at_call 84;refine(HK4.out _ (by exact⟨rfl,rfl,rfl,rfl⟩)).mono ?_;rintro e w6 ⟨rfl,⟨i0,i1,i2,i3,i4⟩,hK⟩;have HK6:=hZ hK;clear hK;refine Hid.out ?_)
 clear j0 j1 j2 j3 j4;refine hZ ?_;go_wp2_with (go_at_call 85;refine(HK6.out _ (by exact⟨rfl,rfl,rfl,rfl⟩)).mono ?_;rintro e w8 (⟨vd,sv,pl,va,rfl,q0,hr,hK⟩|⟨pl,va,rfl,q0,hr,hK⟩))
 ·have nq:w.heap.size≠rk:=by omega
  refine leaves_cons (f:=79) (args:=#[bp w.heap.size]) (by simp) (by simp[go_sem]) ?_;refine(catch79 w.heap.size rk mb rb vd sv 0 pl va [] w8 nq q0 hr).mono ?_;rintro e u' w9 ⟨rfl,rfl,hl⟩;exact⟨_,results_none (by kernel_rfl) _ _ _,rfl,hK _ hl⟩
 ·have HKK:=hZ hK;have r2:w8.cell? ⟨rk,2,none⟩=some (.int .i64 0):=by simp only[World.cell?,hr];rfl
  have r4:w8.cell? ⟨rk,4,none⟩=some (.int .i64 pl):=by simp only[World.cell?,hr];rfl
  have rf:∀o,w8.frozen? ⟨rk,o,none⟩=false:=fun o=>by simp[World.frozen?,hr]
  have nq:w.heap.size≠rk:=by omega
  clear hK hr i0 i1 i2 i3 i4 HK6 HK4 HK HF HL2 A80;go_wp2_with (fail)
  go_region_held3 (fun w'=>w'.cell? ⟨w.heap.size,0,none⟩=some (bp rk)) (first|(exact q0)|(exact qap q0 nq)|(exact qap (qap q0 nq) nq)|go_keep) (fail)
  all_goals(try go_wp2)
  refine leaves_cons (f:=79) (args:=#[bp w.heap.size]) (by simp) (by simp[go_sem]) ?_;refine(idle79 w.heap.size _).mono ?_;rintro e u' w9 ⟨rfl,rfl,hl⟩;exact⟨_,results_none (by kernel_rfl) _ _ _,rfl,HKK.out _ (qat (by exact⟨rfl,rfl,rfl,rfl⟩) hl)⟩
end
section
open Sc
theorem qil(b:Nat)(t mo out:Int)(w:World)(h:Mt b t mo out w):Calls prog 57 #[bp b] w fun e w'=>e=.returned (.int .i64 t)/\Lk w w':=by
 have c0:=h.c0;go_enter func57,ntmps57
 go_wp2;go_ret;exact⟨rfl,rfl,rfl,rfl,rfl⟩
def resC(ve re pl:Int)(va:ByteArray)(st ce rw:Int):Array Value:=#[.int .i64 ve,.int .i64 re,.int .i64 pl,.string va,.string ⟨#[]⟩,.int .i64 st,.int .i64 ce,.int .i64 rw,.slice none 0 0]
def gradeW(t:ByteArray)(w:World):World:=((((((((w.alloc (.cells (subC t) 34)).alloc (.cells (resC 0 0 0 ⟨#[]⟩ 0 0 0) 29)).alloc (.cells #[.int .i64 0,.int .i64 20000,.int .i64 10] 164)).alloc (.cells #[.int .i64 0,.int .i64 5000,.int .i64 11] 164)).alloc (.map #[] 0)).alloc (.cells #[bp (w.heap.size+2),bp (w.heap.size+3),.map (some (w.heap.size+4)),.nilIface,.pointer none] 119)).alloc (.cells #[.int .i64 0,.int .i64 500,.int .i64 12] 164)).alloc (.cells (runC (w.heap.size+5) (w.heap.size+6) 0 0 0 ⟨#[]⟩) 112))
def GS(n:Nat)(w:World):Prop:=w.cell? ⟨n,6,none⟩=some (.int .i64 20000)/\w.cell? ⟨n,8,none⟩=some (.int .i64 5000)/\w.cell? ⟨n,7,none⟩=some (.int .i64 500)
theorem GS.of{n:Nat}{t:ByteArray}{w:World}(h:w.heap[n]? =some (.cells (subC t) 34 (0,0))):GS n w:=by
 refine⟨?_,?_,?_⟩ <;> simp only[World.cell?,h] <;> rfl
def gradeW0(t:ByteArray)(w:World):World:=(w.alloc (.cells (subC t) 34)).alloc (.cells (resC 0 0 0 ⟨#[]⟩ 0 0 0) 29)
def gradeW4(t:ByteArray)(w:World):World:=((((gradeW0 t w).alloc (.cells #[.int .i64 0,.int .i64 20000,.int .i64 10] 164)).alloc (.cells #[.int .i64 0,.int .i64 5000,.int .i64 11] 164)).alloc (.map #[] 0)).alloc (.cells #[bp (w.heap.size+2),bp (w.heap.size+3),.map (some (w.heap.size+4)),.nilIface,.pointer none] 119)
theorem grade54(t:ByteArray)(w w':World)(h:Lk (gradeW0 t w) w'):Calls prog 54 #[.int .i64 20000,.int .i64 5000] w' fun e w1=>e=.returned (bp (w.heap.size+5))/\GS w.heap.size w1/\Lk (gradeW4 t w) w1:=by
 have hs:w'.heap.size=w.heap.size+2:=by rw[h.heap];simp[gradeW0]
 refine Calls.mono (qor 20000 5000 w') ?_;rintro e w1 ⟨rfl,hl⟩;rw[hs]at hl;have hl2:Lk (gradeW4 t w) w1:=qat ((((h.lkA' _).lkA' _).lkA' _).lkA' _) hl;refine⟨by rw[hs],GS.of (t:=t) ?_,hl2⟩;rw[hl2.heap];unfold gradeW4 gradeW0;rw[Below.heap_alloc _ _ _ (by simp;omega),Below.heap_alloc _ _ _ (by simp;omega),Below.heap_alloc _ _ _ (by simp;omega),Below.heap_alloc _ _ _ (by simp;omega),Below.heap_alloc _ _ _ (by simp)];exact heap_alloc_new _ _
theorem grade55(t:ByteArray)(w w':World)(h:Lk (gradeW4 t w) w'):Calls prog 55 #[.int .i64 500,.int .i64 12] w' fun e w1=>e=.returned (bp (w.heap.size+6))/\GS w.heap.size w1/\w1.heap.size=w.heap.size+7/\Lk ((gradeW4 t w).alloc (.cells #[.int .i64 0,.int .i64 500,.int .i64 12] 164)) w1:=by
 have hs:w'.heap.size=w.heap.size+6:=by rw[h.heap];simp[gradeW4,gradeW0]
 refine Calls.mono (qi6 500 12 w') ?_;rintro e w1 ⟨rfl,hl⟩;have hl2:Lk ((gradeW4 t w).alloc (.cells #[.int .i64 0,.int .i64 500,.int .i64 12] 164)) w1:=qat (h.lkA' _) hl;refine⟨by rw[hs],GS.of (t:=t) ?_,by rw[hl.heap];simp[hs],hl2⟩;rw[hl2.heap];unfold gradeW4 gradeW0;rw[Below.heap_alloc _ _ _ (by simp;omega),Below.heap_alloc _ _ _ (by simp;omega),Below.heap_alloc _ _ _ (by simp;omega),Below.heap_alloc _ _ _ (by simp;omega),Below.heap_alloc _ _ _ (by simp;omega),Below.heap_alloc _ _ _ (by simp)];exact heap_alloc_new _ _
def set9(w:World)(b:Nat)(v0 v1 v2 v3 v4 v5 v6 v7 v8:Value):World:=(((((((((w.setCell ⟨b,0,none⟩ v0).setCell ⟨b,1,none⟩ v1).setCell ⟨b,2,none⟩ v2).setCell ⟨b,3,none⟩ v3).setCell ⟨b,4,none⟩ v4).setCell ⟨b,5,none⟩ v5).setCell ⟨b,6,none⟩ v6).setCell ⟨b,7,none⟩ v7).setCell ⟨b,8,none⟩ v8)
theorem qec{w:World}{b t:Nat}{fr:Nat×Nat}{x0 x1 x2 x3 x4 x5 x6 x7 x8 v0 v1 v2 v3 v4 v5 v6 v7 v8:Value}(h:w.heap[b]? =some (.cells #[x0,x1,x2,x3,x4,x5,x6,x7,x8] t fr)):(set9 w b v0 v1 v2 v3 v4 v5 v6 v7 v8).heap[b]? =some (.cells #[v0,v1,v2,v3,v4,v5,v6,v7,v8] t fr):=by
 unfold set9;have h0:=qal (o:=0) (v:=v0) h;rw[show(#[x0,x1,x2,x3,x4,x5,x6,x7,x8]:Array Value).setIfInBounds 0 v0=#[v0,x1,x2,x3,x4,x5,x6,x7,x8] by kernel_rfl]at h0;have h1:=qal (o:=1) (v:=v1) h0;rw[show(#[v0,x1,x2,x3,x4,x5,x6,x7,x8]:Array Value).setIfInBounds 1 v1=#[v0,v1,x2,x3,x4,x5,x6,x7,x8] by kernel_rfl]at h1;have h2:=qal (o:=2) (v:=v2) h1;rw[show(#[v0,v1,x2,x3,x4,x5,x6,x7,x8]:Array Value).setIfInBounds 2 v2=#[v0,v1,v2,x3,x4,x5,x6,x7,x8] by kernel_rfl]at h2;have h3:=qal (o:=3) (v:=v3) h2;rw[show(#[v0,v1,v2,x3,x4,x5,x6,x7,x8]:Array Value).setIfInBounds 3 v3=#[v0,v1,v2,v3,x4,x5,x6,x7,x8] by kernel_rfl]at h3;have h4:=qal (o:=4) (v:=v4) h3;rw[show(#[v0,v1,v2,v3,x4,x5,x6,x7,x8]:Array Value).setIfInBounds 4 v4=#[v0,v1,v2,v3,v4,x5,x6,x7,x8] by kernel_rfl]at h4;have h5:=qal (o:=5) (v:=v5) h4;rw[show(#[v0,v1,v2,v3,v4,x5,x6,x7,x8]:Array Value).setIfInBounds 5 v5=#[v0,v1,v2,v3,v4,v5,x6,x7,x8] by kernel_rfl]at h5;have h6:=qal (o:=6) (v:=v6) h5;rw[show(#[v0,v1,v2,v3,v4,v5,x6,x7,x8]:Array Value).setIfInBounds 6 v6=#[v0,v1,v2,v3,v4,v5,v6,x7,x8] by kernel_rfl]at h6;have h7:=qal (o:=7) (v:=v7) h6;rw[show(#[v0,v1,v2,v3,v4,v5,v6,x7,x8]:Array Value).setIfInBounds 7 v7=#[v0,v1,v2,v3,v4,v5,v6,v7,x8] by kernel_rfl]at h7;have h8:=qal (o:=8) (v:=v8) h7;rw[show(#[v0,v1,v2,v3,v4,v5,v6,v7,x8]:Array Value).setIfInBounds 8 v8=#[v0,v1,v2,v3,v4,v5,v6,v7,v8] by kernel_rfl]at h8;exact h8
theorem qdr{n:Nat}{w w':World}{b:Nat}{v0 v1 v2 v3 v4 v5 v6 v7 v8:Value}(h:Below n w w')(hb:n<=b):Below n w (set9 w' b v0 v1 v2 v3 v4 v5 v6 v7 v8):=(qaq (qaq (qaq (qaq (qaq (qaq (qaq (qaq (qaq h hb) hb) hb) hb) hb) hb) hb) hb) hb)
theorem bl0'{w w':World}{n:Nat}(h:Lk w w')(hn:n<=w.heap.size):Below n w w':=(bl0 h).mono hn
structure GEnd (n:Nat) (c:Array Value) (st ce rw:Int) (w:World):Prop where
 rk:w.heap[n+7]? =some (.cells c 112 (0,0))
 st:Mt (n+2) st 20000 10 w
 ce:Mt (n+3) ce 5000 11 w
 rw:Mt (n+6) rw 500 12 w
 mb:∃a b d,w.heap[n+5]? =some (.cells #[bp (n+2),bp (n+3),a,b,d] 119 (0,0))
 rs:w.heap[n+1]? =some (.cells (resC 0 0 0 ⟨#[]⟩ 0 0 0) 29 (0,0))
theorem GEnd.lk{n:Nat}{c:Array Value}{st ce rw:Int}{w w':World}(g:GEnd n c st ce rw w)(h:Lk w w'):GEnd n c st ce rw w':=by
 obtain⟨a1,a2,a3,a4,a5,a6⟩:=g;unfold Mt at a2 a3 a4;rw[<-h.heap]at a1 a2 a3 a4 a5 a6;exact⟨a1,a2,a3,a4,a5,a6⟩
theorem GEnd.set{n o:Nat}{v:Value}{c:Array Value}{st ce rw:Int}{w:World}(g:GEnd n c st ce rw w):GEnd n (c.setIfInBounds o v) st ce rw (w.setCell ⟨n+7,o,none⟩ v):=by
 have k:∀b,b≠n+7->(w.setCell ⟨n+7,o,none⟩ v).heap[b]? =w.heap[b]?:=fun b hb=>qaa _ hb
 refine⟨qal g.rk,g.st.keep (k _ (by omega)),g.ce.keep (k _ (by omega)),g.rw.keep (k _ (by omega)),?_,by rw[k _ (by omega)];exact g.rs⟩;obtain⟨a,b,d,h⟩:=g.mb;exact⟨a,b,d,by rw[k _ (by omega)];exact h⟩
theorem qo8(t:ByteArray)(w:World)(Q:Ending->World->Prop)
  (h56:∀w',Lk (gradeW t w) w'->Calls prog 56 #[bp (w.heap.size+7),.agg (subC t)] w' fun e w2=>e=.returned (.tuple #[])/\∃ve re pl va st ce rw,GEnd w.heap.size (runC (w.heap.size+5) (w.heap.size+6) ve re pl va) st ce rw w2/\Below w.heap.size w w2/\∀w3,Below w.heap.size w w3->Q (.returned (.agg (resC ve re pl va st ce rw))) w3):
  Calls prog 37 #[.agg (subC t)] w Q:=by
 have H56:=hZ h56;have M54:=hZ (grade54 t w);have M55:=hZ (grade55 t w);have g0:GS w.heap.size (gradeW0 t w):=GS.of (t:=t) (by unfold gradeW0;rw[Below.heap_alloc _ _ _ (by simp)];exact heap_alloc_new _ _);obtain⟨c6,c8,c7⟩:=g0;unfold gradeW0 at c6 c7 c8;clear h56;show Calls prog 37 #[.agg #[.string t,.slice none 0 0,.slice none 0 0,.slice none 0 0,.slice none 0 0,.int .i64 0,.int .i64 20000,.int .i64 500,.int .i64 5000,.int .i64 2000]] w Q;go_enter func37,ntmps37
 go_wp2_with (fail)
 go_region_held2 (fun w'=>w'.cell? ⟨w.heap.size,6,none⟩=some (.int .i64 20000)/\w'.cell? ⟨w.heap.size,8,none⟩=some (.int .i64 5000)/\w'.cell? ⟨w.heap.size,7,none⟩=some (.int .i64 500)) (first|(exact⟨c6,c8,c7⟩)|(exact HS1.out)|(exact HS2.out)|go_keep)
  (first
   |(go_at_call 54;refine(M54.out _ (by exact⟨rfl,rfl,rfl,rfl⟩)).mono ?_;rintro e w1 ⟨rfl,hs,hl⟩;have HS1:=hZ hs;have HL1:=hZ hl;clear hs hl)
   |(go_at_call 55;refine(M55.out _ (qat HL1.out (by exact⟨rfl,rfl,rfl,rfl⟩))).mono ?_;rintro e w2 ⟨rfl,hs,hz,hl⟩;have HS2:=hZ hs;have HL2:=hZ hl;clear hs hl))
 have hLV:Lk (gradeW t w) (w2.alloc (.cells #[bp (w.heap.size+5),bp (w.heap.size+6),.int .i64 0,.int .i64 0,.int .i64 0,.string ⟨#[]⟩,.string ⟨#[]⟩,.int .i64 0,.int .i64 0,.int .i64 0,.slice none 0 0] 112)):=HL2.out.lkA' _;generalize (w2.alloc (.cells #[bp (w.heap.size+5),bp (w.heap.size+6),.int .i64 0,.int .i64 0,.int .i64 0,.string ⟨#[]⟩,.string ⟨#[]⟩,.int .i64 0,.int .i64 0,.int .i64 0,.slice none 0 0] 112))=V at hLV|-;have hV0:V.heap[w.heap.size]? =some (.cells (subC t) 34 (0,0)):=by
  rw[hLV.heap];unfold gradeW;rw[Below.heap_alloc _ _ _ (by simp;omega),Below.heap_alloc _ _ _ (by simp;omega),Below.heap_alloc _ _ _ (by simp;omega),Below.heap_alloc _ _ _ (by simp;omega),Below.heap_alloc _ _ _ (by simp;omega),Below.heap_alloc _ _ _ (by simp;omega),Below.heap_alloc _ _ _ (by simp)];exact heap_alloc_new _ _
 have v0:V.cell? ⟨w.heap.size,0,none⟩=some (.string t):=by simp only[World.cell?,hV0];rfl
 have v1:V.cell? ⟨w.heap.size,1,none⟩=some (.slice none 0 0):=by simp only[World.cell?,hV0];rfl
 have v2:V.cell? ⟨w.heap.size,2,none⟩=some (.slice none 0 0):=by simp only[World.cell?,hV0];rfl
 have v3:V.cell? ⟨w.heap.size,3,none⟩=some (.slice none 0 0):=by simp only[World.cell?,hV0];rfl
 have v4:V.cell? ⟨w.heap.size,4,none⟩=some (.slice none 0 0):=by simp only[World.cell?,hV0];rfl
 have v5:V.cell? ⟨w.heap.size,5,none⟩=some (.int .i64 0):=by simp only[World.cell?,hV0];rfl
 have v6:V.cell? ⟨w.heap.size,6,none⟩=some (.int .i64 20000):=by simp only[World.cell?,hV0];rfl
 have v7:V.cell? ⟨w.heap.size,7,none⟩=some (.int .i64 500):=by simp only[World.cell?,hV0];rfl
 have v8:V.cell? ⟨w.heap.size,8,none⟩=some (.int .i64 5000):=by simp only[World.cell?,hV0];rfl
 have v9:V.cell? ⟨w.heap.size,9,none⟩=some (.int .i64 2000):=by simp only[World.cell?,hV0];rfl
 have HLV:=hZ hLV;clear hLV hV0 c6 c7 c8 M54 M55;go_wp2_with (go_at_call 56;refine(H56.out _ (qat HLV.out (by exact⟨rfl,rfl,rfl,rfl⟩))).mono ?_;rintro e w3 ⟨rfl,ve,re,pl,va,st,ce,rw,hG,hB,hK⟩;refine Hid.out ?_)
 have r0:w3.cell? ⟨w.heap.size+7,0,none⟩=some (bp (w.heap.size+5)):=by simp only[World.cell?,hG.rk];rfl
 have r1:w3.cell? ⟨w.heap.size+7,1,none⟩=some (bp (w.heap.size+6)):=by simp only[World.cell?,hG.rk];rfl
 obtain⟨ma,mb',md,hmb⟩:=hG.mb;have m0:w3.cell? ⟨w.heap.size+5,0,none⟩=some (bp (w.heap.size+2)):=by simp only[World.cell?,hmb];rfl
 have m1:w3.cell? ⟨w.heap.size+5,1,none⟩=some (bp (w.heap.size+3)):=by simp only[World.cell?,hmb];rfl
 have HG:=hZ hG;have HB:=hZ hB;have HK:=hZ hK;clear hG hB hK hmb v0 v1 v2 v3 v4 v5 v6 v7 v8 v9 HLV H56;refine hZ ?_;go_wp2_with (go_at_call 57;refine(qil _ _ _ _ _ HG.out.st).mono ?_;rintro e w4 ⟨rfl,hl⟩;refine Hid.out ?_)
 have hG4:=HG.out.lk hl;have HBl4:=hZ (HB.out.trans (bl0' hl HB.out.size));have z7:w4.cell? ⟨w.heap.size+7,7,none⟩=some (.int .i64 0):=by simp only[World.cell?,hG4.rk];rfl
 have f4:∀o,w4.frozen? ⟨w.heap.size+7,o,none⟩=false:=fun o=>by simp[World.frozen?,hG4.rk]
 have hGs4:=hG4.set (o:=7) (v:=.int .i64 st);have HBs4:=hZ (qaq HBl4.out (b:=w.heap.size+7) (k:=7) (v:=.int .i64 st) (by omega));clear HBl4 hG4 hl r0 r1 m0 m1 HG HB;refine hZ ?_;obtain⟨W4,hW⟩:∃W,W=w4.setCell ⟨w.heap.size+7,7,none⟩ (.int .i64 st):=⟨_,rfl⟩;rw[<-hW]at hGs4 HBs4;have r0:W4.cell? ⟨w.heap.size+7,0,none⟩=some (bp (w.heap.size+5)):=by simp only[World.cell?,hGs4.rk];rfl
 obtain⟨ma,mb',md,hmb⟩:=hGs4.mb;have m1:W4.cell? ⟨w.heap.size+5,1,none⟩=some (bp (w.heap.size+3)):=by simp only[World.cell?,hmb];rfl
 have HG4:=hZ hGs4;clear hGs4 hmb;rw[hW]at r0 m1;have HW4:=hZ hW;clear hW;go_wp2_with (go_at_call 57;rw[<-HW4.out];refine(qil _ _ _ _ _ HG4.out.ce).mono ?_;rintro e w5 ⟨rfl,hl⟩;refine Hid.out ?_)
 have hG5:=HG4.out.lk hl;have HBl5:=hZ (HBs4.out.trans (bl0' hl HBs4.out.size));have z8:w5.cell? ⟨w.heap.size+7,8,none⟩=some (.int .i64 0):=by simp only[World.cell?,hG5.rk];rfl
 have f5:∀o,w5.frozen? ⟨w.heap.size+7,o,none⟩=false:=fun o=>by simp[World.frozen?,hG5.rk]
 have hGs5:=hG5.set (o:=8) (v:=.int .i64 ce);have HBs5:=hZ (qaq HBl5.out (b:=w.heap.size+7) (k:=8) (v:=.int .i64 ce) (by omega));clear HBl5 hG5 hl r0 m1 HG4 HBs4 z7 f4 HW4;refine hZ ?_;obtain⟨W5,hW⟩:∃W,W=w5.setCell ⟨w.heap.size+7,8,none⟩ (.int .i64 ce):=⟨_,rfl⟩;rw[<-hW]at hGs5 HBs5;have r1:W5.cell? ⟨w.heap.size+7,1,none⟩=some (bp (w.heap.size+6)):=by simp only[World.cell?,hGs5.rk];rfl
 have HG5:=hZ hGs5;clear hGs5;rw[hW]at r1;have HW5:=hZ hW;clear hW;go_wp2_with (go_at_call 57;rw[<-HW5.out];refine(qil _ _ _ _ _ HG5.out.rw).mono ?_;rintro e w6 ⟨rfl,hl⟩;refine Hid.out ?_)
 have hG6:=HG5.out.lk hl;have HBl6:=hZ (HBs5.out.trans (bl0' hl HBs5.out.size));have z9:w6.cell? ⟨w.heap.size+7,9,none⟩=some (.int .i64 0):=by simp only[World.cell?,hG6.rk];rfl
 have f6:∀o,w6.frozen? ⟨w.heap.size+7,o,none⟩=false:=fun o=>by simp[World.frozen?,hG6.rk]
 have hGs6:=hG6.set (o:=9) (v:=.int .i64 rw);have HBs6:=hZ (qaq HBl6.out (b:=w.heap.size+7) (k:=9) (v:=.int .i64 rw) (by omega));clear HBl6 hG6 hl r1 HG5 HBs5 z8 f5 HW5;refine hZ ?_;obtain⟨W6,hW⟩:∃W,W=w6.setCell ⟨w.heap.size+7,9,none⟩ (.int .i64 rw):=⟨_,rfl⟩;rw[<-hW]at hGs6 HBs6;have hrk:=hGs6.rk;have hrs:=hGs6.rs;have hfz:∀o,W6.frozen? ⟨w.heap.size+1,o,none⟩=false:=fun o=>by simp[World.frozen?,hrs]
 have a0:W6.cell? ⟨w.heap.size+7,2,none⟩=some (.int .i64 ve):=by simp only[World.cell?,hrk];rfl
 have a1:W6.cell? ⟨w.heap.size+7,3,none⟩=some (.int .i64 re):=by simp only[World.cell?,hrk];rfl
 have a2:W6.cell? ⟨w.heap.size+7,4,none⟩=some (.int .i64 pl):=by simp only[World.cell?,hrk];rfl
 have a3:W6.cell? ⟨w.heap.size+7,5,none⟩=some (.string va):=by simp only[World.cell?,hrk];rfl
 have a4:W6.cell? ⟨w.heap.size+7,6,none⟩=some (.string ⟨#[]⟩):=by simp only[World.cell?,hrk];rfl
 have a5:W6.cell? ⟨w.heap.size+7,7,none⟩=some (.int .i64 st):=by simp only[World.cell?,hrk];rfl
 have a6:W6.cell? ⟨w.heap.size+7,8,none⟩=some (.int .i64 ce):=by simp only[World.cell?,hrk];rfl
 have a7:W6.cell? ⟨w.heap.size+7,9,none⟩=some (.int .i64 rw):=by simp only[World.cell?,hrk];rfl
 have a8:W6.cell? ⟨w.heap.size+7,10,none⟩=some (.slice none 0 0):=by simp only[World.cell?,hrk];rfl
 have b0:W6.cell? ⟨w.heap.size+1,0,none⟩=some (.int .i64 0):=by simp only[World.cell?,hrs];rfl
 have b1:W6.cell? ⟨w.heap.size+1,1,none⟩=some (.int .i64 0):=by simp only[World.cell?,hrs];rfl
 have b2:W6.cell? ⟨w.heap.size+1,2,none⟩=some (.int .i64 0):=by simp only[World.cell?,hrs];rfl
 have b3:W6.cell? ⟨w.heap.size+1,3,none⟩=some (.string ⟨#[]⟩):=by simp only[World.cell?,hrs];rfl
 have b4:W6.cell? ⟨w.heap.size+1,4,none⟩=some (.string ⟨#[]⟩):=by simp only[World.cell?,hrs];rfl
 have b5:W6.cell? ⟨w.heap.size+1,5,none⟩=some (.int .i64 0):=by simp only[World.cell?,hrs];rfl
 have b6:W6.cell? ⟨w.heap.size+1,6,none⟩=some (.int .i64 0):=by simp only[World.cell?,hrs];rfl
 have b7:W6.cell? ⟨w.heap.size+1,7,none⟩=some (.int .i64 0):=by simp only[World.cell?,hrs];rfl
 have b8:W6.cell? ⟨w.heap.size+1,8,none⟩=some (.slice none 0 0):=by simp only[World.cell?,hrs];rfl
 have HRs:=hZ hrs;clear hrs hrk hGs6;rw[hW]at a0 a1 a2 a3 a4 a5 a6 a7 a8 b0 b1 b2 b3 b4 b5 b6 b7 b8 hfz;have HW6:=hZ hW;clear hW;go_wp2;rw[<-HW6.out];have hfin:=qec (v0:=.int .i64 ve) (v1:=.int .i64 re) (v2:=.int .i64 pl) (v3:=.string va) (v4:=.string ⟨#[]⟩) (v5:=.int .i64 st) (v6:=.int .i64 ce) (v7:=.int .i64 rw) (v8:=.slice none 0 0) HRs.out;have hbel:=qdr (v0:=.int .i64 ve) (v1:=.int .i64 re) (v2:=.int .i64 pl) (v3:=.string va) (v4:=.string ⟨#[]⟩) (v5:=.int .i64 st) (v6:=.int .i64 ce) (v7:=.int .i64 rw) (v8:=.slice none 0 0) HBs6.out (Nat.le_succ w.heap.size);unfold set9 at hfin hbel;generalize (((((((((W6.setCell ⟨w.heap.size+1,0,none⟩ (.int .i64 ve)).setCell ⟨w.heap.size+1,1,none⟩ (.int .i64 re)).setCell ⟨w.heap.size+1,2,none⟩ (.int .i64 pl)).setCell ⟨w.heap.size+1,3,none⟩ (.string va)).setCell ⟨w.heap.size+1,4,none⟩ (.string ⟨#[]⟩)).setCell ⟨w.heap.size+1,5,none⟩ (.int .i64 st)).setCell ⟨w.heap.size+1,6,none⟩ (.int .i64 ce)).setCell ⟨w.heap.size+1,7,none⟩ (.int .i64 rw)).setCell ⟨w.heap.size+1,8,none⟩ (.slice none 0 0))=Z at hfin hbel|-;refine bodyPost_ret (results_cell_row (p:=2) (ty:=29) (by kernel_rfl) _ _ (w.heap.size+1) 29 (resC ve re pl va st ce rw) (0,0) _ rfl hfin underlying29 rfl (by kernel_rfl)) rfl ?_;exact HK.out _ hbel
end
section
open Sc
def ghost0(n:Nat)(w:World):Gh:={I:=fun b=>if n+11<=b then w.heap[b]? else none,J:=[],E:=[],B:=[],P:=fun p=>w.heap.size+p.off,K:=fun _=>0,mb:=n+5,sb:=n+2,cb:=n+3,mp:=n+4,W:=w,F:=fun b=>b<n+2\/b=n+7\/b=n+8\/b=n+9}
theorem qcs(n:Nat)(w:World):(ghost0 n w).mut=[n+5,n+2,n+3,n+4]:=rfl
theorem qpa{n:Nat}{w:World}{S:Sub}(hS:S.fuel=20000/\S.quota=5000)(h2:Mt (n+2) 0 20000 10 w)(h3:Mt (n+3) 0 5000 11 w)(h4:w.heap[n+4]? =some (.map #[] 0))(h5:w.heap[n+5]? =some (.cells #[bp (n+2),bp (n+3),.map (some (n+4)),.nilIface,.pointer none] 119 (0,0)))(hsz:n+11<=w.heap.size):Inv (ghost0 n w) S {} w:=by
 have hm:∀{b:Nat},b∈(ghost0 n w).mut->n+2<=b/\b<=n+5:=fun {b} hb=>by
  rw[qcs]at hb;simp only[List.mem_cons,List.not_mem_nil,or_false]at hb;omega
 have hlow:∀{b:Nat},b<n+11->(ghost0 n w).I b=none:=fun {b} hb=>if_neg (by omega)
 refine⟨fun {b o} hb=>?_,?_,fun {b} hb=>hlow (by have:=hm hb;omega),fun {b} hb=>by have:=hm hb;omega,?_,?_,?_,?_,⟨_,_,h5,.nil⟩,⟨#[],0,h4,rfl⟩,fun {s b} hb=>(by cases hb),fun {s v} hv=>(by cases hv),List.nodup_nil,fun {i vs e} he=>(by simp at he),rfl,rfl,List.nodup_nil,fun {b} hb=>(by cases hb),⟨rfl,rfl,rfl⟩,fun {b} hb=>⟨rfl,?_⟩,fun {b} hb hF=>?_,fun {b} hb=>hlow ?_⟩
 ·have hb:(if n+11<=b then w.heap[b]? else none)=some o:=hb;by_cases h:n+11<=b
  ·rw[if_pos h]at hb;exact hb
  ·rw[if_neg h]at hb;cases hb
 ·rw[qcs];simp
 ·rw[hS.1];exact h2
 ·rw[hS.2];exact h3
 ·rw[hS.1];exact⟨by simp,by omega⟩
 ·rw[hS.2];exact⟨by simp,by omega⟩
 ·have hb:b<n+2\/b=n+7\/b=n+8\/b=n+9:=hb;omega
 ·have hF:b<n+2\/b=n+7\/b=n+8\/b=n+9:=hF;have:=hm hb;omega
 ·have hb:b<n+2\/b=n+7\/b=n+8\/b=n+9:=hb;omega
end
section
open Sc
theorem feLen(x:Rd.El×Int):(Rd.Fe.cells x).length=7:=rfl
theorem qft:∀(l:List (Rd.El×Int)) (i j:Nat) (x:Rd.El×Int),l[i]? =some x->j<7->(l.flatMap Rd.Fe.cells)[i*7+j]? =(Rd.Fe.cells x)[j]?
 | [],i,j,x,h,_=>by simp at h
 |y::r,0,j,x,h,hj=>by
  obtain rfl:y=x:=by simpa using h
  rw[List.flatMap_cons,List.getElem?_append_left (by rw[feLen];omega)];simp
 |y::r,i+1,j,x,h,hj=>by
  rw[List.flatMap_cons,List.getElem?_append_right (by rw[feLen];omega),feLen];have:(i+1)*7+j-7=i*7+j:=by omega
  rw[this];exact qft r i j x (by simpa using h) hj
theorem row_of{w:World}{lo:Nat}{a:Option Addr}{cap:Nat}{es:List (Rd.El×Int)}(h:w.ownsRow lo 136 7 (.slice a es.length cap) es.length (es.flatMap Rd.Fe.cells))(k:Nat)(x:Rd.El×Int)(hx:es[k]? =some x):
  ∃g arr,a=some ⟨g,0,none⟩/\lo<=g/\w.heap[g]? =some (.cells arr 136 (0,0))/\(∀j,j<6->arr[0+k*7+j]? =(dlOf x.1).cells[j]?)/\arr[0+k*7+6]? =some (.int .i64 x.2):=by
 have hk:k<es.length:=(List.getElem?_eq_some_iff.1 hx).1;rcases h.2 with⟨_,h0⟩|⟨g,cp,cur,hv,hb,hg,hn,hm,hsz,htk⟩
 ·omega
 ·have ha:a=some ⟨g,0,none⟩:=by injection hv
  have at7:∀j,j<7->cur[0+k*7+j]? =(Rd.Fe.cells x)[j]?:=fun j hj=>by
   have e:=qft es k j x hx hj;rw[<-htk,List.getElem?_take]at e;rw[Nat.zero_add];split at e
   ·simpa using e
   ·omega
  refine⟨g,cur,ha,hb,hg,fun j hj=>?_,at7 6 (by omega)⟩;rw[at7 j (by omega)];show(x.1.cells++[.int .i64 x.2])[j]? =_;rw[List.getElem?_append_left (by show j<6;exact hj)];have e:x.1.cells=(dlOf x.1).cells.toList:=rfl;rw[e,Array.getElem?_toList]
theorem GV.below{n:Nat}{w w':World}(h:Rd.GV w)(hb:Below n w w')(hn:6<=n):Rd.GV w':=by
 obtain⟨tp,p,h⟩:=h;refine⟨tp,p,?_⟩;unfold World.var? at h|-;rw[Rd.errRange_no]at h|-;simp only[Option.bind_some]at h|-;rw[hb.block 5 (by omega)];exact h
end
section
open Sc
structure Lay (t:ByteArray) (w W:World):Prop where
 lo:Below w.heap.size w W
 rs:W.heap[w.heap.size+1]? =some (.cells (resC 0 0 0 ⟨#[]⟩ 0 0 0) 29 (0,0))
 sb:Mt (w.heap.size+2) 0 20000 10 W
 cb:Mt (w.heap.size+3) 0 5000 11 W
 mp:W.heap[w.heap.size+4]? =some (.map #[] 0)
 mb:W.heap[w.heap.size+5]? =some (.cells #[bp (w.heap.size+2),bp (w.heap.size+3),.map (some (w.heap.size+4)),.nilIface,.pointer none] 119 (0,0))
 rb:Mt (w.heap.size+6) 0 500 12 W
 rk:W.heap[w.heap.size+7]? =some (.cells (runC (w.heap.size+5) (w.heap.size+6) 0 0 0 ⟨#[]⟩) 112 (0,0))
 bx:W.heap[w.heap.size+8]? =some (.cells #[bp (w.heap.size+7)] 106 (0,0))
 sub:W.heap[w.heap.size+9]? =some (.cells (subC t) 34 (0,0))
 sz:w.heap.size+11<=W.heap.size
theorem Lay.below{t:ByteArray}{w W W':World}(l:Lay t w W)(h:Below (w.heap.size+11) W W'):Lay t w W':=by
 have k:∀b,b<w.heap.size+11->W'.heap[b]? =W.heap[b]?:=fun b hb=>h.block b hb
 exact⟨l.lo.trans (h.mono (by omega)),by rw[k _ (by omega)];exact l.rs,l.sb.keep (k _ (by omega)),l.cb.keep (k _ (by omega)),by rw[k _ (by omega)];exact l.mp,by rw[k _ (by omega)];exact l.mb,l.rb.keep (k _ (by omega)),by rw[k _ (by omega)];exact l.rk,by rw[k _ (by omega)];exact l.bx,by rw[k _ (by omega)];exact l.sub,Nat.le_trans l.sz h.size⟩
theorem lay_of{t:ByteArray}{w w1 w2:World}(h1:Lk (gradeW t w) w1)(h2:Lk (((w1.alloc (.cells #[bp (w.heap.size+7)] 106)).alloc (.cells (subC t) 34)).alloc (.cells (subC t) 34)) w2):Lay t w w2:=by
 have hw:w2.heap=(((((((((((w.heap.push (.cells (subC t) 34)).push (.cells (resC 0 0 0 ⟨#[]⟩ 0 0 0) 29)).push (.cells #[.int .i64 0,.int .i64 20000,.int .i64 10] 164)).push (.cells #[.int .i64 0,.int .i64 5000,.int .i64 11] 164)).push (.map #[] 0)).push (.cells #[bp (w.heap.size+2),bp (w.heap.size+3),.map (some (w.heap.size+4)),.nilIface,.pointer none] 119)).push (.cells #[.int .i64 0,.int .i64 500,.int .i64 12] 164)).push (.cells (runC (w.heap.size+5) (w.heap.size+6) 0 0 0 ⟨#[]⟩) 112)).push (.cells #[bp (w.heap.size+7)] 106)).push (.cells (subC t) 34)).push (.cells (subC t) 34)):=by
  rw[h2.heap];show((w1.heap.push _).push _).push _=_;rw[h1.heap];rfl
 have sz:w2.heap.size=w.heap.size+11:=by rw[hw];simp
 refine⟨⟨h2.os.trans h1.os,h2.tape.trans h1.tape,h2.output.trans h1.output,by omega,fun k hk=>?_⟩,?_,?_,?_,?_,?_,?_,?_,?_,?_,by omega⟩
 ·rw[hw];simp only[Array.getElem?_push,Array.size_push];repeat rw[if_neg (by omega)]
 all_goals(try unfold Mt);rw[hw];simp only[Array.getElem?_push,Array.size_push]
 ·repeat (first|rw[if_neg (by omega)]|(rw[if_pos (by first|trivial|omega)];done))
 ·repeat (first|rw[if_neg (by omega)]|(rw[if_pos (by first|trivial|omega)];done))
 ·repeat (first|rw[if_neg (by omega)]|(rw[if_pos (by first|trivial|omega)];done))
 ·repeat (first|rw[if_neg (by omega)]|(rw[if_pos (by first|trivial|omega)];done))
 ·repeat (first|rw[if_neg (by omega)]|(rw[if_pos (by first|trivial|omega)];done))
 ·repeat (first|rw[if_neg (by omega)]|(rw[if_pos (by first|trivial|omega)];done))
 ·repeat (first|rw[if_neg (by omega)]|(rw[if_pos (by first|trivial|omega)];done))
 ·repeat (first|rw[if_neg (by omega)]|(rw[if_pos (by first|trivial|omega)];done))
 ·repeat (first|rw[if_neg (by omega)]|(rw[if_pos (by first|trivial|omega)];done))
end
section
open Sc
theorem GEnd.alloc{n:Nat}{c:Array Value}{st ce rw:Int}{w:World}(g:GEnd n c st ce rw w)(o:Obj):GEnd n c st ce rw (w.alloc o):=by
 have k:∀{b:Nat} {x:Obj},w.heap[b]? =some x->(w.alloc o).heap[b]? =w.heap[b]?:=fun {b x} h=>Below.heap_alloc _ _ _ (Array.getElem?_eq_some_iff.1 h).1
 obtain⟨a1,a2,a3,a4,⟨x,y,z,a5⟩,a6⟩:=g;exact⟨(k a1).trans a1,a2.keep (k a2),a3.keep (k a3),a4.keep (k a4),⟨x,y,z,(k a5).trans a5⟩,(k a6).trans a6⟩
def RunIs(r:(Option Nat×Nat)×Option Vl×Xs×Mc)(ve pl:Int)(va:ByteArray)(st ce rw:Int):Prop:=match r with
 |((some vd,p),_,x,m)=>ve=vd/\pl=p/\(vd≠14->va=⟨#[]⟩)/\(vd=14->va=⟨m.raised.toArray⟩\/va=⟨#[]⟩)/\st=m.steps/\ce=m.cells/\rw=x.count
 |((none,_),v,x,m)=>ve=1/\pl=0/\va=lastV v/\st=m.steps/\ce=m.cells/\rw=x.count
def RunEnd(n:Nat)(w:World)(r:(Option Nat×Nat)×Option Vl×Xs×Mc)(w9:World):Prop:=∃ve pl va st ce rw,GEnd n (runC (n+5) (n+6) ve 0 pl va) st ce rw w9/\Below n w w9/\RunIs r ve pl va st ce rw
theorem send_of{n:Nat}{_t:ByteArray}{w w7 w8:World}{S:Sub}{G:Gh}{fs:List (Dt×Nat)}{r:(Option Nat×Nat)×Option Vl×Xs×Mc}{e:Ending}(hn:w.heap.size=n)(hS:S.fuel=20000/\S.quota=5000/\S.rewrites=500)(hG:G.mb=n+5/\G.sb=n+2/\G.cb=n+3)(hF:∀b,b<n+2\/b=n+7\/b=n+8\/b=n+9->G.F b)
  (hlo:∀b,b<n->w7.heap[b]? =w.heap[b]?)(ho:w7.os=w.os/\w7.tape=w.tape/\w7.output=w.output)(hrs:w7.heap[n+1]? =some (.cells (resC 0 0 0 ⟨#[]⟩ 0 0 0) 29 (0,0)))(hbx:w7.heap[n+8]? =some (.cells #[bp (n+7)] 106 (0,0)))
  (h:DPost G S w7 (n+7) (n+6) fs r e w8):SEnd (n+8) (n+7) (n+5) (n+6) (RunEnd n w r) e w8:=by
 obtain⟨g1,g2,g3⟩:=hG;obtain⟨s1,s2,s3⟩:=hS;have key:∀{m:Mc} {x:Xs} {pl:Int} {va:ByteArray},DEnd G S w7 (n+7) (n+6) m x pl va w8->GEnd n (runC (n+5) (n+6) 0 0 pl va) m.steps m.cells x.count w8/\Below n w w8/\w8.cell? ⟨n+8,0,none⟩=some (bp (n+7)):=fun {m x pl va} d=>by
  obtain⟨d1,d2,d3,d4,d5,d6,gv,wp,d7⟩:=d;rw[g1]at d1;rw[g2,s1]at d2;rw[g3,s2]at d3;rw[s3]at d4;rw[g1,g2,g3]at d7;have hsz:n+7<w8.heap.size:=(Array.getElem?_eq_some_iff.1 d1).1;refine⟨⟨d1,d2,d3,d4,⟨_,_,_,d7⟩,by rw[d5 (hF _ (by omega)) (by omega)];exact hrs⟩,⟨d6.1.trans ho.1,d6.2.1.trans ho.2.1,d6.2.2.trans ho.2.2,by omega,fun b hb=>by rw[d5 (hF _ (by omega)) (by omega)];exact hlo b hb⟩,?_⟩;have:w8.heap[n+8]? =some (.cells #[bp (n+7)] 106 (0,0)):=by rw[d5 (hF _ (by omega)) (by omega)];exact hbx
  simp only[World.cell?,this];rfl
 have bset:∀{W:World} {o:Nat} {v:Value},Below n w W->Below n w (W.setCell ⟨n+7,o,none⟩ v):=fun h=>qaq h (by omega)
 have blk:∀{W W':World},Below n w W->Lk W W'->Below n w W':=fun h hl=>h.trans (bl0' hl (by have:=h.size;omega))
 match r,h with
 |((some vd,p),_,x,m),⟨raised,va,he,h14,h14',d⟩=>
  obtain⟨k1,k2,k3⟩:=key d;refine .inl ⟨vd,raised,p,va,he,k3,k1.rk,fun w9 hl=>⟨vd,p,raised,m.steps,m.cells,x.count,?_,?_,rfl,rfl,h14,h14',rfl,rfl,rfl⟩⟩
  ·exact(((k1.alloc _).set (o:=2) (v:=.int .i64 vd)).set (o:=5) (v:=.string raised)).lk hl
  ·exact blk (bset (bset (k2.alloc (by have:=k2.size;omega) _))) hl
 |((none,_),v,x,m),⟨pl,he,d⟩=>
  obtain⟨k1,k2,k3⟩:=key d;refine .inr ⟨pl,lastV v,he,k3,k1.rk,fun w9 hl=>⟨1,0,lastV v,m.steps,m.cells,x.count,?_,?_,rfl,rfl,rfl,rfl,rfl,rfl⟩⟩
  ·exact(((k1.set (o:=2) (v:=.int .i64 1)).set (o:=4) (v:=.int .i64 0)).alloc _).lk hl
  ·exact blk ((bset (bset k2)).alloc (by have:=k2.size;simp only[qaf];omega) _) hl
end
section
open Sc
def mStart:Mc:={({}:Mc)with glob:=puts world0 (globs Pm.most)}
theorem Lay.ks{t:ByteArray}{w W:World}(l:Lay t w W):Ks (w.heap.size+8) (w.heap.size+7) (w.heap.size+5) t W:=by
 refine⟨?_,?_,?_,?_,?_⟩
 ·simp only[World.cell?,l.bx];rfl
 ·simp only[World.cell?,l.sub];rfl
 ·simp only[World.cell?,l.sub];rfl
 ·simp only[World.cell?,l.sub];rfl
 ·simp only[World.cell?,l.rk];rfl
theorem syn0{S:Sub}(X:Xe)(G:Gh)(w:World)(x:Xs)(F:Nat)(d d':Dt)(x':Xs)(i:XInv K0 X G S x [] w)(h:rewr S F x [] d=(.ok d',x'))(hd:¬isSyn d):¬isSyn d':=by
 obtain⟨_,_,_,_,_,hm⟩:=i.mc;have e:=rewr0 (S:=S) (sc:=[]) (d:=d) (F:=F) (mc0 hm) (by rw[h];exact nofun);rw[h]at e;obtain⟨rfl,_⟩:d'=d/\x'=x:=by simpa using e
 exact hd
theorem names0:∀p,p∈world0->p.1∉Pm.most.map Pm.name:=by decide
theorem sub_of{t:ByteArray}{w w1:World}{S:Sub}(hS:S.fuel=20000/\S.quota=5000/\S.rewrites=500)(hT:GT w)(hV:Rd.GV w)(h6:6<=w.heap.size)(hs:t.size<=1200)(fs:List (Dt×Nat))(rr:List UInt8)(htop:Py.topP (2*t.size+2) (Rd.L t 0)=.inr (fs,rr))(hns:∀f,f∈fs->¬isSyn f.1)
  (hne:(deal S (fs.map fun f=>(f.1,t.size-f.2)) none {} mStart).1.1≠some 0)(hw:Lk (gradeW t w) w1):
  Calls prog 56 #[bp (w.heap.size+7),.agg (subC t)] w1 fun e w2=>e=.returned (.tuple #[])/\RunEnd w.heap.size w (deal S (fs.map fun f=>(f.1,t.size-f.2)) none {} mStart) w2:=by
 have hz1:w1.heap.size=w.heap.size+8:=by rw[hw.heap];simp[gradeW]
 refine qe6 (w.heap.size+7) (w.heap.size+5) (w.heap.size+6) t w1 _ (by omega) fun w2 hw2=>?_
 have lay:=lay_of hw hw2;have hz2:w2.heap.size=w.heap.size+11:=by rw[hw2.heap];simp[hz1]
 rw[hz1];have hV2:Rd.GV w2:=GV.below hV lay.lo h6;have hread:=Rd.text_any t w2 hs hV2 (by omega);rw[htop]at hread;refine qmm (w.heap.size+7) t w2 _ (Calls.mono hread ?_);rintro e w3 ⟨hb3,es,a,cap,rfl,hown,hmem,hpl,hlen⟩;rw[hz2]at hb3 hown hmem;have lay3:=lay.below hb3;refine⟨a,es.length,cap,rfl,lay3.ks,fun w4 hw4=>?_⟩;have hb4:Below (w.heap.size+11) w3 w4:=bl0' hw4 lay3.sz;have lay4:=lay3.below hb4;have i0:Inv (ghost0 w.heap.size w4) S {} w4:=qpa ⟨hS.1,hS.2.1⟩ lay4.sb lay4.cb lay4.mp lay4.mb lay4.sz;have p0:PSt (ghost0 w.heap.size w4) w4 S none [] 0 w4:=⟨_,i0,rfl,rfl,Mv.refl _ _,nofun⟩;refine Calls.mono (qoc (ghost0 w.heap.size w4) w4 S (fun _=>rfl) p0) ?_;rintro e w5 ⟨rfl,G5,i5,_,hB5,mv5,_⟩;have F5:G5.F=fun b=>b<w.heap.size+2\/b=w.heap.size+7\/b=w.heap.size+8\/b=w.heap.size+9:=mv5.up.F
 have W5:G5.W=w4:=mv5.up.W;have k5:∀b,b<w.heap.size+2\/b=w.heap.size+7\/b=w.heap.size+8\/b=w.heap.size+9->w5.heap[b]? =w4.heap[b]?:=fun b hb=>by
  have:=(i5.ff (b:=b) (by rw[F5];exact hb)).1;rw[W5]at this;exact this
 have ks:∀W:World,(∀b,b<w.heap.size+2\/b=w.heap.size+7\/b=w.heap.size+8\/b=w.heap.size+9->W.heap[b]? =w4.heap[b]?)->Ks (w.heap.size+8) (w.heap.size+7) (w.heap.size+5) t W:=fun W hk=>by
  have q1:=(hk _ (.inr (.inr (.inl rfl)))).trans lay4.bx;have q2:=(hk _ (.inr (.inr (.inr rfl)))).trans lay4.sub;have q3:=(hk _ (.inr (.inl rfl))).trans lay4.rk;refine⟨?_,?_,?_,?_,?_⟩
  ·simp only[World.cell?,q1];rfl
  ·simp only[World.cell?,q2];rfl
  ·simp only[World.cell?,q2];rfl
  ·simp only[World.cell?,q2];rfl
  ·simp only[World.cell?,q3];rfl
 refine⟨rfl,ks w5 k5,fun w6 hw6=>?_⟩;have hmb5:G5.mb=w.heap.size+5:=mv5.up.le.mb;have key:=qm9 (Inv.lk hw6 i5) (fun p hp=>by rw[hB5];exact names0 p hp);rw[hmb5]at key;refine Calls.mono key ?_;rintro e w7 ⟨rfl,G7,i7,_,mv7⟩;have i7:Inv G7 S mStart w7:=i7;have F7:G7.F=fun b=>b<w.heap.size+2\/b=w.heap.size+7\/b=w.heap.size+8\/b=w.heap.size+9:=mv7.up.F.trans F5
 have W7:G7.W=w4:=mv7.up.W.trans W5;have k7:∀b,b<w.heap.size+2\/b=w.heap.size+7\/b=w.heap.size+8\/b=w.heap.size+9->w7.heap[b]? =w4.heap[b]?:=fun b hb=>by
  have:=(i7.ff (b:=b) (by rw[F7];exact hb)).1;rw[W7]at this;exact this
 refine⟨rfl,ks w7 k7,fun w8 hw8=>?_⟩;have i8:=Inv.lk hw8 i7;have k8:∀b,b<w.heap.size+2\/b=w.heap.size+7\/b=w.heap.size+8\/b=w.heap.size+9->w8.heap[b]? =w4.heap[b]?:=fun b hb=>by rw[hw8.heap];exact k7 b hb
 have hle:(ghost0 w.heap.size w4).le G7:=mv5.up.le.trans mv7.up.le;have s4:=lay4.sz;have s46:w4.heap.size<=w6.heap.size:=by rw[hw6.heap];exact mv5.size
 have gI:∀b,w.heap.size+11<=b->∀o,w3.heap[b]? =some o->G7.I b=some o:=fun b hb o ho=>hle.I (by
  show(if w.heap.size+11<=b then w4.heap[b]? else none)=some o;rw[if_pos hb,hw4.heap];exact ho)
 have hlf:es.length=fs.length:=by have:=congrArg List.length hpl;simpa using this
 have hwt:wtL (fs.map (·.1))<=12000:=by
  have h1:=topP_wt _ _ _ _ htop;have h2:(Rd.L t 0).length=t.size:=by show(t.data.toList.drop 0).length=_;simp
  omega
 have hwm:∀f,f∈fs->wt f.1<=12000:=fun f hf=>Nat.le_trans (wt_mem (List.mem_map.2 ⟨f,hf,rfl⟩)) hwt
 have hlen':(fs.map fun f=>(f.1,t.size-f.2)).length=es.length:=by simp[hlf]
 have hexk:∀k,k<es.length->∃x f,es[k]? =some x/\fs[k]? =some f/\x.2=((t.size-f.2:Nat):Int):=fun k hk=>by
  have hk':k<fs.length:=by omega
  refine⟨es[k],fs[k],List.getElem?_eq_getElem hk,List.getElem?_eq_getElem hk',?_⟩;have:=congrArg (fun l=>l[k]?) hpl;simp only[List.getElem?_map,List.getElem?_eq_getElem hk,List.getElem?_eq_getElem hk',Option.map_some]at this;injection this
 have key2:=deal_of (K:=K0) (qra S) (.inr syn0) G7 mStart w8 (w.heap.size+7) (w.heap.size+6) a cap (fs.map fun f=>(f.1,t.size-f.2)) (fun k=>match es[k]? with|some x=>dlOf x.1|none=>⟨0,0,false,⟨#[]⟩,0,none,0,0⟩) i8 (by rw[F7];exact .inr (.inl rfl)) (by omega) ?tw ?rb (by rw[hS.2.2];omega) ?rb' ?bk ?row ?dd ?mb (.inr ?ns) (by rw[hlen'];omega) hne
 case tw=>
  refine⟨fun b hb=>by rw[F7];exact .inl (by omega),?_⟩;rw[W7];exact hT.keep (lay4.lo.block 0 (by omega))
 case rb=>
  rw[hS.2.2];refine lay4.rb.keep ?_;have n0:w.heap.size+6∉(ghost0 w.heap.size w4).mut:=by rw[qcs];simp
  have n5:w.heap.size+6∉G5.mut:=fun h=>(mv5.mu h).elim n0 (fun h=>by omega)
  rw[hw8.heap,mv7.blk (by omega) n5,hw6.heap,mv5.blk (by omega) n0]
 case rb'=>
  have n0:w.heap.size+6∉(ghost0 w.heap.size w4).mut:=by rw[qcs];simp
  have n5:w.heap.size+6∉G5.mut:=fun h=>(mv5.mu h).elim n0 (fun h=>by omega)
  refine⟨?_,fun h=>(mv7.mu h).elim n5 (fun h=>by omega),by rw[F7];omega⟩;rw[mv7.I (by omega),mv5.I (by omega)];exact if_neg (by omega)
 case bk=>
  have hm7:G7.mb=w.heap.size+5:=mv7.up.le.mb.trans hmb5;rw[hm7,k8 _ (.inr (.inl rfl))];exact lay4.rk
 case row=>
  intro k hk;rw[hlen']at hk;obtain⟨x,f,hx,hf,hp⟩:=hexk k hk;obtain⟨gg,arr,q1,q2,q3,q4,q5⟩:=row_of hown k x hx;refine⟨gg,0,arr,q1,gI gg q2 _ q3,fun j hj=>?_,?_⟩
  ·simp only[hx];exact q4 j hj
  ·rw[q5,hp];simp[List.getElem?_map,hf]
 case dd=>
  intro k f hf;rw[List.getElem?_map]at hf;obtain⟨f0,hf0,rfl⟩:=Option.map_eq_some_iff.1 hf;have hk:k<es.length:=by have:=(List.getElem?_eq_some_iff.1 hf0).1;omega
  obtain⟨x,f1,hx,hf1,_⟩:=hexk k hk;rw[hf0]at hf1;cases hf1;simp only[hx];exact qke (fun g arr hg hq=>gI g hg _ hq) (hmem.all k x.1 f0.1 (by simp[hx]) (by simp[hf0])) (by have:=hwm f0 (List.mem_of_getElem? hf0);omega)
 case mb=>
  intro f hf;obtain⟨f0,hf0,rfl⟩:=List.mem_map.1 hf;have h1:=hwm f0 hf0;have h2:=qfm f0.1;show members f0.1<=_;omega
 case ns=>
  intro f hf;obtain⟨f0,hf0,rfl⟩:=List.mem_map.1 hf;exact hns f0 hf0
 rw[hlen']at key2;refine Calls.mono key2 ?_;intro e w9 hd;have hm7:G7.mb=w.heap.size+5:=mv7.up.le.mb.trans hmb5;have o8:w8.os=w.os/\w8.tape=w.tape/\w8.output=w.output:=by
  have f:=i8.fo;rw[W7]at f;exact⟨f.1.trans lay4.lo.os,f.2.1.trans lay4.lo.tape,f.2.2.trans lay4.lo.output⟩
 exact send_of (_t:=t) rfl ⟨hS.1,hS.2.1,hS.2.2⟩ ⟨hm7,mv7.up.le.sb.trans mv5.up.le.sb,mv7.up.le.cb.trans mv5.up.le.cb⟩ (fun b hb=>by rw[F7];exact hb) (fun b hb=>by rw[k8 b (.inl (by omega))];exact lay4.lo.block b hb) o8 (by rw[k8 _ (.inl (by omega))];exact lay4.rs) (by rw[k8 _ (.inr (.inr (.inl rfl)))];exact lay4.bx) hd
end
section
open Sc
def Graded(r:(Option Nat×Nat)×Option Vl×Xs×Mc)(w:World)(e:Ending)(w':World):Prop:=∃ve pl va st ce rw,e=.returned (.agg (resC ve 0 pl va st ce rw))/\RunIs r ve pl va st ce rw/\Below w.heap.size w w'
theorem qsj{t:ByteArray}{w:World}{S:Sub}(hS:S.fuel=20000/\S.quota=5000/\S.rewrites=500)(hT:GT w)(hV:Rd.GV w)(h6:6<=w.heap.size)(hs:t.size<=1200)(fs:List (Dt×Nat))(rr:List UInt8)(htop:Py.topP (2*t.size+2) (Rd.L t 0)=.inr (fs,rr))(hns:∀f,f∈fs->¬isSyn f.1)
  (hne:(deal S (fs.map fun f=>(f.1,t.size-f.2)) none {} mStart).1.1≠some 0):Calls prog 37 #[.agg (subC t)] w (Graded (deal S (fs.map fun f=>(f.1,t.size-f.2)) none {} mStart) w):=by
 refine qo8 t w _ fun w1 hw1=>Calls.mono (sub_of hS hT hV h6 hs fs rr htop hns hne hw1) ?_
 rintro e w2 ⟨rfl,ve,pl,va,st,ce,rw,hg,hb,hr⟩;exact⟨rfl,ve,0,pl,va,st,ce,rw,hg,hb,fun w3 hb3=>⟨ve,pl,va,st,ce,rw,rfl,hr,hb3⟩⟩
theorem new22(w:World):Calls prog 22 #[] w fun e w'=>e=.returned (bp w.heap.size)/\Below w.heap.size w w':=by
 go_enter func22,ntmps22
 go_wp2;go_ret;exact⟨rfl,qab _ _⟩
end
end Go.Proofs.YtldaocpojcfljaaGreatDoor
