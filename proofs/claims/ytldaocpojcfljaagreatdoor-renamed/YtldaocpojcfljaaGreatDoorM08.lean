import Derived.Test.YtldaocpojcfljaaGreatDoorM07
import Derived.Defers
import Derived.Recover
import Derived.Laws.ResultCell
set_option maxRecDepth 100000
set_option maxHeartbeats 4000000
namespace Go.Proofs.YtldaocpojcfljaaGreatDoor
open Tryz hiding parts
open Go.RowKit Go.Shelf
open Sc
variable {A B C G H H':Gh}{K:Rl}{N b fb n rk t:Nat}{P:Program}{S:Sub}{W u w w' w0 w1 w2:Wd}{X:Xe}{a':Act}{ce pl rw:Int}{e':En}{fc:Array Vu}{l:List Dt}{m:Mc}{o:Obj}{v0 v1 v2 v3 v4 v5 v6 v7 v8:Vu}{va:BA}{x:Xs}
theorem qsw{a b:Array Obj}{k:Nat}(h:k<a.size)(e:b[k]? =a[k]?):k<b.size:=by
 rw[Array.getElem?_eq_getElem h]at e;exact(eE.1 e).1
theorem qas{o:Nat}{c:Array Vu}{fr:Nat×Nat}{v:Vu}(h:w.heap[b]? =some (.cells c t fr)):(w.setCell ⟨b,o,none⟩ v).heap[b]? =some (.cells (c.setIfInBounds o v) t fr):=by
 simp[World.setCell,Array.getElem?_modify,h]
theorem XInv.to{sc:qaj}(i:XInv K X G S x sc w)(l:G.le H)(f:∀b,b∈[X.rb,X.mm,X.ab,X.bm]\/X.Rw b->w'.heap[b]? =w.heap[b]?/\H.I b=none/\b∉H.mut/\¬H.F b)(B:X.lo<=w'.heap.size):XInv K X H S x sc w':=by
 have j:∀b,b∈[X.rb,X.mm,X.ab,X.bm]->w'.heap[b]? =w.heap[b]?:=λb a=>(f b (.inl a)).1
 obtain⟨L,k,d⟩:=i.bd;obtain⟨es,c,M,m,n,o⟩:=i.mc;refine⟨by rw[l.mb];exact l.I i.xe,i.mt.keep (j _ (by simp)),i.ml,by rw[j _ (by simp)];exact i.ab,⟨L,⟨?_,k.2.1,λp v=>?_,k.2.2.2⟩,d⟩,λb a=>?_,⟨es,c,M,by rw[j _ (by simp)];exact m,n,o.mono l⟩,λb a=>?_,i.nd,B,i.sz⟩
 ·rw[j _ (by simp)];exact k.1
 ·have y:=k.2.2.1 p v;refine⟨y.1,?_⟩;rcases y.2 with h|⟨g,cap,q,z,a,C,D⟩
  ·exact .inl h
  ·have e:g∈L.filterMap (·.2.ownBlock):=List.mem_filterMap.2 ⟨p,v,by rw[z];rfl⟩;exact .inr ⟨g,cap,q,z,a,by rw[(f g (.inr (d g e))).1];exact C,D⟩
 ·obtain⟨E,J,r,A,O⟩:=i.rr b a;obtain⟨N,s,t,u⟩:=f b (.inr a);exact⟨s,t,r,qsw A N,u⟩
 ·obtain⟨E,J,r,A⟩:=i.lo b a;obtain⟨_,s,t,u⟩:=f b (.inl a);exact⟨s,t,r,u⟩
theorem XInv.lts{sc:qaj}(i:XInv K X G S x sc w)(h:b∈[X.rb,X.mm,X.ab,X.bm]\/X.Rw b):b<w.heap.size/\G.I b=none/\b∉G.mut/\¬G.F b:=by
 rcases h with h|h
 ·obtain⟨a,c,e,d⟩:=i.lo b h;exact⟨eW e i.sl,a,c,d⟩
 ·obtain⟨a,c,_,d,f⟩:=i.rr b h;exact⟨d,a,c,f⟩
def qkc(mb rb:Nat)(ve re pl:Int)(va:BA):Array Vu:=#[bp mb,bp rb,.int .i64 ve,.int .i64 re,.int .i64 pl,.string va,.string ⟨#[]⟩,.int .i64 0,.int .i64 0,.int .i64 0,.slice none 0 0]
structure DSt (K:Rl) (G:Gh) (S:Sub) (w0:Wd) (rk:Nat) (X:Xe) (H:Gh) (m:Mc) (x:Xs) (pl:Int) (va:BA) (w:Wd):Prop where
 g:Inv H S m w
 i:XInv K X H S x [] w
 le:G.le H
 F:H.F=G.F
 lo:X.lo<=X.xb+1
 bk:w.heap[rk]? =some (.cells (qkc G.mb X.rb 0 0 pl va) 112 (0,0))
 kp:∀{b:Nat},G.F b->b≠rk->w.heap[b]? =w0.heap[b]?
 fo:w.os=w0.os/\w.tape=w0.tape/\w.output=w0.output
theorem DSt.move{k:Int}{l:BA}(d:DSt K G S w0 rk X H m x pl va w)(c:G.F rk)(p:∀b,b<w.heap.size->b≠rk->w1.heap[b]? =w.heap[b]?)(s:w1.heap[rk]? =some (.cells (qkc G.mb X.rb 0 0 k l) 112 (0,0)))(q:w.heap.size<=w1.heap.size)(n:w1.os=w.os/\w1.tape=w.tape/\w1.output=w.output):
  DSt K G S w0 rk X (H.at w1 G.F) m x k l w1:=by
 have hF:∀b,G.F b->b<w.heap.size/\b∉H.mut/\H.I b=none:=λb a=>by
  have f:H.F b:=by rw[d.F];exact a
  exact⟨(d.g.ff f).2,λh=>d.g.fm h f,d.g.fi f⟩
 have t:Inv (H.at w (λb=>G.F b/\b≠rk)) S m w:=d.g.at ⟨rfl,rfl,rfl⟩ λb a=>⟨(hF b a.1).1,rfl,(hF b a.1).2.1,(hF b a.1).2.2⟩
 have u:Inv (H.at w (λb=>G.F b/\b≠rk)) S m w1:=t.turns (λj v o=>p j v λe=>o (by subst e;exact⟨(hF j c).2.2,(hF j c).2.1,λh=>h.2 rfl⟩)) q n;have y:Inv ((H.at w (λb=>G.F b/\b≠rk)).at w1 G.F) S m w1:=u.at ⟨rfl,rfl,rfl⟩ λb a=>⟨eW (hF b a).1 q,rfl,(hF b a).2.1,(hF b a).2.2⟩
 refine⟨y,d.i.to (H.le_at _ _) (λb a=>?_) (eT d.i.sl q),d.le.trans (H.le_at _ _),rfl,d.lo,s,fun {b} a o=>by rw[p b (hF b a).1 o];exact d.kp a o,by rw[n.1,n.2.1,n.2.2];exact d.fo⟩;obtain⟨z,A,B,r⟩:=d.i.lts a;rw[d.F]at r;exact⟨p b z λe=>r (e▸c),A,B,r⟩
structure DEnd (G:Gh) (S:Sub) (w0:Wd) (rk rb:Nat) (m:Mc) (x:Xs) (pl:Int) (va:BA) (w:Wd):Prop where
 bk:w.heap[rk]? =some (.cells (qkc G.mb rb 0 0 pl va) 112 (0,0))
 st:Mt G.sb m.steps S.fuel 10 w
 ce:Mt G.cb m.cells S.quota 11 w
 rw:Mt rb x.count S.rewrites 12 w
 kp:∀{b:Nat},G.F b->b≠rk->w.heap[b]? =w0.heap[b]?
 fo:w.os=w0.os/\w.tape=w0.tape/\w.output=w0.output
 mb:∃gv wp,w.heap[G.mb]? =some (.cells #[bp G.sb,bp G.cb,.map (some G.mp),gv,wp] 119 (0,0))
theorem DSt.fin(d:DSt K G S w0 rk X H m x pl va w):DEnd G S w0 rk X.rb m x pl va w:=
 ⟨d.bk,by rw[<-d.le.sb];exact d.g.st,by rw[<-d.le.cb];exact d.g.ce,d.i.mt,d.kp,d.fo,by obtain⟨a,b,h,_⟩:=d.g.ma;rw[d.le.mb,d.le.sb,d.le.cb,d.le.mp]at h;exact⟨a,_,h⟩⟩
theorem DSt.cnt{c:Mc}{x':Xs}(d:DSt K G S w0 rk X (H.at w G.F) m x pl va w)(b:G.F rk)(a:Cnt (H.at w G.F) S c w')(f:Mt X.rb x'.count S.rewrites 12 w'):DEnd G S w0 rk X.rb c x' pl va w':=
 ⟨(a.ff b).trans d.bk,by rw[<-d.le.sb];exact a.st,by rw[<-d.le.cb];exact a.ce,f,λe g=>(a.ff e).trans (d.kp e g),by obtain⟨i,j,k⟩:=a.fo;exact⟨i.trans d.fo.1,j.trans d.fo.2.1,k.trans d.fo.2.2⟩,by obtain⟨l,n,h⟩:=a.mb;rw[d.le.mb,d.le.sb,d.le.cb,d.le.mp]at h;exact⟨l,n,h⟩⟩
def qp7(v:Option Vl):BA:=match v with|some v=>⟨((Sc.wr v).take 1200).toArray⟩|none=>⟨#[]⟩
def q3x(G:Gh)(S:Sub)(w0:Wd)(rk rb:Nat)(_fs:List (Dt×Nat))(r:(Option Nat×Nat)×Option Vl×Xs×Mc)(e:En)(w:Wd):Prop:=match r with
 |((some vd,p),_,x,m)=>∃raised va,e=.panicked (qan (.iface 166 (.agg #[.int .i64 (vd:Int),.string raised])))/\(vd≠14->raised=⟨#[]⟩)/\(vd=14->raised=⟨m.raised.toArray⟩\/raised=⟨#[]⟩)/\DEnd G S w0 rk rb m x p va w
 |((none,_),v,x,m)=>∃pl,e=.returned (.tuple #[])/\DEnd G S w0 rk rb m x pl (qp7 v) w
theorem q2f{rb:Nat}(g:Inv G S m w)(e:Mt rb 0 S.rewrites 12 w)(f:0<=S.rewrites/\S.rewrites<=100000)(a:G.I rb=none/\rb∉G.mut/\¬G.F rb)
  (c:Lk ((((w.alloc (.map #[] 0)).alloc (.map #[] 0)).alloc (.cells #[.int .i64 0,.map (some (w.heap.size+1))] 329)).alloc (.cells #[bp G.mb,bp rb,.map (some w.heap.size),bp (w.heap.size+2)] 331)) w2):
  ∃X H,X.xb=w.heap.size+3/\X.rb=rb/\Inv H S m w2/\XInv K X H S {} [] w2/\G.le H/\H.F=G.F/\X.lo<=X.xb+1:=by
 have j:=e.lt;have b1:=qaa w (.map #[] 0);have o:Below w.heap.size w (((w.alloc (.map #[] 0)).alloc (.map #[] 0)).alloc (.cells #[.int .i64 0,.map (some (w.heap.size+1))] 329)):=(b1.alloc (by simp) _).alloc (by simp;omega) _;have u:Below w.heap.size w ((((w.alloc (.map #[] 0)).alloc (.map #[] 0)).alloc (.cells #[.int .i64 0,.map (some (w.heap.size+1))] 329)).alloc (.cells #[bp G.mb,bp rb,.map (some w.heap.size),bp (w.heap.size+2)] 331)):=o.alloc (by simp;omega) _;have q:=Inv.lk c ((g.below o).alloc (.cells #[bp G.mb,bp rb,.map (some w.heap.size),bp (w.heap.size+2)] 331));have k:(((w.alloc (.map #[] 0)).alloc (.map #[] 0)).alloc (.cells #[.int .i64 0,.map (some (w.heap.size+1))] 329)).heap.size=w.heap.size+3:=by simp
 rw[k]at q;have r:=eN (w.alloc (.map #[] 0)) (.map #[] 0);have s:=eN ((w.alloc (.map #[] 0)).alloc (.map #[] 0)) (.cells #[.int .i64 0,.map (some (w.heap.size+1))] 329);have e1:(w.alloc (.map #[] 0)).heap.size=w.heap.size+1:=by simp
 have e2:((w.alloc (.map #[] 0)).alloc (.map #[] 0)).heap.size=w.heap.size+2:=by simp
 rw[e1]at r;rw[e2]at s;have v:w2.heap[w.heap.size]? =some (.map #[] 0):=by rw[c.heap,eH _ _ _ (by simp;omega),eH _ _ _ (by simp;omega),eH _ _ _ (by simp)];exact eN _ _
 have x:w2.heap[w.heap.size+1]? =some (.map #[] 0):=by rw[c.heap,eH _ _ _ (by simp),eH _ _ _ (by simp)];exact r
 have y:w2.heap[w.heap.size+2]? =some (.cells #[.int .i64 0,.map (some (w.heap.size+1))] 329 (0,0)):=by rw[c.heap,eH _ _ _ (by simp)];exact s
 have z:w2.heap.size=w.heap.size+4:=by rw[c.heap];simp
 have l:G.le (G.add (w.heap.size+3) (.cells #[bp G.mb,bp rb,.map (some w.heap.size),bp (w.heap.size+2)] 331)):=Gh.le_add (g.fresh (by omega));have new:∀b,w.heap.size<=b->b<w.heap.size+3->(G.add (w.heap.size+3) (.cells #[bp G.mb,bp rb,.map (some w.heap.size),bp (w.heap.size+2)] 331)).I b=none/\b∉G.mut/\b<w.heap.size+4/\¬G.F b:=λb n t=>
  ⟨by rw[qah _ (by omega)];exact g.fresh n,λh=>by have:=g.ml h;omega,by omega,λh=>by have:=(g.ff h).2;omega⟩
 refine⟨⟨w.heap.size+3,rb,w.heap.size,w.heap.size+2,w.heap.size+1,w.heap.size+4,λ_=>False⟩,_,rfl,rfl,q,?_,l,rfl,eR _⟩;refine⟨Gh.add_at _ _ _,?_,⟨f.1,f.2⟩,y,⟨[],⟨⟨#[],0,x,rfl,by simp,by simp⟩,by simp,λp A=>by simp at A,λi _=>rfl,by simp⟩,λb d=>by simp at d⟩,λb d=>d.elim,⟨#[],0,[],v,rfl,.nil⟩,λb d=>?_,?_,by show w.heap.size+4<=_;omega,by simp⟩
 ·exact e.keep (by rw[c.heap];exact u.block _ j)
 ·simp only[List.mem_cons,List.not_mem_nil,or_false]at d;rcases d with rfl|rfl|rfl|rfl
  ·exact⟨by rw[qah _ (by omega)];exact a.1,a.2.1,by show _<w.heap.size+4;omega,a.2.2⟩
  ·exact new _ (by omega) (by omega)
  ·exact new _ (by omega) (by omega)
  ·exact new _ (by omega) (by omega)
 ·have n:rb≠w.heap.size:=by omega
  have t:rb≠w.heap.size+2:=by omega
  have B:rb≠w.heap.size+1:=by omega
  simp[n,t,B]
theorem q05(hR:qh1 K S)(hS:qiz K S\/∀(X:Xe) (G:Gh) (w:Wd) (x:Xs) (F:Nat) (d d':Dt) (x':Xs),XInv K X G S x [] w->qf5 S F x [] d=(.ok d',x')->¬qm6 d->¬qm6 d')(G:Gh)(m0:Mc)(w:Wd)(rk rb:Nat)(ga:OA)(cap:Nat)(fs:List (Dt×Nat))(dk:Nat->Dl)(g:Inv G S m0 w)(q:G.F rk)(A:6<=rk)(tw:TabW G)
  (d0:Mt rb 0 S.rewrites 12 w)(d2:0<=S.rewrites/\S.rewrites<=100000)(b5:G.I rb=none/\rb∉G.mut/\¬G.F rb)(U:w.heap[rk]? =some (.cells (qkc G.mb rb 0 0 0 ⟨#[]⟩) 112 (0,0)))
  (b6:∀k,k<fs.length->∃gg o V,ga=some ⟨gg,o,none⟩/\G.I gg=some (.cells V 136 (0,0))/\(∀j,j<6->V[o+k*7+j]? =(dk k).cells[j]?)/\V[o+k*7+6]? =some (.int .i64 ((fs[k]?.map (·.2)).getD 0:Nat)))
  (hd:∀k f,fs[k]? =some f->DRep G f.1 (dk k))(d3:∀f,f∈fs->qaf f.1<=1000000000000)(d4:qiz K S\/∀f,f∈fs->¬qm6 f.1)(Z:fs.length<=1000000)(hne:(qfv S fs none {} m0).1.1≠some 0):
  Calls prog 85 #[bp rk,.slice ga fs.length cap] w (q3x G S w rk rb fs (qfv S fs none {} m0)):=by
 have d6:=(eE.1 U).1;have cR:∀{W:Wd} {pl:Int} {va:BA} (o:Nat),W.heap[rk]? =some (.cells (qkc G.mb rb 0 0 pl va) 112 (0,0))->W.cell? ⟨rk,o,none⟩=(qkc G.mb rb 0 0 pl va)[o]?:=λo h=>by simp only[World.cell?,h];rfl
 refine qxb rk G.mb rb ga fs.length cap dk (λk=>((fs[k]?.map (·.2)).getD 0:Nat)) w _ (λxb k wr=>∃X H m x v pl va,X.xb=xb/\X.rb=rb/\DSt K G S w rk X H m x pl va wr/\qfv S fs none {} m0=qfv S (fs.drop k) v x m/\(k=fs.length->va=qp7 v)) Z (cR 0 U) (cR 1 U) ?_ ?_ ?_ ?_ ?_
 ·intro w' s;refine Calls.mono (qtp G.mb rb w') ?_;rintro e w2 ⟨rfl,J⟩;refine⟨_,rfl,λw3 a=>?_⟩;have b0:Below w.heap.size w w':=bl0 s;obtain⟨X,H,h1,h2,E,h4,h5,h6,h7⟩:=q2f (K:=K) (Inv.lk s g) (d0.keep (by rw[s.heap])) d2 b5 (qcv J a);have a2:∀b,b<w.heap.size->w3.heap[b]? =w.heap[b]?:=λb hb=>by
   rw[a.heap,J.heap];have p:b<w'.heap.size:=by rw[s.heap];exact hb
   rw[eH _ _ _ (by simp;omega),eH _ _ _ (by simp;omega),eH _ _ _ (by simp;omega),eH _ _ _ p,s.heap]
  have ho:w3.os=w.os/\w3.tape=w.tape/\w3.output=w.output:=by
   rw[a.os,a.tape,a.output,J.os,J.tape,J.output];exact⟨s.os,s.tape,s.output⟩
  refine⟨X,H,m0,{},none,0,⟨#[]⟩,h1,h2,⟨E,h4,h5,h6,h7,by rw[a2 _ d6,h2];exact U,fun {b} hb _=>a2 b (g.ff hb).2,ho⟩,by simp,λ_=>rfl⟩
 ·rintro xb k wr ⟨X,H,m,x,v,pl,va,h1,h2,d,E,h4⟩ hk;obtain⟨gg,o,V,q1,q2,q3,q4⟩:=b6 k hk;exact⟨gg,o,q1,λj hj=>by rw[d.g.cell (d.le.I q2)];exact q3 j hj,by rw[d.g.cell (d.le.I q2)];exact q4⟩
 ·rintro xb k wr ⟨X,H,m,x,v,pl,va,h1,h2,d,E,h4⟩ hk;have hb:=d.bk;rw[h2]at hb;exact⟨cR 0 hb,⟨pl,cR 4 hb⟩,λo=>by simp[World.frozen?,hb]⟩
 ·rintro xb k wr ⟨X,H,m,x,v,pl,va,rfl,rfl,d,E,h4⟩ hk w1 n;have a0:fs[k]? =some fs[k]:=eG hk;have b7:((fs[k]?.map (·.2)).getD 0:Nat)=fs[k].2:=by rw[a0];rfl
  simp only[b7]at n;have N:=List.drop_eq_getElem_cons hk;generalize hf:fs[k]=f at N n a0;obtain⟨fd,fp⟩:=f;rw[N]at E;have a9:∀b,b<wr.heap.size->b≠rk->w1.heap[b]? =wr.heap[b]?:=λb hb Z=>by
   rw[n.heap,eH _ _ _ (by rw[qag];exact hb),qab _ Z]
  have d7:rk<wr.heap.size:=(eE.1 d.bk).1;have B:DSt K G S w rk X (H.at w1 G.F) m x fp va w1:=d.move q a9 (by
   rw[n.heap,eH _ _ _ (by rw[qag];exact d7),qas d.bk];rfl) (by rw[n.heap];simp) ⟨n.os,n.tape,n.output⟩
  have b8:(top S qdx x fd).1≠.error 0:=λh=>by
   cases ht:top S qdx x fd with
   |mk tr tx=>
    rw[ht]at h;have h:tr=.error 0:=h;subst h;rw[E]at hne;simp[qfv,ht]at hne
  have a3:(fd,fp)∈fs:=List.mem_of_getElem? a0;have d8:GT w:=TabW.now tw g;have d9:GT w1:=d8.keep (B.kp (tw.1 0 (by omega)) (by omega));refine Calls.mono (q1p (f:=qdx) hR hS X (H.at w1 G.F) m x w1 fd (dk k) B.g B.i ((hd k _ a0).mono B.le) (d3 _ a3) (eR _) b8 (d4.imp id λh=>h _ a3)) ?_;rintro e2 w2 (⟨vd,x',u,rfl,hc,e0⟩|⟨Y,L,ex,x',vv,u,rfl,mx,gL,iL,hcode⟩)
  ·refine .inl ⟨_,rfl,?_⟩;rw[E];simp only[qfv,u];exact⟨⟨#[]⟩,va,rfl,λ_=>rfl,λ_=>.inr rfl,B.cnt q hc e0⟩
  ·have b1:L.F=G.F:=mx.up.F;have b9:L.W=w1:=mx.up.W;have k2:∀b,G.F b->w2.heap[b]? =w1.heap[b]?:=λb hb=>by
    have:=(gL.ff (b:=b) (by rw[b1];exact hb)).1;rw[b9]at this;exact this
   have o2:w2.os=w1.os/\w2.tape=w1.tape/\w2.output=w1.output:=by have:=gL.fo;rw[b9]at this;exact this
   obtain⟨s1,s2,s3,s4,s5,s6⟩:=mx.same;have c0:=(k2 rk q).trans B.bk;have a4:∃kx cx,vv=.func (.func kx) #[] cx:=by
    rcases hcode with⟨_,h⟩|h
    ·exact⟨_,_,h⟩
    ·obtain⟨kk,cc,h,_⟩:=h.isF;exact⟨kk,cc,h⟩
   have b2:wr.heap.size<w1.heap.size:=by rw[n.heap];simp
   have c1:w1.heap[wr.heap.size]? =some (.cells ((dk k).cells++#[.int .i64 ((fs[k]?.map (·.2)).getD 0:Nat)]) 136 (0,0)):=by
    rw[b7,hf,n.heap];have:=eN (wr.setCell ⟨rk,4,none⟩ (.int .i64 (fp:Int))) (.cells ((dk k).cells++#[.int .i64 (fp:Int)]) 136);rw[qag]at this;exact this
   have c2:wr.heap.size∉(H.at w1 G.F).mut:=λh=>by have:=d.g.ml (b:=wr.heap.size) h;omega
   have c3:∀b,b∈[X.rb,X.mm,X.ab,X.bm]\/X.Rw b->b≠wr.heap.size:=λb hb e=>by have:=(d.i.lts hb).1;omega
   have b3:w2.heap[wr.heap.size]? =w1.heap[wr.heap.size]?:=mx.blk b2 c2 (λh=>c3 _ (.inl h) rfl) (λh=>c3 _ (.inr h) rfl);have e1:L.I wr.heap.size=none:=by rw[mx.I b2];exact d.g.fresh (eR _)
   have e3:wr.heap.size∉L.mut:=λh=>(mx.mu h).elim c2 (λh=>by omega)
   refine .inr ⟨vv,rfl,a4,cR 0 c0,b3.trans c1,λw3 a=>?_⟩;have a1:=Inv.lk a gL;have O:=iL.below (bl0 a);have g3:Inv (L.at w3 (λb=>G.F b\/(b∈[Y.rb,Y.mm,Y.ab,Y.bm]\/Y.Rw b)\/b=wr.heap.size)) S m w3:=a1.at ⟨rfl,rfl,rfl⟩ λb hb=>by
    rcases hb with hb|hb|rfl
    ·have p:L.F b:=by rw[b1];exact hb
     exact⟨(a1.ff p).2,rfl,λh=>a1.fm h p,a1.fi p⟩
    ·obtain⟨q1,q2,q3,_⟩:=O.lts hb;exact⟨q1,rfl,q3,q2⟩
    ·exact⟨by rw[a.heap];exact qsw b2 b3,rfl,e3,e1⟩
   have k3:∀b,G.F b->w3.heap[b]? =w1.heap[b]?:=λb hb=>by rw[a.heap];exact k2 b hb
   have c4:GT w3:=d9.keep (k3 0 (tw.1 0 (by omega)));have c5:TabW (L.at w3 (λb=>G.F b\/(b∈[Y.rb,Y.mm,Y.ab,Y.bm]\/Y.Rw b)\/b=wr.heap.size)):=⟨λb hb=>.inl (tw.1 b hb),c4⟩;have P:L.mb=G.mb:=(mx.up.le.mb).trans d.le.mb;have a5:L.sb=G.sb:=(mx.up.le.sb).trans d.le.sb;have a6:L.cb=G.cb:=(mx.up.le.cb).trans d.le.cb;generalize z:go S qdx (.ev ex none []) m=r at*;obtain⟨c',m'⟩:=r;have a7:Ct.ended c'=true:=by
    rw[E]at hne;simp only[qfv,u,z]at hne;cases c' with
    |done v=>rfl
    |stop e=>rfl
    |_=>exact absurd rfl hne
   have c6:Calls prog 143 #[bp G.mb,vv] w3 (RunOut (L.at w3 (λb=>G.F b\/(b∈[Y.rb,Y.mm,Y.ab,Y.bm]\/Y.Rw b)\/b=wr.heap.size)) S c' m'):=by
    rcases hcode with⟨rfl,rfl⟩|hcode
    ·have:=qve (q6y S) _ c5 m w3 qdx g3 (by rw[z];exact a7);rw[z]at this;have e:(L.at w3 (λb=>G.F b\/(b∈[Y.rb,Y.mm,Y.ab,Y.bm]\/Y.Rw b)\/b=wr.heap.size)).mb=G.mb:=P;rw[e]at this;exact this
    ·obtain⟨kx,cx,rfl⟩:=a4;have:=qwu (q6y S) _ c5 m w3 ex kx cx qdx g3 (hcode.mono (L.le_at _ _)) (by rw[z];exact a7);rw[z]at this;have e:(L.at w3 (λb=>G.F b\/(b∈[Y.rb,Y.mm,Y.ab,Y.bm]\/Y.Rw b)\/b=wr.heap.size)).mb=G.mb:=P;rw[e]at this;exact this
   refine Calls.mono c6 ?_;intro e4 w4 c7;cases c7 with
   |stop vd _ _ hc=>
    refine .inl ⟨_,rfl,?_⟩;rw[E];simp only[qfv,u,z];have Q:∀b,G.F b\/(b∈[Y.rb,Y.mm,Y.ab,Y.bm]\/Y.Rw b)\/b=wr.heap.size->w4.heap[b]? =w3.heap[b]?:=λb hb=>hc.ff hb
    refine⟨_,va,rfl,λh=>if_neg h,λh=>.inl (if_pos h),⟨?_,?_,?_,?_,?_,?_,?_⟩⟩
    ·rw[Q rk (.inl q),k3 rk q];exact B.bk
    ·rw[<-a5];exact hc.st
    ·rw[<-a6];exact hc.ce
    ·rw[<-s2];exact O.mt.keep (Q _ (.inr (.inl (.inl (by simp)))))
    ·intro b hb Z;rw[Q b (.inl hb),k3 b hb];exact B.kp hb Z
    ·obtain⟨f1,f2,f3⟩:=hc.fo;obtain⟨p1,p2,p3⟩:=B.fo;exact⟨f1.trans (a.os.trans (o2.1.trans p1)),f2.trans (a.tape.trans (o2.2.1.trans p2)),f3.trans (a.output.trans (o2.2.2.trans p3))⟩
    ·obtain⟨gv,wp,h⟩:=hc.mb;have h:w4.heap[L.mb]? =some (.cells #[bp L.sb,bp L.cb,.map (some L.mp),gv,wp] 119 (0,0)):=h;rw[P,a5,a6,(mx.up.le.mp).trans d.le.mp]at h;exact⟨gv,wp,h⟩
   |done v' _ _ M y hu hi hx=>
    have e5:M.F=λb=>G.F b\/(b∈[Y.rb,Y.mm,Y.ab,Y.bm]\/Y.Rw b)\/b=wr.heap.size:=hu.F
    have c8:M.W=w3:=hu.W;have Q:∀b,G.F b\/(b∈[Y.rb,Y.mm,Y.ab,Y.bm]\/Y.Rw b)\/b=wr.heap.size->w4.heap[b]? =w3.heap[b]?/\b<w4.heap.size/\b∉M.mut/\M.I b=none:=λb hb=>by
     have p:M.F b:=by rw[e5];exact hb
     have:=hi.ff p;rw[c8]at this;exact⟨this.1,this.2,λh=>hi.fm h p,hi.fi p⟩
    have b4:L.le M:=(L.le_at _ _).trans hu.le;have a8:w4.heap[rk]? =some (.cells (qkc G.mb X.rb 0 0 fp va) 112 (0,0)):=by rw[(Q rk (.inl q)).1,k3 rk q];exact B.bk
    have o4:w4.os=w.os/\w4.tape=w.tape/\w4.output=w.output:=by
     have f:=hi.fo;rw[c8]at f;obtain⟨f1,f2,f3⟩:=f;obtain⟨p1,p2,p3⟩:=B.fo;exact⟨f1.trans (a.os.trans (o2.1.trans p1)),f2.trans (a.tape.trans (o2.2.1.trans p2)),f3.trans (a.output.trans (o2.2.2.trans p3))⟩
    have dN:∀w5,Lk w4 w5->DSt K G S w rk Y (M.at w5 G.F) m' x' fp va w5:=λw5 l=>by
     have R:=Inv.lk l hi;have xl:Y.xb<w5.heap.size:=(eE.1 (R.imm (b4.I O.xe))).1;have e7:Y.lo<=Y.xb+1:=by rw[s6,s1];exact d.lo
     refine⟨R.at ⟨rfl,rfl,rfl⟩ λb hb=>?_,O.to (b4.trans (M.le_at _ _)) (λb hb=>?_) (by omega),((B.le.trans mx.up.le).trans b4).trans (M.le_at _ _),rfl,e7,by rw[l.heap,s2];exact a8,fun {b} hb Z=>?_,by rw[l.os,l.tape,l.output];exact o4⟩
     ·obtain⟨q1,q2,q3,q4⟩:=Q b (.inl hb);exact⟨by rw[l.heap];exact q2,rfl,q3,q4⟩
     ·obtain⟨q1,q2,q3,q4⟩:=Q b (.inr (.inl hb));obtain⟨_,_,_,r4⟩:=O.lts hb;rw[b1]at r4;exact⟨by rw[l.heap];exact q1,q4,q3,r4⟩
     ·rw[l.heap,(Q b (.inl hb)).1,k3 b hb];exact B.kp hb Z
    have T:qfv S fs none {} m0=qfv S (fs.drop (k+1)) (some v') x' m':=by rw[E];simp only[qfv,u,z]
    refine .inr ⟨y,rfl,hx.form,cR 0 a8,((Q _ (.inr (.inr rfl))).1.trans (by rw[a.heap];exact b3)).trans c1,λe8 w5 l=>⟨Y,_,m',x',some v',fp,va,s1,s2,dN w5 l,T,λh=>by omega⟩,λe8 w5 l=>?_⟩;have e9:GT w5:=c4.keep (by rw[l.heap];exact(Q 0 (.inl (tw.1 0 (by omega)))).1);have f0:6<=w5.heap.size:=by
     have:=(Q 5 (.inl (tw.1 5 (by omega)))).2.1;rw[l.heap];omega
    have R:=Inv.lk l hi;refine Calls.mono (qrp M v' y w5 hx e9 f0 λb c t h=>⟨R.imm h,(eE.1 (R.imm h)).1⟩) ?_;rintro e6 w6 ⟨rfl,C⟩;have d5:=dN w5 l;have c9:rk<w5.heap.size:=(eE.1 d5.bk).1;have A:w6.heap[rk]? =some (.cells (qkc G.mb X.rb 0 0 fp va) 112 (0,0)):=by
     have:=d5.bk;rw[s2]at this;rw[C.block _ c9];exact this
    refine⟨_,rfl,⟨va,cR 5 A⟩,λo=>by simp[World.frozen?,A],λw7 D=>⟨Y,_,m',x',some v',fp,⟨((Sc.wr v').take 1200).toArray⟩,s1,s2,d5.move q (λb hb Z=>?_) ?_ ?_ ?_,T,λ_=>rfl⟩⟩
    ·rw[D.heap,qab _ Z,C.block _ hb]
    ·rw[D.heap,qas A,s2];rfl
    ·rw[D.heap,qag];exact C.size
    ·rw[D.os,D.tape,D.output];exact⟨C.os,C.tape,C.output⟩
 ·rintro xb wr ⟨X,H,m,x,v,pl,va,h1,h2,d,E,h4⟩;have:=d.fin;rw[E,h4 rfl]at*;simp only[List.drop_length,qfv];rw[h2]at this;exact⟨pl,rfl,this⟩
theorem lkA{a b:Wd}(h:Lk a b)(o:Obj):Lk (a.alloc o) (b.alloc o):=⟨by show b.heap.push o=a.heap.push o;rw[h.heap],h.tape,h.os,h.output⟩
theorem Lk.lkA'{a b:Wd}(h:Lk a b)(o:Obj):Lk (a.alloc o) (b.alloc o):=lkA h o
theorem qji(a b:Int)(w:Wd):Calls prog 55 #[.int .i64 a,.int .i64 b] w λe w'=>e=.returned (bp w.heap.size)/\Lk (w.alloc (.cells #[.int .i64 0,.int .i64 a,.int .i64 b] 164)) w':=by
 go_enter func55,ntmps55
 go_wp2;go_ret;exact⟨rfl,rfl,rfl,rfl,rfl⟩
theorem qsv(a b:Int)(w:Wd):Calls prog 54 #[.int .i64 a,.int .i64 b] w λe w'=>e=.returned (bp (w.heap.size+3))/\Lk ((((w.alloc (.cells #[.int .i64 0,.int .i64 a,.int .i64 10] 164)).alloc (.cells #[.int .i64 0,.int .i64 b,.int .i64 11] 164)).alloc (.map #[] 0)).alloc (.cells #[bp w.heap.size,bp (w.heap.size+1),.map (some (w.heap.size+2)),.nilIface,.pointer none] 119)) w':=by
 have j:∀w:Wd,(Instr.makeMap 114 none).run prog w=.ok (.map (some w.heap.size)) (w.alloc (.map #[] 0)):=λw=>by simp[Instr.makeMap]
 have g:=qji a 10;have h:=qji b 11;have k:=hZ g;have l:=hZ h;clear g h;go_enter func54,ntmps54
 go_wp2_with (first|(go_at_call 55;refine(k.out _).mono ?_;rintro e w1 ⟨rfl,c⟩;have d:=hZ c;clear c)|(go_at_call 55;refine(l.out _).mono ?_;rintro e w2 ⟨rfl,c⟩;have f:=hZ c;clear c))
 go_ret;have i:w1.heap.size=w.heap.size+1:=by rw[d.out.heap];simp
 have m:w2.heap.size=w.heap.size+2:=by rw[f.out.heap];simp[i]
 rw[i,m];exact⟨rfl,qcv (((qcv (lkA d.out _) f.out).lkA' _).lkA' _) ⟨rfl,rfl,rfl,rfl⟩⟩
def qdr(t:BA):Array Vu:=#[.string t,.slice none 0 0,.slice none 0 0,.slice none 0 0,.slice none 0 0,.int .i64 0,.int .i64 20000,.int .i64 500,.int .i64 5000,.int .i64 2000]
theorem qvw(t:BA)(w:Wd):Calls prog 15 #[.string t,.int .i64 0] w λe w'=>e=.returned (.agg (qdr t))/\Below w.heap.size w w':=by
 go_enter func15,ntmps15
 go_wp2;refine bodyPost_ret (results_cell_row (p:=4) (ty:=34) (by kernel_rfl) _ _ w.heap.size 34 (qdr t) (0,0) _ rfl (eN _ _) underlying34 rfl (by kernel_rfl)) rfl ?_;exact⟨rfl,qaa _ _⟩
theorem q67(a b:Int)(w:Wd)(c:0<=a)(d:a<=b):Calls prog 130 #[.int .i64 a,.int .i64 b] w λe w'=>e=.returned (.bool true)/\w'=w:=by
 go_enter func130,ntmps130
 go_wp2;go_ret;exact⟨rfl,rfl⟩
theorem qum(t:BA)(w:Wd):Calls prog 80 #[.agg (qdr t)] w λe w'=>e=.returned (.tuple #[])/\Lk (w.alloc (.cells (qdr t) 34)) w':=by
 have a:=hZ q67;show Calls prog 80 #[.agg #[.string t,.slice none 0 0,.slice none 0 0,.slice none 0 0,.slice none 0 0,.int .i64 0,.int .i64 20000,.int .i64 500,.int .i64 5000,.int .i64 2000]] w λe w'=>e=.returned (.tuple #[])/\Lk (w.alloc (.cells (qdr t) 34)) w'
 go_enter func80,ntmps80
 go_wp2_with (go_at_call 130;refine(a.out _ _ _ (by omega) (by omega)).mono ?_;rintro e w1 ⟨rfl,rfl⟩)
 go_end0;exact⟨rfl,rfl,rfl,rfl,rfl⟩
theorem qr1(w:Wd):Calls prog 81 #[.slice none 0 0] w λe w'=>e=.returned (.slice none 0 0)/\Lk w w':=by
 go_enter func81,ntmps81
 go_wp2;go_loopw [10,3] (λc s wr=>c=.int .i64 0/\s=.slice none 0 0/\Lk w wr) (λ_ _ _=>0)
 case atStart=>exact⟨rfl,rfl,rfl,rfl,rfl,rfl⟩
 case round=>
  obtain⟨rfl,rfl,a⟩:=hrel;have b:=hZ a;clear a;go_wp2;go_ret;exact⟨rfl,b.out⟩
theorem q4y(v:Vu)(w:Wd):(Instr.typeAssert (.iface 166 v) 20 166 true).run prog w=.ok (.tuple #[v,.bool true]) w:=by kernel_rfl
theorem q0e(w:Wd):(Instr.typeAssert .nilIface 20 166 true).run prog w=.ok (.tuple #[.agg #[.int .i64 0,.string ⟨#[]⟩],.bool false]) w:=by kernel_rfl
theorem q08(q rk mb rb:Nat)(b:Int)(s:BA)(n pl:Int)(va:BA)(a:List PanicEntry)(w:Wd)(nq:q≠rk)(i:w.cell? ⟨q,0,none⟩=some (bp rk))(h:w.heap[rk]? =some (.cells (qkc mb rb 0 n pl va) 112 (0,0))):
  CallsD prog 79 #[bp q] (.panicking ({v:=.iface 166 (.agg #[.int .i64 b,.string s]),recovered:=false}::a)) w λe r w'=>
   e=.returned (.tuple #[])/\r=.panicking ({v:=.iface 166 (.agg #[.int .i64 b,.string s]),recovered:=true}::a)/\Lk (((w.alloc (.cells #[.int .i64 b,.string s] 166)).setCell ⟨rk,2,none⟩ (.int .i64 b)).setCell ⟨rk,5,none⟩ (.string s)) w':=by
 refine callsD_of_wpS func79 rfl λp cs t=>?_
 have j:#[bp q]++Array.replicate (21-(#[bp q]:Array Vu).size) undef=#[bp q,undef,undef,undef,undef,undef,undef,undef,undef,undef,undef,undef,undef,undef,undef,undef,undef,undef,undef,undef,undef]:=by kernel_rfl
 rw[ntmps79,j];apply wpS_seq;apply wpS_region;have g:recoverD (p::cs)=some (.iface 166 (.agg #[.int .i64 b,.string s]),{p with mode:=.panicking ({v:=.iface 166 (.agg #[.int .i64 b,.string s]),recovered:=true}::a)}::cs):=by simp only[recoverD,t]
 simp[wpOpsS,go_sem,g,q4y,Exit.thenS,Act.put];refine wpS_of_wp ?_;have u:=qae i;have c:(w.alloc (.cells #[.int .i64 b,.string s] 166)).heap[rk]? =some (.cells (qkc mb rb 0 n pl va) 112 (0,0)):=by rw[eH _ _ _ (eE.1 h).1];exact h
 have d:=eN w (.cells #[.int .i64 b,.string s] 166);have k:=qat (o:=.cells #[.int .i64 b,.string s] 166) i;have f:w.heap.size≠rk:=λe=>by have:=(eE.1 h).1;omega
 generalize z:w.heap.size=Z at*;generalize x:w.alloc (.cells #[.int .i64 b,.string s] 166)=W at*;have c2:W.cell? ⟨rk,2,none⟩=some (.int .i64 0):=by simp only[World.cell?,c];rfl
 have c5:W.cell? ⟨rk,5,none⟩=some (.string va):=by simp only[World.cell?,c];rfl
 have A:∀o,W.frozen? ⟨rk,o,none⟩=false:=λo=>by simp[World.frozen?,c]
 have l:W.cell? ⟨Z,0,none⟩=some (.int .i64 b):=by simp only[World.cell?,d];rfl
 have m:W.cell? ⟨Z,1,none⟩=some (.string s):=by simp only[World.cell?,d];rfl
 clear d c h x i u;go_wp2_with (fail)
 go_region_held3 (λw'=>w'.cell? ⟨q,0,none⟩=some (bp rk)/\w'.cell? ⟨Z,0,none⟩=some (.int .i64 b)/\w'.cell? ⟨Z,1,none⟩=some (.string s)) (first|(exact⟨k,l,m⟩)|(exact⟨qbx k nq,qbx l f,qbx m f⟩)|(exact⟨qbx (qbx k nq) nq,qbx (qbx l f) f,qbx (qbx m f) f⟩)|go_keep) (fail)
 have y:∀X:Wd,Lk X X.drew:=λX=>⟨rfl,rfl,rfl,rfl⟩
 all_goals(try go_wp2)
 exact⟨rfl,_,rfl,_,results_none (by kernel_rfl) _ _ _,rfl,rfl,y _⟩
theorem q2z(q:Nat)(w:Wd):CallsD prog 79 #[bp q] .returning w λe d w'=>e=.returned (.tuple #[])/\d=.returning/\Lk (w.alloc (.cells #[.int .i64 0,.string ⟨#[]⟩] 166)) w':=by
 refine callsD_of_wpS func79 rfl λf cs c=>?_
 have b:#[bp q]++Array.replicate (21-(#[bp q]:Array Vu).size) undef=#[bp q,undef,undef,undef,undef,undef,undef,undef,undef,undef,undef,undef,undef,undef,undef,undef,undef,undef,undef,undef,undef]:=by kernel_rfl
 rw[ntmps79,b];apply wpS_seq;apply wpS_region;have a:recoverD (f::cs)=none:=by simp only[recoverD,c]
 simp[wpOpsS,go_sem,a,q0e,Exit.thenS,Act.put];refine wpS_of_wp ?_;go_wp2;have g:∀X:Wd,Lk X X:=λX=>⟨rfl,rfl,rfl,rfl⟩
 exact⟨rfl,.returning,by rw[<-c],_,results_none (by kernel_rfl) _ _ _,rfl,rfl,g _⟩
theorem qqp(rk:Nat)(t:BA)(w:Wd)(P:OA->Nat->Nat->Wd->Prop)(h:Calls prog 58 #[.string t] w λe w'=>∃a n c,e=.returned (.tuple #[.slice a n c,.pointer none])/\P a n c w'):Calls prog 82 #[bp rk,.string t] w λe w'=>∃a n c,e=.returned (.slice a n c)/\P a n c w':=by
 have H:=hZ h;clear h;go_enter func82,ntmps82
 go_wp2_with (go_at_call 58;refine H.out.mono ?_;rintro e w1 ⟨a,n,c,rfl,b⟩;have d:=hZ b;clear b)
 go_ret;exact⟨a,n,c,rfl,d.out⟩
def Ks(n rk mb:Nat)(t:BA)(w:Wd):Prop:=w.cell? ⟨n,0,none⟩=some (bp rk)/\w.cell? ⟨n+1,0,none⟩=some (.string t)/\w.cell? ⟨n+1,1,none⟩=some (.slice none 0 0)/\w.cell? ⟨n+1,5,none⟩=some (.int .i64 0)/\w.cell? ⟨rk,0,none⟩=some (bp mb)
def q60(n rk mb rb:Nat)(Q:Wd->Prop)(e:En)(w8:Wd):Prop:=
 (∃vd s pl va,e=.panicked (qan (.iface 166 (.agg #[.int .i64 vd,.string s])))/\w8.cell? ⟨n,0,none⟩=some (bp rk)/\w8.heap[rk]? =some (.cells (qkc mb rb 0 0 pl va) 112 (0,0))/\∀w9,Lk (((w8.alloc (.cells #[.int .i64 vd,.string s] 166)).setCell ⟨rk,2,none⟩ (.int .i64 vd)).setCell ⟨rk,5,none⟩ (.string s)) w9->Q w9)\/
 (∃pl va,e=.returned (.tuple #[])/\w8.cell? ⟨n,0,none⟩=some (bp rk)/\w8.heap[rk]? =some (.cells (qkc mb rb 0 0 pl va) 112 (0,0))/\∀w9,Lk (((w8.setCell ⟨rk,2,none⟩ (.int .i64 1)).setCell ⟨rk,4,none⟩ (.int .i64 0)).alloc (.cells #[.int .i64 0,.string ⟨#[]⟩] 166)) w9->Q w9)
theorem qh3(rk mb rb:Nat)(t:BA)(w:Wd)(Q:Wd->Prop)(I:rk<w.heap.size)
  (hF:∀w',Lk (((w.alloc (.cells #[bp rk] 106)).alloc (.cells (qdr t) 34)).alloc (.cells (qdr t) 34)) w'->Calls prog 82 #[bp rk,.string t] w' λe w2=>∃a m c,e=.returned (.slice a m c)/\Ks w.heap.size rk mb t w2/\
   ∀w3,Lk w2 w3->Calls prog 83 #[bp mb] w3 λe w4=>e=.returned (.tuple #[])/\Ks w.heap.size rk mb t w4/\
    ∀B,Lk w4 B->Calls prog 84 #[bp mb,.int .i64 0,.slice none 0 0] B λe v=>e=.returned (.tuple #[])/\Ks w.heap.size rk mb t v/\
     ∀C,Lk v C->Calls prog 85 #[bp rk,.slice a m c] C (q60 w.heap.size rk mb rb Q)):
  Calls prog 56 #[bp rk,.agg (qdr t)] w λe w'=>e=.returned (.tuple #[])/\Q w':=by
 have J:∀(D:Fn) (first cap:Array Vu) (w:Wd),(Instr.makeFunc D first cap).run prog w=.ok (.func D first cap) w:=λ_ _ _ _=>rfl
 have E:=hZ hF;have j:=hZ (qum t);clear hF;show Calls prog 56 #[bp rk,.agg #[.string t,.slice none 0 0,.slice none 0 0,.slice none 0 0,.slice none 0 0,.int .i64 0,.int .i64 20000,.int .i64 500,.int .i64 5000,.int .i64 2000]] w λe w'=>e=.returned (.tuple #[])/\Q w'
 go_enter_defers func56,ntmps56
 go_wp2_with (go_at_call 80;refine(j.out _).mono ?_;rintro e w1 ⟨rfl,g⟩;refine Hid.out ?_)
 have k:w1.heap[w.heap.size]? =some (.cells #[bp rk] 106 (0,0)):=by
  rw[g.heap,eH _ _ _ (by simp;omega),eH _ _ _ (by simp)];exact eN _ _
 have h:w1.heap[w.heap.size+1]? =some (.cells (qdr t) 34 (0,0)):=by
  rw[g.heap,eH _ _ _ (by simp)];have F:=eN (w.alloc (.cells #[bp rk] 106)) (.cells (qdr t) 34);have K:(w.alloc (.cells #[bp rk] 106)).heap.size=w.heap.size+1:=by simp
  rw[K]at F;exact F
 have r:w1.cell? ⟨w.heap.size,0,none⟩=some (bp rk):=by simp only[World.cell?,k];rfl
 have s:w1.cell? ⟨w.heap.size+1,0,none⟩=some (.string t):=by simp only[World.cell?,h];rfl
 have x:w1.cell? ⟨w.heap.size+1,1,none⟩=some (.slice none 0 0):=by simp only[World.cell?,h];rfl
 have G:=hZ g;clear g k h;refine hZ ?_;go_wp2_with (go_at_call 81;refine(qr1 _).mono ?_;rintro e w2 ⟨rfl,d⟩;refine Hid.out ?_)
 have y:w2.cell? ⟨w.heap.size,0,none⟩=some (bp rk):=(qaw d _).trans r;have z:w2.cell? ⟨w.heap.size+1,0,none⟩=some (.string t):=(qaw d _).trans s;have l:=hZ (qcv G.out d);clear G d r s x;refine hZ ?_;go_wp2_with (go_at_call 82;refine(E.out _ (qcv l.out (by exact⟨rfl,rfl,rfl,rfl⟩))).mono ?_;rintro e w3 ⟨a,m,c,rfl,⟨r,s,x,L,M⟩,b⟩;have H:=hZ b;clear b;refine Hid.out ?_)
 clear y z;refine hZ ?_;go_wp2_with (go_at_call 83;refine(H.out _ (by exact⟨rfl,rfl,rfl,rfl⟩)).mono ?_;rintro e w4 ⟨rfl,⟨N,O,P,R,S⟩,b⟩;have n:=hZ b;clear b;refine Hid.out ?_)
 clear r s x L M;refine hZ ?_;go_wp2_with (fail)
 refine qal 7 (by kernel_rfl) (by kernel_rfl) ?_;simp only[List.take_succ_cons,List.take_zero,List.drop_succ_cons,List.drop_zero];repeat still_step
 refine wpStill_nil ?_;go_wp2_with (go_at_call 84;refine(n.out _ (by exact⟨rfl,rfl,rfl,rfl⟩)).mono ?_;rintro e v ⟨rfl,⟨T,U,V,W,X⟩,b⟩;have p:=hZ b;clear b;refine Hid.out ?_)
 clear N O P R S;refine hZ ?_;go_wp2_with (go_at_call 85;refine(p.out _ (by exact⟨rfl,rfl,rfl,rfl⟩)).mono ?_;rintro e u (⟨Y,Z,pl,va,rfl,q,i,b⟩|⟨pl,va,rfl,q,i,b⟩))
 ·have nq:w.heap.size≠rk:=by omega
  refine leaves_cons (f:=79) (args:=#[bp w.heap.size]) (by simp) (by simp[go_sem]) ?_;refine(q08 w.heap.size rk mb rb Y Z 0 pl va [] u nq q i).mono ?_;rintro e u' w9 ⟨rfl,rfl,g⟩;exact⟨_,results_none (by kernel_rfl) _ _ _,rfl,b _ g⟩
 ·have A:=hZ b;have r2:u.cell? ⟨rk,2,none⟩=some (.int .i64 0):=by simp only[World.cell?,i];rfl
  have r4:u.cell? ⟨rk,4,none⟩=some (.int .i64 pl):=by simp only[World.cell?,i];rfl
  have rf:∀o,u.frozen? ⟨rk,o,none⟩=false:=λo=>by simp[World.frozen?,i]
  have nq:w.heap.size≠rk:=by omega
  clear b i T U V W X p n H E l j;go_wp2_with (fail)
  go_region_held3 (λw'=>w'.cell? ⟨w.heap.size,0,none⟩=some (bp rk)) (first|(exact q)|(exact qbx q nq)|(exact qbx (qbx q nq) nq)|go_keep) (fail)
  all_goals(try go_wp2)
  refine leaves_cons (f:=79) (args:=#[bp w.heap.size]) (by simp) (by simp[go_sem]) ?_;refine(q2z w.heap.size _).mono ?_;rintro e u' w9 ⟨rfl,rfl,g⟩;exact⟨_,results_none (by kernel_rfl) _ _ _,rfl,A.out _ (qcv (by exact⟨rfl,rfl,rfl,rfl⟩) g)⟩
theorem ql8(b:Nat)(t c a:Int)(w:Wd)(h:Mt b t c a w):Calls prog 57 #[bp b] w λe w'=>e=.returned (.int .i64 t)/\Lk w w':=by
 have c0:=h.c0;go_enter func57,ntmps57
 go_wp2;go_ret;exact⟨rfl,rfl,rfl,rfl,rfl⟩
def qes(ve re pl:Int)(va:BA)(st ce rw:Int):Array Vu:=#[.int .i64 ve,.int .i64 re,.int .i64 pl,.string va,.string ⟨#[]⟩,.int .i64 st,.int .i64 ce,.int .i64 rw,.slice none 0 0]
def qin(t:BA)(w:Wd):Wd:=((((((((w.alloc (.cells (qdr t) 34)).alloc (.cells (qes 0 0 0 ⟨#[]⟩ 0 0 0) 29)).alloc (.cells #[.int .i64 0,.int .i64 20000,.int .i64 10] 164)).alloc (.cells #[.int .i64 0,.int .i64 5000,.int .i64 11] 164)).alloc (.map #[] 0)).alloc (.cells #[bp (w.heap.size+2),bp (w.heap.size+3),.map (some (w.heap.size+4)),.nilIface,.pointer none] 119)).alloc (.cells #[.int .i64 0,.int .i64 500,.int .i64 12] 164)).alloc (.cells (qkc (w.heap.size+5) (w.heap.size+6) 0 0 0 ⟨#[]⟩) 112))
def GS(n:Nat)(w:Wd):Prop:=w.cell? ⟨n,6,none⟩=some (.int .i64 20000)/\w.cell? ⟨n,8,none⟩=some (.int .i64 5000)/\w.cell? ⟨n,7,none⟩=some (.int .i64 500)
theorem GS.of{t:BA}(h:w.heap[n]? =some (.cells (qdr t) 34 (0,0))):GS n w:=by
 refine⟨?_,?_,?_⟩ <;> simp only[World.cell?,h] <;> rfl
def qdm(t:BA)(w:Wd):Wd:=(w.alloc (.cells (qdr t) 34)).alloc (.cells (qes 0 0 0 ⟨#[]⟩ 0 0 0) 29)
def qd1(t:BA)(w:Wd):Wd:=((((qdm t w).alloc (.cells #[.int .i64 0,.int .i64 20000,.int .i64 10] 164)).alloc (.cells #[.int .i64 0,.int .i64 5000,.int .i64 11] 164)).alloc (.map #[] 0)).alloc (.cells #[bp (w.heap.size+2),bp (w.heap.size+3),.map (some (w.heap.size+4)),.nilIface,.pointer none] 119)
theorem q0r(t:BA)(w w':Wd)(h:Lk (qdm t w) w'):Calls prog 54 #[.int .i64 20000,.int .i64 5000] w' λe w1=>e=.returned (bp (w.heap.size+5))/\GS w.heap.size w1/\Lk (qd1 t w) w1:=by
 have b:w'.heap.size=w.heap.size+2:=by rw[h.heap];simp[qdm]
 refine Calls.mono (qsv 20000 5000 w') ?_;rintro e w1 ⟨rfl,c⟩;rw[b]at c;have a:Lk (qd1 t w) w1:=qcv ((((h.lkA' _).lkA' _).lkA' _).lkA' _) c;refine⟨by rw[b],GS.of (t:=t) ?_,a⟩;rw[a.heap];unfold qd1 qdm;rw[eH _ _ _ (by simp;omega),eH _ _ _ (by simp;omega),eH _ _ _ (by simp;omega),eH _ _ _ (by simp;omega),eH _ _ _ (by simp)];exact eN _ _
theorem q0q(t:BA)(w w':Wd)(h:Lk (qd1 t w) w'):Calls prog 55 #[.int .i64 500,.int .i64 12] w' λe w1=>e=.returned (bp (w.heap.size+6))/\GS w.heap.size w1/\w1.heap.size=w.heap.size+7/\Lk ((qd1 t w).alloc (.cells #[.int .i64 0,.int .i64 500,.int .i64 12] 164)) w1:=by
 have b:w'.heap.size=w.heap.size+6:=by rw[h.heap];simp[qd1,qdm]
 refine Calls.mono (qji 500 12 w') ?_;rintro e w1 ⟨rfl,c⟩;have a:Lk ((qd1 t w).alloc (.cells #[.int .i64 0,.int .i64 500,.int .i64 12] 164)) w1:=qcv (h.lkA' _) c;refine⟨by rw[b],GS.of (t:=t) ?_,by rw[c.heap];simp[b],a⟩;rw[a.heap];unfold qd1 qdm;rw[eH _ _ _ (by simp;omega),eH _ _ _ (by simp;omega),eH _ _ _ (by simp;omega),eH _ _ _ (by simp;omega),eH _ _ _ (by simp;omega),eH _ _ _ (by simp)];exact eN _ _
def q1j(w:Wd)(b:Nat)(v0 v1 v2 v3 v4 v5 v6 v7 v8:Vu):Wd:=(((((((((w.setCell ⟨b,0,none⟩ v0).setCell ⟨b,1,none⟩ v1).setCell ⟨b,2,none⟩ v2).setCell ⟨b,3,none⟩ v3).setCell ⟨b,4,none⟩ v4).setCell ⟨b,5,none⟩ v5).setCell ⟨b,6,none⟩ v6).setCell ⟨b,7,none⟩ v7).setCell ⟨b,8,none⟩ v8)
theorem qgy{fr:Nat×Nat}{e x1 x2 x3 x4 x5 d c a:Vu}(h:w.heap[b]? =some (.cells #[e,x1,x2,x3,x4,x5,d,c,a] t fr)):(q1j w b v0 v1 v2 v3 v4 v5 v6 v7 v8).heap[b]? =some (.cells #[v0,v1,v2,v3,v4,v5,v6,v7,v8] t fr):=by
 unfold q1j;have f:=qas (o:=0) (v:=v0) h;rw[show(#[e,x1,x2,x3,x4,x5,d,c,a]:Array Vu).setIfInBounds 0 v0=#[v0,x1,x2,x3,x4,x5,d,c,a] by kernel_rfl]at f;have g:=qas (o:=1) (v:=v1) f;rw[show(#[v0,x1,x2,x3,x4,x5,d,c,a]:Array Vu).setIfInBounds 1 v1=#[v0,v1,x2,x3,x4,x5,d,c,a] by kernel_rfl]at g;have i:=qas (o:=2) (v:=v2) g;rw[show(#[v0,v1,x2,x3,x4,x5,d,c,a]:Array Vu).setIfInBounds 2 v2=#[v0,v1,v2,x3,x4,x5,d,c,a] by kernel_rfl]at i;have j:=qas (o:=3) (v:=v3) i;rw[show(#[v0,v1,v2,x3,x4,x5,d,c,a]:Array Vu).setIfInBounds 3 v3=#[v0,v1,v2,v3,x4,x5,d,c,a] by kernel_rfl]at j;have k:=qas (o:=4) (v:=v4) j;rw[show(#[v0,v1,v2,v3,x4,x5,d,c,a]:Array Vu).setIfInBounds 4 v4=#[v0,v1,v2,v3,v4,x5,d,c,a] by kernel_rfl]at k;have l:=qas (o:=5) (v:=v5) k;rw[show(#[v0,v1,v2,v3,v4,x5,d,c,a]:Array Vu).setIfInBounds 5 v5=#[v0,v1,v2,v3,v4,v5,d,c,a] by kernel_rfl]at l;have m:=qas (o:=6) (v:=v6) l;rw[show(#[v0,v1,v2,v3,v4,v5,d,c,a]:Array Vu).setIfInBounds 6 v6=#[v0,v1,v2,v3,v4,v5,v6,c,a] by kernel_rfl]at m;have n:=qas (o:=7) (v:=v7) m;rw[show(#[v0,v1,v2,v3,v4,v5,v6,c,a]:Array Vu).setIfInBounds 7 v7=#[v0,v1,v2,v3,v4,v5,v6,v7,a] by kernel_rfl]at n;have p:=qas (o:=8) (v:=v8) n;rw[show(#[v0,v1,v2,v3,v4,v5,v6,v7,a]:Array Vu).setIfInBounds 8 v8=#[v0,v1,v2,v3,v4,v5,v6,v7,v8] by kernel_rfl]at p;exact p
theorem qf0(h:Below n w w')(a:n<=b):Below n w (q1j w' b v0 v1 v2 v3 v4 v5 v6 v7 v8):=(qbg (qbg (qbg (qbg (qbg (qbg (qbg (qbg (qbg h a) a) a) a) a) a) a) a) a)
theorem qo6(h:Lk w w')(a:n<=w.heap.size):Below n w w':=(bl0 h).mono a
structure GEnd (n:Nat) (c:Array Vu) (st ce rw:Int) (w:Wd):Prop where
 rk:w.heap[n+7]? =some (.cells c 112 (0,0))
 st:Mt (n+2) st 20000 10 w
 ce:Mt (n+3) ce 5000 11 w
 rw:Mt (n+6) rw 500 12 w
 mb:∃a b d,w.heap[n+5]? =some (.cells #[bp (n+2),bp (n+3),a,b,d] 119 (0,0))
 rs:w.heap[n+1]? =some (.cells (qes 0 0 0 ⟨#[]⟩ 0 0 0) 29 (0,0))
theorem GEnd.lk{c:Array Vu}{st:Int}(g:GEnd n c st ce rw w)(h:Lk w w'):GEnd n c st ce rw w':=by
 obtain⟨e,a,b,d,f,i⟩:=g;unfold Mt at a b d;rw[<-h.heap]at e a b d f i;exact⟨e,a,b,d,f,i⟩
theorem GEnd.set{o:Nat}{v:Vu}{c:Array Vu}{st:Int}(g:GEnd n c st ce rw w):GEnd n (c.setIfInBounds o v) st ce rw (w.setCell ⟨n+7,o,none⟩ v):=by
 have k:∀b,b≠n+7->(w.setCell ⟨n+7,o,none⟩ v).heap[b]? =w.heap[b]?:=λb e=>qab _ e
 refine⟨qas g.rk,g.st.keep (k _ (by omega)),g.ce.keep (k _ (by omega)),g.rw.keep (k _ (by omega)),?_,by rw[k _ (by omega)];exact g.rs⟩;obtain⟨a,b,d,h⟩:=g.mb;exact⟨a,b,d,by rw[k _ (by omega)];exact h⟩
theorem qtj(t:BA)(w:Wd)(Q:En->Wd->Prop)
  (I:∀w',Lk (qin t w) w'->Calls prog 56 #[bp (w.heap.size+7),.agg (qdr t)] w' λe w2=>e=.returned (.tuple #[])/\∃A B pl va st ce rw,GEnd w.heap.size (qkc (w.heap.size+5) (w.heap.size+6) A B pl va) st ce rw w2/\Below w.heap.size w w2/\∀w3,Below w.heap.size w w3->Q (.returned (.agg (qes A B pl va st ce rw))) w3):
  Calls prog 37 #[.agg (qdr t)] w Q:=by
 have J:=hZ I;have K:=hZ (q0r t w);have L:=hZ (q0q t w);have g0:GS w.heap.size (qdm t w):=GS.of (t:=t) (by unfold qdm;rw[eH _ _ _ (by simp)];exact eN _ _);obtain⟨c6,U,X⟩:=g0;unfold qdm at c6 X U;clear I;show Calls prog 37 #[.agg #[.string t,.slice none 0 0,.slice none 0 0,.slice none 0 0,.slice none 0 0,.int .i64 0,.int .i64 20000,.int .i64 500,.int .i64 5000,.int .i64 2000]] w Q;go_enter func37,ntmps37
 go_wp2_with (fail)
 go_region_held2 (λw'=>w'.cell? ⟨w.heap.size,6,none⟩=some (.int .i64 20000)/\w'.cell? ⟨w.heap.size,8,none⟩=some (.int .i64 5000)/\w'.cell? ⟨w.heap.size,7,none⟩=some (.int .i64 500)) (first|(exact⟨c6,U,X⟩)|(exact Y.out)|(exact a9.out)|go_keep)
  (first
   |(go_at_call 54;refine(K.out _ (by exact⟨rfl,rfl,rfl,rfl⟩)).mono ?_;rintro e w1 ⟨rfl,M,g⟩;have Y:=hZ M;have b9:=hZ g;clear M g)
   |(go_at_call 55;refine(L.out _ (qcv b9.out (by exact⟨rfl,rfl,rfl,rfl⟩))).mono ?_;rintro e w2 ⟨rfl,M,hz,g⟩;have a9:=hZ M;have c0:=hZ g;clear M g))
 have u:Lk (qin t w) (w2.alloc (.cells #[bp (w.heap.size+5),bp (w.heap.size+6),.int .i64 0,.int .i64 0,.int .i64 0,.string ⟨#[]⟩,.string ⟨#[]⟩,.int .i64 0,.int .i64 0,.int .i64 0,.slice none 0 0] 112)):=c0.out.lkA' _;generalize (w2.alloc (.cells #[bp (w.heap.size+5),bp (w.heap.size+6),.int .i64 0,.int .i64 0,.int .i64 0,.string ⟨#[]⟩,.string ⟨#[]⟩,.int .i64 0,.int .i64 0,.int .i64 0,.slice none 0 0] 112))=V at u|-;have c:V.heap[w.heap.size]? =some (.cells (qdr t) 34 (0,0)):=by
  rw[u.heap];unfold qin;rw[eH _ _ _ (by simp;omega),eH _ _ _ (by simp;omega),eH _ _ _ (by simp;omega),eH _ _ _ (by simp;omega),eH _ _ _ (by simp;omega),eH _ _ _ (by simp;omega),eH _ _ _ (by simp)];exact eN _ _
 have v0:V.cell? ⟨w.heap.size,0,none⟩=some (.string t):=by simp only[World.cell?,c];rfl
 have v1:V.cell? ⟨w.heap.size,1,none⟩=some (.slice none 0 0):=by simp only[World.cell?,c];rfl
 have v2:V.cell? ⟨w.heap.size,2,none⟩=some (.slice none 0 0):=by simp only[World.cell?,c];rfl
 have v3:V.cell? ⟨w.heap.size,3,none⟩=some (.slice none 0 0):=by simp only[World.cell?,c];rfl
 have v4:V.cell? ⟨w.heap.size,4,none⟩=some (.slice none 0 0):=by simp only[World.cell?,c];rfl
 have v5:V.cell? ⟨w.heap.size,5,none⟩=some (.int .i64 0):=by simp only[World.cell?,c];rfl
 have v6:V.cell? ⟨w.heap.size,6,none⟩=some (.int .i64 20000):=by simp only[World.cell?,c];rfl
 have v7:V.cell? ⟨w.heap.size,7,none⟩=some (.int .i64 500):=by simp only[World.cell?,c];rfl
 have v8:V.cell? ⟨w.heap.size,8,none⟩=some (.int .i64 5000):=by simp only[World.cell?,c];rfl
 have v9:V.cell? ⟨w.heap.size,9,none⟩=some (.int .i64 2000):=by simp only[World.cell?,c];rfl
 have N:=hZ u;clear u c c6 X U K L;go_wp2_with (go_at_call 56;refine(J.out _ (qcv N.out (by exact⟨rfl,rfl,rfl,rfl⟩))).mono ?_;rintro e w3 ⟨rfl,A,B,pl,va,st,ce,rw,O,hB,hK⟩;refine Hid.out ?_)
 have S:w3.cell? ⟨w.heap.size+7,0,none⟩=some (bp (w.heap.size+5)):=by simp only[World.cell?,O.rk];rfl
 have T:w3.cell? ⟨w.heap.size+7,1,none⟩=some (bp (w.heap.size+6)):=by simp only[World.cell?,O.rk];rfl
 obtain⟨ma,c1,md,q⟩:=O.mb;have m0:w3.cell? ⟨w.heap.size+5,0,none⟩=some (bp (w.heap.size+2)):=by simp only[World.cell?,q];rfl
 have m1:w3.cell? ⟨w.heap.size+5,1,none⟩=some (bp (w.heap.size+3)):=by simp only[World.cell?,q];rfl
 have HG:=hZ O;have HB:=hZ hB;have HK:=hZ hK;clear O hB hK q v0 v1 v2 v3 v4 v5 v6 v7 v8 v9 N J;refine hZ ?_;go_wp2_with (go_at_call 57;refine(ql8 _ _ _ _ _ HG.out.st).mono ?_;rintro e w4 ⟨rfl,g⟩;refine Hid.out ?_)
 have x:=HG.out.lk g;have C:=hZ (HB.out.trans (qo6 g HB.out.size));have z7:w4.cell? ⟨w.heap.size+7,7,none⟩=some (.int .i64 0):=by simp only[World.cell?,x.rk];rfl
 have f4:∀o,w4.frozen? ⟨w.heap.size+7,o,none⟩=false:=λo=>by simp[World.frozen?,x.rk]
 have h:=x.set (o:=7) (v:=.int .i64 st);have i:=hZ (qbg C.out (b:=w.heap.size+7) (k:=7) (v:=.int .i64 st) (by omega));clear C x g S T m0 m1 HG HB;refine hZ ?_;obtain⟨W4,j⟩:∃W,W=w4.setCell ⟨w.heap.size+7,7,none⟩ (.int .i64 st):=⟨_,rfl⟩;rw[<-j]at h i;have S:W4.cell? ⟨w.heap.size+7,0,none⟩=some (bp (w.heap.size+5)):=by simp only[World.cell?,h.rk];rfl
 obtain⟨ma,c1,md,q⟩:=h.mb;have m1:W4.cell? ⟨w.heap.size+5,1,none⟩=some (bp (w.heap.size+3)):=by simp only[World.cell?,q];rfl
 have G:=hZ h;clear h q;rw[j]at S m1;have P:=hZ j;clear j;go_wp2_with (go_at_call 57;rw[<-P.out];refine(ql8 _ _ _ _ _ G.out.ce).mono ?_;rintro e w5 ⟨rfl,g⟩;refine Hid.out ?_)
 have y:=G.out.lk g;have D:=hZ (i.out.trans (qo6 g i.out.size));have z8:w5.cell? ⟨w.heap.size+7,8,none⟩=some (.int .i64 0):=by simp only[World.cell?,y.rk];rfl
 have f5:∀o,w5.frozen? ⟨w.heap.size+7,o,none⟩=false:=λo=>by simp[World.frozen?,y.rk]
 have l:=y.set (o:=8) (v:=.int .i64 ce);have m:=hZ (qbg D.out (b:=w.heap.size+7) (k:=8) (v:=.int .i64 ce) (by omega));clear D y g S m1 G i z7 f4 P;refine hZ ?_;obtain⟨W5,j⟩:∃W,W=w5.setCell ⟨w.heap.size+7,8,none⟩ (.int .i64 ce):=⟨_,rfl⟩;rw[<-j]at l m;have T:W5.cell? ⟨w.heap.size+7,1,none⟩=some (bp (w.heap.size+6)):=by simp only[World.cell?,l.rk];rfl
 have H:=hZ l;clear l;rw[j]at T;have R:=hZ j;clear j;go_wp2_with (go_at_call 57;rw[<-R.out];refine(ql8 _ _ _ _ _ H.out.rw).mono ?_;rintro e w6 ⟨rfl,g⟩;refine Hid.out ?_)
 have z:=H.out.lk g;have E:=hZ (m.out.trans (qo6 g m.out.size));have z9:w6.cell? ⟨w.heap.size+7,9,none⟩=some (.int .i64 0):=by simp only[World.cell?,z.rk];rfl
 have f6:∀o,w6.frozen? ⟨w.heap.size+7,o,none⟩=false:=λo=>by simp[World.frozen?,z.rk]
 have n:=z.set (o:=9) (v:=.int .i64 rw);have F:=hZ (qbg E.out (b:=w.heap.size+7) (k:=9) (v:=.int .i64 rw) (by omega));clear E z g T H m z8 f5 R;refine hZ ?_;obtain⟨f,j⟩:∃W,W=w6.setCell ⟨w.heap.size+7,9,none⟩ (.int .i64 rw):=⟨_,rfl⟩;rw[<-j]at n F;have d:=n.rk;have a:=n.rs;have c2:∀o,f.frozen? ⟨w.heap.size+1,o,none⟩=false:=λo=>by simp[World.frozen?,a]
 have a0:f.cell? ⟨w.heap.size+7,2,none⟩=some (.int .i64 A):=by simp only[World.cell?,d];rfl
 have a1:f.cell? ⟨w.heap.size+7,3,none⟩=some (.int .i64 B):=by simp only[World.cell?,d];rfl
 have a2:f.cell? ⟨w.heap.size+7,4,none⟩=some (.int .i64 pl):=by simp only[World.cell?,d];rfl
 have a3:f.cell? ⟨w.heap.size+7,5,none⟩=some (.string va):=by simp only[World.cell?,d];rfl
 have a4:f.cell? ⟨w.heap.size+7,6,none⟩=some (.string ⟨#[]⟩):=by simp only[World.cell?,d];rfl
 have a5:f.cell? ⟨w.heap.size+7,7,none⟩=some (.int .i64 st):=by simp only[World.cell?,d];rfl
 have a6:f.cell? ⟨w.heap.size+7,8,none⟩=some (.int .i64 ce):=by simp only[World.cell?,d];rfl
 have a7:f.cell? ⟨w.heap.size+7,9,none⟩=some (.int .i64 rw):=by simp only[World.cell?,d];rfl
 have a8:f.cell? ⟨w.heap.size+7,10,none⟩=some (.slice none 0 0):=by simp only[World.cell?,d];rfl
 have b0:f.cell? ⟨w.heap.size+1,0,none⟩=some (.int .i64 0):=by simp only[World.cell?,a];rfl
 have b1:f.cell? ⟨w.heap.size+1,1,none⟩=some (.int .i64 0):=by simp only[World.cell?,a];rfl
 have b2:f.cell? ⟨w.heap.size+1,2,none⟩=some (.int .i64 0):=by simp only[World.cell?,a];rfl
 have b3:f.cell? ⟨w.heap.size+1,3,none⟩=some (.string ⟨#[]⟩):=by simp only[World.cell?,a];rfl
 have b4:f.cell? ⟨w.heap.size+1,4,none⟩=some (.string ⟨#[]⟩):=by simp only[World.cell?,a];rfl
 have b5:f.cell? ⟨w.heap.size+1,5,none⟩=some (.int .i64 0):=by simp only[World.cell?,a];rfl
 have b6:f.cell? ⟨w.heap.size+1,6,none⟩=some (.int .i64 0):=by simp only[World.cell?,a];rfl
 have b7:f.cell? ⟨w.heap.size+1,7,none⟩=some (.int .i64 0):=by simp only[World.cell?,a];rfl
 have b8:f.cell? ⟨w.heap.size+1,8,none⟩=some (.slice none 0 0):=by simp only[World.cell?,a];rfl
 have c3:=hZ a;clear a d n;rw[j]at a0 a1 a2 a3 a4 a5 a6 a7 a8 b0 b1 b2 b3 b4 b5 b6 b7 b8 c2;have c4:=hZ j;clear j;go_wp2;rw[<-c4.out];have r:=qgy (v0:=.int .i64 A) (v1:=.int .i64 B) (v2:=.int .i64 pl) (v3:=.string va) (v4:=.string ⟨#[]⟩) (v5:=.int .i64 st) (v6:=.int .i64 ce) (v7:=.int .i64 rw) (v8:=.slice none 0 0) c3.out;have s:=qf0 (v0:=.int .i64 A) (v1:=.int .i64 B) (v2:=.int .i64 pl) (v3:=.string va) (v4:=.string ⟨#[]⟩) (v5:=.int .i64 st) (v6:=.int .i64 ce) (v7:=.int .i64 rw) (v8:=.slice none 0 0) F.out (Nat.le_succ w.heap.size);unfold q1j at r s;generalize (((((((((f.setCell ⟨w.heap.size+1,0,none⟩ (.int .i64 A)).setCell ⟨w.heap.size+1,1,none⟩ (.int .i64 B)).setCell ⟨w.heap.size+1,2,none⟩ (.int .i64 pl)).setCell ⟨w.heap.size+1,3,none⟩ (.string va)).setCell ⟨w.heap.size+1,4,none⟩ (.string ⟨#[]⟩)).setCell ⟨w.heap.size+1,5,none⟩ (.int .i64 st)).setCell ⟨w.heap.size+1,6,none⟩ (.int .i64 ce)).setCell ⟨w.heap.size+1,7,none⟩ (.int .i64 rw)).setCell ⟨w.heap.size+1,8,none⟩ (.slice none 0 0))=Z at r s|-;refine bodyPost_ret (results_cell_row (p:=2) (ty:=29) (by kernel_rfl) _ _ (w.heap.size+1) 29 (qes A B pl va st ce rw) (0,0) _ rfl r underlying29 rfl (by kernel_rfl)) rfl ?_;exact HK.out _ s
def qei(n:Nat)(w:Wd):Gh:={I:=λb=>if n+11<=b then w.heap[b]? else none,J:=[],E:=[],B:=[],P:=λp=>w.heap.size+p.off,K:=λ_=>0,mb:=n+5,sb:=n+2,cb:=n+3,mp:=n+4,W:=w,F:=λb=>b<n+2\/b=n+7\/b=n+8\/b=n+9}
theorem qea(n:Nat)(w:Wd):(qei n w).mut=[n+5,n+2,n+3,n+4]:=rfl
theorem qtn(d:S.fuel=20000/\S.quota=5000)(g:Mt (n+2) 0 20000 10 w)(j:Mt (n+3) 0 5000 11 w)(k:w.heap[n+4]? =some (.map #[] 0))(l:w.heap[n+5]? =some (.cells #[bp (n+2),bp (n+3),.map (some (n+4)),.nilIface,.pointer none] 119 (0,0)))(m:n+11<=w.heap.size):Inv (qei n w) S {} w:=by
 have f:∀{b:Nat},b∈(qei n w).mut->n+2<=b/\b<=n+5:=fun {b} a=>by
  rw[qea]at a;simp only[List.mem_cons,List.not_mem_nil,or_false]at a;omega
 have c:∀{b:Nat},b<n+11->(qei n w).I b=none:=fun {b} a=>if_neg (by omega)
 refine⟨fun {b o} a=>?_,?_,fun {b} a=>c (by have:=f a;omega),fun {b} a=>by have:=f a;omega,?_,?_,?_,?_,⟨_,_,l,.nil⟩,⟨#[],0,k,rfl⟩,fun {s b} a=>(by cases a),fun {s v} p=>(by cases p),List.nodup_nil,fun {i vs e} q=>(by simp at q),rfl,rfl,List.nodup_nil,fun {b} a=>(by cases a),⟨rfl,rfl,rfl⟩,fun {b} a=>⟨rfl,?_⟩,fun {b} a hF=>?_,fun {b} a=>c ?_⟩
 ·have a:(if n+11<=b then w.heap[b]? else none)=some o:=a;by_cases h:n+11<=b
  ·rw[if_pos h]at a;exact a
  ·rw[if_neg h]at a;cases a
 ·rw[qea];simp
 ·rw[d.1];exact g
 ·rw[d.2];exact j
 ·rw[d.1];exact⟨by simp,by omega⟩
 ·rw[d.2];exact⟨by simp,by omega⟩
 ·have a:b<n+2\/b=n+7\/b=n+8\/b=n+9:=a;omega
 ·have hF:b<n+2\/b=n+7\/b=n+8\/b=n+9:=hF;have:=f a;omega
 ·have a:b<n+2\/b=n+7\/b=n+8\/b=n+9:=a;omega
theorem q0v(x:Rd.El×Int):(Rd.Fe.cells x).length=7:=rfl
theorem qiq:∀(l:List (Rd.El×Int)) (i j:Nat) (x:Rd.El×Int),l[i]? =some x->j<7->(l.flatMap Rd.Fe.cells)[i*7+j]? =(Rd.Fe.cells x)[j]?
 | [],i,j,x,h,_=>by simp at h
 |y::r,0,j,x,h,hj=>by
  obtain rfl:y=x:=by simpa using h
  rw[List.flatMap_cons,eA (by rw[q0v];omega)];simp
 |y::r,i+1,j,x,h,hj=>by
  rw[List.flatMap_cons,eB (by rw[q0v];omega),q0v];have:(i+1)*7+j-7=i*7+j:=by omega
  rw[this];exact qiq r i j x (by simpa using h) hj
theorem q1x{lo:Nat}{a:OA}{cap:Nat}{es:List (Rd.El×Int)}(h:w.ownsRow lo 136 7 (.slice a es.length cap) es.length (es.flatMap Rd.Fe.cells))(k:Nat)(x:Rd.El×Int)(l:es[k]? =some x):
  ∃g b,a=some ⟨g,0,none⟩/\lo<=g/\w.heap[g]? =some (.cells b 136 (0,0))/\(∀j,j<6->b[0+k*7+j]? =(qkd x.1).cells[j]?)/\b[0+k*7+6]? =some (.int .i64 x.2):=by
 have r:k<es.length:=(eL.1 l).1;rcases h.2 with⟨_,s⟩|⟨g,t,c,m,n,o,u,v,p,f⟩
 ·omega
 ·have q:a=some ⟨g,0,none⟩:=by injection m
  have d:∀j,j<7->c[0+k*7+j]? =(Rd.Fe.cells x)[j]?:=λj i=>by
   have e:=qiq es k j x l i;rw[<-f,List.getElem?_take]at e;rw[Nat.zero_add];split at e
   ·simpa using e
   ·omega
  refine⟨g,c,q,n,o,λj i=>?_,d 6 (by omega)⟩;rw[d j (by omega)];show(x.1.cells++[.int .i64 x.2])[j]? =_;rw[eA (by show j<6;exact i)];have e:x.1.cells=(qkd x.1).cells.toList:=rfl;rw[e,Array.getElem?_toList]
theorem GV.below(h:Rd.GV w)(a:Below n w w')(c:6<=n):Rd.GV w':=by
 obtain⟨b,p,h⟩:=h;refine⟨b,p,?_⟩;unfold World.var? at h|-;rw[Rd.errRange_no]at h|-;simp only[Option.bind_some]at h|-;rw[a.block 5 (by omega)];exact h
structure Lay (t:BA) (w W:Wd):Prop where
 lo:Below w.heap.size w W
 rs:W.heap[w.heap.size+1]? =some (.cells (qes 0 0 0 ⟨#[]⟩ 0 0 0) 29 (0,0))
 sb:Mt (w.heap.size+2) 0 20000 10 W
 cb:Mt (w.heap.size+3) 0 5000 11 W
 mp:W.heap[w.heap.size+4]? =some (.map #[] 0)
 mb:W.heap[w.heap.size+5]? =some (.cells #[bp (w.heap.size+2),bp (w.heap.size+3),.map (some (w.heap.size+4)),.nilIface,.pointer none] 119 (0,0))
 rb:Mt (w.heap.size+6) 0 500 12 W
 rk:W.heap[w.heap.size+7]? =some (.cells (qkc (w.heap.size+5) (w.heap.size+6) 0 0 0 ⟨#[]⟩) 112 (0,0))
 bx:W.heap[w.heap.size+8]? =some (.cells #[bp (w.heap.size+7)] 106 (0,0))
 sub:W.heap[w.heap.size+9]? =some (.cells (qdr t) 34 (0,0))
 sz:w.heap.size+11<=W.heap.size
theorem Lay.below{t:BA}{W':Wd}(l:Lay t w W)(h:Below (w.heap.size+11) W W'):Lay t w W':=by
 have k:∀b,b<w.heap.size+11->W'.heap[b]? =W.heap[b]?:=λb a=>h.block b a
 exact⟨l.lo.trans (h.mono (by omega)),by rw[k _ (by omega)];exact l.rs,l.sb.keep (k _ (by omega)),l.cb.keep (k _ (by omega)),by rw[k _ (by omega)];exact l.mp,by rw[k _ (by omega)];exact l.mb,l.rb.keep (k _ (by omega)),by rw[k _ (by omega)];exact l.rk,by rw[k _ (by omega)];exact l.bx,by rw[k _ (by omega)];exact l.sub,eT l.sz h.size⟩
theorem q2o{t:BA}(a:Lk (qin t w) w1)(b:Lk (((w1.alloc (.cells #[bp (w.heap.size+7)] 106)).alloc (.cells (qdr t) 34)).alloc (.cells (qdr t) 34)) w2):Lay t w w2:=by
 have c:w2.heap=(((((((((((w.heap.push (.cells (qdr t) 34)).push (.cells (qes 0 0 0 ⟨#[]⟩ 0 0 0) 29)).push (.cells #[.int .i64 0,.int .i64 20000,.int .i64 10] 164)).push (.cells #[.int .i64 0,.int .i64 5000,.int .i64 11] 164)).push (.map #[] 0)).push (.cells #[bp (w.heap.size+2),bp (w.heap.size+3),.map (some (w.heap.size+4)),.nilIface,.pointer none] 119)).push (.cells #[.int .i64 0,.int .i64 500,.int .i64 12] 164)).push (.cells (qkc (w.heap.size+5) (w.heap.size+6) 0 0 0 ⟨#[]⟩) 112)).push (.cells #[bp (w.heap.size+7)] 106)).push (.cells (qdr t) 34)).push (.cells (qdr t) 34)):=by
  rw[b.heap];show((w1.heap.push _).push _).push _=_;rw[a.heap];rfl
 have d:w2.heap.size=w.heap.size+11:=by rw[c];simp
 refine⟨⟨b.os.trans a.os,b.tape.trans a.tape,b.output.trans a.output,by omega,λk e=>?_⟩,?_,?_,?_,?_,?_,?_,?_,?_,?_,by omega⟩
 ·rw[c];simp only[Array.getElem?_push,Array.size_push];repeat rw[if_neg (by omega)]
 all_goals(try unfold Mt);rw[c];simp only[Array.getElem?_push,Array.size_push]
 ·repeat (first|rw[if_neg (by omega)]|(rw[if_pos (by first|trivial|omega)];done))
 ·repeat (first|rw[if_neg (by omega)]|(rw[if_pos (by first|trivial|omega)];done))
 ·repeat (first|rw[if_neg (by omega)]|(rw[if_pos (by first|trivial|omega)];done))
 ·repeat (first|rw[if_neg (by omega)]|(rw[if_pos (by first|trivial|omega)];done))
 ·repeat (first|rw[if_neg (by omega)]|(rw[if_pos (by first|trivial|omega)];done))
 ·repeat (first|rw[if_neg (by omega)]|(rw[if_pos (by first|trivial|omega)];done))
 ·repeat (first|rw[if_neg (by omega)]|(rw[if_pos (by first|trivial|omega)];done))
 ·repeat (first|rw[if_neg (by omega)]|(rw[if_pos (by first|trivial|omega)];done))
 ·repeat (first|rw[if_neg (by omega)]|(rw[if_pos (by first|trivial|omega)];done))
theorem GEnd.alloc{c:Array Vu}{st:Int}(g:GEnd n c st ce rw w)(o:Obj):GEnd n c st ce rw (w.alloc o):=by
 have k:∀{b:Nat} {x:Obj},w.heap[b]? =some x->(w.alloc o).heap[b]? =w.heap[b]?:=fun {b x} h=>eH _ _ _ (eE.1 h).1
 obtain⟨a,d,e,f,⟨x,y,z,i⟩,j⟩:=g;exact⟨(k a).trans a,d.keep (k d),e.keep (k e),f.keep (k f),⟨x,y,z,(k i).trans i⟩,(k j).trans j⟩
def q1h(r:(Option Nat×Nat)×Option Vl×Xs×Mc)(ve pl:Int)(va:BA)(st ce rw:Int):Prop:=match r with
 |((some vd,p),_,x,m)=>ve=vd/\pl=p/\(vd≠14->va=⟨#[]⟩)/\(vd=14->va=⟨m.raised.toArray⟩\/va=⟨#[]⟩)/\st=m.steps/\ce=m.cells/\rw=x.count
 |((none,_),v,x,m)=>ve=1/\pl=0/\va=qp7 v/\st=m.steps/\ce=m.cells/\rw=x.count
def qyb(n:Nat)(w:Wd)(r:(Option Nat×Nat)×Option Vl×Xs×Mc)(w9:Wd):Prop:=∃ve pl va st ce rw,GEnd n (qkc (n+5) (n+6) ve 0 pl va) st ce rw w9/\Below n w w9/\q1h r ve pl va st ce rw
theorem qza{_t:BA}{c w8:Wd}{fs:List (Dt×Nat)}{r:(Option Nat×Nat)×Option Vl×Xs×Mc}{e:En}(R:w.heap.size=n)(K:S.fuel=20000/\S.quota=5000/\S.rewrites=500)(L:G.mb=n+5/\G.sb=n+2/\G.cb=n+3)(hF:∀b,b<n+2\/b=n+7\/b=n+8\/b=n+9->G.F b)
  (l:∀b,b<n->c.heap[b]? =w.heap[b]?)(q:c.os=w.os/\c.tape=w.tape/\c.output=w.output)(s:c.heap[n+1]? =some (.cells (qes 0 0 0 ⟨#[]⟩ 0 0 0) 29 (0,0)))(t:c.heap[n+8]? =some (.cells #[bp (n+7)] 106 (0,0)))
  (h:q3x G S c (n+7) (n+6) fs r e w8):q60 (n+8) (n+7) (n+5) (n+6) (qyb n w r) e w8:=by
 obtain⟨B,C,D⟩:=L;obtain⟨s1,M,N⟩:=K;have g:∀{m:Mc} {x:Xs} {pl:Int} {va:BA},DEnd G S c (n+7) (n+6) m x pl va w8->GEnd n (qkc (n+5) (n+6) 0 0 pl va) m.steps m.cells x.count w8/\Below n w w8/\w8.cell? ⟨n+8,0,none⟩=some (bp (n+7)):=fun {m x pl va} d=>by
  obtain⟨u,E,H,I,y,z,T,U,J⟩:=d;rw[B]at u;rw[C,s1]at E;rw[D,M]at H;rw[N]at I;rw[B,C,D]at J;have O:n+7<w8.heap.size:=(eE.1 u).1;refine⟨⟨u,E,H,I,⟨_,_,_,J⟩,by rw[y (hF _ (by omega)) (by omega)];exact s⟩,⟨z.1.trans q.1,z.2.1.trans q.2.1,z.2.2.trans q.2.2,by omega,λb P=>by rw[y (hF _ (by omega)) (by omega)];exact l b P⟩,?_⟩;have:w8.heap[n+8]? =some (.cells #[bp (n+7)] 106 (0,0)):=by rw[y (hF _ (by omega)) (by omega)];exact t
  simp only[World.cell?,this];rfl
 have a:∀{W:Wd} {o:Nat} {v:Vu},Below n w W->Below n w (W.setCell ⟨n+7,o,none⟩ v):=λh=>qbg h (by omega)
 have i:∀{W W':Wd},Below n w W->Lk W W'->Below n w W':=λh f=>h.trans (qo6 f (by have:=h.size;omega))
 match r,h with
 |((some vd,p),_,x,m),⟨raised,va,he,h14,h14',d⟩=>
  obtain⟨j,k,A⟩:=g d;refine .inl ⟨vd,raised,p,va,he,A,j.rk,λQ f=>⟨vd,p,raised,m.steps,m.cells,x.count,?_,?_,rfl,rfl,h14,h14',rfl,rfl,rfl⟩⟩
  ·exact(((j.alloc _).set (o:=2) (v:=.int .i64 vd)).set (o:=5) (v:=.string raised)).lk f
  ·exact i (a (a (k.alloc (by have:=k.size;omega) _))) f
 |((none,_),v,x,m),⟨pl,he,d⟩=>
  obtain⟨j,k,A⟩:=g d;refine .inr ⟨pl,qp7 v,he,A,j.rk,λQ f=>⟨1,0,qp7 v,m.steps,m.cells,x.count,?_,?_,rfl,rfl,rfl,rfl,rfl,rfl⟩⟩
  ·exact(((j.set (o:=2) (v:=.int .i64 1)).set (o:=4) (v:=.int .i64 0)).alloc _).lk f
  ·exact i ((a (a k)).alloc (by have:=k.size;simp only[qag];omega) _) f
def qe4:Mc:={({}:Mc)with glob:=q14 world0 (qql Pm.most)}
theorem Lay.ks{t:BA}(l:Lay t w W):Ks (w.heap.size+8) (w.heap.size+7) (w.heap.size+5) t W:=by
 refine⟨?_,?_,?_,?_,?_⟩
 ·simp only[World.cell?,l.bx];rfl
 ·simp only[World.cell?,l.sub];rfl
 ·simp only[World.cell?,l.sub];rfl
 ·simp only[World.cell?,l.sub];rfl
 ·simp only[World.cell?,l.rk];rfl
theorem q2g:∀p,p∈world0->p.1∉Pm.most.map Pm.name:=by decide
def q3v(r:(Option Nat×Nat)×Option Vl×Xs×Mc)(w:Wd)(e:En)(w':Wd):Prop:=∃ve pl va st ce rw,e=.returned (.agg (qes ve 0 pl va st ce rw))/\q1h r ve pl va st ce rw/\Below w.heap.size w w'
theorem q4c(w:Wd):Calls prog 22 #[] w λe w'=>e=.returned (bp w.heap.size)/\Below w.heap.size w w':=by
 go_enter func22,ntmps22
 go_wp2;go_ret;exact⟨rfl,qaa _ _⟩
theorem q38(b:Nat)(t:BA)(w:Wd)(Q:En->Wd->Prop)(h:∀w',Below w.heap.size w w'->w'.heap.size=w.heap.size+2->w'.heap[w.heap.size+1]? =some (.cells (qes 0 0 0 ⟨#[]⟩ 0 0 0) 29 (0,0))->Calls prog 37 #[.agg (qdr t)] w' λe w2=>∃f g pl va st ce rw,e=.returned (.agg (qes f g pl va st ce rw))/\w2.heap[w.heap.size+1]? =some (.cells (qes 0 0 0 ⟨#[]⟩ 0 0 0) 29 (0,0))/\Below w.heap.size w w2/\∀w3,Below w.heap.size w w3->Q (.returned (.agg (qes f g pl va st ce rw))) w3):Calls prog 25 #[bp b,.agg (qdr t)] w Q:=by
 have H:=hZ h;clear h;show Calls prog 25 #[bp b,.agg #[.string t,.slice none 0 0,.slice none 0 0,.slice none 0 0,.slice none 0 0,.int .i64 0,.int .i64 20000,.int .i64 500,.int .i64 5000,.int .i64 2000]] w Q;go_enter func25,ntmps25
 go_wp2_with (go_at_call 37;refine(H.out _ (by exact(qaa _ _).alloc (by simp) _) (by simp) (by exact heap_alloc2_new _ _ _)).mono ?_;rintro e w2 ⟨f,g,pl,va,st,ce,rw,rfl,a,i,l⟩;refine Hid.out ?_)
 have m:∀o,w2.frozen? ⟨w.heap.size+1,o,none⟩=false:=λo=>by simp[World.frozen?,a]
 have q:w2.cell? ⟨w.heap.size+1,0,none⟩=some (.int .i64 0):=by simp only[World.cell?,a];rfl
 have b1:w2.cell? ⟨w.heap.size+1,1,none⟩=some (.int .i64 0):=by simp only[World.cell?,a];rfl
 have r:w2.cell? ⟨w.heap.size+1,2,none⟩=some (.int .i64 0):=by simp only[World.cell?,a];rfl
 have s:w2.cell? ⟨w.heap.size+1,3,none⟩=some (.string ⟨#[]⟩):=by simp only[World.cell?,a];rfl
 have u:w2.cell? ⟨w.heap.size+1,4,none⟩=some (.string ⟨#[]⟩):=by simp only[World.cell?,a];rfl
 have v:w2.cell? ⟨w.heap.size+1,5,none⟩=some (.int .i64 0):=by simp only[World.cell?,a];rfl
 have x:w2.cell? ⟨w.heap.size+1,6,none⟩=some (.int .i64 0):=by simp only[World.cell?,a];rfl
 have y:w2.cell? ⟨w.heap.size+1,7,none⟩=some (.int .i64 0):=by simp only[World.cell?,a];rfl
 have z:w2.cell? ⟨w.heap.size+1,8,none⟩=some (.slice none 0 0):=by simp only[World.cell?,a];rfl
 have j:=hZ (qgy (v0:=.int .i64 f) (v1:=.int .i64 g) (v2:=.int .i64 pl) (v3:=.string va) (v4:=.string ⟨#[]⟩) (v5:=.int .i64 st) (v6:=.int .i64 ce) (v7:=.int .i64 rw) (v8:=.slice none 0 0) a);have k:=hZ (qf0 (v0:=.int .i64 f) (v1:=.int .i64 g) (v2:=.int .i64 pl) (v3:=.string va) (v4:=.string ⟨#[]⟩) (v5:=.int .i64 st) (v6:=.int .i64 ce) (v7:=.int .i64 rw) (v8:=.slice none 0 0) i (Nat.le_succ w.heap.size));have n:=hZ l;clear l a i H;refine hZ ?_;unfold qes;go_wp2;have c:=j.out;have d:=k.out;unfold q1j at c d;generalize (((((((((w2.setCell ⟨w.heap.size+1,0,none⟩ (.int .i64 f)).setCell ⟨w.heap.size+1,1,none⟩ (.int .i64 g)).setCell ⟨w.heap.size+1,2,none⟩ (.int .i64 pl)).setCell ⟨w.heap.size+1,3,none⟩ (.string va)).setCell ⟨w.heap.size+1,4,none⟩ (.string ⟨#[]⟩)).setCell ⟨w.heap.size+1,5,none⟩ (.int .i64 st)).setCell ⟨w.heap.size+1,6,none⟩ (.int .i64 ce)).setCell ⟨w.heap.size+1,7,none⟩ (.int .i64 rw)).setCell ⟨w.heap.size+1,8,none⟩ (.slice none 0 0))=Z at c d|-;refine bodyPost_ret (results_cell_row (p:=4) (ty:=29) (by kernel_rfl) _ _ (w.heap.size+1) 29 (qes f g pl va st ce rw) (0,0) _ rfl c underlying29 rfl (by kernel_rfl)) rfl ?_;exact n.out _ d
theorem q39(t:BA)(w:Wd)(Q:En->Wd->Prop)(h:∀b w',Below (w.heap.size+2) ((w.alloc (.cells (qdr t) 34)).alloc (.cells (qes 0 0 0 ⟨#[]⟩ 0 0 0) 29)) w'->Calls prog 25 #[bp b,.agg (qdr t)] w' λe w2=>∃g i pl va st ce rw,e=.returned (.agg (qes g i pl va st ce rw))/\w2.heap[w.heap.size+1]? =some (.cells (qes 0 0 0 ⟨#[]⟩ 0 0 0) 29 (0,0))/\Below w.heap.size w w2/\∀w3,Below w.heap.size w w3->Q (.returned (.tuple #[.agg (qes g i pl va st ce rw),.bool true])) w3):Calls prog 14 #[.agg (qdr t)] w Q:=by
 have H:=hZ h;clear h;show Calls prog 14 #[.agg #[.string t,.slice none 0 0,.slice none 0 0,.slice none 0 0,.slice none 0 0,.int .i64 0,.int .i64 20000,.int .i64 500,.int .i64 5000,.int .i64 2000]] w Q;go_enter func14,ntmps14
 go_wp2_with (go_at_call 22;refine(q4c _).mono ?_;rintro e w1 ⟨rfl,r⟩;refine Hid.out ?_)
 have s:((w.alloc (.cells (qdr t) 34)).alloc (.cells (qes 0 0 0 ⟨#[]⟩ 0 0 0) 29)).heap.size=w.heap.size+2:=by simp
 have j:Below (w.heap.size+2) ((w.alloc (.cells (qdr t) 34)).alloc (.cells (qes 0 0 0 ⟨#[]⟩ 0 0 0) 29)) w1:=by rw[<-s];exact r
 have c:w1.heap[w.heap.size]? =some (.cells (qdr t) 34 (0,0)):=by
  rw[j.block _ (by omega),eH _ _ _ (by simp)];exact eN _ _
 have v0:w1.cell? ⟨w.heap.size,0,none⟩=some (.string t):=by simp only[World.cell?,c];rfl
 have v1:w1.cell? ⟨w.heap.size,1,none⟩=some (.slice none 0 0):=by simp only[World.cell?,c];rfl
 have v2:w1.cell? ⟨w.heap.size,2,none⟩=some (.slice none 0 0):=by simp only[World.cell?,c];rfl
 have v3:w1.cell? ⟨w.heap.size,3,none⟩=some (.slice none 0 0):=by simp only[World.cell?,c];rfl
 have v4:w1.cell? ⟨w.heap.size,4,none⟩=some (.slice none 0 0):=by simp only[World.cell?,c];rfl
 have v5:w1.cell? ⟨w.heap.size,5,none⟩=some (.int .i64 0):=by simp only[World.cell?,c];rfl
 have v6:w1.cell? ⟨w.heap.size,6,none⟩=some (.int .i64 20000):=by simp only[World.cell?,c];rfl
 have v7:w1.cell? ⟨w.heap.size,7,none⟩=some (.int .i64 500):=by simp only[World.cell?,c];rfl
 have v8:w1.cell? ⟨w.heap.size,8,none⟩=some (.int .i64 5000):=by simp only[World.cell?,c];rfl
 have A:w1.cell? ⟨w.heap.size,9,none⟩=some (.int .i64 2000):=by simp only[World.cell?,c];rfl
 have n:=hZ j;clear r s j c;refine hZ ?_;go_wp2_with (go_at_call 25;refine(H.out _ _ n.out).mono ?_;rintro e w3 ⟨g,i,pl,va,st,ce,rw,rfl,a,k,x⟩;refine Hid.out ?_)
 have y:∀o,w3.frozen? ⟨w.heap.size+1,o,none⟩=false:=λo=>by simp[World.frozen?,a]
 have B:w3.cell? ⟨w.heap.size+1,0,none⟩=some (.int .i64 0):=by simp only[World.cell?,a];rfl
 have b1:w3.cell? ⟨w.heap.size+1,1,none⟩=some (.int .i64 0):=by simp only[World.cell?,a];rfl
 have C:w3.cell? ⟨w.heap.size+1,2,none⟩=some (.int .i64 0):=by simp only[World.cell?,a];rfl
 have D:w3.cell? ⟨w.heap.size+1,3,none⟩=some (.string ⟨#[]⟩):=by simp only[World.cell?,a];rfl
 have E:w3.cell? ⟨w.heap.size+1,4,none⟩=some (.string ⟨#[]⟩):=by simp only[World.cell?,a];rfl
 have F:w3.cell? ⟨w.heap.size+1,5,none⟩=some (.int .i64 0):=by simp only[World.cell?,a];rfl
 have G:w3.cell? ⟨w.heap.size+1,6,none⟩=some (.int .i64 0):=by simp only[World.cell?,a];rfl
 have I:w3.cell? ⟨w.heap.size+1,7,none⟩=some (.int .i64 0):=by simp only[World.cell?,a];rfl
 have J:w3.cell? ⟨w.heap.size+1,8,none⟩=some (.slice none 0 0):=by simp only[World.cell?,a];rfl
 have l:=hZ (qgy (v0:=.int .i64 g) (v1:=.int .i64 i) (v2:=.int .i64 pl) (v3:=.string va) (v4:=.string ⟨#[]⟩) (v5:=.int .i64 st) (v6:=.int .i64 ce) (v7:=.int .i64 rw) (v8:=.slice none 0 0) a);have m:=hZ (qf0 (v0:=.int .i64 g) (v1:=.int .i64 i) (v2:=.int .i64 pl) (v3:=.string va) (v4:=.string ⟨#[]⟩) (v5:=.int .i64 st) (v6:=.int .i64 ce) (v7:=.int .i64 rw) (v8:=.slice none 0 0) k (Nat.le_succ w.heap.size));have z:=hZ x;clear x a k H;refine hZ ?_;unfold qes;go_wp2;have d:=l.out;have f:=m.out;unfold q1j at d f;generalize (((((((((w3.setCell ⟨w.heap.size+1,0,none⟩ (.int .i64 g)).setCell ⟨w.heap.size+1,1,none⟩ (.int .i64 i)).setCell ⟨w.heap.size+1,2,none⟩ (.int .i64 pl)).setCell ⟨w.heap.size+1,3,none⟩ (.string va)).setCell ⟨w.heap.size+1,4,none⟩ (.string ⟨#[]⟩)).setCell ⟨w.heap.size+1,5,none⟩ (.int .i64 st)).setCell ⟨w.heap.size+1,6,none⟩ (.int .i64 ce)).setCell ⟨w.heap.size+1,7,none⟩ (.int .i64 rw)).setCell ⟨w.heap.size+1,8,none⟩ (.slice none 0 0))=Z at d f|-;have q:=run_loadVar_row Z (w.heap.size+1) 29 29 (qes g i pl va st ce rw) (0,0) _ d underlying29 rfl (by kernel_rfl);refine bodyPost_ret (v:=.tuple #[.agg (qes g i pl va st ce rw),.bool true]) (by rw[results_cell_tmp (p:=2) (u:=3) (ty:=29) (by kernel_rfl)];simp[asAddr,q]) rfl ?_;exact z.out _ f
def q6u(r:(Option Nat×Nat)×Option Vl×Xs×Mc)(w:Wd)(e:En)(w':Wd):Prop:=∃ve pl va st ce rw,e=.returned (.tuple #[.agg (qes ve 0 pl va st ce rw),.bool true])/\q1h r ve pl va st ce rw/\Below w.heap.size w w'
theorem q0s(t v:BA)(w:Wd)(h:∀w',Below w.heap.size w w'->Calls prog 14 #[.agg (qdr t)] w' λe w2=>∃st ce rw,e=.returned (.tuple #[.agg (qes 1 0 0 v st ce rw),.bool true])/\Below w'.heap.size w' w2):Calls prog 16 #[.string t,.string v] w λe w'=>e=.returned (.bool true)/\Below w.heap.size w w':=by
 have H:=hZ h;clear h;go_enter func16,ntmps16
 go_wp2_with (go_at_call 15;refine(qvw _ _).mono ?_;rintro e w1 ⟨rfl,a⟩;refine Hid.out ?_)
 have d:=hZ a;clear a;refine hZ ?_;go_wp2_with (go_at_call 14;refine(H.out _ d.out).mono ?_;rintro e w2 ⟨st,ce,rw,rfl,b⟩;refine Hid.out ?_)
 have c:=hZ (d.out.trans (b.mono d.out.size));clear b d H;refine hZ ?_;unfold qes;go_wp2;go_ret;exact⟨rfl,c.out.alloc (by simpa using c.out.size) _⟩
def bs(l:List UInt8):BA:=⟨l.toArray⟩
theorem q3i(x y:List UInt8)(h:x.length+y.length<=9223372036854775807)(w:Wd):(Op.stringOp .add (bs x) (bs y)).run prog w=.ok (.string (bs (x++y))) w:=by
 rw[run_string_add_sum w _ _ (by simpa[bs,ByteArray.size]using h)];unfold bs;rw[ByteArray.mk_append_mk]
theorem qld:qe4=m0:=by kernel_rfl
theorem qow(c:GT w)(d:Rd.GV w)(b:6<=w.heap.size)(a:Below w.heap.size w w'):GT w'/\Rd.GV w'/\6<=w'.heap.size:=
 ⟨c.keep (a.block 0 (by omega)),GV.below d a b,eT b a.size⟩
theorem q41:(prog.info? 3).map (λi=>(i.zero,i.size,i.bytes))=some (some (.int .i64 0),1,8):=by kernel_rfl
def pk(c n:Int):Int:=Int.tmod (if c<0 then-(c+1)else c) n
theorem qsd{c n:Int}(a:0<n):0<=pk c n/\pk c n<n:=by
 unfold pk;have b:0<=(if c<0 then-(c+1)else c):=by split <;> omega
 exact⟨Int.tmod_nonneg _ b,Int.tmod_lt_of_pos _ a⟩
theorem qoe(c n:Int)(w:Wd)(f:-9223372036854775808<=c/\c<=9223372036854775807)(g:0<n/\n<=1000):Calls prog 21 #[.int .i64 c,.int .i64 n] w λe w'=>e=.returned (.int .i64 (pk c n))/\Lk w w':=by
 have d:(n==0)=false:=by simp;omega
 by_cases h:c<0
 ·have a:pk c n=Int.tmod (-(c+1)) n:=by simp[pk,h]
  have b:=hZ a;clear a;go_enter func21,ntmps21
  go_wp2;all_goals go_ret
  all_goals refine⟨?_,rfl,rfl,rfl,rfl⟩
  all_goals(rw[b.out];first|rfl|(rw[Int.neg_tmod];rfl)|(rw[Int.tmod_eq_emod_of_nonneg h];rfl))
 ·have a:pk c n=Int.tmod c n:=by simp[pk,h]
  have b:=hZ a;clear a;go_enter func21,ntmps21
  go_wp2;all_goals go_ret
  all_goals refine⟨?_,rfl,rfl,rfl,rfl⟩
  all_goals(rw[b.out];first|rfl|(rw[Int.neg_tmod];rfl)|(rw[Int.tmod_eq_emod_of_nonneg h];rfl))
def qur(w:Wd)(a:OA)(xs:List Int):Prop:=∀i,i<xs.length->∃b o,a=some ⟨b,o,none⟩/\b<w.heap.size/\w.cell? ⟨b,o+i,none⟩=some (.int .i64 (xs.getD i 0))
theorem qa3:∀n:Int,0<=n/\n<1000->(Lib.itoa n).length<=3:=by
 have h:(List.range 1000).all (λn=>decide ((Lib.itoa (n:Int)).length<=3))=true:=by kernel_rfl
 intro n b;have a:=List.all_eq_true.1 h n.toNat (List.mem_range.2 (by omega));rw[show((n.toNat:Nat):Int)=n by omega]at a;exact of_decide_eq_true a
def Gv(t v:Bs):Prop:=∀w:Wd,GT w->Rd.GV w->6<=w.heap.size->Calls prog 16 #[.string (bs t),.string (bs v)] w λe w'=>e=.returned (.bool true)/\Below w.heap.size w w'
def Stt(w:Wd)(na:OA)(A:List Int)(ma:OA)(B:List Int)(fa:OA)(F:List Int)(w':Wd):Prop:=Below w.heap.size w w'/\(GT w'/\Rd.GV w'/\6<=w'.heap.size)/\qur w' na A/\qur w' ma B/\qur w' fa F
theorem Stt.pos{a:OA}{A:List Int}{b:OA}{B:List Int}{c:OA}{F:List Int}(h:Stt w a A b B c F w'):0<w'.heap.size:=by have:=h.2.1.2.2;omega
theorem wide{l:List Int}(h:∀n,n∈l->0<=n/\n<1000):∀n,n∈l->-9223372036854775808<=n/\n<=9223372036854775807:=λn a=>by have:=h n a;omega
theorem q09{x y z:List UInt8}(a:z=x++y)(h:z.length<=100000)(w:Wd):(Op.stringOp .add (bs x) (bs y)).run prog w=.ok (.string (bs z)) w:=by
 subst a;exact q3i x y (by simp only[List.length_append]at h;omega) w
theorem qkh{mc:Macro}{r:List Dt}{sc:qaj}{d:Dt}(h:qu1 x mc r sc=some d):qaf d<=1000000000000:=by
 unfold qu1 at h;split at h
 ·cases h
 ·split at h
  ·cases h
  ·split at h
   ·rename_i a;cases h;rw[qb6]at a;omega
   ·cases h
theorem qvr(hR:q1g K S)(X:Xe)(G:Gh)(m:Mc)(x:Xs)(sc:qaj)(w:Wd)(d:Dt)(xk xn:Int)(b6:Bool)(b7:BA)(xm:Int)(xa:OA)(a0 a1:Nat)(F:Nat)(g:Inv G S m w)(i:XInv K X G S x sc w)(hd:DRep G d ⟨xk,xn,b6,b7,xm,xa,a0,a1⟩)(e9:qaf d<=1000000000000)(hF:(qf5 S F x sc d).1≠.error 0):
  Calls prog 231 #[bp X.xb,.agg (Dl.cells ⟨xk,xn,b6,b7,xm,xa,a0,a1⟩)] w (qya K X G S m sc w (qf5 S F x sc d)):=by
 have HR:=hZ hR;have HG:=hZ g;have HI:=hZ i;have HD:=hZ hd;have HF:=hZ hF;have i4:=hZ e9;clear e9;generalize a4:qf5 S F x sc d=rv;have c9:=hZ a4;clear hR g i hd hF a4;go_enter func231,ntmps231
 go_wp2;go_loopg [5] F (q6p K X G S m sc w rv)
 case atStart=>
  have z:Below w.heap.size w ((w.alloc (.cells (Dl.cells ⟨xk,xn,b6,b7,xm,xa,a0,a1⟩) 134)).alloc (.cells #[.int .i64 0,.int .i64 0,.bool false,.string ⟨#[]⟩,.int .i64 0,.slice none 0 0] 134)):=(qaa _ _).alloc (by simp) _;refine⟨F,x,d,_,G,eR _,c9.out.symm,Mx.of (Mv.ext (Gh.ext.refl _ _) z),HG.out.below z,HI.out.below z,HD.out,?_,?_,λb h1 A=>⟨HG.out.fresh h1,λhm=>by have:=HG.out.ml hm;omega⟩,i4.out⟩
  ·rw[eH _ _ _ (by simp)];exact eN _ _
  ·have:=eN (w.alloc (.cells (Dl.cells ⟨xk,xn,b6,b7,xm,xa,a0,a1⟩) 134)) (.cells #[.int .i64 0,.int .i64 0,.bool false,.string ⟨#[]⟩,.int .i64 0,.slice none 0 0] 134);simpa using this
 case round=>
  obtain⟨j,x1,d1,⟨B,C,l,n,D,E,c,f⟩,H,hj,a4,f0,hi,hx,d0,b8,d4,f3,f4⟩:=hrel;have i5:=hZ f4;clear f4;have lb:=(eE.1 b8).1;have lr:=(eE.1 d4).1;have box:∀w':Wd,w'.heap[w.heap.size]? =some (.cells (Dl.cells ⟨B,C,l,n,D,E,c,f⟩) 134 (0,0))->w'.cell? ⟨w.heap.size,0,none⟩=some (.int .i64 B)/\w'.cell? ⟨w.heap.size,1,none⟩=some (.int .i64 C)/\w'.cell? ⟨w.heap.size,2,none⟩=some (.bool l)/\w'.cell? ⟨w.heap.size,3,none⟩=some (.string n)/\w'.cell? ⟨w.heap.size,4,none⟩=some (.int .i64 D)/\w'.cell? ⟨w.heap.size,5,none⟩=some (.slice E c f):=λw' h=>by
   refine⟨?_,?_,?_,?_,?_,?_⟩ <;> (simp only[World.cell?,h];rfl)
  have f5:∀w':Wd,w'.heap[w.heap.size+1]? =some (.cells #[.int .i64 0,.int .i64 0,.bool false,.string ⟨#[]⟩,.int .i64 0,.slice none 0 0] 134 (0,0))->(w'.cell? ⟨w.heap.size+1,0,none⟩=some (.int .i64 0)/\w'.cell? ⟨w.heap.size+1,1,none⟩=some (.int .i64 0)/\w'.cell? ⟨w.heap.size+1,2,none⟩=some (.bool false)/\w'.cell? ⟨w.heap.size+1,3,none⟩=some (.string ⟨#[]⟩)/\w'.cell? ⟨w.heap.size+1,4,none⟩=some (.int .i64 0)/\w'.cell? ⟨w.heap.size+1,5,none⟩=some (.slice none 0 0))/\∀o,w'.frozen? ⟨w.heap.size+1,o,none⟩=false:=λw' h=>by
   refine⟨⟨?_,?_,?_,?_,?_,?_⟩,λo=>by simp[World.frozen?,h]⟩ <;> (simp only[World.cell?,h];rfl)
  obtain⟨b0,b1,b2,b3,b4,b5⟩:=box _ b8;have d5:=hZ (qon hi hx d0);have b9:=hZ hi;have N:=hZ hx;have f6:=hZ d0;have c0:=hZ f0;have J:=hZ a4;have c1:=hZ f3;have f7:=hZ b8;have f8:=hZ d4;have HJ:=hZ hj;clear hj a4 f0 hi hx d0 f3 b8 d4;have a5:=hZ box;have f9:=hZ f5;clear box f5;by_cases A:(qca x1 sc d1).1=2
  ·obtain⟨t,k,r,mc,rfl,O,M,g0⟩:=qjn A;have a6:=d5.out;rw[A,g0]at a6;have c4:=hZ a6;clear d5 a6 A g0;obtain⟨j',rfl⟩:∃j',j=j'+1:=by
    cases j with
    |zero=>exact absurd (by rw[c9.out,J.out];rfl) HF.out
    |succ j'=>exact⟨j',rfl⟩
   have V:qf5 S (j'+1) x1 sc (.list (.sym t k::r))=(match use S x1 mc r sc with
     |(.error e,x)=>(.error e,x)
     |(.ok (d,x),_)=>qf5 S j' x sc d):=by simp only[qf5,O];rfl
   rw[qxs]at V;have d6:wr.cell? ⟨X.xb,1,none⟩=some (.pointer (some ⟨X.rb,0,none⟩)):=by rw[b9.out.cell N.out.xe];rfl
   have lx:=qae d6;obtain⟨q1,q2,q3,q4⟩:=N.out.lo X.rb (by simp);have d7:X.rb<wr.heap.size:=eW q3 N.out.sl;have k1:=N.out.ml;have g1:=hZ N.out.mt;by_cases c5:S.rewrites<=(x1.count:Int)
   ·rw[if_pos c5]at V;have HT:Hid (∀w',Below wr.heap.size wr w'->Calls prog 200 #[.pointer (some ⟨X.rb,0,none⟩),.int .i64 1] w' λe w2=>e=.panicked (qan (qap 12))/\Below w'.heap.size (w'.setCell ⟨X.rb,0,none⟩ (.int .i64 S.rewrites)) w2):=λw' z=>
     qb3 X.rb x1.count S.rewrites 12 1 w' (g1.out.keep (z.block _ d7)) (by omega) (by omega) (by omega) (by omega) (by omega)
    have c2:=hZ V;clear V O M;go_wp2_with (first|(go_at_call 288;refine c4.out.mono ?_;rintro e w2 ⟨rfl,z⟩;have g2:=(z.cell (p:=⟨X.xb,1,none⟩) lx).trans d6;have P:=hZ z;clear z)|(go_at_call 200;refine(HT.out _ P.out).mono ?_;rintro e w3 ⟨rfl,g3⟩))
    have hc:(x1.count:Int)=S.rewrites:=by omega
    have i2:=(b9.out.below P.out).loose (o:=0) (v:=.int .i64 S.rewrites) q1 q2 q4;have x2:=(N.out.below P.out).count x1.count (by omega);refine⟨rfl,.inr ⟨12,x1,by rw[J.out,c2.out],rfl,(i2.cntB (by rw[qag];exact eR _) g3).up c0.out.up,?_⟩⟩;have:=x2.mt;rw[hc]at this;exact Mt.keep (by rw[hc];exact this) (g3.block _ (eW d7 P.out.size))
   ·rw[if_neg c5]at V;have HT:Hid (∀w',Below wr.heap.size wr w'->Calls prog 200 #[.pointer (some ⟨X.rb,0,none⟩),.int .i64 1] w' λe w2=>e=.returned (.tuple #[])/\∃kd,w2=(w'.setCell ⟨X.rb,0,none⟩ (.int .i64 ((x1.count:Int)+1))).drewN kd):=λw' z=>
     qcl X.rb x1.count S.rewrites 12 1 w' (g1.out.keep (z.block _ d7)) (by omega) (by omega) (by omega) (by omega)
    obtain⟨es,q,L,d8,Y,g4⟩:=N.out.mc;obtain⟨v,i6,g5⟩:∃v,qdb t L=some v/\K.R H mc v:=by
     have h1:=g4.look t;have A:(qdb t L).isSome=true:=by rw[h1.1];unfold Xs.mcr at M;rw[M];rfl
     obtain⟨v,hv⟩:=Option.isSome_iff_exists.1 A;obtain⟨k2,h3,h4⟩:=h1.2 v hv;unfold Xs.mcr at M;rw[M]at h3;cases h3;exact⟨v,hv,h4⟩
    have c2:=hZ V;have i7:=hZ Y;have i8:=hZ g5;have i9:=hZ d8;have g6:X.mm<wr.heap.size:=(eE.1 d8).1;clear V O M d8 Y g4 g5;go_wp2_with (first|(go_at_call 288;refine c4.out.mono ?_;rintro e w2 ⟨rfl,z⟩;have g2:=(z.cell (p:=⟨X.xb,1,none⟩) lx).trans d6;have P:=hZ z;clear z)|(go_at_call 200;refine(HT.out _ P.out).mono ?_;rintro e w3 ⟨rfl,kd,rfl⟩;refine Hid.out ?_))
    have a7:Lk (w2.setCell ⟨X.rb,0,none⟩ (.int .i64 ((x1.count:Int)+1))) ((w2.setCell ⟨X.rb,0,none⟩ (.int .i64 ((x1.count:Int)+1))).drewN kd):=⟨rfl,rfl,rfl,rfl⟩;have i2:Inv H S m ((w2.setCell ⟨X.rb,0,none⟩ (.int .i64 ((x1.count:Int)+1))).drewN kd):=Inv.lk a7 ((b9.out.below P.out).loose q1 q2 q4);have x2:XInv K X H S {x1 with count:=x1.count+1} sc ((w2.setCell ⟨X.rb,0,none⟩ (.int .i64 ((x1.count:Int)+1))).drewN kd):=by
     have h:=(N.out.below P.out).count (x1.count+1) (by omega);exact h.mv ((Mv.refl H _).lk a7)
    have hne:∀b,b≠X.rb->((w2.setCell ⟨X.rb,0,none⟩ (.int .i64 ((x1.count:Int)+1))).drewN kd).heap[b]? =w2.heap[b]?:=λb z=>qab (a:=⟨X.rb,0,none⟩) b z
    have hX:=HI.out;have k3:X.rb<w.heap.size:=eW q3 hX.sl;have s:Mx X G w X H ((w2.setCell ⟨X.rb,0,none⟩ (.int .i64 ((x1.count:Int)+1))).drewN kd):=by
     have h:=c0.out.trans (Mx.of (Mv.ext (Gh.ext.refl _ _) P.out));exact⟨h.same,h.up,h.I,h.mu,h.rw,fun {b} h1 A h3 h4=>by rw[hne b (λe=>h3 (by rw[e];simp))];exact h.blk h1 A h3 h4,by show _<=(w2.setCell ⟨X.rb,0,none⟩ (.int .i64 ((x1.count:Int)+1))).heap.size;rw[qag];exact h.size⟩
    have u:((w2.setCell ⟨X.rb,0,none⟩ (.int .i64 ((x1.count:Int)+1))).drewN kd).heap[w.heap.size]? =some (.cells (Dl.cells ⟨B,C,l,n,D,E,c,f⟩) 134 (0,0)):=by rw[hne _ (by omega),P.out.block _ lb];exact f7.out
    have y:((w2.setCell ⟨X.rb,0,none⟩ (.int .i64 ((x1.count:Int)+1))).drewN kd).heap[w.heap.size+1]? =some (.cells #[.int .i64 0,.int .i64 0,.bool false,.string ⟨#[]⟩,.int .i64 0,.slice none 0 0] 134 (0,0)):=by rw[hne _ (by omega),P.out.block _ lr];exact f8.out
    have j0:X.mm≠X.rb:=by have:=hX.nd;simp only[List.nodup_cons,List.mem_cons,not_or]at this;exact λe=>this.1.1 e.symm
    have Y:((w2.setCell ⟨X.rb,0,none⟩ (.int .i64 ((x1.count:Int)+1))).drewN kd).heap[X.mm]? =some (.map es q):=by rw[hne _ j0,P.out.block _ g6];exact i9.out
    generalize (w2.setCell ⟨X.rb,0,none⟩ (.int .i64 ((x1.count:Int)+1))).drewN kd=W at i2 x2 s u y Y|-;clear hne a7 P g2 b0 b1 b2 b3 b4 b5;obtain⟨b0,b1,b2,b3,b4,b5⟩:=a5.out _ u;have d1:W.cell? ⟨X.xb,1,none⟩=some (.pointer (some ⟨X.rb,0,none⟩)):=by rw[i2.cell x2.xe];rfl
    have d2:W.cell? ⟨X.xb,2,none⟩=some (.map (some X.mm)):=by rw[i2.cell x2.xe];rfl
    have d3:W.cell? ⟨X.xb,3,none⟩=some (.pointer (some ⟨X.ab,0,none⟩)):=by rw[i2.cell x2.xe];rfl
    have g7:∀w',w'.heap[X.mm]? =some (.map es q)->(Instr.lookup 325 (.map (some X.mm)) (.string ⟨t.toArray⟩) false).run prog w'=.ok v w':=λw' hw=>by
     have:=qle X.mm es q L ⟨t.toArray⟩ w' hw i7.out;rw[this];simp[i6]
    have c6:Hid (∀w',Lk W w'->Calls prog 57 #[.pointer (some ⟨X.rb,0,none⟩)] w' λe w2=>e=.returned (.int .i64 ((x1.count+1:Nat):Int))/\w2=w'):=λw' hw=>qyr X.rb _ S.rewrites 12 w' (x2.mt.keep (by rw[hw.heap]))
    have c3:Hid (∀w',Lk W w'->Calls prog 289 #[.agg #[.int .i64 B,.int .i64 C,.bool l,.string n,.int .i64 D,.slice E c f],v,.pointer (some ⟨X.ab,0,none⟩),.int .i64 ((x1.count+1:Nat):Int)] w' λe' w3=>match qu1 {x1 with count:=x1.count+1} mc r sc with
      |some d=>∃U e2,e'=.returned (.agg (Dl.cells e2))/\Mv H w' U w3/\Inv U S m w3/\DRep U d e2
      |none=>e'=.panicked (qan (qap 4))/\Cnt H S m w3/\Mt X.rb ((x1.count+1:Nat):Int) S.rewrites 12 w3):=λw' hw=>
     HR.out X H m {x1 with count:=x1.count+1} sc w' t k r ⟨B,C,l,n,D,E,c,f⟩ mc v (Inv.lk hw i2) (x2.mv ((Mv.refl H _).lk hw)) f6.out i5.out i8.out
    have k4:=hZ i2;have d9:=hZ x2;have c7:=hZ s;have a8:=hZ u;have Q:=hZ y;have a2:=Y;clear i2 x2 s y;refine hZ ?_;go_wp2_with (fail)
    cases hu:qu1 {x1 with count:=x1.count+1} mc r sc with
    |none=>
     have e0:Hid (∀w',Lk W w'->Calls prog 289 #[.agg #[.int .i64 B,.int .i64 C,.bool l,.string n,.int .i64 D,.slice E c f],v,.pointer (some ⟨X.ab,0,none⟩),.int .i64 ((x1.count+1:Nat):Int)] w' λe' w3=>(e'=.panicked (qan (qap 4))/\Cnt H S m w3/\Mt X.rb ((x1.count+1:Nat):Int) S.rewrites 12 w3)\/(e'=.returned (.agg #[.int .i64 0,.int .i64 0,.bool false,.string ⟨#[]⟩,.int .i64 0,.slice none 0 0])/\(w3.cell? ⟨w.heap.size,0,none⟩=some (.int .i64 B)/\w3.cell? ⟨w.heap.size,1,none⟩=some (.int .i64 C)/\w3.cell? ⟨w.heap.size,2,none⟩=some (.bool l)/\w3.cell? ⟨w.heap.size,3,none⟩=some (.string n)/\w3.cell? ⟨w.heap.size,4,none⟩=some (.int .i64 D)/\w3.cell? ⟨w.heap.size,5,none⟩=some (.slice E c f))/\(∀o,w3.frozen? ⟨w.heap.size,o,none⟩=false)/\Hid False)):=λw' hw=>Calls.mono (c3.out w' hw) λe' w3 h=>by rw[hu]at h;exact .inl h
     have HU:=hZ hu;clear c3 hu;go_region_held2 (λw'=>(w'.cell? ⟨w.heap.size,0,none⟩=some (.int .i64 B)/\w'.cell? ⟨w.heap.size,1,none⟩=some (.int .i64 C)/\w'.cell? ⟨w.heap.size,2,none⟩=some (.bool l)/\w'.cell? ⟨w.heap.size,3,none⟩=some (.string n)/\w'.cell? ⟨w.heap.size,4,none⟩=some (.int .i64 D)/\w'.cell? ⟨w.heap.size,5,none⟩=some (.slice E c f))/\w'.cell? ⟨X.xb,1,none⟩=some (.pointer (some ⟨X.rb,0,none⟩))/\w'.cell? ⟨X.xb,2,none⟩=some (.map (some X.mm))/\w'.cell? ⟨X.xb,3,none⟩=some (.pointer (some ⟨X.ab,0,none⟩))/\w'.heap[X.mm]? =some (.map es q)) (first|(exact g8.out.elim)|(exact⟨⟨b0,b1,b2,b3,b4,b5⟩,d1,d2,d3,Y⟩)|go_keep)
      (first
       |(go_at_call 57;refine(c6.out _ (by exact⟨rfl,rfl,rfl,rfl⟩)).mono ?_;rintro e w3 ⟨rfl,j1⟩;obtain rfl:=j1.symm)
       |(go_at_call 289;refine(e0.out _ (by exact⟨rfl,rfl,rfl,rfl⟩)).mono ?_;rintro e w3 (⟨rfl,hc,j2⟩|⟨rfl,⟨t0,t1,t2,t3,t4,t5⟩,tf,g9⟩);(exact⟨rfl,.inr ⟨4,{x1 with count:=x1.count+1},by rw[J.out,c2.out,HU.out],rfl,hc.up c7.out.up,j2⟩⟩);have g8:=hZ g9;clear g9))
     all_goals exact g8.out.elim
    |some d'=>
     have e0:Hid (∀w',Lk W w'->Calls prog 289 #[.agg #[.int .i64 B,.int .i64 C,.bool l,.string n,.int .i64 D,.slice E c f],v,.pointer (some ⟨X.ab,0,none⟩),.int .i64 ((x1.count+1:Nat):Int)] w' λe' w3=>∃U e2,e'=.returned (.agg (Dl.cells e2))/\(w3.heap[w.heap.size]? =some (.cells (Dl.cells ⟨B,C,l,n,D,E,c,f⟩) 134 (0,0))/\w3.heap[w.heap.size+1]? =some (.cells #[.int .i64 0,.int .i64 0,.bool false,.string ⟨#[]⟩,.int .i64 0,.slice none 0 0] 134 (0,0))/\w3.cell? ⟨X.xb,1,none⟩=some (.pointer (some ⟨X.rb,0,none⟩))/\w3.cell? ⟨X.xb,2,none⟩=some (.map (some X.mm))/\w3.cell? ⟨X.xb,3,none⟩=some (.pointer (some ⟨X.ab,0,none⟩))/\w3.heap[X.mm]? =some (.map es q))/\Mv H W U w3/\Inv U S m w3/\DRep U d' e2):=λw' hw=>Calls.mono (c3.out w' hw) λe' w3 h=>by
      rw[hu]at h;obtain⟨U,e2,h1,A,h3,h4⟩:=h;have a9:Mv H W U w3:=Mv.lkl hw A;have h0:=c1.out w.heap.size (eR _) (by omega);have h5:=c1.out (w.heap.size+1) (by omega) (eR _);have e1:=a9.up.le.I d9.out.xe;refine⟨U,e2,h1,⟨(a9.blk (eE.1 a8.out).1 h0.2).trans a8.out,(a9.blk (eE.1 Q.out).1 h5.2).trans Q.out,by rw[h3.cell e1];rfl,by rw[h3.cell e1];rfl,by rw[h3.cell e1];rfl,(a9.blk (eE.1 a2).1 (d9.out.lo X.mm (by simp)).2.1).trans a2⟩,a9,h3,h4⟩
     have HU:=hZ hu;clear c3 hu;have h6:=g7 W.drew a2;have j3:=hZ (c6.out W.drew ⟨rfl,rfl,rfl,rfl⟩);refine qal 16 (by kernel_rfl) (by kernel_rfl) ?_;simp only[List.take_succ_cons,List.take_zero,List.drop_succ_cons,List.drop_zero];repeat still_step
     still_call j3.out
     refine wpStill_nil ?_;go_wp2_with (first|(go_at_call 289;refine(e0.out _ (by exact⟨rfl,rfl,rfl,rfl⟩)).mono ?_;rintro e w3 ⟨U,⟨zk,zn,j4,j5,zm,za,h7,h8⟩,rfl,⟨f1,f2,-,-,-,-⟩,h9,i1,i3⟩;refine Hid.out ?_))
     obtain⟨t0,t1,t2,t3,t4,t5⟩:=a5.out _ f1;have tf:∀o,w3.frozen? ⟨w.heap.size,o,none⟩=false:=λo=>by simp[World.frozen?,f1]
     have j6:=hZ f1;have j7:=hZ f2;have a3:=hZ h9;have j8:=hZ i1;have j9:=hZ i3;clear f1 f2 h9 i1 i3 b0 b1 b2 b3 b4 b5 d1 d2 d3 g7 h6 u Y a2;refine hZ ?_;go_wp2;go_roundg j'
     case measure=>have:=HJ.out;omega
     case rel=>
      have hX:=HI.out;have k5:w.heap.size<W.heap.size:=(eE.1 a8.out).1;have k6:w.heap.size+1<W.heap.size:=(eE.1 Q.out).1;have c8:∀b,w.heap.size<=b->b<=w.heap.size+1->U.I b=none/\b∉U.mut:=λb h1 A=>by
       obtain⟨q1,q2⟩:=c1.out b h1 A;exact⟨(a3.out.I (by omega)).trans q1,λh=>(a3.out.mu h).elim q2 (λh=>by omega)⟩
      have e4:w.heap.size∉[X.rb,X.mm,X.ab,X.bm]:=λh=>by have:=(hX.lo _ h).2.2.1;have:=hX.sl;omega
      have e5:¬X.Rw w.heap.size:=λh=>by have:=(hX.rr _ h).2.2.2.1;omega
      have T:Mx X G w X U w3:=c7.out.trans (Mx.of a3.out);have e6:¬U.F w.heap.size:=λh=>by rw[T.up.F]at h;have:=(HG.out.ff h).2;omega
      obtain⟨e7,e8⟩:=c8 w.heap.size (eR _) (by omega);exact⟨j',{x1 with count:=x1.count+1},d',⟨zk,zn,j4,j5,zm,za,h7,h8⟩,U,eR _,by rw[J.out,c2.out,HU.out],⟨T.same,T.up,T.I,T.mu,T.rw,fun {k} h1 A h3 h4=>(qew (by omega)).trans (T.blk h1 A h3 h4),eT T.size (Nat.le_of_eq set6_size.symm)⟩,qja j8.out e7 e8 e6,qr0 (d9.out.mv a3.out) e4 e5,j9.out,qdv j6.out,(qew (by omega)).trans j7.out,c8,qkh HU.out⟩
  ·have e2:((qca x1 sc d1).1==2)=false:=by simpa using A
   have e3:((qca x1 sc d1).1 !=2)=true:=by simpa using A
   have k0:=hZ A;clear A;go_wp2_with (go_at_call 288;refine d5.out.mono ?_;rintro e w2 ⟨rfl,z⟩;refine Hid.out ?_)
   have u:=(z.block _ lb).trans f7.out;have y:=(z.block _ lr).trans f8.out;obtain⟨b0,b1,b2,b3,b4,b5⟩:=a5.out _ u;obtain⟨⟨r0,r1,r2,r3,r4,r5⟩,rf⟩:=f9.out _ y;have P:=hZ z;have Q:=hZ y;clear z u y;refine hZ ?_;have Z:=qdv (v0:=.int .i64 B) (v1:=.int .i64 C) (v2:=.bool l) (v3:=.string n) (v4:=.int .i64 D) (v5:=.slice E c f) Q.out;have s0:(qdh w2 (w.heap.size+1) (.int .i64 B) (.int .i64 C) (.bool l) (.string n) (.int .i64 D) (.slice E c f)).cell? ⟨w.heap.size+1,0,none⟩=some (.int .i64 B):=by simp only[World.cell?,Z];rfl
   have s1:(qdh w2 (w.heap.size+1) (.int .i64 B) (.int .i64 C) (.bool l) (.string n) (.int .i64 D) (.slice E c f)).cell? ⟨w.heap.size+1,1,none⟩=some (.int .i64 C):=by simp only[World.cell?,Z];rfl
   have s2:(qdh w2 (w.heap.size+1) (.int .i64 B) (.int .i64 C) (.bool l) (.string n) (.int .i64 D) (.slice E c f)).cell? ⟨w.heap.size+1,2,none⟩=some (.bool l):=by simp only[World.cell?,Z];rfl
   have s3:(qdh w2 (w.heap.size+1) (.int .i64 B) (.int .i64 C) (.bool l) (.string n) (.int .i64 D) (.slice E c f)).cell? ⟨w.heap.size+1,3,none⟩=some (.string n):=by simp only[World.cell?,Z];rfl
   have s4:(qdh w2 (w.heap.size+1) (.int .i64 B) (.int .i64 C) (.bool l) (.string n) (.int .i64 D) (.slice E c f)).cell? ⟨w.heap.size+1,4,none⟩=some (.int .i64 D):=by simp only[World.cell?,Z];rfl
   have s5:(qdh w2 (w.heap.size+1) (.int .i64 B) (.int .i64 C) (.bool l) (.string n) (.int .i64 D) (.slice E c f)).cell? ⟨w.heap.size+1,5,none⟩=some (.slice E c f):=by simp only[World.cell?,Z];rfl
   clear Z;go_wp2;refine bodyPost_ret (v:=.agg #[.int .i64 B,.int .i64 C,.bool l,.string n,.int .i64 D,.slice E c f]) (by simp[results,results231,go_sem, *]) rfl ?_;obtain⟨j',rfl⟩:∃j',j=j'+1:=by
    cases j with
    |zero=>exact absurd (by rw[c9.out,J.out];rfl) HF.out
    |succ j'=>exact⟨j',rfl⟩
   have hX:=HI.out;have e4:w.heap.size+1∉[X.rb,X.mm,X.ab,X.bm]:=λh=>by have:=(hX.lo _ h).2.2.1;have:=hX.sl;omega
   have e5:¬X.Rw (w.heap.size+1):=λh=>by have:=(hX.rr _ h).2.2.2.1;omega
   obtain⟨e7,e8⟩:=c1.out (w.heap.size+1) (by omega) (by omega);have e6:¬H.F (w.heap.size+1):=λh=>by rw[c0.out.up.F]at h;have:=(HG.out.ff h).2;omega
   have s:Mx X G w X H w2:=c0.out.trans (Mx.of (Mv.ext (Gh.ext.refl _ _) P.out));refine .inl ⟨H,d1,x1,⟨B,C,l,n,D,E,c,f⟩,by rw[J.out,qhh k0.out],rfl,⟨s.same,s.up,s.I,s.mu,s.rw,fun {k} h1 A h3 h4=>?_,by rw[set6_size];exact s.size⟩,qja (b9.out.below P.out) e7 e8 e6,qr0 (N.out.below P.out) e4 e5,f6.out⟩;rw[qew (by omega)];exact s.blk h1 A h3 h4
theorem qpm(j:q1g K S):qh1 K S:=by
 intro X G m x sc w d e F g i k c hne;obtain⟨l,n,f,h,o,p,a,b⟩:=e;exact qvr j X G m x sc w d l n f h o p a b F g i k c hne
theorem qfy(a b:BA):(a.toList==b.toList)=decide (a=b):=by
 rw[Bool.eq_iff_iff];simp only[beq_iff_eq,decide_eq_true_eq];constructor
 ·intro h;rw[ByteArray.toList_eq,ByteArray.toList_eq]at h;cases a;cases b;simp only at h;congr 1;exact Array.toList_inj.1 h
 ·intro h;rw[h]
theorem qdl(b d:Int)(c:Bool)(a:BA)(f:Int)(g:OA)(h i:Nat)(s:BA)(w:Wd):
  Calls prog 327 #[.agg (Dl.cells ⟨b,d,c,a,f,g,h,i⟩),.string s] w λe w'=>e=.returned (.bool (b==3&&decide (a=s)))/\Below w.heap.size w w':=by
 show Calls prog 327 #[.agg #[.int .i64 b,.int .i64 d,.bool c,.string a,.int .i64 f,.slice g h i],.string s] w _;by_cases j:b=3
 ·subst j;go_enter func327,ntmps327
  go_wp2;all_goals go_ret
  all_goals refine⟨?_,qaa _ _⟩
  all_goals simp[qfy]
 ·have e3:(b==3)=false:=by simpa using j
  go_enter func327,ntmps327
  go_wp2;all_goals go_ret
  all_goals refine⟨?_,qaa _ _⟩
  all_goals simp[e3]
theorem q25(a:OA)(n c:Nat)(x y:Vu)(w:Wd):Calls prog 387 #[.slice a n c,x,y] w λe w'=>e=.returned (.bool (decide (n=0)))/\Lk w w':=by
 go_enter func387,ntmps387
 go_wp2;go_ret;refine⟨?_,rfl,rfl,rfl,rfl⟩;have:((n:Int)==0)=decide (n=0):=by rw[Bool.eq_iff_iff];simp
 rw[<-this];rfl
theorem q1b(d f:Int)(a:Bool)(c:BA)(g:Int)(h:OA)(i j:Nat)(x y:Vu)(b:Nat)(m n:Int)(k:Bool)(l:BA)(w:Wd)
  (o:w.cell? ⟨b,0,none⟩=some (.int .i64 m))(p:w.cell? ⟨b,1,none⟩=some (.int .i64 n))(q:w.cell? ⟨b,2,none⟩=some (.bool k))(r:w.cell? ⟨b,3,none⟩=some (.string l)):
  Calls prog 405 #[.agg (Dl.cells ⟨d,f,a,c,g,h,i,j⟩),x,y,bp b] w λe w'=>e=.returned (.bool (decide (d=m/\f=n/\a=k/\c=l)))/\Below w.heap.size w w':=by
 show Calls prog 405 #[.agg #[.int .i64 d,.int .i64 f,.bool a,.string c,.int .i64 g,.slice h i j],x,y,bp b] w _;have lb:=qae o;have c0:=(qac lb (.cells #[.int .i64 d,.int .i64 f,.bool a,.string c,.int .i64 g,.slice h i j] 134)).trans o;have c1:=(qac lb (.cells #[.int .i64 d,.int .i64 f,.bool a,.string c,.int .i64 g,.slice h i j] 134)).trans p;have c2:=(qac lb (.cells #[.int .i64 d,.int .i64 f,.bool a,.string c,.int .i64 g,.slice h i j] 134)).trans q;have c3:=(qac lb (.cells #[.int .i64 d,.int .i64 f,.bool a,.string c,.int .i64 g,.slice h i j] 134)).trans r;go_enter func405,ntmps405
 go_wp2;all_goals go_ret
 all_goals refine⟨?_,qaa _ _⟩
 all_goals simp_all [qfy]
theorem q2m(f h:Int)(c:Bool)(a:BA)(g:Int)(i:OA)(j k:Nat)(q y:Vu)(b:Nat)(s:BA)(bd:Bool)(w:Wd)
  (r:w.cell? ⟨b,0,none⟩=some (.string s))
  (A:f=3->∀w',Below w.heap.size w w'->Calls prog 354 #[q,.agg #[.string a,.int .i64 g]] w' λe w2=>∃u v,e=.returned (.tuple #[.agg #[.int .i64 u,.int .i64 v],.bool bd])/\Below w'.heap.size w' w2):
  Calls prog 424 #[.agg (Dl.cells ⟨f,h,c,a,g,i,j,k⟩),q,y,bp b] w λe w'=>e=.returned (.bool (f==3&&decide (a=s)&&!bd))/\Below w.heap.size w w':=by
 show Calls prog 424 #[.agg #[.int .i64 f,.int .i64 h,.bool c,.string a,.int .i64 g,.slice i j k],q,y,bp b] w _;have lb:=qae r;have c0:=(qac lb (.cells #[.int .i64 f,.int .i64 h,.bool c,.string a,.int .i64 g,.slice i j k] 134)).trans r;have B:=hZ A;clear A;go_enter func424,ntmps424
 go_wp2_with (first|(go_at_call 327;refine(qdl f h c a g i j k s _).mono ?_;rintro e w2 ⟨rfl,l⟩;refine Hid.out ?_))
 have C:Below w.heap.size w w2:=(qaa _ _).trans (l.mono (by simp));have d:w2.heap[w.heap.size]? =some (.cells #[.int .i64 f,.int .i64 h,.bool c,.string a,.int .i64 g,.slice i j k] 134 (0,0)):=(l.block _ (by simp)).trans (eN _ _);have E:w2.cell? ⟨w.heap.size,0,none⟩=some (.int .i64 f):=by simp only[World.cell?,d];rfl
 have F:w2.cell? ⟨w.heap.size,1,none⟩=some (.int .i64 h):=by simp only[World.cell?,d];rfl
 have G:w2.cell? ⟨w.heap.size,2,none⟩=some (.bool c):=by simp only[World.cell?,d];rfl
 have H:w2.cell? ⟨w.heap.size,3,none⟩=some (.string a):=by simp only[World.cell?,d];rfl
 have I:w2.cell? ⟨w.heap.size,4,none⟩=some (.int .i64 g):=by simp only[World.cell?,d];rfl
 have J:w2.cell? ⟨w.heap.size,5,none⟩=some (.slice i j k):=by simp only[World.cell?,d];rfl
 have t:=hZ C;clear C l d c0 lb r;cases hg:(f==3&&decide (a=s))with
 |false=>
  have x:=hZ hg;clear hg;refine hZ ?_;go_wp2;go_ret;exact⟨by rw[x.out];rfl,t.out⟩
 |true=>
  obtain⟨D,-⟩:f=3/\a=s:=by simpa using hg
  subst D;have x:=hZ hg;have z:=hZ (B.out rfl);clear hg B;refine hZ ?_;go_wp2_with (first|(go_at_call 296;refine(qa8 h c a g i j k _).mono ?_;rintro e w3 ⟨rfl,n⟩;have m:=hZ (t.out.trans (n.mono t.out.size));clear n;refine Hid.out ?_))
  refine hZ ?_;unfold idV;go_wp2_with (first|(go_at_call 354;refine(z.out _ m.out).mono ?_;rintro e w4 ⟨u,v,rfl,o⟩;have p:=hZ (m.out.trans (o.mono m.out.size));clear o;refine Hid.out ?_))
  refine hZ ?_;go_wp2;go_ret;exact⟨by rw[x.out];rfl,p.out.alloc (by simpa using p.out.size) _⟩
def set7(w:Wd)(b o:Nat)(v0 v1 v2 v3 v4 v5 v6:Vu):Wd:=((((((w.setCell ⟨b,o,none⟩ v0).setCell ⟨b,o+1,none⟩ v1).setCell ⟨b,o+2,none⟩ v2).setCell ⟨b,o+3,none⟩ v3).setCell ⟨b,o+4,none⟩ v4).setCell ⟨b,o+5,none⟩ v5).setCell ⟨b,o+6,none⟩ v6
theorem q15(h i:Int)(a:Bool)(d:BA)(l:Int)(m:OA)(p q:Nat)(r:Vu)(g o n c b k:Nat)(w:Wd)
  (t:w.cell? ⟨b,0,none⟩=some (.int .i64 (k:Int)))(z:k<n)(_:n<=1000000000000)
  (f:∀j,j<7->∃v,w.cell? ⟨g,o+k*7+j,none⟩=some v)(u:∀j,w.frozen? ⟨g,j,none⟩=false):
  Calls prog 419 #[.agg (Dl.cells ⟨h,i,a,d,l,m,p,q⟩),r,.slice (some ⟨g,o,none⟩) n c,bp b] w λe w'=>e=.returned (.bool true)/\Lk ((set7 w g (o+k*7) (.int .i64 h) (.int .i64 i) (.bool a) (.string d) (.int .i64 l) (.slice m p q) (.slice none 0 0)).alloc (.cells (Dl.cells ⟨h,i,a,d,l,m,p,q⟩) 134)) w':=by
 show Calls prog 419 #[.agg #[.int .i64 h,.int .i64 i,.bool a,.string d,.int .i64 l,.slice m p q],r,.slice (some ⟨g,o,none⟩) n c,bp b] w _;have lb:=qae t;obtain⟨A,s⟩:=f 0 (by omega);obtain⟨B,C⟩:=f 1 (by omega);obtain⟨D,E⟩:=f 2 (by omega);obtain⟨F,G⟩:=f 3 (by omega);obtain⟨H,I⟩:=f 4 (by omega);obtain⟨J,K⟩:=f 5 (by omega);obtain⟨L,M⟩:=f 6 (by omega);have N:=qae s;simp only[Nat.add_zero]at s;have x:(k:Int)<(n:Int):=by omega
 have y:(0:Int)<=(k:Int):=by omega
 clear f;go_enter func419,ntmps419
 go_wp2;go_ret;exact⟨rfl,rfl,rfl,rfl,rfl⟩
theorem qp5(d f:Int)(a:Bool)(c:BA)(g:Int)(h:OA)(i j:Nat)(k l:Vu)(b:Nat)(w:Wd)(m:d≠4):
  Calls prog 404 #[.agg (Dl.cells ⟨d,f,a,c,g,h,i,j⟩),k,l,bp b] w λe w'=>e=.returned (.bool false)/\Below w.heap.size w w':=by
 show Calls prog 404 #[.agg #[.int .i64 d,.int .i64 f,.bool a,.string c,.int .i64 g,.slice h i j],k,l,bp b] w _;have e4:(d==4)=false:=by simpa using m
 go_enter func404,ntmps404
 go_wp2;go_ret;exact⟨rfl,qaa _ _⟩
theorem qz8(i:Int)(a:Bool)(c:BA)(j:Int)(d:OA)(g h:Nat)(k l:Vu)(b f:Nat)(m:Array Vu)(w:Wd)(Q:En->Wd->Prop)
  (s:∀args w,(callFunc f args).run prog w=.ok (.enter f args) w)
  (o:w.cell? ⟨b,0,none⟩=some (.func (.func f) #[] m))
  (H:∀w',Lk (w.alloc (.cells (Dl.cells ⟨4,i,a,c,j,d,g,h⟩) 134)) w'->Calls prog f (#[.slice d g h,k,l]++m) w' λe w2=>∃r,e=.returned (.bool r)/\∀w3,Lk w2 w3->Q (.returned (.bool r)) w3):
  Calls prog 404 #[.agg (Dl.cells ⟨4,i,a,c,j,d,g,h⟩),k,l,bp b] w Q:=by
 show Calls prog 404 #[.agg #[.int .i64 4,.int .i64 i,.bool a,.string c,.int .i64 j,.slice d g h],k,l,bp b] w _;have p:=hZ H;have lb:=qae o;clear H;go_enter func404,ntmps404
 go_wp2_with (go_at_fn f;refine(p.out _ (by exact⟨rfl,rfl,rfl,rfl⟩)).mono ?_;rintro e w2 ⟨r,rfl,n⟩;have q:=hZ n;clear n)
 exact q.out _ ⟨rfl,rfl,rfl,rfl⟩
theorem q3j(c d:Int)(a:Bool)(b:BA)(f:Int)(g:OA)(h i:Nat)(j k:Vu)(w:Wd):
  Calls prog 416 #[.agg (Dl.cells ⟨c,d,a,b,f,g,h,i⟩),j,k] w λe w'=>e=.returned (.bool true)/\Below w.heap.size w w':=by
 show Calls prog 416 #[.agg #[.int .i64 c,.int .i64 d,.bool a,.string b,.int .i64 f,.slice g h i],j,k] w _;go_enter func416,ntmps416
 go_wp2;go_ret;exact⟨rfl,qaa _ _⟩
theorem qv2(s:BA)(w:Wd):Calls prog 415 #[.string s] w λe w'=>e=.returned (.func (.func 424) #[] #[bp w.heap.size])/\Lk (w.alloc (.cells #[.string s] 9)) w':=by
 go_enter func415,ntmps415
 go_wp2;go_ret;exact⟨rfl,rfl,rfl,rfl,rfl⟩
theorem tkI{f:Region.Mode}{d:Array Oper}{Q:Exit->Act->Wd->Prop}{S:Wd->Prop}{e:Nat}{b:Array Bool}{a:Act}(i:Nat)(oi:Oper)(v:Vu)
  (h:wpAnyH P f d Q S e (b.setIfInBounds i true) a' w)(g:YieldsIf P d S oi v a:=by exact Or.inl ⟨by rfl,by intro w hSw;(try dsimp only at hSw);(try obtain⟨q,r,s,t,u,x,y,z⟩:=hSw);go_simp;try with_reducible rfl⟩)(j:a.put oi.dst v=a':=by simp only[Act.put,List.setIfInBounds_toArray,List.set_cons_zero,List.set_cons_succ];rfl)
  (k:d[i]? =some oi:=by rfl)(l:Region.noSelect d=true:=by kernel_rfl)(m:Region.free f d b i=true:=by kernel_rfl)(n:(Region.ready f d b).contains i=true:=by kernel_rfl)
  (o:∀c a w,Q (.panic c) (a.put oi.dst v) w->Q (.panic c) a w:=by exact λ_ _ _ h=>h)(p:S w:=by assumption):wpAnyH P f d Q S (e+1) b a w:=wpAnyH_take k l m n o g p (j▸h)
theorem tkJ{f:Region.Mode}{d:Array Oper}{Q:Exit->Act->Wd->Prop}{S:Wd->Prop}{e:Nat}{b:Array Bool}{a:Act}(i:Nat)(oi:Oper)
  (h:wpAnyH P f d Q S e (b.setIfInBounds i true) a' w)(g:YieldsIf P d S oi undef a:=by exact Or.inr ⟨by rfl,rfl⟩)(j:a.put oi.dst undef=a':=by simp only[Act.put,List.setIfInBounds_toArray,List.set_cons_zero,List.set_cons_succ];rfl)
  (k:d[i]? =some oi:=by rfl)(l:Region.noSelect d=true:=by kernel_rfl)(m:Region.free f d b i=true:=by kernel_rfl)(n:(Region.ready f d b).contains i=true:=by kernel_rfl)
  (o:∀c a w,Q (.panic c) (a.put oi.dst undef) w->Q (.panic c) a w:=by exact λ_ _ _ h=>h)(p:S w:=by assumption):wpAnyH P f d Q S (e+1) b a w:=wpAnyH_take k l m n o g p (j▸h)
theorem qqz(a:OA)(c:Nat)(b d:Vu)(b1 f:Nat)(w:Wd):Calls prog 390 #[.slice a 0 c,b,d,bp b1,bp f] w λe w'=>e=.returned (.bool false)/\Lk w w':=by
 go_enter func390,ntmps390
 go_wp2_with (fail)
 refine wp_region_held_drew (S:=λ_=>True) (by kernel_rfl) trivial (λhHeld=>?_);refine tkI 0 ⟨some 9,.move (.tmp 0),132,"pattern.go:60",#[],none⟩ ?_ ?_
 refine tkI 1 ⟨some 10,.call ⟨.builtin .len,#[.tmp 9],#[132]⟩,3,"pattern.go:60",#[⟨0,.data⟩],none⟩ ?_ ?_
 refine tkI 2 ⟨some 11,.binOp .gtr 3 (.tmp 10) (.const (.int .i64 0)) 3,4,"pattern.go:60",#[⟨1,.data⟩],none⟩ ?_ ?_
 refine tkI 3 ⟨some 12,.move (.tmp 11),4,"pattern.go:60",#[⟨2,.data⟩],none⟩ ?_ ?_
 refine tkJ 4 ⟨some 13,.load 466 (.tmp 3),466,"pattern.go:60",#[⟨3,.guard⟩],some (3,true)⟩ ?_
 refine tkJ 5 ⟨some 14,.move (.tmp 0),132,"pattern.go:60",#[⟨3,.guard⟩],some (3,true)⟩ ?_
 refine tkJ 6 ⟨some 15,.indexAddr 132 (.tmp 14) (.const (.int .i64 0)),0,"pattern.go:60",#[⟨5,.data⟩,⟨3,.guard⟩],some (3,true)⟩ ?_
 refine tkJ 7 ⟨some 16,.load 134 (.tmp 15),134,"pattern.go:60",#[⟨6,.data⟩,⟨3,.guard⟩],some (3,true)⟩ ?_
 refine tkJ 8 ⟨some 17,.move (.tmp 1),326,"pattern.go:60",#[⟨3,.guard⟩],some (3,true)⟩ ?_
 refine tkJ 9 ⟨some 18,.move (.tmp 2),407,"pattern.go:60",#[⟨3,.guard⟩],some (3,true)⟩ ?_
 refine tkJ 10 ⟨some 19,.call ⟨.value (.tmp 13),#[.tmp 16,.tmp 17,.tmp 18],#[134,326,407]⟩,4,"pattern.go:60",#[⟨4,.data⟩,⟨7,.data⟩,⟨8,.data⟩,⟨9,.data⟩,⟨3,.chain⟩,⟨3,.guard⟩],some (3,true)⟩ ?_
 refine tkI 11 ⟨some 20,.pick (.tmp 12) (.tmp 19) (.const (.bool false)),4,"pattern.go:60",#[⟨3,.data⟩,⟨10,.data⟩],none⟩ ?_ ?_
 refine tkI 12 ⟨some 21,.move (.tmp 20),4,"pattern.go:60",#[⟨11,.data⟩,⟨10,.chain⟩],none⟩ ?_ ?_
 refine tkJ 13 ⟨some 22,.load 400 (.tmp 4),400,"pattern.go:60",#[⟨12,.guard⟩],some (12,true)⟩ ?_
 refine tkJ 14 ⟨some 23,.move (.tmp 0),132,"pattern.go:60",#[⟨12,.guard⟩],some (12,true)⟩ ?_
 refine tkJ 15 ⟨some 24,.slice 132 (.tmp 23) (some (.const (.int .i64 1))) none none,132,"pattern.go:60",#[⟨14,.data⟩,⟨12,.guard⟩],some (12,true)⟩ ?_
 refine tkJ 16 ⟨some 25,.move (.tmp 1),326,"pattern.go:60",#[⟨12,.guard⟩],some (12,true)⟩ ?_
 refine tkJ 17 ⟨some 26,.move (.tmp 2),407,"pattern.go:60",#[⟨12,.guard⟩],some (12,true)⟩ ?_
 refine tkJ 18 ⟨some 27,.call ⟨.value (.tmp 22),#[.tmp 24,.tmp 25,.tmp 26],#[132,326,407]⟩,4,"pattern.go:60",#[⟨13,.data⟩,⟨15,.data⟩,⟨16,.data⟩,⟨17,.data⟩,⟨12,.chain⟩,⟨12,.guard⟩],some (12,true)⟩ ?_
 refine tkI 19 ⟨some 28,.pick (.tmp 21) (.tmp 27) (.const (.bool false)),4,"pattern.go:60",#[⟨12,.data⟩,⟨18,.data⟩],none⟩ ?_ ?_
 refine tkI 20 ⟨some 8,.assign (.tmp 28),4,"pattern.go:60",#[⟨19,.data⟩,⟨18,.chain⟩,⟨0,.phase⟩,⟨1,.phase⟩,⟨2,.phase⟩,⟨3,.phase⟩,⟨4,.phase⟩,⟨5,.phase⟩,⟨6,.phase⟩,⟨7,.phase⟩,⟨8,.phase⟩,⟨9,.phase⟩,⟨10,.phase⟩,⟨11,.phase⟩,⟨12,.phase⟩,⟨13,.phase⟩,⟨14,.phase⟩,⟨15,.phase⟩,⟨16,.phase⟩,⟨17,.phase⟩,⟨18,.phase⟩,⟨19,.phase⟩],none⟩ ?_ ?_
 refine wpAnyH_done (by kernel_rfl) ?_ _;go_wp2;go_ret;exact⟨rfl,rfl,rfl,rfl,rfl⟩
def qup(b1 b2 f1 f2 g o:Nat)(c1 c2:Array Vu)(xk xn:Int)(xtr:Bool)(xtx:BA)(xm:Int)(xa:OA)(xl xc:Nat)(w':Wd):Prop:=w'.cell? ⟨b1,0,none⟩=some (.func (.func f1) #[] c1)/\w'.cell? ⟨b2,0,none⟩=some (.func (.func f2) #[] c2)/\w'.cell? ⟨g,o,none⟩=some (.int .i64 xk)/\w'.cell? ⟨g,o+1,none⟩=some (.int .i64 xn)/\w'.cell? ⟨g,o+2,none⟩=some (.bool xtr)/\w'.cell? ⟨g,o+3,none⟩=some (.string xtx)/\w'.cell? ⟨g,o+4,none⟩=some (.int .i64 xm)/\w'.cell? ⟨g,o+5,none⟩=some (.slice xa xl xc)
theorem q07(g o n c b1 j d f:Nat)(c1 c2:Array Vu)(k l:Int)(a:Bool)(b:BA)(m:Int)(p:OA)(q s:Nat)(u v:Vu)(w:Wd)(P:Wd->Prop)(Q:En->Wd->Prop)
  (F:∀args w,(callFunc d args).run prog w=.ok (.enter d args) w)(G:∀args w,(callFunc f args).run prog w=.ok (.enter f args) w)
  (H:qup b1 j d f g o c1 c2 k l a b m p q s w)(I:n+1<=c)
  (C:∀w',Lk w w'->Calls prog d (#[.agg #[.int .i64 k,.int .i64 l,.bool a,.string b,.int .i64 m,.slice p q s],u,v]++c1) w' λe w2=>(e=.returned (.bool true)/\qup b1 j d f g o c1 c2 k l a b m p q s w2/\P w2)\/(e=.returned (.bool false)/\qup b1 j d f g o c1 c2 k l a b m p q s w2/\∀w3,Lk w2 w3->Q (.returned (.bool false)) w3))
  (D:∀w2,P w2->∀w',Lk w2 w'->Calls prog f (#[.slice (tlD g o c 1) n (c-1),u,v]++c2) w' λe w3=>∃r,e=.returned (.bool r)/\qup b1 j d f g o c1 c2 k l a b m p q s w3/\∀w4,Lk w3 w4->Q (.returned (.bool r)) w4):
  Calls prog 390 #[.slice (some ⟨g,o,none⟩) (n+1) c,u,v,bp b1,bp j] w Q:=by
 have J:∀w,(Instr.slice 132 (.slice (some ⟨g,o,none⟩) (n+1) c) (some (.int .i64 1)) none none).run prog w=.ok (.slice (tlD g o c 1) n (c-1)) w:=λw=>qbz g o n c I w
 have x:=hZ C;have y:=hZ D;have L:(0:Int)<(n:Int)+1:=by omega
 clear C D;go_enter func390,ntmps390
 go_wp2_with (fail)
 refine wp_region_held_drew (S:=λw'=>w'.cell? ⟨b1,0,none⟩=some (.func (.func d) #[] c1)/\w'.cell? ⟨j,0,none⟩=some (.func (.func f) #[] c2)/\w'.cell? ⟨g,o,none⟩=some (.int .i64 k)/\w'.cell? ⟨g,o+1,none⟩=some (.int .i64 l)/\w'.cell? ⟨g,o+2,none⟩=some (.bool a)/\w'.cell? ⟨g,o+3,none⟩=some (.string b)/\w'.cell? ⟨g,o+4,none⟩=some (.int .i64 m)/\w'.cell? ⟨g,o+5,none⟩=some (.slice p q s)) (by kernel_rfl) (by exact H) (λhHeld=>?_);refine tkI 0 ⟨some 9,.move (.tmp 0),132,"pattern.go:60",#[],none⟩ ?_ ?_
 refine tkI 1 ⟨some 10,.call ⟨.builtin .len,#[.tmp 9],#[132]⟩,3,"pattern.go:60",#[⟨0,.data⟩],none⟩ ?_ ?_
 refine tkI 2 ⟨some 11,.binOp .gtr 3 (.tmp 10) (.const (.int .i64 0)) 3,4,"pattern.go:60",#[⟨1,.data⟩],none⟩ ?_ ?_
 refine tkI 3 ⟨some 12,.move (.tmp 11),4,"pattern.go:60",#[⟨2,.data⟩],none⟩ ?_ ?_
 refine tkI 4 ⟨some 13,.load 466 (.tmp 3),466,"pattern.go:60",#[⟨3,.guard⟩],some (3,true)⟩ ?_ ?_
 refine tkI 5 ⟨some 14,.move (.tmp 0),132,"pattern.go:60",#[⟨3,.guard⟩],some (3,true)⟩ ?_ ?_
 refine tkI 6 ⟨some 15,.indexAddr 132 (.tmp 14) (.const (.int .i64 0)),0,"pattern.go:60",#[⟨5,.data⟩,⟨3,.guard⟩],some (3,true)⟩ ?_ ?_
 refine tkI 7 ⟨some 16,.load 134 (.tmp 15),134,"pattern.go:60",#[⟨6,.data⟩,⟨3,.guard⟩],some (3,true)⟩ ?_ ?_
 refine tkI 8 ⟨some 17,.move (.tmp 1),326,"pattern.go:60",#[⟨3,.guard⟩],some (3,true)⟩ ?_ ?_
 refine tkI 9 ⟨some 18,.move (.tmp 2),407,"pattern.go:60",#[⟨3,.guard⟩],some (3,true)⟩ ?_ ?_
 refine wpAnyH_ready (rs:=[10]) (by kernel_rfl) (by simp) ?_;refine AllReadyH.cons (o:=⟨some 19,.call ⟨.value (.tmp 13),#[.tmp 16,.tmp 17,.tmp 18],#[134,326,407]⟩,4,"pattern.go:60",#[⟨4,.data⟩,⟨7,.data⟩,⟨8,.data⟩,⟨9,.data⟩,⟨3,.chain⟩,⟨3,.guard⟩],some (3,true)⟩) rfl (λK i=>?_) AllReadyH.nil
 go_simp
 go_wp2_with (go_at_fn d;refine(x.out _ (by exact⟨rfl,rfl,rfl,rfl⟩)).mono ?_;rintro e w2 (⟨rfl,h,E⟩|⟨rfl,h,t⟩))
 ·have M:=hZ E;have z:=hZ h;clear E h;refine i.out _ _ (by exact z.out) (λhHeld=>?_);clear i K
  try simp only[Act.put,List.setIfInBounds_toArray,List.set_cons_zero,List.set_cons_succ]
  refine tkI 11 ⟨some 20,.pick (.tmp 12) (.tmp 19) (.const (.bool false)),4,"pattern.go:60",#[⟨3,.data⟩,⟨10,.data⟩],none⟩ ?_ ?_
  refine tkI 12 ⟨some 21,.move (.tmp 20),4,"pattern.go:60",#[⟨11,.data⟩,⟨10,.chain⟩],none⟩ ?_ ?_
  refine tkI 13 ⟨some 22,.load 400 (.tmp 4),400,"pattern.go:60",#[⟨12,.guard⟩],some (12,true)⟩ ?_ ?_
  refine tkI 14 ⟨some 23,.move (.tmp 0),132,"pattern.go:60",#[⟨12,.guard⟩],some (12,true)⟩ ?_ ?_
  refine tkI 15 ⟨some 24,.slice 132 (.tmp 23) (some (.const (.int .i64 1))) none none,132,"pattern.go:60",#[⟨14,.data⟩,⟨12,.guard⟩],some (12,true)⟩ ?_ ?_
  refine tkI 16 ⟨some 25,.move (.tmp 1),326,"pattern.go:60",#[⟨12,.guard⟩],some (12,true)⟩ ?_ ?_
  refine tkI 17 ⟨some 26,.move (.tmp 2),407,"pattern.go:60",#[⟨12,.guard⟩],some (12,true)⟩ ?_ ?_
  refine wpAnyH_ready (rs:=[18]) (by kernel_rfl) (by simp) ?_;refine AllReadyH.cons (o:=⟨some 27,.call ⟨.value (.tmp 22),#[.tmp 24,.tmp 25,.tmp 26],#[132,326,407]⟩,4,"pattern.go:60",#[⟨13,.data⟩,⟨15,.data⟩,⟨16,.data⟩,⟨17,.data⟩,⟨12,.chain⟩,⟨12,.guard⟩],some (12,true)⟩) rfl (λK i=>?_) AllReadyH.nil
  go_simp
  go_wp2_with (go_at_fn f;refine(y.out _ M.out _ (by exact⟨rfl,rfl,rfl,rfl⟩)).mono ?_;rintro e w3 ⟨r,rfl,h,t⟩)
  have A:=hZ h;have B:=hZ t;clear h t;refine i.out _ _ (by exact A.out) (λhHeld=>?_);clear i K
  try simp only[Act.put,List.setIfInBounds_toArray,List.set_cons_zero,List.set_cons_succ]
  refine tkI 19 ⟨some 28,.pick (.tmp 21) (.tmp 27) (.const (.bool false)),4,"pattern.go:60",#[⟨12,.data⟩,⟨18,.data⟩],none⟩ ?_ ?_
  refine tkI 20 ⟨some 8,.assign (.tmp 28),4,"pattern.go:60",#[⟨19,.data⟩,⟨18,.chain⟩,⟨0,.phase⟩,⟨1,.phase⟩,⟨2,.phase⟩,⟨3,.phase⟩,⟨4,.phase⟩,⟨5,.phase⟩,⟨6,.phase⟩,⟨7,.phase⟩,⟨8,.phase⟩,⟨9,.phase⟩,⟨10,.phase⟩,⟨11,.phase⟩,⟨12,.phase⟩,⟨13,.phase⟩,⟨14,.phase⟩,⟨15,.phase⟩,⟨16,.phase⟩,⟨17,.phase⟩,⟨18,.phase⟩,⟨19,.phase⟩],none⟩ ?_ ?_
  refine wpAnyH_done (by kernel_rfl) ?_ _;go_wp2;exact B.out _ ⟨rfl,rfl,rfl,rfl⟩
 ·have B:=hZ t;have z:=hZ h;clear t h;refine i.out _ _ (by exact z.out) (λhHeld=>?_);clear i K
  try simp only[Act.put,List.setIfInBounds_toArray,List.set_cons_zero,List.set_cons_succ]
  refine tkI 11 ⟨some 20,.pick (.tmp 12) (.tmp 19) (.const (.bool false)),4,"pattern.go:60",#[⟨3,.data⟩,⟨10,.data⟩],none⟩ ?_ ?_
  refine tkI 12 ⟨some 21,.move (.tmp 20),4,"pattern.go:60",#[⟨11,.data⟩,⟨10,.chain⟩],none⟩ ?_ ?_
  refine tkJ 13 ⟨some 22,.load 400 (.tmp 4),400,"pattern.go:60",#[⟨12,.guard⟩],some (12,true)⟩ ?_
  refine tkJ 14 ⟨some 23,.move (.tmp 0),132,"pattern.go:60",#[⟨12,.guard⟩],some (12,true)⟩ ?_
  refine tkJ 15 ⟨some 24,.slice 132 (.tmp 23) (some (.const (.int .i64 1))) none none,132,"pattern.go:60",#[⟨14,.data⟩,⟨12,.guard⟩],some (12,true)⟩ ?_
  refine tkJ 16 ⟨some 25,.move (.tmp 1),326,"pattern.go:60",#[⟨12,.guard⟩],some (12,true)⟩ ?_
  refine tkJ 17 ⟨some 26,.move (.tmp 2),407,"pattern.go:60",#[⟨12,.guard⟩],some (12,true)⟩ ?_
  refine tkJ 18 ⟨some 27,.call ⟨.value (.tmp 22),#[.tmp 24,.tmp 25,.tmp 26],#[132,326,407]⟩,4,"pattern.go:60",#[⟨13,.data⟩,⟨15,.data⟩,⟨16,.data⟩,⟨17,.data⟩,⟨12,.chain⟩,⟨12,.guard⟩],some (12,true)⟩ ?_
  refine tkI 19 ⟨some 28,.pick (.tmp 21) (.tmp 27) (.const (.bool false)),4,"pattern.go:60",#[⟨12,.data⟩,⟨18,.data⟩],none⟩ ?_ ?_
  refine tkI 20 ⟨some 8,.assign (.tmp 28),4,"pattern.go:60",#[⟨19,.data⟩,⟨18,.chain⟩,⟨0,.phase⟩,⟨1,.phase⟩,⟨2,.phase⟩,⟨3,.phase⟩,⟨4,.phase⟩,⟨5,.phase⟩,⟨6,.phase⟩,⟨7,.phase⟩,⟨8,.phase⟩,⟨9,.phase⟩,⟨10,.phase⟩,⟨11,.phase⟩,⟨12,.phase⟩,⟨13,.phase⟩,⟨14,.phase⟩,⟨15,.phase⟩,⟨16,.phase⟩,⟨17,.phase⟩,⟨18,.phase⟩,⟨19,.phase⟩],none⟩ ?_ ?_
  refine wpAnyH_done (by kernel_rfl) ?_ _;go_wp2;exact B.out _ ⟨rfl,rfl,rfl,rfl⟩
structure Wk (G:Gh) (w0:Wd) (H:Gh) (w:Wd):Prop where
 ext:G.ext H w0.heap.size
 J:H.J=G.J
 bel:Below w0.heap.size w0 w
 imm:∀{b:Nat} {o:Obj},H.I b=some o->w.heap[b]? =some o
 iv:∃S m,Inv G S m w0
theorem Wk.start(i:Inv G S m w):Wk G w G w:=⟨Gh.ext.refl _ _,rfl,Below.refl _ _,λh=>i.imm h,S,m,i⟩
theorem Wk.inv(k:Wk G w0 H w)(i:Inv G S m w0):Inv H S m w:=
 i.grow k.bel k.ext.le k.J k.ext.E k.ext.B k.ext.W k.ext.F fun {b o} h=>by
  rcases Nat.lt_or_ge b w0.heap.size with hb|hb
  ·exact .inl (by rw[<-k.ext.I hb];exact h)
  ·exact .inr ⟨hb,k.imm h⟩
theorem Wk.known(k:Wk G w0 H w):∃S m,Inv H S m w:=by obtain⟨S,m,i⟩:=k.iv;exact⟨S,m,k.inv i⟩
theorem Wk.mv(k:Wk G w0 H w):Mv G w0 H w:=Mv.ext k.ext k.bel
theorem Wk.lt(k:Wk G w0 H w)(h:H.I b=some o):b<w.heap.size:=(eE.1 (k.imm h)).1
theorem Wk.fresh{G H:Gh}{w0 w:Wd}(k:Wk G w0 H w){b:Nat}(h:w.heap.size<=b):H.I b=none:=by
 cases hc:H.I b with
 |none=>rfl
 |some o=>have:=k.lt hc;omega
structure Sp (L:Nat->Prop) (H:Gh) (w:Wd) (H':Gh) (w':Wd):Prop where
 ext:H.ext H' w.heap.size
 J:H'.J=H.J
 blk:∀{k:Nat},k<w.heap.size->¬L k->w'.heap[k]? =w.heap[k]?
 size:w.heap.size<=w'.heap.size
 same:w'.os=w.os/\w'.tape=w.tape/\w'.output=w.output
theorem Sp.refl(L:Nat->Prop)(H:Gh)(w:Wd):Sp L H w H w:=⟨Gh.ext.refl _ _,rfl,λ_ _=>rfl,eR _,rfl,rfl,rfl⟩
theorem Sp.trans{L:Nat->Prop}{v:Wd}(a:Sp L A u B v)(b:Sp L B v C w):Sp L A u C w:=
 ⟨a.ext.trans b.ext a.size,b.J.trans a.J,λc d=>(b.blk (eW c a.size) d).trans (a.blk c d),eT a.size b.size,b.same.1.trans a.same.1,b.same.2.1.trans a.same.2.1,b.same.2.2.trans a.same.2.2⟩
theorem Sp.then{L M:Nat->Prop}{v:Wd}(a:Sp L A u B v)(b:Sp M B v C w)(h:∀k,k<u.heap.size->M k->L k):Sp L A u C w:=
 ⟨a.ext.trans b.ext a.size,b.J.trans a.J,λc d=>(b.blk (eW c a.size) (λe=>d (h _ c e))).trans (a.blk c d),eT a.size b.size,b.same.1.trans a.same.1,b.same.2.1.trans a.same.2.1,b.same.2.2.trans a.same.2.2⟩
theorem Sp.mono{L M:Nat->Prop}{v:Wd}(a:Sp L A u B v)(h:∀k,k<u.heap.size->L k->M k):Sp M A u B v:=⟨a.ext,a.J,λb c=>a.blk b (λd=>c (h _ b d)),a.size,a.same⟩
theorem Sp.below{L:Nat->Prop}(b:Below w.heap.size w w'):Sp L H w H w':=⟨Gh.ext.refl _ _,rfl,λa _=>b.block _ a,b.size,b.os,b.tape,b.output⟩
theorem Sp.lk{L:Nat->Prop}(b:Lk w w'):Sp L H w H w':=⟨Gh.ext.refl _ _,rfl,λ_ _=>by rw[b.heap],by rw[b.heap];exact eR _,b.os,b.tape,b.output⟩
theorem Sp.set{L:Nat->Prop}{a:Addr}{v:Vu}(h:L a.block):Sp L H w H (w.setCell a v):=⟨Gh.ext.refl _ _,rfl,fun {k} _ b=>qab (a:=a) k (λe=>b (e▸h)),by rw[qag];exact eR _,rfl,rfl,rfl⟩
theorem Sp.grown{L:Nat->Prop}{row:Option Nat}(g:w.grownBy w' row)(h:∀b,row=some b->L b):Sp L H w H w':=⟨Gh.ext.refl _ _,rfl,λa c=>g.block _ a (λe=>c (h _ e.symm)),g.size,g.os,g.tape,g.output⟩
theorem Sp.fix{L:Nat->Prop}(a:Sp L H w H' w')(e:w.heap.size<=b)(hI:H'.I b=none):Sp L H w (H'.add b o) w':=
 ⟨⟨a.ext.le.trans (Gh.le_add hI),a.ext.E,a.ext.B,fun {c} d=>(if_neg (by omega)).trans (a.ext.I d),a.ext.W,a.ext.F⟩,a.J,a.blk,a.size,a.same⟩
theorem Sp.loose{L:Nat->Prop}(a:Sp L H w H' w')(c:b<w.heap.size)(h:H.I b=none):H'.I b=none:=by rw[a.ext.I c];exact h
theorem Wk.step{L:Nat->Prop}(k:Wk G w0 H w)(s:Sp L H w H' w')(e:∀b,L b->w0.heap.size<=b/\H.I b=none)(g:∀{b:Nat} {o:Obj},w.heap.size<=b->H'.I b=some o->w'.heap[b]? =some o):Wk G w0 H' w':=by
 refine⟨k.ext.trans s.ext k.bel.size,s.J.trans k.J,⟨s.same.1.trans k.bel.os,s.same.2.1.trans k.bel.tape,s.same.2.2.trans k.bel.output,eT k.bel.size s.size,λc f=>?_⟩,fun {b o} h=>?_,k.iv⟩
 ·rw[s.blk (eW f k.bel.size) (λa=>by have:=(e c a).1;omega)];exact k.bel.block c f
 ·rcases Nat.lt_or_ge b w.heap.size with hb|hb
  ·have d:H.I b=some o:=by rw[<-s.ext.I hb];exact h
   rw[s.blk hb (λa=>by rw[(e b a).2]at d;cases d)];exact k.imm d
  ·exact g hb h
theorem Wk.go{L:Nat->Prop}(k:Wk G w0 H w)(s:Sp L H w H w')(a:∀b,L b->w0.heap.size<=b/\H.I b=none):Wk G w0 H w':=k.step s a λc h=>by have:=k.lt h;omega
theorem Wk.below(k:Wk G w0 H w)(b:Below w.heap.size w w'):Wk G w0 H w':=k.go (L:=λ_=>False) (Sp.below b) nofun
theorem Wk.lk(k:Wk G w0 H w)(b:Lk w w'):Wk G w0 H w':=k.go (L:=λ_=>False) (Sp.lk b) nofun
theorem Wk.fix(k:Wk G w0 H w)(g:w0.heap.size<=b)(hI:H.I b=none)(d:w.heap[b]? =some o):Wk G w0 (H.add b o) w:=by
 refine⟨⟨k.ext.le.trans (Gh.le_add hI),k.ext.E,k.ext.B,fun {c} f=>(if_neg (by omega)).trans (k.ext.I f),k.ext.W,k.ext.F⟩,k.J,k.bel,fun {c x} h=>?_,k.iv⟩;have a:(if c=b then some o else H.I c)=some x:=h;by_cases e:c=b
 ·subst e;rw[if_pos rfl]at a;cases a;exact d
 ·rw[if_neg e]at a;exact k.imm a
def qet:List Vu:=[.int .i64 0,.int .i64 0,.bool false,.string ⟨#[]⟩,.int .i64 0,.slice none 0 0]
mutual
inductive TRp (H:Gh):Tr->List Vu->Prop where
 |one (d:Dt) (e:Dl) (h:DRep H d e) (hm:qaf d<=1000000000000):TRp H (.one d) (e.cells.toList++[.slice none 0 0])
 |nil:TRp H (.row []) (qet++[.slice none 0 0])
 |row (l:List Tr) (g n cap:Nat) (cs:Array Vu) (xs:List Vu) (hg:H.I g=some (.cells cs 477 (0,0))) (hn:n=l.length) (hx:cs.toList.take (n*7)=xs) (hc:n<=cap) (hm:n<=1000000) (hs:TRps H l xs):TRp H (.row l) (qet++[.slice (some ⟨g,0,none⟩) n cap])
inductive TRps (H:Gh):List Tr->List Vu->Prop where
 |nil:TRps H [] []
 |cons (t:Tr) (r:List Tr) (c xs:List Vu) (h:TRp H t c) (hs:TRps H r xs):TRps H (t::r) (c++xs)
end
mutual
theorem TRp.mono{G H:Gh}(h:G.le H):∀{t c},TRp G t c->TRp H t c
 |_,_,.one d e a b=>.one d e (a.mono h) b
 |_,_,.nil=>.nil
 |_,_,.row l g n cap cs xs a b c d m e=>.row l g n cap cs xs (h.I a) b c d m (TRps.mono h e)
theorem TRps.mono{G H:Gh}(h:G.le H):∀{t c},TRps G t c->TRps H t c
 |_,_,.nil=>.nil
 |_,_,.cons t r c xs a b=>.cons t r c xs (TRp.mono h a) (TRps.mono h b)
end
theorem TRp.len{t:Tr}{c:List Vu}(h:TRp H t c):c.length=7:=by cases h <;> rfl
theorem TRp.form{t:Tr}{c:List Vu}(h:TRp H t c):∃k n d e m a l f g i b,c=[.int .i64 k,.int .i64 n,.bool d,.string e,.int .i64 m,.slice a l f,.slice g i b]:=by
 cases h <;> exact⟨_,_,_,_,_,_,_,_,_,_,_,rfl⟩
theorem TRp.rowLen{H:Gh}{l:List Tr}{c:List Vu}(h:TRp H (.row l) c):l.length<=1000000:=by
 cases h with
 |nil=>simp
 |row _ g n cap cs xs a b d e f i=>omega
theorem TRps.len{H:Gh}:∀{l:List Tr} {xs:List Vu},TRps H l xs->xs.length=l.length*7
 |_,_,.nil=>rfl
 |_,_,.cons t r c xs a b=>by simp only[List.length_append,List.length_cons,a.len,b.len];omega
theorem TRps.snoc{H:Gh}{t:Tr}{c:List Vu}(e:TRp H t c):∀{l:List Tr} {xs:List Vu},TRps H l xs->TRps H (l++[t]) (xs++c)
 |_,_,.nil=>by simpa using TRps.cons t [] c [] e .nil
 |_,_,.cons u r d xs a b=>by rw[List.append_assoc];exact .cons u _ d _ a (TRps.snoc e b)
theorem TRps.at{H:Gh}:∀{l:List Tr} {xs:List Vu},TRps H l xs->∀(i:Nat) (t:Tr),l[i]? =some t->∃c,TRp H t c/\∀j,j<7->xs[i*7+j]? =c[j]?
 |_,_,.nil,i,t,h=>by simp at h
 |_,_,.cons u r c xs a b,0,t,h=>by
  obtain rfl:u=t:=by simpa using h
  exact⟨c,a,λj e=>by rw[Nat.zero_mul,Nat.zero_add,eA (by rw[a.len];exact e)]⟩
 |_,_,.cons u r c xs a b,i+1,t,h=>by
  obtain⟨d,f,g⟩:=TRps.at b i t (by simpa using h);exact⟨d,f,λj e=>by rw[eB (by rw[a.len];omega),a.len,<-g j e];congr 1;omega⟩
def Fnd(ab:Nat)(sc:qaj)(w0:Wd):Prop:=∀(t:BA) (m:Int) (w:Wd),Below w0.heap.size w0 w->Calls prog 354 #[bp ab,idV t m] w λe w'=>e=.returned (qln (t.data.toList,m) sc)/\Below w.heap.size w w'
theorem XInv.fnd{sc:qaj}(i:XInv K X G S x sc w):Fnd X.ab sc w:=λt m _ h=>qox (i.below h) t m
def FAt(H:Gh)(at':Nat)(fc:Array Vu)(b:qdq):Prop:=∀(i:Nat) (p:Sc.Id×Tr),b[i]? =some p->∃xs,TRp H p.2 xs/\∀j,j<7->fc[(at'+i)*7+j]? =xs[j]?
def q1m(H:Gh)(at' n:Nat)(fc fc':Array Vu)(e':En):Option qdq->Prop
 |none=>e'=.returned (.bool false)
 |some b=>e'=.returned (.bool true)/\b.length=n/\(∀k,(k<at'*7\/(at'+n)*7<=k)->fc'[k]? =fc[k]?)/\FAt H at' fc' b
def MOut(G:Gh)(w0:Wd)(H:Gh)(w:Wd)(fb at' n:Nat)(fc:Array Vu)(r:Option qdq)(e':En)(w':Wd):Prop:=
 ∃H' fc',Wk G w0 H' w'/\Sp (·=fb) H w H' w'/\w'.heap[fb]? =some (.cells fc' 477 (0,0))/\fc'.size=fc.size/\q1m H' at' n fc fc' e' r
structure Fd (w0:Wd) (H:Gh) (w:Wd) (fb N:Nat) (fc:Array Vu):Prop where
 lo:w0.heap.size<=fb
 I:H.I fb=none
 row:w.heap[fb]? =some (.cells fc 477 (0,0))
 size:fc.size=N*7
 max:N<=1000000000000
def Mtc{α:Type}(G0:Gh)(at' n:Nat)(A:Gh->α->Vu->Prop)(R:qaj->α->Option qdq)(v:Vu):Prop:=∃f cp,v=.func (.func f) #[] cp/\Eg f/\
 ∀(G:Gh) (w0:Wd) (H:Gh) (w:Wd) (ab:Nat) (sc:qaj) (x:α) (y:Vu) (fb N:Nat) (fc:Array Vu),G0.le G->Fnd ab sc w0->Wk G w0 H w->A H x y->Fd w0 H w fb N fc->at'+n<=N->
  Calls prog f (#[y,bp ab,.slice (some ⟨fb,0,none⟩) N N]++cp) w (MOut G w0 H w fb at' n fc (R sc x))
theorem Mtc.mono{α:Type}{b c:Gh}{a n:Nat}{A:Gh->α->Vu->Prop}{R:qaj->α->Option qdq}{v:Vu}(h:b.le c):Mtc b a n A R v->Mtc c a n A R v
 |⟨f,cp,h1,h2,h3⟩=>⟨f,cp,h1,h2,λG w0 H w d sc x y fb N fc e=>h3 G w0 H w d sc x y fb N fc (h.trans e)⟩
def DV(H:Gh)(d:Dt)(y:Vu):Prop:=∃e:Dl,y=.agg e.cells/\DRep H d e/\qaf d<=1000000000000
def LV(H:Gh)(l:List Dt)(y:Vu):Prop:=∃a len cap,y=.slice a len cap/\DRow H a len cap l/\qad l<=1000000000000
theorem MOut.plain{a:Nat}{r:Bool}{o:Option qdq}(k:Wk G w0 H w)(f:Fd w0 H w fb N fc)(h:Below w.heap.size w w')(b:o=if r then some []else none):MOut G w0 H w fb a 0 fc o (.returned (.bool r)) w':=by
 refine⟨H,fc,k.below h,Sp.below h,by rw[h.block _ (eE.1 f.row).1];exact f.row,rfl,?_⟩;rw[b];cases r
 ·exact rfl
 ·exact⟨rfl,rfl,λ_ _=>rfl,λi p c=>by simp at c⟩
abbrev ldH(t:TypeId)(o:Operand):Op:=.load t o
theorem q5n:Eg 387:=qa0 func387 (by kernel_rfl) (by kernel_rfl)
theorem q5m:Eg 390:=qa0 func390 (by kernel_rfl) (by kernel_rfl)
theorem q5e:Eg 402:=qa0 func402 (by kernel_rfl) (by kernel_rfl)
theorem q5d:Eg 404:=qa0 func404 (by kernel_rfl) (by kernel_rfl)
theorem q5c:Eg 405:=qa0 func405 (by kernel_rfl) (by kernel_rfl)
theorem q47:Eg 416:=qa0 func416 (by kernel_rfl) (by kernel_rfl)
theorem q45:Eg 419:=qa0 func419 (by kernel_rfl) (by kernel_rfl)
theorem q43:Eg 424:=qa0 func424 (by kernel_rfl) (by kernel_rfl)
theorem Wk.cell(k:Wk G w0 H w){c:Array Vu}(h:H.I b=some (.cells c t (0,0)))(o:Nat):w.cell? ⟨b,o,none⟩=c[o]?:=by
 simp[World.cell?,k.imm h]
theorem Wk.box{a:Gh}(k:Wk G w0 H w)(c:a.le G){v:Vu}(h:a.I b=some (.cells #[v] t (0,0))):w.cell? ⟨b,0,none⟩=some v:=by
 rw[k.cell (k.ext.le.I (c.I h))];rfl
theorem DRow.mem{a:OA}{len cap:Nat}(h:DRow G a len cap l)(k:0<len):∃g o b,a=some ⟨g,o,none⟩/\G.I g=some (.cells b 134 (0,0))/\∀(i:Nat) (d:Dt),l[i]? =some d->∃e:Dl,DRep G d e/\∀w:Wd,w.heap[g]? =some (.cells b 134 (0,0))->∀j,j<6->w.cell? ⟨g,o+i*6+j,none⟩=e.cells[j]?:=by
 obtain⟨es,v,x,m,y,z,n⟩:=h;obtain⟨g,o,b,p,q,r⟩:=n k;obtain⟨A,s⟩:=m.at;refine⟨g,o,b,p,q,λi d c=>?_⟩;have B:=(eL.1 c).1;have f:es[i]? =some es[i]:=eG (by omega);exact⟨es[i],s i d _ c f,λw t j u=>by rw[show w.cell? ⟨g,o+i*6+j,none⟩=b[o+i*6+j]? by simp[World.cell?,t]];exact r i j _ f u⟩
theorem DRow.len{a:OA}{len cap:Nat}(h:DRow G a len cap l):len=l.length:=by obtain⟨es,b,_⟩:=h;exact b
theorem Fd.step{L:Nat->Prop}{fc':Array Vu}(f:Fd w0 H w fb N fc)(s:Sp L H w H' w')(a:w'.heap[fb]? =some (.cells fc' 477 (0,0)))(b:fc'.size=fc.size):Fd w0 H' w' fb N fc':=
 ⟨f.lo,s.loose (eE.1 f.row).1 f.I,a,b.trans f.size,f.max⟩
theorem Fd.lt(f:Fd w0 H w fb N fc):fb<w.heap.size:=(eE.1 f.row).1
theorem Fd.L(f:Fd w0 H w fb N fc):∀b,b=fb->w0.heap.size<=b/\H.I b=none:=λ_ e=>e▸⟨f.lo,f.I⟩
theorem Fd.below(f:Fd w0 H w fb N fc)(h:Below w.heap.size w w'):Fd w0 H w' fb N fc:=f.step (Sp.below (L:=λ_=>False) h) (by rw[h.block _ f.lt];exact f.row) rfl
theorem MOut.after{c:Gh}{a:Nat}{r:Option qdq}(s:Sp (·=fb) H w c w1)(h:MOut G w0 c w1 fb a n fc r e' w'):MOut G w0 H w fb a n fc r e' w':=by
 obtain⟨H',b,d,e,f⟩:=h;exact⟨H',b,d,s.trans e,f⟩
theorem MOut.lk{a:Nat}{r:Option qdq}(h:MOut G w0 H w fb a n fc r e' w')(l:Lk w' w2):MOut G w0 H w fb a n fc r e' w2:=by
 obtain⟨H',b,c,d,e,f⟩:=h;exact⟨H',b,c.lk l,d.trans (Sp.lk l),by rw[l.heap];exact e,f⟩
theorem MOut.ends{G H:Gh}{w0 w w':Wd}{fb a n:Nat}{fc:Array Vu}{r:Option qdq}{e':En}(h:MOut G w0 H w fb a n fc r e' w'):e'=.returned (.bool r.isSome):=by
 obtain⟨H',d,e,f,g,i,c⟩:=h;cases r with
 |none=>exact c
 |some b=>exact c.1
theorem q4q(g:Gh)(b:List Bs)(c:Nat):Mtc g c 0 LV (λsc l=>qau b sc [] l) (.func (.func 387) #[] #[]):=by
 refine⟨387,#[],rfl,q5n,λG w0 H w o sc l y fb N fc p hF k h f i=>?_⟩;obtain⟨a,len,cap,rfl,j,m⟩:=h;refine Calls.mono (q25 a len cap _ _ w) ?_;rintro e w' ⟨rfl,n⟩;refine MOut.plain k f (bl0 n) ?_;have:=j.len;cases l with
 |nil=>simp only[List.length_nil]at this;simp[this,qau]
 |cons d r=>simp only[List.length_cons]at this;simp[this,qau]
theorem q4r(h:Gh)(a:List Bs)(b:Nat)(m:Int)(i:a.contains [95]=false):Mtc h b 0 DV (λsc d=>qaq a sc (.sym [95] m) d) (.func (.func 416) #[] #[]):=by
 refine⟨416,#[],rfl,q47,λG w0 H w v sc d y fb N fc x hF k j f l=>?_⟩;obtain⟨⟨n,o,c,g,p,q,r,s⟩,rfl,z,t⟩:=j;refine Calls.mono (q3j n o c g p q r s _ _ w) ?_;rintro e w' ⟨rfl,u⟩;refine MOut.plain k f u ?_;unfold qaq;rw[i];simp
theorem q4p(u:Gh)(c:List Bs)(n b:Nat)(s:BA)(m:Int)(v:c.contains s.data.toList=true)(x:u.I b=some (.cells #[.string s] 9 (0,0))):Mtc u n 0 DV (λsc d=>qaq c sc (.sym s.data.toList m) d) (.func (.func 424) #[] #[bp b]):=by
 refine⟨424,#[bp b],rfl,q43,λG w0 H w z sc d y fb N fc A hF k B f C=>?_⟩;obtain⟨⟨j,D,o,a,g,E,F,J⟩,rfl,K,L⟩:=B;refine Calls.mono (q2m j D o a g E F J (bp z) (.slice (some ⟨fb,0,none⟩) N N) b s (find (a.data.toList,g) sc).isSome w (k.box A x) λ_ w' q=>Calls.mono (hF a g w' (k.below q).bel) ?_) ?_
 ·rintro e w2 ⟨rfl,h⟩;unfold qln;cases find (a.data.toList,g) sc with
  |none=>exact⟨0,0,rfl,h⟩
  |some p=>exact⟨p.1,p.2,rfl,h⟩
 ·rintro e w' ⟨rfl,q⟩;refine MOut.plain k f q ?_;unfold qaq;rw[v];rcases K.kind with⟨i,rfl⟩|⟨r,l,rfl⟩|⟨i,_,M,_⟩
  ·have i:j=3:=i;subst i;simp only[if_true];have e1:(a.data.toList==s.data.toList)=decide (a=s):=by rw[<-ByteArray.toList_eq,<-ByteArray.toList_eq];exact qfy _ _
   rw[e1];cases find (a.data.toList,g) sc <;> simp
  ·have r:j=4:=r;subst r;simp
  ·have e3:(j==3)=false:=by simpa using i
   simp only[if_true,e3,Bool.false_and];cases d with
   |sym t m=>exact absurd rfl (M t m)
   |_=>rfl
theorem q2k(t:Gh)(l:List Bs)(u b:Nat)(p:Dt)(m:Dl)(D:DRep t p m)(A:m.k≠3)(v:m.k≠4)(E:t.I b=some (.cells m.cells 134 (0,0))):Mtc t u 0 DV (λsc d=>qaq l sc p d) (.func (.func 405) #[] #[bp b]):=by
 refine⟨405,#[bp b],rfl,q5c,λG w0 H w F sc d y fb N fc J hF k K f L=>?_⟩;obtain⟨⟨M,B,n,i,O,P,Q,R⟩,rfl,z,S⟩:=K;obtain⟨T,C,r,j,V,W,X,Y⟩:=m;have s:=λo=>k.cell (k.ext.le.I (J.I E)) o
 refine Calls.mono (q1b M B n i O P Q R (bp F) (.slice (some ⟨fb,0,none⟩) N N) b T C r j w (s 0) (s 1) (s 2) (s 3)) ?_;rintro e w' ⟨rfl,U⟩;refine MOut.plain k f U ?_;simp only at A v;have bl:∀x y:BA,x.data.toList=y.data.toList->x=y:=λx y h=>by cases x;cases y;simp only at h;congr 1;exact Array.toList_inj.1 h
 cases D with
 |sym _ q=>exact absurd q A
 |nil _ q=>exact absurd q v
 |list _ q=>exact absurd q v
 |num _ q _ _ g=>
  obtain⟨_,a,c⟩:=g;simp only at q a c;subst q;subst a;subst c;unfold qaq;cases z with
  |num _ q _ _ g=>
   obtain⟨_,a,c⟩:=g;simp only at q a c;subst q;subst a;subst c;by_cases e:B=C
   ·subst e;simp
   ·simp[e,Ne.symm e]
  |_=>simp_all
 |bool _ q g=>
  obtain⟨_,a,c⟩:=g;simp only at q a c;subst q;subst a;subst c;unfold qaq;cases z with
  |bool _ q g=>
   obtain⟨_,a,c⟩:=g;simp only at q a c;subst q;subst a;subst c;by_cases e:n=r
   ·subst e;simp
   ·simp[e,Ne.symm e]
  |_=>simp_all
 |str _ q _ g=>
  obtain⟨_,a,c⟩:=g;simp only at q a c;subst q;subst a;subst c;unfold qaq;cases z with
  |str _ q _ g=>
   obtain⟨_,a,c⟩:=g;simp only at q a c;subst q;subst a;subst c;by_cases e:i=j
   ·subst e;simp
   ·have:¬j.data=i.data:=λh=>e (bl _ _ (by rw[h]))
    simp[e,this]
  |_=>simp_all
theorem q2i(p:Gh)(a:List Bs)(g n b:Nat)(o:List Dt)(v:Vu)(q:Mtc p g n LV (λsc l=>qau a sc o l) v)(t:Nat)(Q:p.I b=some (.cells #[v] t (0,0))):Mtc p g n DV (λsc d=>qaq a sc (.list o) d) (.func (.func 404) #[] #[bp b]):=by
 refine⟨404,#[bp b],rfl,q5d,λG w0 H w K sc d y fb N fc L hF k R f r=>?_⟩;obtain⟨⟨M,O,i,j,P,s,u,x⟩,rfl,z,A⟩:=R;obtain⟨S,T,rfl,B,q⟩:=q;by_cases C:M=4
 ·subst C;obtain⟨l,rfl⟩:∃l,d=.list l:=by
   rcases z.kind with⟨h,_⟩|⟨_,l,h⟩|⟨_,h,_⟩
   ·cases h
   ·exact⟨l,h⟩
   ·exact absurd rfl h
  have m:=z.row;refine qz8 O i j P s u x (bp K) (.slice (some ⟨fb,0,none⟩) N N) b S T w _ B (k.box L Q) λw1 D=>?_
  have c:=bl1 D;refine Calls.mono (q G w0 H w1 K sc l (.slice s u x) fb N fc L hF (k.below c) ⟨_,_,_,rfl,m,by simpa[qaf]using A⟩ (f.below c) r) ?_;intro e w2 E;refine⟨_,E.ends,λw3 F=>?_⟩;have:=(E.lk F).after (Sp.below c);rw[E.ends]at this;unfold qaq;exact this
 ·refine Calls.mono (qp5 M O i j P s u x _ _ b w C) ?_;rintro e w' ⟨rfl,J⟩;refine⟨H,fc,k.below J,Sp.below J,(f.below J).row,rfl,?_⟩;have:qaq a sc (.list o) d=none:=by
   unfold qaq;cases d with
   |list l=>
    rcases z.kind with⟨_,h⟩|⟨h,_⟩|⟨_,_,_,h⟩
    ·cases h
    ·exact absurd h C
    ·exact absurd rfl (h l)
   |_=>rfl
  show q1m _ _ _ _ _ _ (qaq a sc (.list o) d);rw[this];exact rfl
end Go.Proofs.YtldaocpojcfljaaGreatDoor
