import Derived.Test.YtldaocpojcfljaaGreatDoorD18
set_option maxRecDepth 100000
set_option maxHeartbeats 4000000
namespace Go.Proofs.YtldaocpojcfljaaGreatDoor
open Tryz hiding parts
open Go.RowKit Go.Shelf
section
open Sc
theorem XInv.setMac{K:Rl}{X:Xe}{G:Gh}{S:Sub}{x x':Xs}{sc:Scope}{w:World}(i:XInv K X G S x sc w){es':Array MapEntry}{clock:Nat}{L':List (Bs×Value)}(hc:x'.count=x.count)(he:es'.toList.map (fun e=>(e.key,e.val))=L'.map (fun p=>(Value.string ⟨p.1.toArray⟩,p.2)))(hm:McRows K.R G x'.macros L'):XInv K X G S x' sc (setB w X.mm (.map es' clock)):=by
 obtain⟨n1,n2,n3,n4,n5,n6⟩:=i.nab;have kb:∀b,b≠X.mm->(setB w X.mm (.map es' clock)).heap[b]? =w.heap[b]?:=fun b hb=>qbl hb
 obtain⟨L,hL,hLb⟩:=i.bd;obtain⟨es,cl,M,hm1,hm2,hm3⟩:=i.mc;have hlo:=(i.lo X.mm (by simp)).2.2.1;refine⟨i.xe,by rw[hc];exact i.mt.keep (kb _ n6),by rw[hc];exact i.ml,by rw[kb _ (Ne.symm n3)];exact i.ab,⟨L,⟨by rw[kb _ (Ne.symm n4)];exact hL.1,hL.2.1,fun p hp=>qbd (hL.2.2.1 p hp) fun q hq=>kb q (by have:=((hL.2.2.1 p hp).lt q hq).1;omega),hL.2.2.2⟩,hLb⟩,fun b hb=>by rw[qbw];exact i.rr b hb,⟨es',clock,L',qf6 hm1,he,hm⟩,i.lo,i.nd,by rw[qbw];exact i.sl,i.sz⟩
theorem Inv.setB{K:Rl}{X:Xe}{G:Gh}{S:Sub}{m:Mc}{x:Xs}{sc:Scope}{w:World}(g:Inv G S m w)(i:XInv K X G S x sc w)(o:Obj):Inv G S m (setB w X.mm o):=by
 obtain⟨h1,h2,_,h4⟩:=i.lo X.mm (by simp);exact g.turns (fun j hj hn=>qbl fun e=>hn (by subst e;exact⟨h1,h2,h4⟩)) (by rw[qbw];exact Nat.le_refl _) ⟨rfl,rfl,rfl⟩
theorem Mx.setB{X Y:Xe}{G H:Gh}{w w':World}(mx:Mx X G w Y H w')(o:Obj):Mx X G w Y H (setB w' Y.mm o):=
 ⟨mx.same,mx.up,mx.I,mx.mu,mx.rw,fun {k} h1 h2 h3 h4=>by rw[qbl (fun e=>h3 (by rw[e,mx.same.2.2.1];simp))];exact mx.blk h1 h2 h3 h4,by rw[qbw];exact mx.size⟩
def TCode(H:Gh)(ex:Ex)(v:Value):Prop:=(ex=.skip/\v=.func (.func 235) #[] #[])\/CRep H [] ex v
def TPost(K:Rl)(X:Xe)(G:Gh)(S:Sub)(m:Mc)(w:World)(rv:Except Nat Ex×Xs)(e':Ending)(w':World):Prop:=
 (∃vd x',rv=(.error vd,x')/\e'=.panicked (stopP (stopV vd))/\Cnt G S m w'/\Mt X.rb (Xs.count x') S.rewrites 12 w')\/
 (∃Y H ex x' v,rv=(.ok ex,x')/\e'=.returned v/\Mx X G w Y H w'/\Inv H S m w'/\XInv K Y H S x' [] w'/\TCode H ex v)
theorem TPost.of{K:Rl}{X:Xe}{G:Gh}{S:Sub}{m:Mc}{w:World}{rv:Except Nat Ex×Xs}{e':Ending}{w':World}(h:XPost K X G S m [] w rv e' w'):TPost K X G S m w rv e' w':=by
 rcases h with h|⟨Y,H,ex,x',v,h1,h2,h3,h4,h5,h6⟩
 ·exact .inl h
 ·exact .inr ⟨Y,H,ex,x',v,h1,h2,h3,h4,h5,.inr h6⟩
theorem TPost.ends{K:Rl}{X:Xe}{G:Gh}{S:Sub}{m:Mc}{w w':World}{rv:Except Nat Ex×Xs}{e:Ending}(h:TPost K X G S m w rv e w'):(∃v,e=.returned v)\/(∃ps,e=.panicked ps):=by
 rcases h with⟨_,_,_,rfl,_⟩|⟨_,_,_,_,v,_,rfl,_⟩
 ·exact .inr ⟨_,rfl⟩
 ·exact .inl ⟨_,rfl⟩
theorem TPost.from{K:Rl}{X Y:Xe}{G H:Gh}{S:Sub}{m:Mc}{w w2:World}{rv:Except Nat Ex×Xs}{e':Ending}{w':World}(mx:Mx X G w Y H w2)(h:TPost K Y H S m w2 rv e' w'):TPost K X G S m w rv e' w':=by
 rcases h with⟨vd,y,h1,rfl,hc,hmt⟩|⟨Z,L,ex,y,v,h1,rfl,h2,h3,h4,h5⟩
 ·exact .inl ⟨vd,y,h1,rfl,hc.up mx.up,by rw[<-mx.same.2.1];exact hmt⟩
 ·exact .inr ⟨Z,L,ex,y,v,h1,rfl,mx.trans h2,h3,h4,h5⟩
theorem TPost.bad{K:Rl}{X:Xe}{G:Gh}{S:Sub}{m:Mc}{x:Xs}{w w':World}{rv:Except Nat Ex×Xs}(g:Inv G S m w)(i:XInv K X G S x [] w)(h:rv=(.error 4,x))(hb:Below w.heap.size w w'):TPost K X G S m w rv (.panicked (stopP (stopV 4))) w':=TPost.of (XPost.bad g i h hb)
theorem qey{K:Rl}{X:Xe}{G:Gh}{S:Sub}{m:Mc}{x:Xs}{w:World}{d:Dt}{e:Dl}(g:Inv G S m w)(i:XInv K X G S x [] w)(hd:DRep G d e):Calls prog 291 #[bp X.xb,.agg e.cells] w fun e' w'=>(∃t k,d=.sym t k/\Kw.of t=none/\t=e.tx.data.toList/\e'=.returned (.string e.tx)/\Inv G S m w'/\XInv K X G S (x.drop t) [] w'/\Mx X G w X G w')\/
  ((∀t k,d=.sym t k->(Kw.of t).isSome)/\e'=.panicked (stopP (stopV 4))/\Below w.heap.size w w'):=by
 obtain⟨xk,xn,xtr,xtx,xm,xa,xlen,xcap⟩:=e;rcases hd.kind with⟨h3,rfl⟩|⟨h4,l,rfl⟩|⟨h3,_,h5,_⟩
 ·obtain rfl:xk=3:=h3;cases hk:Kw.of xtx.data.toList with
  |some kk=>
   refine Calls.mono (qgn X.xb xn xtr xtx xm xa xlen xcap w (by rw[hk];rfl)) ?_;rintro e' w' ⟨rfl,hb⟩;exact .inr ⟨fun t k h=>by cases h;rw[hk];rfl,rfl,hb⟩
  |none=>
   obtain⟨es,clock,M,hm1,hm2,hm3⟩:=i.mc;obtain⟨es',L',hdel,he',hmr⟩:=qmu X.mm es clock M K.R G x.macros xtx hm2 hm3;have c2:w.cell? ⟨X.xb,2,none⟩=some (.map (some X.mm)):=by rw[g.cell i.xe];rfl
   refine Calls.mono (qgm X.xb X.mm xn xtr xtx xm xa xlen xcap es es' clock w c2 hm1 (by rw[hk];rfl) hdel) ?_;rintro e' w' ⟨rfl,w1,hb,hl⟩;have g1:=g.below hb;have i1:=i.below hb;refine .inl ⟨_,_,rfl,hk,rfl,rfl,Inv.lk hl (g1.setB i1 _),(i1.setMac (x':=x.drop xtx.data.toList) rfl he' hmr).below (bl0 hl),((Mx.ofBelow hb).setB _).lk hl⟩
 ·refine Calls.mono (qcx X.xb xk xn xtr xtx xm xa xlen xcap w (by have h:xk=4:=h4;omega)) ?_;rintro e' w' ⟨rfl,hb⟩;exact .inr ⟨nofun,rfl,hb⟩
 ·refine Calls.mono (qcx X.xb xk xn xtr xtx xm xa xlen xcap w h3) ?_;rintro e' w' ⟨rfl,hb⟩;exact .inr ⟨fun t k h=>absurd h (h5 t k),rfl,hb⟩
end
section
open Sc
structure AtD (K:Rl) (X:Xe) (G:Gh) (S:Sub) (m:Mc) (x:Xs) (w:World) (t0:Bs) (k:Int) (r:List Dt) (a:Option Addr) (len cap:Nat):Prop where
 g:Inv G S m w
 i:XInv K X G S x [] w
 row:DRow G a len cap (.sym t0 k::r)
 mb:membersL r<=1000000000000
theorem qps{K:Rl}{X Y:Xe}{G H:Gh}{S:Sub}{m:Mc}{x':Xs}{w w5 w6:World}{rv:Except Nat Ex×Xs}{ex:Ex}{e':Ending}(mx:Mx X G w Y H w5)(hx:XInv K Y H S x' [] w5)(h:Made H S m w5 [] ex e' w6)(hrv:rv=(.ok ex,x')):
  ∃v,e'=.returned v/\w6.cell? ⟨X.xb,0,none⟩=some (bp G.mb)/\(∀b,b<w5.heap.size->LooseX Y H b->w6.heap[b]? =w5.heap[b]?)/\(∀{b:Nat} {o:Obj},H.I b=some o->w6.heap[b]? =some o)/\TPost K X G S m w rv (.returned v) w6:=by
 obtain⟨L,v,rfl,hmv,hi,hc⟩:=h;have hx6:=hx.mv hmv;exact⟨v,rfl,hx6.cell0 (mx.mv hmv) hi,fun b hb hl=>hmv.blk hb hl.mu,fun hb=>hi.imm (hmv.up.le.I hb),.inr ⟨Y,L,ex,x',v,hrv,rfl,mx.mv hmv,hi,hx6,.inr hc⟩⟩
theorem cell_of{w:World}{b:Nat}{c:Array Value}{t:Nat}(h:w.heap[b]? =some (.cells c t (0,0)))(o:Nat):w.cell? ⟨b,o,none⟩=c[o]?:=by simp[World.cell?,h]
theorem qjr{K:Rl}{S:Sub}{f:Nat}(hF:FormS K S f)(hL:LambdaS K S f)(X:Xe)(G:Gh)(m:Mc)(x:Xs)(w:World)(t0:Bs)(k:Int)(r:List Dt)(a:Option Addr)(len cap:Nat)(A:AtD K X G S m x w t0 k r a len cap)(hsc:f<=1000000000)(hne:(define S f x r).1≠.error 0):
  Calls prog 233 #[bp X.xb,.slice a len cap] w (TPost K X G S m w (define S f x r)):=by
 obtain⟨g,i,hrow,hmb⟩:=A;have hlen:len=r.length+1:=by obtain⟨es,h1,_⟩:=hrow;simpa using h1
 have hn:len<=30000:=by obtain⟨es,h1,h2,h3,h4,h5,h6⟩:=hrow;exact h5
 have hcp:len<=cap:=by obtain⟨es,h1,h2,h3,h4,h5,h6⟩:=hrow;exact h4
 have bad:∀{rv:Except Nat Ex×Xs},rv=(.error 4,x)->∀w',Below w.heap.size w w'->TPost K X G S m w rv (.panicked (stopP (stopV 4))) w':=fun h w' hb=>TPost.bad g i h hb
 subst hlen
 match r,hrow,hmb,hn,hcp,hne with
 | [],hrow,hmb,hn,hcp,hne=>exact qde X.xb 1 cap a w _ (by omega) (bad rfl)
 | [d1],hrow,hmb,hn,hcp,hne=>exact qde X.xb 2 cap a w _ (by omega) (bad (by unfold define;split <;> simp_all))
 |d1::d2::r,hrow,hmb,hn,hcp,hne=>
  simp only[List.length_cons]at hn hcp;obtain⟨gg,o,rfl,⟨arr,hgg⟩,hc⟩:=hrow.cells (by simp);obtain⟨y,hy,hcy⟩:=hc 1 d1 rfl;obtain⟨z,hz,hcz⟩:=hc 2 d2 rfl;obtain⟨yk,yn,ytr,ytx,ym,ya,ylen,ycap⟩:=y;obtain⟨zk,zn,ztr,ztx,zm,za,zlen,zcap⟩:=z;have cy:=hcy S m w g;have hm2:members d2<=1000000000000:=Nat.le_trans (qca (d1::d2::r) (by simp)) hmb;have var:yk≠4->(∀l,d1≠.list l)->Calls prog 233 #[bp X.xb,.slice (some ⟨gg,o,none⟩) (r.length+3) cap] w (TPost K X G S m w (define S f x (d1::d2::r))):=by
   intro hk4 hnl;cases r with
   |cons d3 r=>
    have hd:define S f x (d1::d2::d3::r)=(.error 4,x):=by
     cases d1 with
     |list l=>exact absurd rfl (hnl l)
     |_=>rfl
    exact qfc X.xb gg o r.length cap yk yn ytr ytx ym ya ylen ycap w _ (cy 0 (by omega)) (cy 1 (by omega)) (cy 2 (by omega)) (cy 3 (by omega)) (cy 4 (by omega)) (cy 5 (by omega)) hk4 (by simp at hn;omega) (bad hd)
   |nil=>
    refine qgo X.xb G.mb gg o cap yk yn ytr ytx ym ya ylen ycap zk zn ztr ztx zm za zlen zcap w _ (cy 0 (by omega)) (cy 1 (by omega)) (cy 2 (by omega)) (cy 3 (by omega)) (cy 4 (by omega)) (cy 5 (by omega)) hk4 fun w1 hw1=>?_
    have hb1:Below w.heap.size w w1:=bl1 hw1;have cz6:∀{H:Gh} {w':World} {m':Mc},G.le H->Inv H S m' w'->(w'.cell? ⟨gg,o+12,none⟩=some (.int .i64 zk)/\w'.cell? ⟨gg,o+12+1,none⟩=some (.int .i64 zn)/\w'.cell? ⟨gg,o+12+2,none⟩=some (.bool ztr)/\w'.cell? ⟨gg,o+12+3,none⟩=some (.string ztx)/\w'.cell? ⟨gg,o+12+4,none⟩=some (.int .i64 zm)/\w'.cell? ⟨gg,o+12+5,none⟩=some (.slice za zlen zcap)):=fun {H w' m'} hle hi=>by
     have hcz0:=hcz S m w g;have e:∀j,j<6->w'.cell? ⟨gg,o+12+j,none⟩=(Dl.cells ⟨zk,zn,ztr,ztx,zm,za,zlen,zcap⟩)[j]?:=fun j hj=>by
      have:=hcz0 j hj;rw[g.cell hgg]at this;rw[hi.cell (hle.I hgg)];exact this
     exact⟨e 0 (by omega),e 1 (by omega),e 2 (by omega),e 3 (by omega),e 4 (by omega),e 5 (by omega)⟩
    refine Calls.mono (qey (g.below hb1) (i.below hb1) hy) ?_;rintro e' w2 (⟨t,k',rfl,hkw,htx,rfl,g2,i2,mx2⟩|⟨hnot,rfl,hb2⟩)
    ·have htx:t=ytx.data.toList:=htx;have hdef:define S f x [.sym t k',d2]=match form S f (x.drop t) [] d2 with
       |(.error e,x)=>(.error e,x)
       |(.ok a,x)=>(.ok (.defG t a),x):=by simp only[define,hkw];rfl
     have mx02:Mx X G w X G w2:=(Mx.ofBelow hb1).trans mx2;refine .inr ⟨_,rfl,ytx,rfl,⟨i2.cell0 mx02 g2,cz6 (Gh.le.refl G) g2⟩,fun w3 hw3=>?_⟩;have hfne:(form S f (x.drop t) [] d2).1≠.error 0:=fun h=>by
      apply hne;rw[hdef];cases hfr:form S f (x.drop t) [] d2 with
      |mk fr fx=>rw[hfr]at h;have h:fr=.error 0:=h;subst h;rfl
     refine Calls.mono (hF X G m (x.drop t) [] w3 d2 _ (Inv.lk hw3 g2) (i2.below (bl0 hw3)) hz hm2 (by simpa using hsc) hfne) ?_;rintro e'' w4 (⟨vd,x',hv,rfl,hcn,hmt⟩|⟨Y,H,ex,x',v,hv,rfl,mx,g4,i4,hcr⟩)
     ·exact .inl ⟨_,rfl,.inl ⟨vd,x',by rw[hdef,hv],rfl,hcn,hmt⟩⟩
     ·have mx4:Mx X G w Y H w4:=(mx02.lk hw3).trans mx;obtain⟨kc,cc,rfl,_⟩:=hcr.isF;refine .inr ⟨_,rfl,kc,cc,rfl,⟨i4.cell0 mx4 g4,cz6 mx4.up.le g4⟩,fun w5 hw5=>?_⟩;have key:=def_mk (sh:=[]) (t:=ytx) (Inv.lk hw5 g4) hcr;rw[mx4.up.le.mb]at key;refine Calls.mono key fun e6 w6 h6=>?_
      obtain⟨v6,rfl,q1,q2,q3,q4⟩:=qps (rv:=define S f x [.sym t k',d2]) (mx4.lk hw5) (i4.below (bl0 hw5)) h6 (by rw[hdef,hv,htx]);refine .inr ⟨v6,rfl,⟨q1,?_⟩,q4⟩;have hcz0:=hcz S m w g;have e:∀j,j<6->w6.cell? ⟨gg,o+12+j,none⟩=(Dl.cells ⟨zk,zn,ztr,ztx,zm,za,zlen,zcap⟩)[j]?:=fun j hj=>by
       have:=hcz0 j hj;rw[g.cell hgg]at this;rw[cell_of (q3 (mx4.up.le.I hgg))];exact this
      exact⟨e 0 (by omega),e 1 (by omega),e 2 (by omega),e 3 (by omega),e 4 (by omega),e 5 (by omega)⟩
    ·refine .inl ⟨_,rfl,bad ?_ w2 (hb1.trans (hb2.mono hb1.size))⟩;cases d1 with
     |sym t k'=>
      have:=hnot t k' rfl;obtain⟨kk,hkk⟩:=Option.isSome_iff_exists.1 this;simp only[define,hkk]
     |list l=>exact absurd rfl (hnl l)
     |_=>rfl
  have list:∀(ts:List Dt),d1=.list ts->yk=4->Calls prog 233 #[bp X.xb,.slice (some ⟨gg,o,none⟩) (r.length+3) cap] w (TPost K X G S m w (define S f x (d1::d2::r))):=by
   intro ts hts hk4;subst hts;obtain rfl:yk=4:=hk4;have trow:DRow G ya ylen ycap ts:=hy.row;have htl:ylen=ts.length:=by obtain⟨es,h1,_⟩:=trow;exact h1
   have htn:ylen<=30000:=by obtain⟨es,h1,h2,h3,h4,h5,h6⟩:=trow;exact h5
   have htc:ylen<=ycap:=by obtain⟨es,h1,h2,h3,h4,h5,h6⟩:=trow;exact h4
   cases ts with
   |nil=>
    obtain rfl:ylen=0:=by simpa using htl
    exact qgp X.xb gg o r.length cap yn ytr ytx ym ya ycap w _ (cy 0 (by omega)) (cy 1 (by omega)) (cy 2 (by omega)) (cy 3 (by omega)) (cy 4 (by omega)) (cy 5 (by omega)) (by omega) (bad rfl)
   |cons nm ps=>
    have htl:ylen=ps.length+1:=by simpa using htl
    subst htl;obtain⟨gt,ot,rfl,_,hct⟩:=trow.cells (by omega);obtain⟨u,hu,hcu⟩:=hct 0 nm rfl;obtain⟨uk,un,utr,utx,um,ua,ulen,ucap⟩:=u;have cu:=hcu S m w g;have cu0:w.cell? ⟨gt,ot,none⟩=some (.int .i64 uk):=by have:=cu 0 (by omega);simpa using this
    have cu':∀j,j<6->w.cell? ⟨gt,ot+j,none⟩=(Dl.cells ⟨uk,un,utr,utx,um,ua,ulen,ucap⟩)[j]?:=fun j hj=>by have:=cu j hj;simpa using this
    have pdr:=trow.drop 1 (by omega);simp only[Nat.add_sub_cancel,List.drop_succ_cons,List.drop_zero]at pdr;have pD:DRep G (.list ps) ⟨4,0,false,⟨#[]⟩,0,tlD gt ot ycap 1,ps.length,ycap-1⟩:=by
     obtain⟨es',q1,q2,q3,q4,q5,q6⟩:=pdr;by_cases h0:0<ps.length
     ·obtain⟨g',o',arr,e1,e2,e3⟩:=q6 h0;exact .list _ rfl ps es' g' o' arr q2 q4 q5 e1 e2 e3 q3
     ·have:ps=[]:=by cases ps with|nil=>rfl|cons=>simp at h0
      subst this;exact .nil _ rfl rfl
    have hdr:=hrow.drop 2 (by simp);have hlr:(Dt.list (nm::ps)::d2::r).length+1-2=r.length+1:=by simp
    rw[hlr]at hdr;have hdr:DRow G (tlD gg o cap 2) (r.length+1) (cap-2) (d2::r):=hdr;have hmb2:membersL (d2::r)<=1000000000000:=by simp only[membersL,members]at hmb|-;omega
    refine qfd X.xb G.mb gg o r.length cap gt ot ps.length yn ytr ytx ym ycap uk un utr utx um ua ulen ucap w _ (by omega) (by omega) htc (by omega) (cy 0 (by omega)) (cy 1 (by omega)) (cy 2 (by omega)) (cy 3 (by omega)) (cy 4 (by omega)) (cy 5 (by omega)) cu0 (cu' 1 (by omega)) (cu' 2 (by omega)) (cu' 3 (by omega)) (cu' 4 (by omega)) (cu' 5 (by omega)) fun w1 hw1=>?_
    have hb1:Below w.heap.size w w1:=bl1 hw1;refine Calls.mono (qey (g.below hb1) (i.below hb1) hu) ?_;rintro e' w2 (⟨t,k',rfl,hkw,htx,rfl,g2,i2,mx2⟩|⟨hnot,rfl,hb2⟩)
    ·have htx:t=utx.data.toList:=htx;have hdef:define S f x (.list (.sym t k'::ps)::d2::r)=match lambda S f (x.drop t) [] (.list ps) (d2::r)with
       |(.error e,x)=>(.error e,x)
       |(.ok a,x)=>(.ok (.defG t a),x):=by simp only[define,hkw];rfl
     have mx02:Mx X G w X G w2:=(Mx.ofBelow hb1).trans mx2;have hnew:w1.heap[w.heap.size]? =some (.cells (Dl.cells ⟨4,yn,ytr,ytx,ym,some ⟨gt,ot,none⟩,ps.length+1,ycap⟩) 134 (0,0)):=by rw[hw1.heap];exact heap_alloc_new _ _
     obtain⟨_,hk2⟩:=(LooseX.new g i (Nat.le_refl _)).mx mx2 (Array.getElem?_eq_some_iff.1 hnew).1;refine .inr ⟨_,rfl,utx,rfl,i2.cell0 mx02 g2,by rw[hk2];exact hnew,fun w3 hb3=>?_⟩;have hfne:(lambda S f (x.drop t) [] (.list ps) (d2::r)).1≠.error 0:=fun h=>by
      apply hne;rw[hdef];cases hfr:lambda S f (x.drop t) [] (.list ps) (d2::r)with
      |mk fr fx=>rw[hfr]at h;have h:fr=.error 0:=h;subst h;rfl
     refine Calls.mono (hL X G m (x.drop t) [] w3 (.list ps) _ (d2::r) _ _ _ (g2.below hb3) (i2.below hb3) pD hdr hmb2 (by omega) (by simpa using hsc) hfne) ?_;rintro e'' w4 (⟨vd,x',hv,rfl,hcn,hmt⟩|⟨Y,H,ex,x',v,hv,rfl,mx,g4,i4,hcr⟩)
     ·exact .inl ⟨_,rfl,.inl ⟨vd,x',by rw[hdef,hv],rfl,hcn,hmt⟩⟩
     ·have mx4:Mx X G w Y H w4:=(mx02.below hb3).trans mx;obtain⟨kc,cc,rfl,_⟩:=hcr.isF;have lo3:∀b,w2.heap.size<=b->LooseX X G b:=fun b hb=>LooseX.new g2 i2 hb
      refine .inr ⟨_,rfl,kc,cc,rfl,i4.cell0 mx4 g4,fun b h1 h2=>((lo3 b h1).mx mx h2).2,fun w5 hw5=>?_⟩;have key:=def_mk (sh:=[]) (t:=utx) (Inv.lk hw5 g4) hcr;rw[mx4.up.le.mb]at key;refine Calls.mono key fun e6 w6 h6=>?_
      obtain⟨v6,rfl,q1,q2,q3,q4⟩:=qps (rv:=define S f x (.list (.sym t k'::ps)::d2::r)) (mx4.lk hw5) (i4.below (bl0 hw5)) h6 (by rw[hdef,hv,htx]);refine .inr ⟨v6,rfl,q1,fun b h1 h2=>?_,q4⟩;obtain⟨e1,e2⟩:=(lo3 b h1).mx mx h2;rw[q2 b (by rw[hw5.heap];exact Nat.lt_of_lt_of_le h2 mx.size) e1,hw5.heap,e2]
    ·refine .inl ⟨_,rfl,bad ?_ w2 (hb1.trans (hb2.mono hb1.size))⟩;cases nm with
     |sym t k'=>
      have:=hnot t k' rfl;obtain⟨kk,hkk⟩:=Option.isSome_iff_exists.1 this;simp only[define,hkk]
     |_=>rfl
  rcases hy.kind with⟨h3,rfl⟩|⟨h4,l,rfl⟩|⟨h3,h4,h5,h6⟩
  ·exact var (by have h:yk=3:=h3;omega) nofun
  ·exact list l rfl h4
  ·exact var h4 h6
end
section
open Sc
theorem top_mac{S:Sub}{f:Nat}{x:Xs}{t:Bs}{k:Int}{r:List Dt}{mc:Macro}(h:x.means (t,k) []=.mac mc):top S (f+1) x (.list (.sym t k::r))=match use S x mc r []with
  |(.error e,x)=>(.error e,x)
  |(.ok (d,x),_)=>top S f x d:=by
 simp only[top,h];rfl
theorem qkd(S:Sub):∀(f:Nat) (x:Xs) (d:Dt),(top S f x d).1≠.error 0->members d<=1000000000000->
  (∃j x' d',rewr S f x [] d=(.ok d',x')/\j+1<=f/\top S f x d=top S (j+1) x' d'/\(leadN x' [] d').1≠2/\members d'<=1000000000000)\/(∃vd x',rewr S f x [] d=(.error vd,x')/\top S f x d=(.error vd,x'))
 |0,x,d,h,_=>absurd rfl h
 |f+1,x,d,h,hm=>by
  by_cases h2:(leadN x [] d).1=2
  ·obtain⟨t,k,r,mc,rfl,hmeans,_,_⟩:=qgg h2;have e1:rewr S (f+1) x [] (.list (.sym t k::r))=match use S x mc r []with
     |(.error e,x)=>(.error e,x)
     |(.ok (d,x),_)=>rewr S f x [] d:=by simp only[rewr,hmeans];rfl
   rw[top_mac hmeans]at h|-;rw[e1];cases hu:use S x mc r []with
   |mk ur ux=>
    rw[hu]at h;cases ur with
    |error e=>exact .inr ⟨e,ux,rfl,rfl⟩
    |ok p=>
     obtain⟨d1,x1⟩:=p;simp only at h|-;have hp:=qg2 hu;rw[qb9]at hp;rcases qkd S f x1 d1 h (by omega)with⟨j,x',d',q1,q2,q3,q4,q5⟩|q
     ·exact .inl ⟨j,x',d',q1,by omega,q3,q4,q5⟩
     ·exact .inr q
  ·exact .inl ⟨f,x,d,qeq h2,Nat.le_refl _,rfl,h2,hm⟩
def SimSyn(K:Rl)(S:Sub):Prop:=∀(X:Xe) (G:Gh) (m:Mc) (x:Xs) (w:World) (t0:Bs) (k:Int) (r:List Dt) (a:Option Addr) (len cap:Nat),AtD K X G S m x w t0 k r a len cap->Calls prog 234 #[bp X.xb,.slice a len cap] w (RetP (fun v w2=>v=.tuple #[]/\∃Y H x',syntaxF x r=(.ok .skip,x')/\Mx X G w Y H w2/\Inv H S m w2/\XInv K Y H S x' [] w2) (TPost K X G S m w (syntaxF x r)))
def isSyn(d:Dt):Prop:=∃k r,d=.list (.sym [100,101,102,105,110,101,45,115,121,110,116,97,120] k::r)
theorem top_of{K:Rl}{S:Sub}(hR:SimRewr K S)(hS:SimSyn K S\/∀(X:Xe) (G:Gh) (w:World) (x:Xs) (F:Nat) (d d':Dt) (x':Xs),XInv K X G S x [] w->rewr S F x [] d=(.ok d',x')->¬isSyn d->¬isSyn d'){f:Nat}(X:Xe)(G:Gh)(m:Mc)(x:Xs)(w:World)(d:Dt)(e:Dl)(g:Inv G S m w)(i:XInv K X G S x [] w)(hd:DRep G d e)(hmb:members d<=1000000000000)(hsc:f<=1000000000)(hne:(top S f x d).1≠.error 0)(hns:SimSyn K S\/¬isSyn d):
  Calls prog 144 #[bp X.xb,.agg e.cells] w (TPost K X G S m w (top S f x d)):=by
 have hrf:=qkd S f x d hne hmb;obtain⟨xk,xn,xtr,xtx,xm,xa,xlen,xcap⟩:=e;refine qo9 X.xb xk xn xtr xtx xm xa xlen xcap w _ fun w1 hw1=>?_
 have hb1:Below w.heap.size w w1:=bl1 hw1;have hrne:(rewr S f x [] d).1≠.error 0:=by
  rcases hrf with⟨j,x',d',h1,_⟩|⟨vd,x',h1,h2⟩
  ·rw[h1];exact nofun
  ·rw[h2]at hne;rw[h1];exact fun h=>hne (by cases h;rfl)
 refine Calls.mono (hR X G m x [] w1 d _ f (g.below hb1) (i.below hb1) hd hrne) ?_;rintro e' w2 (⟨H,d',x',e2,hrv,rfl,mx,g2,i2,hd2⟩|⟨vd,x',hrv,rfl,hc,hmt⟩)
 ·rcases hrf with⟨j,x1,d1,h1,hj,htop,hlead,hmem⟩|⟨vd,x1,h1,h2⟩
  ·have hns':SimSyn K S\/¬isSyn d1:=by
    rcases hns with h|h
    ·exact .inl h
    ·rcases hS with h'|h'
     ·exact .inl h'
     ·exact .inr (h' X G w x f d d1 x1 i h1 h)
   rw[h1]at hrv;obtain⟨rfl,rfl⟩:d1=d'/\x1=x':=by simpa using hrv
   rw[htop]at hne|-;have hbox:=(qgs (e2:=e2) g i hw1 mx g2 i2 ⟨rfl,rfl,rfl,rfl⟩).1;refine .inr ⟨_,rfl,e2,rfl,hbox,fun W hW=>?_⟩;obtain⟨_,gW,iW,mxW⟩:=qgs g i hw1 mx g2 i2 hW;refine Calls.mono (qer gW iW hd2) ?_;rintro e3 w3 ⟨rfl,hb3⟩;refine⟨_,rfl,hb3,?_⟩;have g3:=gW.below hb3;have i3:=iW.below hb3;have mx3:=mxW.below hb3;obtain⟨hF,_,hL⟩:=all_of hR (j+1);have other:kwN x1 [] d1≠[100,101,102,105,110,101]->kwN x1 [] d1≠[100,101,102,105,110,101,45,115,121,110,116,97,120]->top S (j+1) x1 d1=form S (j+1) x1 [] d1->
     ((⟨(kwN x1 [] d1).toArray⟩:ByteArray).toList== [100,101,102,105,110,101])=false/\((⟨(kwN x1 [] d1).toArray⟩:ByteArray).toList== [100,101,102,105,110,101,45,115,121,110,116,97,120])=false/\∀w4,Lk w3 w4->Calls prog 236 #[bp X.xb,.agg e2.cells] w4 (RQ (TPost K X G S m w (top S (j+1) x1 d1))):=by
    intro n1 n2 hf;refine⟨by rw[qa9];simpa using n1,by rw[qa9];simpa using n2,fun w4 hw4=>?_⟩;rw[hf]at hne|-;refine Calls.mono (hF X H m x1 [] w4 d1 e2 (Inv.lk hw4 g3) (i3.below (bl0 hw4)) hd2 hmem (by simp;omega) hne) ?_;intro e6 w6 h6;have h7:=TPost.from (mx3.lk hw4) (TPost.of h6);exact RQ.of h7 h7.ends
   cases d1 with
   |num v=>exact .inr (.inr (other nofun nofun rfl))
   |bool v=>exact .inr (.inr (other nofun nofun rfl))
   |str v=>exact .inr (.inr (other nofun nofun rfl))
   |sym t k=>exact .inr (.inr (other nofun nofun rfl))
   |list l=>
    cases l with
    |nil=>exact .inr (.inr (other nofun nofun rfl))
    |cons d0 r=>
     cases d0 with
     |num v=>exact .inr (.inr (other nofun nofun rfl))
     |bool v=>exact .inr (.inr (other nofun nofun rfl))
     |str v=>exact .inr (.inr (other nofun nofun rfl))
     |list v=>exact .inr (.inr (other nofun nofun rfl))
     |sym t k=>
      have mbr:membersL r<=1000000000000:=by simp only[members,membersL]at hmem;omega
      rcases qfo hlead with⟨hm,hkw⟩|⟨kk,hk,hm,hkw⟩
      ·exact .inr (.inr (other (by rw[hkw];exact nofun) (by rw[hkw];exact nofun) (by simp only[top,hm])))
      ·rcases qko hk with⟨rfl,rfl⟩|⟨rfl,rfl⟩|⟨rfl,rfl⟩|⟨rfl,rfl⟩|⟨rfl,rfl⟩|⟨rfl,rfl⟩|⟨rfl,rfl⟩|⟨rfl,rfl⟩
       ·exact .inr (.inr (other (by rw[hkw];decide) (by rw[hkw];decide) (by simp only[top,hm])))
       ·exact .inr (.inr (other (by rw[hkw];decide) (by rw[hkw];decide) (by simp only[top,hm])))
       ·refine .inl ⟨by rw[hkw],fun w4 hw4=>?_⟩;have ht:top S (j+1) x1 (.list (.sym [100,101,102,105,110,101] k::r))=define S j x1 r:=by simp only[top,hm]
        rw[ht]at hne|-;obtain⟨hF',_,hL'⟩:=all_of hR j;refine Calls.mono (qjr hF' hL' X H m x1 w4 _ k r e2.a e2.len e2.cap ⟨Inv.lk hw4 g3,i3.below (bl0 hw4),hd2.row,mbr⟩ (by omega) hne) ?_;intro e6 w6 h6;have h7:=TPost.from (mx3.lk hw4) h6;exact RQ.of h7 h7.ends
       ·exact .inr (.inr (other (by rw[hkw];decide) (by rw[hkw];decide) (by simp only[top,hm])))
       ·exact .inr (.inr (other (by rw[hkw];decide) (by rw[hkw];decide) (by simp only[top,hm])))
       ·exact .inr (.inr (other (by rw[hkw];decide) (by rw[hkw];decide) (by simp only[top,hm])))
       ·exact .inr (.inr (other (by rw[hkw];decide) (by rw[hkw];decide) (by simp only[top,hm])))
       ·refine .inr (.inl ⟨by rw[hkw],fun w4 hw4=>?_⟩);have ht:top S (j+1) x1 (.list (.sym [100,101,102,105,110,101,45,115,121,110,116,97,120] k::r))=syntaxF x1 r:=by simp only[top,hm]
        rw[ht];rcases hns' with hs|hs
        ·refine Calls.mono (hs X H m x1 w4 _ k r e2.a e2.len e2.cap ⟨Inv.lk hw4 g3,i3.below (bl0 hw4),hd2.row,mbr⟩) ?_;intro e6 w6 h6;refine h6.imp ?_ ?_
         ·rintro v w7 ⟨rfl,Y,L,x9,q1,q2,q3,q4⟩;exact⟨rfl,.inr ⟨Y,L,.skip,x9,_,q1,rfl,(mx3.lk hw4).trans q2,q3,q4,.inl ⟨rfl,rfl⟩⟩⟩
         ·intro ps w7 h7;exact TPost.from (mx3.lk hw4) h7
        ·exact absurd ⟨k,r,rfl⟩ hs
  ·rw[h1]at hrv;simp at hrv
 ·rcases hrf with⟨j,x1,d1,h1,_⟩|⟨vd1,x1,h1,h2⟩
  ·rw[h1]at hrv;simp at hrv
  ·rw[h1]at hrv;obtain⟨rfl,rfl⟩:vd1=vd/\x1=x':=by simpa using hrv
   exact .inl ⟨_,rfl,.inl ⟨vd1,x1,h2,rfl,hc,hmt⟩⟩
end
section
open Sc
theorem qaq{n:Nat}{w w':World}{b k:Nat}{v:Value}(h:Below n w w')(hb:n<=b):Below n w (w'.setCell ⟨b,k,none⟩ v):=
 ⟨h.os,h.tape,h.output,by rw[qaf];exact h.size,fun c hc=>by rw[qaa (a:=⟨b,k,none⟩) c (by show c≠b;omega)];exact h.block c hc⟩
theorem qm3{n:Nat}{w w':World}{b:Nat}{v0 v1 v2 v3 v4 v5:Value}(h:Below n w w')(hb:n<=b):Below n w (set6 w' b v0 v1 v2 v3 v4 v5):=qaq (qaq (qaq (qaq (qaq (qaq h hb) hb) hb) hb) hb) hb
theorem qlm(xb:Nat)(yk yn:Int)(ytr:Bool)(ytx:ByteArray)(ym:Int)(ya:Option Addr)(ylen ycap:Nat)(mn:Int)(s:ByteArray)(w:World)(hmn:mn≠2)
  (hL:∀w',Below w.heap.size w w'->Calls prog 288 #[bp xb,.agg (Dl.cells ⟨yk,yn,ytr,ytx,ym,ya,ylen,ycap⟩)] w' fun e w2=>e=.returned (.tuple #[.int .i64 mn,.string s])/\Below w'.heap.size w' w2):
  Calls prog 231 #[bp xb,.agg (Dl.cells ⟨yk,yn,ytr,ytx,ym,ya,ylen,ycap⟩)] w fun e w'=>e=.returned (.agg (Dl.cells ⟨yk,yn,ytr,ytx,ym,ya,ylen,ycap⟩))/\Below w.heap.size w w':=by
 have HL:=hZ hL;have e2:(mn==2)=false:=by simpa using hmn
 have e3:(mn !=2)=true:=by simpa using hmn
 clear hL hmn;go_enter func231,ntmps231
 go_wp2;go_loopw [] (fun wr=>wr=(w.alloc (.cells (Dl.cells ⟨yk,yn,ytr,ytx,ym,ya,ylen,ycap⟩) 134)).alloc (.cells #[.int .i64 0,.int .i64 0,.bool false,.string ⟨#[]⟩,.int .i64 0,.slice none 0 0] 134)) (fun _=>0)
 case atStart=>rfl
 case round=>
  have hrs:wr.heap[w.heap.size+1]? =some (.cells #[.int .i64 0,.int .i64 0,.bool false,.string ⟨#[]⟩,.int .i64 0,.slice none 0 0] 134 (0,0)):=by
   have:=heap_alloc_new (w.alloc (.cells (Dl.cells ⟨yk,yn,ytr,ytx,ym,ya,ylen,ycap⟩) 134)) (.cells #[.int .i64 0,.int .i64 0,.bool false,.string ⟨#[]⟩,.int .i64 0,.slice none 0 0] 134);rw[hrel];simpa using this
  have hbx:wr.heap[w.heap.size]? =some (.cells (Dl.cells ⟨yk,yn,ytr,ytx,ym,ya,ylen,ycap⟩) 134 (0,0)):=by
   rw[hrel,Below.heap_alloc _ _ _ (by simp)];exact heap_alloc_new _ _
  have hbw:Below w.heap.size w wr:=by rw[hrel];exact(qab _ _).alloc (by simp) _
  clear hrel;have x0:wr.cell? ⟨w.heap.size,0,none⟩=some (.int .i64 yk):=by simp only[World.cell?,hbx];rfl
  have x1:wr.cell? ⟨w.heap.size,1,none⟩=some (.int .i64 yn):=by simp only[World.cell?,hbx];rfl
  have x2:wr.cell? ⟨w.heap.size,2,none⟩=some (.bool ytr):=by simp only[World.cell?,hbx];rfl
  have x3:wr.cell? ⟨w.heap.size,3,none⟩=some (.string ytx):=by simp only[World.cell?,hbx];rfl
  have x4:wr.cell? ⟨w.heap.size,4,none⟩=some (.int .i64 ym):=by simp only[World.cell?,hbx];rfl
  have x5:wr.cell? ⟨w.heap.size,5,none⟩=some (.slice ya ylen ycap):=by simp only[World.cell?,hbx];rfl
  have HBW:=hZ hbw;have HBx:=hZ hbx;have HRs:=hZ hrs;clear hbw hbx hrs;go_wp2_with (go_at_call 288;refine(HL.out _ HBW.out).mono ?_;rintro e w2 ⟨rfl,hb⟩;refine Hid.out ?_)
  have hbx2:=(hb.block _ (Array.getElem?_eq_some_iff.1 HBx.out).1).trans HBx.out;have hrs2:=(hb.block _ (Array.getElem?_eq_some_iff.1 HRs.out).1).trans HRs.out;have b0:w2.cell? ⟨w.heap.size,0,none⟩=some (.int .i64 yk):=by simp only[World.cell?,hbx2];rfl
  have b1:w2.cell? ⟨w.heap.size,1,none⟩=some (.int .i64 yn):=by simp only[World.cell?,hbx2];rfl
  have b2:w2.cell? ⟨w.heap.size,2,none⟩=some (.bool ytr):=by simp only[World.cell?,hbx2];rfl
  have b3:w2.cell? ⟨w.heap.size,3,none⟩=some (.string ytx):=by simp only[World.cell?,hbx2];rfl
  have b4:w2.cell? ⟨w.heap.size,4,none⟩=some (.int .i64 ym):=by simp only[World.cell?,hbx2];rfl
  have b5:w2.cell? ⟨w.heap.size,5,none⟩=some (.slice ya ylen ycap):=by simp only[World.cell?,hbx2];rfl
  have r0:w2.cell? ⟨w.heap.size+1,0,none⟩=some (.int .i64 0):=by simp only[World.cell?,hrs2];rfl
  have r1:w2.cell? ⟨w.heap.size+1,1,none⟩=some (.int .i64 0):=by simp only[World.cell?,hrs2];rfl
  have r2:w2.cell? ⟨w.heap.size+1,2,none⟩=some (.bool false):=by simp only[World.cell?,hrs2];rfl
  have r3:w2.cell? ⟨w.heap.size+1,3,none⟩=some (.string ⟨#[]⟩):=by simp only[World.cell?,hrs2];rfl
  have r4:w2.cell? ⟨w.heap.size+1,4,none⟩=some (.int .i64 0):=by simp only[World.cell?,hrs2];rfl
  have r5:w2.cell? ⟨w.heap.size+1,5,none⟩=some (.slice none 0 0):=by simp only[World.cell?,hrs2];rfl
  have rf:∀o,w2.frozen? ⟨w.heap.size+1,o,none⟩=false:=fun o=>by simp[World.frozen?,hrs2]
  have HB2:Hid (Below w.heap.size w w2):=HBW.out.trans (hb.mono HBW.out.size);have hs6:=qed (v0:=.int .i64 yk) (v1:=.int .i64 yn) (v2:=.bool ytr) (v3:=.string ytx) (v4:=.int .i64 ym) (v5:=.slice ya ylen ycap) hrs2;have s0:(set6 w2 (w.heap.size+1) (.int .i64 yk) (.int .i64 yn) (.bool ytr) (.string ytx) (.int .i64 ym) (.slice ya ylen ycap)).cell? ⟨w.heap.size+1,0,none⟩=some (.int .i64 yk):=by simp only[World.cell?,hs6];rfl
  have s1:(set6 w2 (w.heap.size+1) (.int .i64 yk) (.int .i64 yn) (.bool ytr) (.string ytx) (.int .i64 ym) (.slice ya ylen ycap)).cell? ⟨w.heap.size+1,1,none⟩=some (.int .i64 yn):=by simp only[World.cell?,hs6];rfl
  have s2:(set6 w2 (w.heap.size+1) (.int .i64 yk) (.int .i64 yn) (.bool ytr) (.string ytx) (.int .i64 ym) (.slice ya ylen ycap)).cell? ⟨w.heap.size+1,2,none⟩=some (.bool ytr):=by simp only[World.cell?,hs6];rfl
  have s3:(set6 w2 (w.heap.size+1) (.int .i64 yk) (.int .i64 yn) (.bool ytr) (.string ytx) (.int .i64 ym) (.slice ya ylen ycap)).cell? ⟨w.heap.size+1,3,none⟩=some (.string ytx):=by simp only[World.cell?,hs6];rfl
  have s4:(set6 w2 (w.heap.size+1) (.int .i64 yk) (.int .i64 yn) (.bool ytr) (.string ytx) (.int .i64 ym) (.slice ya ylen ycap)).cell? ⟨w.heap.size+1,4,none⟩=some (.int .i64 ym):=by simp only[World.cell?,hs6];rfl
  have s5:(set6 w2 (w.heap.size+1) (.int .i64 yk) (.int .i64 yn) (.bool ytr) (.string ytx) (.int .i64 ym) (.slice ya ylen ycap)).cell? ⟨w.heap.size+1,5,none⟩=some (.slice ya ylen ycap):=by simp only[World.cell?,hs6];rfl
  have hz6:w.heap.size<=w.heap.size+1:=Nat.le_succ _;have HFin:Hid (Below w.heap.size w (set6 w2 (w.heap.size+1) (.int .i64 yk) (.int .i64 yn) (.bool ytr) (.string ytx) (.int .i64 ym) (.slice ya ylen ycap))):=qm3 HB2.out hz6;clear hb hbx2 hrs2 HBx HRs HL hs6 x0 x1 x2 x3 x4 x5 HB2 HBW;refine hZ ?_;go_wp2;unfold set6 at s0 s1 s2 s3 s4 s5 HFin;generalize (((((w2.setCell ⟨w.heap.size+1,0,none⟩ (.int .i64 yk)).setCell ⟨w.heap.size+1,1,none⟩ (.int .i64 yn)).setCell ⟨w.heap.size+1,2,none⟩ (.bool ytr)).setCell ⟨w.heap.size+1,3,none⟩ (.string ytx)).setCell ⟨w.heap.size+1,4,none⟩ (.int .i64 ym)).setCell ⟨w.heap.size+1,5,none⟩ (.slice ya ylen ycap)=W at s0 s1 s2 s3 s4 s5 HFin|-;clear b0 b1 b2 b3 b4 b5 r0 r1 r2 r3 r4 r5 rf e2 e3;refine bodyPost_ret (v:=.agg #[.int .i64 yk,.int .i64 yn,.bool ytr,.string ytx,.int .i64 ym,.slice ya ylen ycap]) (by simp[results,results231,go_sem, *]) rfl ?_;exact⟨rfl,HFin.out⟩
def K0:Rl:=⟨fun _ _ _=>False,fun _ h=>h⟩
theorem mc0{G:Gh}{ms:List Macro}{L:List (Bs×Value)}(h:McRows K0.R G ms L):ms=[]:=by
 cases h with
 |nil=>rfl
 |cons _ _ _ _ h=>exact absurd h id
theorem lead0{x:Xs}{sc:Scope}{d:Dt}(h:x.macros=[]):(leadN x sc d).1≠2:=fun h2=>by
 obtain⟨t,k,r,mc,_,_,hm,_⟩:=qgg h2;simp[Xs.mcr,h]at hm
theorem rewr0{S:Sub}{x:Xs}{sc:Scope}{d:Dt}{F:Nat}(h:x.macros=[])(hne:(rewr S F x sc d).1≠.error 0):rewr S F x sc d=(.ok d,x):=by
 cases F with
 |zero=>exact absurd rfl hne
 |succ F=>exact qeq (lead0 h)
theorem qra(S:Sub):SimRewr K0 S:=by
 intro X G m x sc w d e F g i hd hne;obtain⟨es,clock,M,hm1,hm2,hm3⟩:=i.mc;have h0:=mc0 hm3;rw[rewr0 h0 hne];obtain⟨yk,yn,ytr,ytx,ym,ya,ylen,ycap⟩:=e;refine Calls.mono (qlm X.xb yk yn ytr ytx ym ya ylen ycap (leadN x sc d).1 ⟨(leadN x sc d).2.toArray⟩ w (lead0 h0) fun w' hb=>qkm (g.below hb) (i.below hb) hd) ?_;rintro e' w' ⟨rfl,hb⟩;exact .inl ⟨G,d,x,_,rfl,rfl,Mx.ofBelow hb,g.below hb,i.below hb,hd⟩
end
section
open Sc
mutual
def wt:Dt->Nat
 | .num _=>1
 | .bool _=>1
 | .str t=>t.length+1
 | .sym t _=>t.length+1
 | .list l=>1+wtL l
def wtL:List Dt->Nat
 | []=>0
 |d::r=>wt d+wtL r
end
theorem qm7(a b:List Dt):wtL (a++b)=wtL a+wtL b:=by
 induction a with
 |nil=>simp[wtL]
 |cons d r ih=>simp only[List.cons_append,wtL,ih];omega
theorem tw_len(P:UInt8->Bool)(l:List UInt8):(l.takeWhile P).length+(l.dropWhile P).length=l.length:=by
 rw[<-List.length_append,List.takeWhile_append_dropWhile]
theorem qf4(b:Bool)(l:List UInt8):(Px.skip b l).length<=l.length:=(Px.skip_suf l b).length_le
def WtOk(l:List UInt8)(r:Py.R):Prop:=∀xs rr,r=.inr (xs,rr)->wtL xs+10*rr.length<=10*l.length
theorem qdf(l:List UInt8)(t:Dt)(r:List UInt8)(h:wt t+10*r.length<=10*l.length):WtOk l (Py.closed t r):=by
 intro xs rr e;unfold Py.closed at e;split at e
 ·cases e;simpa[wtL]using h
 ·split at e
  ·cases e;simpa[wtL]using h
  ·cases e
theorem word_wt(c:UInt8)(r:List UInt8)(h:Px.wordB c=true):WtOk (c::r) (Py.word (c::r)):=by
 have hl:=tw_len Px.wordB (c::r);have h1:1<=((c::r).takeWhile Px.wordB).length:=by simp[List.takeWhile,h]
 unfold Py.word;generalize (c::r).takeWhile Px.wordB=a at hl h1;generalize (c::r).dropWhile Px.wordB=b at hl;intro xs rr e;unfold Py.wordOf at e;split at e
 ·split at e
  ·exact qdf (c::r) _ b (by simp only[wt];omega) xs rr e
  ·cases e
 ·split at e
  ·cases e
  ·exact qdf (c::r) _ b (by simp only[wt];omega) xs rr e
theorem str_wt(c:UInt8)(r:List UInt8):WtOk (c::r) (Py.str r):=by
 have hl:=tw_len Px.strB r;intro xs rr e;unfold Py.str at e;split at e
 ·cases e
 ·rename_i c' r' hd;split at e
  ·cases e;rw[hd]at hl;simp only[List.length_cons,wtL,wt]at hl|-;omega
  ·cases e
theorem qqp(c:UInt8)(r:List UInt8):WtOk (c::r) (Py.truth r):=by
 intro xs rr e;unfold Py.truth at e;split at e
 ·cases e
 ·rename_i c' r';split at e
  ·exact qdf _ _ r' (by simp only[wt,List.length_cons];omega) xs rr e
  ·split at e
   ·exact qdf _ _ r' (by simp only[wt,List.length_cons];omega) xs rr e
   ·cases e
theorem qn6:∀(f:Nat) (b:Bool) (d:Nat) (l:List UInt8),WtOk l (Py.rd f b d l)
 |0,_,_,_=>fun xs rr e=>by simp[Py.rd]at e
 |f+1,true,d,l=>fun xs rr e=>by
  have hs:=qf4 false l;rw[Py.rd]at e;split at e
  ·cases e
  ·rename_i c r hsk;rw[hsk]at hs;split at e
   ·cases e;simp only[wtL,List.length_cons]at hs|-;omega
   ·split at e
    ·cases e
    ·rename_i x r1 h1;split at e
     ·cases e
     ·rename_i ys r2 h2;cases e;have a:=qn6 f false d (c::r) x r1 h1;have b:=qn6 f true d r1 ys rr h2;rw[qm7];omega
 |f+1,false,d,l=>fun xs rr e=>by
  have hs:=qf4 false l;rw[Py.rd]at e;split at e
  ·cases e
  ·rename_i c r hsk;rw[hsk]at hs;simp only[List.length_cons]at hs;split at e
   ·split at e
    ·cases e
    ·split at e
     ·cases e
     ·rename_i ys r1 h1;cases e;have a:=qn6 f true (d+1) r ys rr h1;simp only[wtL,wt];omega
   ·split at e
    ·split at e
     ·cases e
     ·split at e
      ·cases e
      ·rename_i ys r1 h1;cases e;have a:=qn6 f false (d+1) r ys rr h1;have hq:Px.quoteT.length=5:=rfl;simp only[wtL,wt,hq];omega
    ·split at e
     ·have:=str_wt c r xs rr e;simp only[List.length_cons]at this;omega
     ·split at e
      ·have:=qqp c r xs rr e;simp only[List.length_cons]at this;omega
      ·split at e
       ·rename_i hw;have:=word_wt c r hw xs rr e;simp only[List.length_cons]at this;omega
       ·cases e
theorem topP_wt:∀(f:Nat) (l:List UInt8) (xs:List (Dt×Nat)) (rr:List UInt8),Py.topP f l=.inr (xs,rr)->wtL (xs.map (·.1))+10*rr.length<=10*l.length:=by
 intro f l xs rr h;have ht:=Py.topP_top f l;rw[h]at ht;have key:∀(f:Nat) (l:List UInt8),WtOk l (Py.top f l):=by
  intro f;induction f with
  |zero=>intro l xs rr e;simp[Py.top]at e
  |succ f ih=>
   intro l xs rr e;have hs:=qf4 false l;rw[Py.top]at e;split at e
   ·cases e;simp[wtL]
   ·rename_i c r hsk;rw[hsk]at hs;split at e
    ·cases e
    ·rename_i x r1 h1;split at e
     ·cases e
     ·rename_i ys r2 h2;cases e;have a:=qn6 f false 0 (c::r) x r1 h1;have b:=ih r1 ys rr h2;rw[qm7];omega
 exact key f l _ _ ht
mutual
theorem qfm:∀d:Dt,members d+1<=wt d
 | .num _=>by simp[members,wt]
 | .bool _=>by simp[members,wt]
 | .str _=>by simp[members,wt]
 | .sym _ _=>by simp[members,wt]
 | .list l=>by have:=qel l;simp only[members,wt];omega
theorem qel:∀l:List Dt,membersL l<=wtL l
 | []=>by simp[membersL]
 |d::r=>by have:=qfm d;have:=qel r;simp only[membersL,wtL];omega
end
theorem wt_mem{l:List Dt}{d:Dt}(h:d∈l):wt d<=wtL l:=by
 induction l with
 |nil=>simp at h
 |cons a r ih=>
  simp only[wtL];rcases List.mem_cons.1 h with rfl|h
  ·omega
  ·have:=ih h;omega
theorem wt_pos(d:Dt):1<=wt d:=by cases d <;> simp[wt]
theorem wtL_len(l:List Dt):l.length<=wtL l:=by
 induction l with
 |nil=>simp
 |cons a r ih=>have:=wt_pos a;simp only[List.length_cons,wtL];omega
abbrev dlOf(e:Rd.El):Dl:=⟨e.k,e.n,e.tr,e.tx,e.m,e.a,e.len,e.cap⟩
theorem qkw{G:Gh}:∀(es:List Rd.El) (ts:List Dt),es.length=ts.length->(∀(i:Nat) (x:Rd.El) (u:Dt),es[i]? =some x->ts[i]? =some u->DRep G u (dlOf x))->DsRep G ts (es.map dlOf)
 | [],[],_,_=>.nil
 | [],_::_,h,_=>by simp at h
 |_::_,[],h,_=>by simp at h
 |e::es,t::ts,h,ha=>.cons _ _ _ _ (ha 0 e t rfl rfl) (qkw es ts (by simpa using h) fun i x u h1 h2=>ha (i+1) x u (by simpa using h1) (by simpa using h2))
theorem qms(l:List Rd.El)(i j:Nat)(x:Rd.El)(h:l[i]? =some x)(hj:j<6):(l.flatMap Rd.El.cells)[i*6+j]? =(dlOf x).cells[j]?:=by
 have e:l.flatMap Rd.El.cells=dlCells (l.map dlOf):=by
  unfold dlCells;rw[List.flatMap_map];rfl
 rw[e];exact qfu (l.map dlOf) i j (dlOf x) (by simp[h]) hj
theorem qke{lo:Nat}{w:World}{G:Gh}(hI:∀(g:Nat) (arr:Array Value),lo<=g->w.heap[g]? =some (.cells arr 134 (0,0))->G.I g=some (.cells arr 134 (0,0))):∀{m:Nat} {e:Rd.El} {t:Dt},Rd.Rep lo Rd.NoB w m e t->wt t<=20000->DRep G t (dlOf e)
 |0,_,_,h,_=>False.elim h
 |m+1,e,t,h,hw=>by
  rcases h with⟨h0,rfl,h1,h2,h3,h4,h5⟩|⟨h0,rfl,h3,h4,h5⟩|⟨h0,rfl,h3,h4,h5⟩|⟨h0,rfl,h3⟩|⟨h0,es,ts,rfl,hl,hrow,hall⟩
  ·exact .num (dlOf e) h0 h1 h2 ⟨h3,h4,h5⟩
  ·exact .bool (dlOf e) h0 ⟨h3,h4,h5⟩
  ·refine .str (dlOf e) h0 ?_ ⟨h3,h4,h5⟩;simp only[wt]at hw;have:e.tx.data.toList.length=e.tx.size:=by rw[Array.length_toList];rfl
   show e.tx.size<=1000000000;omega
  ·refine .sym (dlOf e) h0 ?_ h3;simp only[wt]at hw;have:e.tx.data.toList.length=e.tx.size:=by rw[Array.length_toList];rfl
   show e.tx.size<=1000000000;omega
  ·have hwl:wtL ts<=20000:=by simp only[wt]at hw;omega
   have hlen:=wtL_len ts;have hd:=qkw (G:=G) es ts hl fun i x u h1 h2=>qke hI (hall i x u h1 h2) (Nat.le_trans (wt_mem (List.mem_of_getElem? h2)) hwl)
   have hel:=hrow.len;rcases hrow.owns.2 with⟨hv,h00⟩|⟨g,cap,cur,hv,hb,hg,hn,hm,hsz,htk⟩
   ·have:ts=[]:=by cases ts with|nil=>rfl|cons=>simp at hl;omega
    subst this;exact .nil (dlOf e) h0 h00
   ·have hsl:e.a=some ⟨g,0,none⟩/\e.cap=cap:=by
     simp only[Rd.El.sl]at hv;exact⟨by injection hv,by injection hv⟩
    refine .list (dlOf e) h0 ts (es.map dlOf) g 0 cur (by simp[hel]) (by show e.len<=e.cap;rw[hsl.2];exact hn) (by show e.len<=30000;omega) hsl.1 (hI g cur hb hg) (fun i j x hx hj=>?_) hd;rw[List.getElem?_map]at hx;obtain⟨y,hy,rfl⟩:=Option.map_eq_some_iff.1 hx;have:=qms es i j y hy hj;rw[<-htk,List.getElem?_take]at this;rw[Nat.zero_add];split at this
    ·simpa using this
    ·have hlt:j<(dlOf y).cells.size:=hj;rw[Array.getElem?_eq_getElem hlt]at this;cases this
end
section
open Sc
theorem qmi(G:Gh)(S:Sub)(m:Mc)(w:World)(t:ByteArray)(i:Inv G S m w)(hb:lookB t.data.toList G.B=none):
  Calls prog 227 #[bp G.mb,.string t] w fun e w'=>e=.returned (bp w.heap.size)/\Mv G w (G.glob t.data.toList w.heap.size) w'/\Inv (G.glob t.data.toList w.heap.size) S m w'/\w'.heap.size=w.heap.size+1:=by
 obtain⟨es,clock,hmp,hB⟩:=i.mp;have c2:=i.mb2;have hl:=qdl G.mp es clock G.B t w hmp hB;rw[hb]at hl;have hl:(Instr.lookup 114 (.map (some G.mp)) (.string t) false).run prog w=.ok (.pointer none) w:=hl;have hmpl:G.mp<w.heap.size:=(Array.getElem?_eq_some_iff.1 hmp).1;have hu:=qcb G.mp w.heap.size es clock G.B t (w.alloc (.cells #[.nilIface] 318)) (by rw[Below.heap_alloc _ _ _ hmpl];exact hmp) hB hb;have k2:(w.alloc (.cells #[.nilIface] 318)).cell? ⟨G.mb,2,none⟩=some (.map (some G.mp)):=(qad (qac c2) _).trans c2;have HI:=hZ i;have HB:=hZ hB;have HN:=hZ (qcr hb);have HM:=hZ hmp;clear i hB hb hmp;go_enter func227,ntmps227
 go_wp2;go_ret;have i1:=HI.out.below ((Below.refl _ _).alloc (Nat.le_refl _) (.cells #[.nilIface] 318));refine⟨rfl,⟨G.up_glob _ _,fun _=>rfl,fun {b} hb=>?_,fun {c} hcl hc=>?_,by simp⟩,i1.newGlob HN.out (heap_alloc_new _ _) (fun h=>by have:=HI.out.ml h;omega) (HI.out.fresh (Nat.le_refl _)) (fun h=>by have:=(HI.out.ff h).2;omega) ?_ (by simp) ⟨rfl,rfl,rfl⟩ ⟨es.push ⟨.string t,bp w.heap.size,clock⟩,clock+1,?_,?_⟩,by simp⟩
 ·simp only[Gh.mut,Gh.glob,Gh.rows,List.mem_cons,List.mem_append,List.map_append,List.map_cons,List.map_nil,List.not_mem_nil,or_false]at hb|-;rcases hb with h|h|h|h|(h|h)|h
  ·exact .inl (.inl h)
  ·exact .inl (.inr (.inl h))
  ·exact .inl (.inr (.inr (.inl h)))
  ·exact .inl (.inr (.inr (.inr (.inl h))))
  ·exact .inl (.inr (.inr (.inr (.inr (.inl h)))))
  ·exact .inr (by omega)
  ·exact .inl (.inr (.inr (.inr (.inr (.inr h)))))
 ·have hcm:c≠G.mp:=fun e=>hc (e▸HI.out.m4)
  simp[Ne.symm hcm,Below.heap_alloc _ _ _ hcl]
 ·intro c hc;simp[Ne.symm hc]
 ·simp[Array.getElem?_setIfInBounds];omega
 ·simp[HB.out]
theorem qfv(G:Gh)(S:Sub)(m:Mc)(w:World)(t:ByteArray)(v:Vl)(x:Value)(i:Inv G S m w)(hb:lookB t.data.toList G.B=none)(hv:VRep G v x):
  Calls prog 139 #[bp G.mb,.string t,x] w fun e w'=>e=.returned (.tuple #[])/\Mv G w (G.glob t.data.toList w.heap.size) w'/\Inv (G.glob t.data.toList w.heap.size) S {m with glob:=put t.data.toList v m.glob} w'/\w'.heap.size=w.heap.size+1:=by
 obtain⟨ty,y,rfl⟩:=hv.form;have HG:=hZ (qmi G S m w t i hb);have HV:=hZ hv;have HGl:Hid (∀b,b∈G.mut->b<w.heap.size):=fun b h=>i.ml h
 clear i hv hb;go_enter func139,ntmps139
 go_wp2_with (go_at_call 227;refine HG.out.mono ?_;rintro e w2 ⟨rfl,hH⟩;refine Hid.out ?_)
 obtain⟨hmv,hi,hz⟩:=hH;have hm:(t.data.toList,w.heap.size)∈(G.glob t.data.toList w.heap.size).B:=List.mem_append_right _ (by simp);obtain⟨z,hz1,hz2⟩:=hi.gcell hm;have hz3:=hi.gfz hm;have HH:=hZ (And.intro hmv (And.intro hi (And.intro hm hz)));clear hmv hi hm hz;rcases hz2 with rfl|⟨t',y',rfl⟩;all_goals
  refine hZ ?_;go_wp2;go_end0;obtain⟨hmv,hi,hm,hz⟩:=HH.out;refine⟨rfl,⟨hmv.up,hmv.I,hmv.mu,fun {k} hk hn=>?_,by rw[qaf];exact hmv.size⟩,hi.setGlob hm (HV.out.mono hmv.up.le),by rw[qaf];exact hz⟩;rw[qaa (a:=⟨w.heap.size,0,none⟩) k (by show k≠w.heap.size;omega)];exact hmv.blk hk hn
def Mk(F T W:Nat):Prop:=∀(k:Nat) (cc:Array Value) (w:World),Calls prog F #[.func (.func k) #[] cc] w fun e w'=>e=.returned (bp (w.heap.size+1))/\Lk ((w.alloc (.cells #[.func (.func k) #[] cc] T)).alloc (.cells #[.func (.func W) #[] #[bp w.heap.size]] 300)) w'
def MkM(F W:Nat):Prop:=∀(mb:Nat) (w:World),Calls prog F #[bp mb] w fun e w'=>e=.returned (bp (w.heap.size+1))/\Lk ((w.alloc (.cells #[bp mb] 107)).alloc (.cells #[.func (.func W) #[] #[bp w.heap.size]] 300)) w'
theorem qi5:Mk 177 283 257:=by
 intro k cc w;go_enter func177,ntmps177
 go_wp2;go_ret;exact⟨rfl,rfl,rfl,rfl,rfl⟩
theorem qd0:Mk 193 287 268:=by
 intro k cc w;go_enter func193,ntmps193
 go_wp2;go_ret;exact⟨rfl,rfl,rfl,rfl,rfl⟩
theorem qry:Mk 195 289 270:=by
 intro k cc w;go_enter func195,ntmps195
 go_wp2;go_ret;exact⟨rfl,rfl,rfl,rfl,rfl⟩
theorem mk201:Mk 201 293 271:=by
 intro k cc w;go_enter func201,ntmps201
 go_wp2;go_ret;exact⟨rfl,rfl,rfl,rfl,rfl⟩
theorem mk210:Mk 210 306 274:=by
 intro k cc w;go_enter func210,ntmps210
 go_wp2;go_ret;exact⟨rfl,rfl,rfl,rfl,rfl⟩
theorem mk214:Mk 214 308 276:=by
 intro k cc w;go_enter func214,ntmps214
 go_wp2;go_ret;exact⟨rfl,rfl,rfl,rfl,rfl⟩
theorem mk216:Mk 216 310 277:=by
 intro k cc w;go_enter func216,ntmps216
 go_wp2;go_ret;exact⟨rfl,rfl,rfl,rfl,rfl⟩
theorem mk219:Mk 219 312 278:=by
 intro k cc w;go_enter func219,ntmps219
 go_wp2;go_ret;exact⟨rfl,rfl,rfl,rfl,rfl⟩
theorem mk221:MkM 221 280:=by
 intro mb w;go_enter func221,ntmps221
 go_wp2;go_ret;exact⟨rfl,rfl,rfl,rfl,rfl⟩
theorem mk222:MkM 222 284:=by
 intro mb w;go_enter func222,ntmps222
 go_wp2;go_ret;exact⟨rfl,rfl,rfl,rfl,rfl⟩
theorem mk223:MkM 223 286:=by
 intro mb w;go_enter func223,ntmps223
 go_wp2;go_ret;exact⟨rfl,rfl,rfl,rfl,rfl⟩
end
section
open Sc
def DefK(mb:Nat)(nm:ByteArray)(P:World->Prop)(e:Ending)(w1:World):Prop:=∃b,e=.returned (bp b)/\∀w2,Lk w1 w2->Calls prog 139 #[bp mb,.string nm,.iface 281 (bp b)] w2 fun e w3=>e=.returned (.tuple #[])/\P w3
def DefKq(mb q:Nat)(nm:ByteArray)(P:World->Prop)(e:Ending)(w1:World):Prop:=∃b,e=.returned (bp b)/\w1.cell? ⟨q,0,none⟩=some (bp mb)/\∀w2,Lk w1 w2->Calls prog 139 #[bp mb,.string nm,.iface 281 (bp b)] w2 fun e w3=>e=.returned (.tuple #[])/\w3.cell? ⟨q,0,none⟩=some (bp mb)/\P w3
theorem qpr(mb:Nat)(w:World)(Q:Ending->World->Prop)(St:Nat->World->Prop)(h0:St 0 w)
  (s0:∀w',St 0 w'->Calls prog 177 #[.func (.func 178) #[] #[]] w' (DefK mb ⟨#[43]⟩ (St 1)))
  (s1:∀w',St 1 w'->Calls prog 177 #[.func (.func 179) #[] #[]] w' (DefK mb ⟨#[45]⟩ (St 2)))
  (s2:∀w',St 2 w'->Calls prog 177 #[.func (.func 180) #[] #[]] w' (DefK mb ⟨#[42]⟩ (St 3)))
  (s3:∀w',St 3 w'->Calls prog 177 #[.func (.func 181) #[] #[]] w' (DefK mb ⟨#[113,117,111,116,105,101,110,116]⟩ (St 4)))
  (s4:∀w',St 4 w'->Calls prog 177 #[.func (.func 182) #[] #[]] w' (DefK mb ⟨#[114,101,109,97,105,110,100,101,114]⟩ (St 5)))
  (s5:∀w',St 5 w'->Calls prog 177 #[.func (.func 183) #[] #[]] w' (DefK mb ⟨#[61]⟩ (St 6)))
  (s6:∀w',St 6 w'->Calls prog 177 #[.func (.func 184) #[] #[]] w' (DefK mb ⟨#[60]⟩ (St 7)))
  (hQ:∀w',St 7 w'->Q (.returned (.tuple #[])) w'):Calls prog 132 #[bp mb] w Q:=by
 have HQ:=hZ hQ;have X0:=hZ h0;have S0:=hZ s0;have S1:=hZ s1;have S2:=hZ s2;have S3:=hZ s3;have S4:=hZ s4;have S5:=hZ s5;have S6:=hZ s6;clear hQ h0 s0 s1 s2 s3 s4 s5 s6;go_enter func132,ntmps132
 go_wp2_with (first|(go_at_call 177;refine(S0.out _ X0.out).mono ?_;rintro e w1 ⟨b0,rfl,hk⟩;have K0:=hZ hk;clear hk)|(go_at_call 139;refine(K0.out _ (by exact⟨rfl,rfl,rfl,rfl⟩)).mono ?_;rintro e v0 ⟨rfl,hk⟩;have X1:=hZ hk;clear hk;refine Hid.out ?_))
 refine hZ ?_;go_wp2_with (first|(go_at_call 177;refine(S1.out _ X1.out).mono ?_;rintro e w1 ⟨b1,rfl,hk⟩;have K1:=hZ hk;clear hk)|(go_at_call 139;refine(K1.out _ (by exact⟨rfl,rfl,rfl,rfl⟩)).mono ?_;rintro e v1 ⟨rfl,hk⟩;have X2:=hZ hk;clear hk;refine Hid.out ?_))
 refine hZ ?_;go_wp2_with (first|(go_at_call 177;refine(S2.out _ X2.out).mono ?_;rintro e w1 ⟨b2,rfl,hk⟩;have K2:=hZ hk;clear hk)|(go_at_call 139;refine(K2.out _ (by exact⟨rfl,rfl,rfl,rfl⟩)).mono ?_;rintro e v2 ⟨rfl,hk⟩;have X3:=hZ hk;clear hk;refine Hid.out ?_))
 refine hZ ?_;go_wp2_with (first|(go_at_call 177;refine(S3.out _ X3.out).mono ?_;rintro e w1 ⟨b3,rfl,hk⟩;have K3:=hZ hk;clear hk)|(go_at_call 139;refine(K3.out _ (by exact⟨rfl,rfl,rfl,rfl⟩)).mono ?_;rintro e v3 ⟨rfl,hk⟩;have X4:=hZ hk;clear hk;refine Hid.out ?_))
 refine hZ ?_;go_wp2_with (first|(go_at_call 177;refine(S4.out _ X4.out).mono ?_;rintro e w1 ⟨b4,rfl,hk⟩;have K4:=hZ hk;clear hk)|(go_at_call 139;refine(K4.out _ (by exact⟨rfl,rfl,rfl,rfl⟩)).mono ?_;rintro e v4 ⟨rfl,hk⟩;have X5:=hZ hk;clear hk;refine Hid.out ?_))
 refine hZ ?_;go_wp2_with (first|(go_at_call 177;refine(S5.out _ X5.out).mono ?_;rintro e w1 ⟨b5,rfl,hk⟩;have K5:=hZ hk;clear hk)|(go_at_call 139;refine(K5.out _ (by exact⟨rfl,rfl,rfl,rfl⟩)).mono ?_;rintro e v5 ⟨rfl,hk⟩;have X6:=hZ hk;clear hk;refine Hid.out ?_))
 refine hZ ?_;go_wp2_with (first|(go_at_call 177;refine(S6.out _ X6.out).mono ?_;rintro e w1 ⟨b6,rfl,hk⟩;have K6:=hZ hk;clear hk)|(go_at_call 139;refine(K6.out _ (by exact⟨rfl,rfl,rfl,rfl⟩)).mono ?_;rintro e v6 ⟨rfl,hk⟩;have X7:=hZ hk;clear hk;refine Hid.out ?_))
 refine hZ ?_;go_wp2;go_end0;exact HQ.out _ X7.out
theorem qpq(mb:Nat)(w:World)(Q:Ending->World->Prop)(St:Nat->World->Prop)(h0:St 0 w)
  (s0:∀w',St 0 w'->Calls prog 185 #[] w' (DefK mb ⟨#[110,117,108,108,63]⟩ (St 1)))
  (s1:∀w',St 1 w'->Calls prog 186 #[] w' (DefK mb ⟨#[112,97,105,114,63]⟩ (St 2)))
  (s2:∀w',St 2 w'->Calls prog 187 #[] w' (DefK mb ⟨#[105,110,116,101,103,101,114,63]⟩ (St 3)))
  (s3:∀w',St 3 w'->Calls prog 188 #[] w' (DefK mb ⟨#[115,121,109,98,111,108,63]⟩ (St 4)))
  (s4:∀w',St 4 w'->Calls prog 189 #[] w' (DefK mb ⟨#[115,116,114,105,110,103,63]⟩ (St 5)))
  (s5:∀w',St 5 w'->Calls prog 190 #[] w' (DefK mb ⟨#[98,111,111,108,101,97,110,63]⟩ (St 6)))
  (s6:∀w',St 6 w'->Calls prog 191 #[] w' (DefK mb ⟨#[112,114,111,99,101,100,117,114,101,63]⟩ (St 7)))
  (s7:∀w',St 7 w'->Calls prog 192 #[] w' (DefK mb ⟨#[115,101,97,108,63]⟩ (St 8)))
  (hQ:∀w',St 8 w'->Q (.returned (.tuple #[])) w'):Calls prog 133 #[bp mb] w Q:=by
 have HQ:=hZ hQ;have X0:=hZ h0;have S0:=hZ s0;have S1:=hZ s1;have S2:=hZ s2;have S3:=hZ s3;have S4:=hZ s4;have S5:=hZ s5;have S6:=hZ s6;have S7:=hZ s7;clear hQ h0 s0 s1 s2 s3 s4 s5 s6 s7;go_enter func133,ntmps133
 go_wp2_with (first|(go_at_call 185;refine(S0.out _ X0.out).mono ?_;rintro e w1 ⟨b0,rfl,hk⟩;have K0:=hZ hk;clear hk)|(go_at_call 139;refine(K0.out _ (by exact⟨rfl,rfl,rfl,rfl⟩)).mono ?_;rintro e v0 ⟨rfl,hk⟩;have X1:=hZ hk;clear hk;refine Hid.out ?_))
 refine hZ ?_;go_wp2_with (first|(go_at_call 186;refine(S1.out _ X1.out).mono ?_;rintro e w1 ⟨b1,rfl,hk⟩;have K1:=hZ hk;clear hk)|(go_at_call 139;refine(K1.out _ (by exact⟨rfl,rfl,rfl,rfl⟩)).mono ?_;rintro e v1 ⟨rfl,hk⟩;have X2:=hZ hk;clear hk;refine Hid.out ?_))
 refine hZ ?_;go_wp2_with (first|(go_at_call 187;refine(S2.out _ X2.out).mono ?_;rintro e w1 ⟨b2,rfl,hk⟩;have K2:=hZ hk;clear hk)|(go_at_call 139;refine(K2.out _ (by exact⟨rfl,rfl,rfl,rfl⟩)).mono ?_;rintro e v2 ⟨rfl,hk⟩;have X3:=hZ hk;clear hk;refine Hid.out ?_))
 refine hZ ?_;go_wp2_with (first|(go_at_call 188;refine(S3.out _ X3.out).mono ?_;rintro e w1 ⟨b3,rfl,hk⟩;have K3:=hZ hk;clear hk)|(go_at_call 139;refine(K3.out _ (by exact⟨rfl,rfl,rfl,rfl⟩)).mono ?_;rintro e v3 ⟨rfl,hk⟩;have X4:=hZ hk;clear hk;refine Hid.out ?_))
 refine hZ ?_;go_wp2_with (first|(go_at_call 189;refine(S4.out _ X4.out).mono ?_;rintro e w1 ⟨b4,rfl,hk⟩;have K4:=hZ hk;clear hk)|(go_at_call 139;refine(K4.out _ (by exact⟨rfl,rfl,rfl,rfl⟩)).mono ?_;rintro e v4 ⟨rfl,hk⟩;have X5:=hZ hk;clear hk;refine Hid.out ?_))
 refine hZ ?_;go_wp2_with (first|(go_at_call 190;refine(S5.out _ X5.out).mono ?_;rintro e w1 ⟨b5,rfl,hk⟩;have K5:=hZ hk;clear hk)|(go_at_call 139;refine(K5.out _ (by exact⟨rfl,rfl,rfl,rfl⟩)).mono ?_;rintro e v5 ⟨rfl,hk⟩;have X6:=hZ hk;clear hk;refine Hid.out ?_))
 refine hZ ?_;go_wp2_with (first|(go_at_call 191;refine(S6.out _ X6.out).mono ?_;rintro e w1 ⟨b6,rfl,hk⟩;have K6:=hZ hk;clear hk)|(go_at_call 139;refine(K6.out _ (by exact⟨rfl,rfl,rfl,rfl⟩)).mono ?_;rintro e v6 ⟨rfl,hk⟩;have X7:=hZ hk;clear hk;refine Hid.out ?_))
 refine hZ ?_;go_wp2_with (first|(go_at_call 192;refine(S7.out _ X7.out).mono ?_;rintro e w1 ⟨b7,rfl,hk⟩;have K7:=hZ hk;clear hk)|(go_at_call 139;refine(K7.out _ (by exact⟨rfl,rfl,rfl,rfl⟩)).mono ?_;rintro e v7 ⟨rfl,hk⟩;have X8:=hZ hk;clear hk;refine Hid.out ?_))
 refine hZ ?_;go_wp2;go_end0;exact HQ.out _ X8.out
theorem qpp(mb:Nat)(w:World)(Q:Ending->World->Prop)(St:Nat->World->Prop)(h0:∀w',Lk (w.alloc (.cells #[bp mb] 107)) w'->St 0 w')(hlk:∀k w1 w2,St k w1->Lk w1 w2->St k w2)
  (s0:∀w',St 0 w'->Calls prog 193 #[.func (.func 194) #[] #[]] w' (DefKq mb w.heap.size ⟨#[110,111,116]⟩ (St 1)))
  (s1:∀w',St 1 w'->Calls prog 195 #[.func (.func 196) #[] #[]] w' (DefKq mb w.heap.size ⟨#[101,113,63]⟩ (St 2)))
  (s2:∀w',St 2 w'->Calls prog 195 #[.func (.func 197) #[] #[bp w.heap.size]] w' (DefKq mb w.heap.size ⟨#[101,113,117,97,108,63]⟩ (St 3)))
  (hQ:∀w',St 3 w'->Q (.returned (.tuple #[])) w'):Calls prog 134 #[bp mb] w Q:=by
 have hmf:∀(fn:Fn) (first cap:Array Value) (w:World),(Instr.makeFunc fn first cap).run prog w=.ok (.func fn first cap) w:=fun _ _ _ _=>rfl
 have HQ:=hZ hQ;have HLk:=hZ hlk;have X0:=hZ (h0 _ (by exact⟨rfl,rfl,rfl,rfl⟩));have S0:=hZ s0;have S1:=hZ s1;have S2:=hZ s2;have hnw:=heap_alloc_new w (.cells #[bp mb] 107);have d0:(w.alloc (.cells #[bp mb] 107)).cell? ⟨w.heap.size,0,none⟩=some (bp mb):=by simp only[World.cell?,hnw];rfl
 clear hQ hlk h0 hnw s0 s1 s2;go_enter func134,ntmps134
 go_wp2_with (fail)
 generalize w.alloc (.cells #[bp mb] 107)=v0 at X0 d0|-;go_region_held2 (fun w'=>w'.cell? ⟨w.heap.size,0,none⟩=some (bp mb)) (first|(exact d0)|(exact HSa0.out)|(exact HSb0.out)|go_keep)
  (first
   |(go_at_call 193;refine(S0.out _ (HLk.out _ _ _ X0.out (by exact⟨rfl,rfl,rfl,rfl⟩))).mono ?_;rintro e w1 ⟨b0,rfl,hc,hk⟩;have HSa0:=hZ hc;have K0:=hZ hk;clear hc hk)
   |(go_at_call 139;refine(K0.out _ (by exact⟨rfl,rfl,rfl,rfl⟩)).mono ?_;rintro e v1 ⟨rfl,hc,hk⟩;have HSb0:=hZ hc;have X1:=hZ hk;clear hc hk))
 have d1:=HSb0.out;go_wp2_with (fail)
 go_region_held2 (fun w'=>w'.cell? ⟨w.heap.size,0,none⟩=some (bp mb)) (first|(exact d1)|(exact HSa1.out)|(exact HSb1.out)|go_keep)
  (first
   |(go_at_call 195;refine(S1.out _ (HLk.out _ _ _ X1.out (by exact⟨rfl,rfl,rfl,rfl⟩))).mono ?_;rintro e w1 ⟨b1,rfl,hc,hk⟩;have HSa1:=hZ hc;have K1:=hZ hk;clear hc hk)
   |(go_at_call 139;refine(K1.out _ (by exact⟨rfl,rfl,rfl,rfl⟩)).mono ?_;rintro e v2 ⟨rfl,hc,hk⟩;have HSb1:=hZ hc;have X2:=hZ hk;clear hc hk))
 have d2:=HSb1.out;go_wp2_with (fail)
 go_region_held2 (fun w'=>w'.cell? ⟨w.heap.size,0,none⟩=some (bp mb)) (first|(exact d2)|(exact HSa2.out)|(exact HSb2.out)|go_keep)
  (first
   |(go_at_call 195;refine(S2.out _ (HLk.out _ _ _ X2.out (by exact⟨rfl,rfl,rfl,rfl⟩))).mono ?_;rintro e w1 ⟨b2,rfl,hc,hk⟩;have HSa2:=hZ hc;have K2:=hZ hk;clear hc hk)
   |(go_at_call 139;refine(K2.out _ (by exact⟨rfl,rfl,rfl,rfl⟩)).mono ?_;rintro e v3 ⟨rfl,hc,hk⟩;have HSb2:=hZ hc;have X3:=hZ hk;clear hc hk))
 have d3:=HSb2.out;all_goals go_wp2
 all_goals go_end0
 all_goals exact HQ.out _ X3.out
theorem qpo(mb:Nat)(w:World)(Q:Ending->World->Prop)(St:Nat->World->Prop)(h0:∀w',Lk (w.alloc (.cells #[bp mb] 107)) w'->St 0 w')(hlk:∀k w1 w2,St k w1->Lk w1 w2->St k w2)
  (s0:∀w',St 0 w'->Calls prog 195 #[.func (.func 199) #[] #[bp w.heap.size]] w' (DefKq mb w.heap.size ⟨#[99,111,110,115]⟩ (St 1)))
  (s1:∀w',St 1 w'->Calls prog 201 #[.func (.func 202) #[] #[]] w' (DefKq mb w.heap.size ⟨#[99,97,114]⟩ (St 2)))
  (s2:∀w',St 2 w'->Calls prog 201 #[.func (.func 203) #[] #[]] w' (DefKq mb w.heap.size ⟨#[99,100,114]⟩ (St 3)))
  (hQ:∀w',St 3 w'->Q (.returned (.tuple #[])) w'):Calls prog 135 #[bp mb] w Q:=by
 have hmf:∀(fn:Fn) (first cap:Array Value) (w:World),(Instr.makeFunc fn first cap).run prog w=.ok (.func fn first cap) w:=fun _ _ _ _=>rfl
 have HQ:=hZ hQ;have HLk:=hZ hlk;have X0:=hZ (h0 _ (by exact⟨rfl,rfl,rfl,rfl⟩));have S0:=hZ s0;have S1:=hZ s1;have S2:=hZ s2;have hnw:=heap_alloc_new w (.cells #[bp mb] 107);have d0:(w.alloc (.cells #[bp mb] 107)).cell? ⟨w.heap.size,0,none⟩=some (bp mb):=by simp only[World.cell?,hnw];rfl
 clear hQ hlk h0 hnw s0 s1 s2;go_enter func135,ntmps135
 go_wp2_with (fail)
 generalize w.alloc (.cells #[bp mb] 107)=v0 at X0 d0|-;go_region_held2 (fun w'=>w'.cell? ⟨w.heap.size,0,none⟩=some (bp mb)) (first|(exact d0)|(exact HSa0.out)|(exact HSb0.out)|go_keep)
  (first
   |(go_at_call 195;refine(S0.out _ (HLk.out _ _ _ X0.out (by exact⟨rfl,rfl,rfl,rfl⟩))).mono ?_;rintro e w1 ⟨b0,rfl,hc,hk⟩;have HSa0:=hZ hc;have K0:=hZ hk;clear hc hk)
   |(go_at_call 139;refine(K0.out _ (by exact⟨rfl,rfl,rfl,rfl⟩)).mono ?_;rintro e v1 ⟨rfl,hc,hk⟩;have HSb0:=hZ hc;have X1:=hZ hk;clear hc hk))
 have d1:=HSb0.out;go_wp2_with (fail)
 go_region_held2 (fun w'=>w'.cell? ⟨w.heap.size,0,none⟩=some (bp mb)) (first|(exact d1)|(exact HSa1.out)|(exact HSb1.out)|go_keep)
  (first
   |(go_at_call 201;refine(S1.out _ (HLk.out _ _ _ X1.out (by exact⟨rfl,rfl,rfl,rfl⟩))).mono ?_;rintro e w1 ⟨b1,rfl,hc,hk⟩;have HSa1:=hZ hc;have K1:=hZ hk;clear hc hk)
   |(go_at_call 139;refine(K1.out _ (by exact⟨rfl,rfl,rfl,rfl⟩)).mono ?_;rintro e v2 ⟨rfl,hc,hk⟩;have HSb1:=hZ hc;have X2:=hZ hk;clear hc hk))
 have d2:=HSb1.out;go_wp2_with (fail)
 go_region_held2 (fun w'=>w'.cell? ⟨w.heap.size,0,none⟩=some (bp mb)) (first|(exact d2)|(exact HSa2.out)|(exact HSb2.out)|go_keep)
  (first
   |(go_at_call 201;refine(S2.out _ (HLk.out _ _ _ X2.out (by exact⟨rfl,rfl,rfl,rfl⟩))).mono ?_;rintro e w1 ⟨b2,rfl,hc,hk⟩;have HSa2:=hZ hc;have K2:=hZ hk;clear hc hk)
   |(go_at_call 139;refine(K2.out _ (by exact⟨rfl,rfl,rfl,rfl⟩)).mono ?_;rintro e v3 ⟨rfl,hc,hk⟩;have HSb2:=hZ hc;have X3:=hZ hk;clear hc hk))
 have d3:=HSb2.out;all_goals go_wp2
 all_goals go_end0
 all_goals exact HQ.out _ X3.out
theorem qpn(mb:Nat)(w:World)(Q:Ending->World->Prop)(St:Nat->World->Prop)(h0:∀w',Lk (w.alloc (.cells #[bp mb] 107)) w'->St 0 w')(hlk:∀k w1 w2,St k w1->Lk w1 w2->St k w2)
  (s0:∀w',St 0 w'->∀w2,Lk (w'.alloc (.cells #[.func (.func 204) #[] #[bp w.heap.size]] 300)) w2->Calls prog 139 #[bp mb,.string ⟨#[108,105,115,116]⟩,.iface 281 (bp w'.heap.size)] w2 fun e w3=>e=.returned (.tuple #[])/\w3.cell? ⟨w.heap.size,0,none⟩=some (bp mb)/\St 1 w3)
  (s1:∀w',St 1 w'->Calls prog 193 #[.func (.func 205) #[] #[bp w.heap.size]] w' (DefKq mb w.heap.size ⟨#[108,101,110,103,116,104]⟩ (St 2)))
  (s2:∀w',St 2 w'->Calls prog 195 #[.func (.func 208) #[] #[bp w.heap.size]] w' (DefKq mb w.heap.size ⟨#[97,112,112,101,110,100]⟩ (St 3)))
  (hQ:∀w',St 3 w'->Q (.returned (.tuple #[])) w'):Calls prog 136 #[bp mb] w Q:=by
 have hmf:∀(fn:Fn) (first cap:Array Value) (w:World),(Instr.makeFunc fn first cap).run prog w=.ok (.func fn first cap) w:=fun _ _ _ _=>rfl
 have HQ:=hZ hQ;have HLk:=hZ hlk;have X0:=hZ (h0 _ (by exact⟨rfl,rfl,rfl,rfl⟩));have S0:=hZ s0;have S1:=hZ s1;have S2:=hZ s2;have hnw:=heap_alloc_new w (.cells #[bp mb] 107);have d0:(w.alloc (.cells #[bp mb] 107)).cell? ⟨w.heap.size,0,none⟩=some (bp mb):=by simp only[World.cell?,hnw];rfl
 have hsz:(w.alloc (.cells #[bp mb] 107)).heap.size=w.heap.size+1:=by simp
 have S0':Hid (∀w2,Lk ((w.alloc (.cells #[bp mb] 107)).alloc (.cells #[.func (.func 204) #[] #[bp w.heap.size]] 300)) w2->Calls prog 139 #[bp mb,.string ⟨#[108,105,115,116]⟩,.iface 281 (bp (w.heap.size+1))] w2 fun e w3=>e=.returned (.tuple #[])/\w3.cell? ⟨w.heap.size,0,none⟩=some (bp mb)/\St 1 w3):=fun w2 h=>by
  have:=S0.out _ X0.out w2 h;rw[hsz]at this;exact this
 clear hsz;clear hQ hlk h0 hnw s0 s1 s2;go_enter func136,ntmps136
 go_wp2_with (first|(go_at_call 139;refine(S0'.out _ (by exact⟨rfl,rfl,rfl,rfl⟩)).mono ?_;rintro e v1 ⟨rfl,d1,hk⟩;have X1:=hZ hk;clear hk;refine Hid.out ?_))
 refine hZ ?_;go_wp2_with (fail)
 go_region_held2 (fun w'=>w'.cell? ⟨w.heap.size,0,none⟩=some (bp mb)) (first|(exact d1)|(exact HSa1.out)|(exact HSb1.out)|go_keep)
  (first
   |(go_at_call 193;refine(S1.out _ (HLk.out _ _ _ X1.out (by exact⟨rfl,rfl,rfl,rfl⟩))).mono ?_;rintro e w1 ⟨b1,rfl,hc,hk⟩;have HSa1:=hZ hc;have K1:=hZ hk;clear hc hk)
   |(go_at_call 139;refine(K1.out _ (by exact⟨rfl,rfl,rfl,rfl⟩)).mono ?_;rintro e v2 ⟨rfl,hc,hk⟩;have HSb1:=hZ hc;have X2:=hZ hk;clear hc hk))
 have d2:=HSb1.out;go_wp2_with (fail)
 go_region_held2 (fun w'=>w'.cell? ⟨w.heap.size,0,none⟩=some (bp mb)) (first|(exact d2)|(exact HSa2.out)|(exact HSb2.out)|go_keep)
  (first
   |(go_at_call 195;refine(S2.out _ (HLk.out _ _ _ X2.out (by exact⟨rfl,rfl,rfl,rfl⟩))).mono ?_;rintro e w1 ⟨b2,rfl,hc,hk⟩;have HSa2:=hZ hc;have K2:=hZ hk;clear hc hk)
   |(go_at_call 139;refine(K2.out _ (by exact⟨rfl,rfl,rfl,rfl⟩)).mono ?_;rintro e v3 ⟨rfl,hc,hk⟩;have HSb2:=hZ hc;have X3:=hZ hk;clear hc hk))
 have d3:=HSb2.out;all_goals go_wp2
 all_goals go_end0
 all_goals exact HQ.out _ X3.out
theorem qpm(mb:Nat)(w:World)(Q:Ending->World->Prop)(St:Nat->World->Prop)(h0:∀w',Lk (w.alloc (.cells #[bp mb] 107)) w'->St 0 w')(hlk:∀k w1 w2,St k w1->Lk w1 w2->St k w2)
  (s0:∀w',St 0 w'->Calls prog 210 #[.func (.func 211) #[] #[bp w.heap.size]] w' (DefKq mb w.heap.size ⟨#[115,116,114,105,110,103,45,97,112,112,101,110,100]⟩ (St 1)))
  (s1:∀w',St 1 w'->Calls prog 214 #[.func (.func 215) #[] #[]] w' (DefKq mb w.heap.size ⟨#[115,116,114,105,110,103,45,108,101,110,103,116,104]⟩ (St 2)))
  (s2:∀w',St 2 w'->Calls prog 216 #[.func (.func 217) #[] #[bp w.heap.size]] w' (DefKq mb w.heap.size ⟨#[110,117,109,98,101,114,45,62,115,116,114,105,110,103]⟩ (St 3)))
  (s3:∀w',St 3 w'->Calls prog 219 #[.func (.func 220) #[] #[bp w.heap.size]] w' (DefKq mb w.heap.size ⟨#[115,121,109,98,111,108,45,62,115,116,114,105,110,103]⟩ (St 4)))
  (hQ:∀w',St 4 w'->Q (.returned (.tuple #[])) w'):Calls prog 137 #[bp mb] w Q:=by
 have hmf:∀(fn:Fn) (first cap:Array Value) (w:World),(Instr.makeFunc fn first cap).run prog w=.ok (.func fn first cap) w:=fun _ _ _ _=>rfl
 have HQ:=hZ hQ;have HLk:=hZ hlk;have X0:=hZ (h0 _ (by exact⟨rfl,rfl,rfl,rfl⟩));have S0:=hZ s0;have S1:=hZ s1;have S2:=hZ s2;have S3:=hZ s3;have hnw:=heap_alloc_new w (.cells #[bp mb] 107);have d0:(w.alloc (.cells #[bp mb] 107)).cell? ⟨w.heap.size,0,none⟩=some (bp mb):=by simp only[World.cell?,hnw];rfl
 clear hQ hlk h0 hnw s0 s1 s2 s3;go_enter func137,ntmps137
 go_wp2_with (fail)
 generalize w.alloc (.cells #[bp mb] 107)=v0 at X0 d0|-;go_region_held2 (fun w'=>w'.cell? ⟨w.heap.size,0,none⟩=some (bp mb)) (first|(exact d0)|(exact HSa0.out)|(exact HSb0.out)|go_keep)
  (first
   |(go_at_call 210;refine(S0.out _ (HLk.out _ _ _ X0.out (by exact⟨rfl,rfl,rfl,rfl⟩))).mono ?_;rintro e w1 ⟨b0,rfl,hc,hk⟩;have HSa0:=hZ hc;have K0:=hZ hk;clear hc hk)
   |(go_at_call 139;refine(K0.out _ (by exact⟨rfl,rfl,rfl,rfl⟩)).mono ?_;rintro e v1 ⟨rfl,hc,hk⟩;have HSb0:=hZ hc;have X1:=hZ hk;clear hc hk))
 have d1:=HSb0.out;go_wp2_with (fail)
 go_region_held2 (fun w'=>w'.cell? ⟨w.heap.size,0,none⟩=some (bp mb)) (first|(exact d1)|(exact HSa1.out)|(exact HSb1.out)|go_keep)
  (first
   |(go_at_call 214;refine(S1.out _ (HLk.out _ _ _ X1.out (by exact⟨rfl,rfl,rfl,rfl⟩))).mono ?_;rintro e w1 ⟨b1,rfl,hc,hk⟩;have HSa1:=hZ hc;have K1:=hZ hk;clear hc hk)
   |(go_at_call 139;refine(K1.out _ (by exact⟨rfl,rfl,rfl,rfl⟩)).mono ?_;rintro e v2 ⟨rfl,hc,hk⟩;have HSb1:=hZ hc;have X2:=hZ hk;clear hc hk))
 have d2:=HSb1.out;go_wp2_with (fail)
 go_region_held2 (fun w'=>w'.cell? ⟨w.heap.size,0,none⟩=some (bp mb)) (first|(exact d2)|(exact HSa2.out)|(exact HSb2.out)|go_keep)
  (first
   |(go_at_call 216;refine(S2.out _ (HLk.out _ _ _ X2.out (by exact⟨rfl,rfl,rfl,rfl⟩))).mono ?_;rintro e w1 ⟨b2,rfl,hc,hk⟩;have HSa2:=hZ hc;have K2:=hZ hk;clear hc hk)
   |(go_at_call 139;refine(K2.out _ (by exact⟨rfl,rfl,rfl,rfl⟩)).mono ?_;rintro e v3 ⟨rfl,hc,hk⟩;have HSb2:=hZ hc;have X3:=hZ hk;clear hc hk))
 have d3:=HSb2.out;go_wp2_with (fail)
 go_region_held2 (fun w'=>w'.cell? ⟨w.heap.size,0,none⟩=some (bp mb)) (first|(exact d3)|(exact HSa3.out)|(exact HSb3.out)|go_keep)
  (first
   |(go_at_call 219;refine(S3.out _ (HLk.out _ _ _ X3.out (by exact⟨rfl,rfl,rfl,rfl⟩))).mono ?_;rintro e w1 ⟨b3,rfl,hc,hk⟩;have HSa3:=hZ hc;have K3:=hZ hk;clear hc hk)
   |(go_at_call 139;refine(K3.out _ (by exact⟨rfl,rfl,rfl,rfl⟩)).mono ?_;rintro e v4 ⟨rfl,hc,hk⟩;have HSb3:=hZ hc;have X4:=hZ hk;clear hc hk))
 have d4:=HSb3.out;all_goals go_wp2
 all_goals go_end0
 all_goals exact HQ.out _ X4.out
theorem qpl(mb:Nat)(w:World)(Q:Ending->World->Prop)(St:Nat->World->Prop)(h0:∀w',Lk (w.alloc (.cells #[bp mb] 107)) w'->St 0 w')(hlk:∀k w1 w2,St k w1->Lk w1 w2->St k w2)
  (s0:∀w',St 0 w'->Calls prog 221 #[bp mb] w' (DefKq mb w.heap.size ⟨#[97,112,112,108,121]⟩ (St 1)))
  (s1:∀w',St 1 w'->Calls prog 222 #[bp mb] w' (DefKq mb w.heap.size ⟨#[99,97,108,108,47,99,99]⟩ (St 2)))
  (s2:∀w',St 2 w'->Calls prog 223 #[bp mb] w' (DefKq mb w.heap.size ⟨#[100,121,110,97,109,105,99,45,119,105,110,100]⟩ (St 3)))
  (s3:∀w',St 3 w'->Calls prog 193 #[.func (.func 224) #[] #[]] w' (DefKq mb w.heap.size ⟨#[101,114,114,111,114]⟩ (St 4)))
  (s4:∀w',St 4 w'->Calls prog 193 #[.func (.func 225) #[] #[bp w.heap.size]] w' (DefKq mb w.heap.size ⟨#[115,101,97,108]⟩ (St 5)))
  (hQ:∀w',St 5 w'->Q (.returned (.tuple #[])) w'):Calls prog 138 #[bp mb] w Q:=by
 have hmf:∀(fn:Fn) (first cap:Array Value) (w:World),(Instr.makeFunc fn first cap).run prog w=.ok (.func fn first cap) w:=fun _ _ _ _=>rfl
 have HQ:=hZ hQ;have HLk:=hZ hlk;have X0:=hZ (h0 _ (by exact⟨rfl,rfl,rfl,rfl⟩));have S0:=hZ s0;have S1:=hZ s1;have S2:=hZ s2;have S3:=hZ s3;have S4:=hZ s4;have hnw:=heap_alloc_new w (.cells #[bp mb] 107);have d0:(w.alloc (.cells #[bp mb] 107)).cell? ⟨w.heap.size,0,none⟩=some (bp mb):=by simp only[World.cell?,hnw];rfl
 clear hQ hlk h0 hnw s0 s1 s2 s3 s4;go_enter func138,ntmps138
 go_wp2_with (fail)
 generalize w.alloc (.cells #[bp mb] 107)=v0 at X0 d0|-;go_region_held2 (fun w'=>w'.cell? ⟨w.heap.size,0,none⟩=some (bp mb)) (first|(exact d0)|(exact HSa0.out)|(exact HSb0.out)|go_keep)
  (first
   |(go_at_call 221;refine(S0.out _ (HLk.out _ _ _ X0.out (by exact⟨rfl,rfl,rfl,rfl⟩))).mono ?_;rintro e w1 ⟨b0,rfl,hc,hk⟩;have HSa0:=hZ hc;have K0:=hZ hk;clear hc hk)
   |(go_at_call 139;refine(K0.out _ (by exact⟨rfl,rfl,rfl,rfl⟩)).mono ?_;rintro e v1 ⟨rfl,hc,hk⟩;have HSb0:=hZ hc;have X1:=hZ hk;clear hc hk))
 have d1:=HSb0.out;go_wp2_with (fail)
 go_region_held2 (fun w'=>w'.cell? ⟨w.heap.size,0,none⟩=some (bp mb)) (first|(exact d1)|(exact HSa1.out)|(exact HSb1.out)|go_keep)
  (first
   |(go_at_call 222;refine(S1.out _ (HLk.out _ _ _ X1.out (by exact⟨rfl,rfl,rfl,rfl⟩))).mono ?_;rintro e w1 ⟨b1,rfl,hc,hk⟩;have HSa1:=hZ hc;have K1:=hZ hk;clear hc hk)
   |(go_at_call 139;refine(K1.out _ (by exact⟨rfl,rfl,rfl,rfl⟩)).mono ?_;rintro e v2 ⟨rfl,hc,hk⟩;have HSb1:=hZ hc;have X2:=hZ hk;clear hc hk))
 have d2:=HSb1.out;go_wp2_with (fail)
 go_region_held2 (fun w'=>w'.cell? ⟨w.heap.size,0,none⟩=some (bp mb)) (first|(exact d2)|(exact HSa2.out)|(exact HSb2.out)|go_keep)
  (first
   |(go_at_call 223;refine(S2.out _ (HLk.out _ _ _ X2.out (by exact⟨rfl,rfl,rfl,rfl⟩))).mono ?_;rintro e w1 ⟨b2,rfl,hc,hk⟩;have HSa2:=hZ hc;have K2:=hZ hk;clear hc hk)
   |(go_at_call 139;refine(K2.out _ (by exact⟨rfl,rfl,rfl,rfl⟩)).mono ?_;rintro e v3 ⟨rfl,hc,hk⟩;have HSb2:=hZ hc;have X3:=hZ hk;clear hc hk))
 have d3:=HSb2.out;go_wp2_with (fail)
 go_region_held2 (fun w'=>w'.cell? ⟨w.heap.size,0,none⟩=some (bp mb)) (first|(exact d3)|(exact HSa3.out)|(exact HSb3.out)|go_keep)
  (first
   |(go_at_call 193;refine(S3.out _ (HLk.out _ _ _ X3.out (by exact⟨rfl,rfl,rfl,rfl⟩))).mono ?_;rintro e w1 ⟨b3,rfl,hc,hk⟩;have HSa3:=hZ hc;have K3:=hZ hk;clear hc hk)
   |(go_at_call 139;refine(K3.out _ (by exact⟨rfl,rfl,rfl,rfl⟩)).mono ?_;rintro e v4 ⟨rfl,hc,hk⟩;have HSb3:=hZ hc;have X4:=hZ hk;clear hc hk))
 have d4:=HSb3.out;go_wp2_with (fail)
 go_region_held2 (fun w'=>w'.cell? ⟨w.heap.size,0,none⟩=some (bp mb)) (first|(exact d4)|(exact HSa4.out)|(exact HSb4.out)|go_keep)
  (first
   |(go_at_call 193;refine(S4.out _ (HLk.out _ _ _ X4.out (by exact⟨rfl,rfl,rfl,rfl⟩))).mono ?_;rintro e w1 ⟨b4,rfl,hc,hk⟩;have HSa4:=hZ hc;have K4:=hZ hk;clear hc hk)
   |(go_at_call 139;refine(K4.out _ (by exact⟨rfl,rfl,rfl,rfl⟩)).mono ?_;rintro e v5 ⟨rfl,hc,hk⟩;have HSb4:=hZ hc;have X5:=hZ hk;clear hc hk))
 have d5:=HSb4.out;all_goals go_wp2
 all_goals go_end0
 all_goals exact HQ.out _ X5.out
end
end Go.Proofs.YtldaocpojcfljaaGreatDoor
