import Derived.Test.YtldaocpojcfljaaGreatDoorD17
set_option maxRecDepth 100000
set_option maxHeartbeats 4000000
namespace Go.Proofs.YtldaocpojcfljaaGreatDoor
open Tryz hiding parts
open Go.RowKit Go.Shelf
section
open Sc
theorem XInv.cell0{K:Rl}{X Y:Xe}{G H:Gh}{S:Sub}{m:Mc}{x:Xs}{sc:Scope}{w0 w:World}(mx:Mx X G w0 Y H w)(g:Inv H S m w)(i:XInv K Y H S x sc w):w.cell? ⟨X.xb,0,none⟩=some (bp G.mb):=by
 have:=g.cell i.xe 0;rw[mx.same.1,mx.up.le.mb]at this;exact this
theorem qc8{K:Rl}{X Y:Xe}{G H:Gh}{S:Sub}{m:Mc}{x':Xs}{sc:Scope}{w w5 w6:World}{rv:Except Nat Ex×Xs}{ex:Ex}{e':Ending}(mx:Mx X G w Y H w5)(hx:XInv K Y H S x' sc w5)(h:Made H S m w5 (shOf sc) ex e' w6)(hrv:rv=(.ok ex,x')):
  ∃v,e'=.returned v/\w6.cell? ⟨X.xb,0,none⟩=some (bp G.mb)/\(∀b,b<w5.heap.size->LooseX Y H b->w6.heap[b]? =w5.heap[b]?)/\XPost K X G S m sc w rv (.returned v) w6:=by
 obtain⟨L,v,rfl,hmv,hi,hc⟩:=h;have hx6:=hx.mv hmv;exact⟨v,rfl,hx6.cell0 (mx.mv hmv) hi,fun b hb hl=>hmv.blk hb hl.mu,.inr ⟨Y,L,ex,x',v,hrv,rfl,mx.mv hmv,hi,hx6,hc⟩⟩
theorem lam_eq(S:Sub)(f:Nat)(x:Xs)(sc:Scope)(l body:List Dt):lambda S (f+1) x sc (.list l) body=match parsOf l with
  |none=>(.error 4,x)
  |some is=>match forms S f x (is::sc) body with
   |(.error e,x)=>(.error e,x)
   |(.ok b,x)=>(.ok (.lam is.length false b),x):=by
 unfold lambda parsOf;simp only;cases idsOf l with
 |none=>rfl
 |some is=>
  simp only[Option.bind_some];by_cases hd:Sc.distinct is=true
  ·simp only[hd,if_true];cases forms S f x (is::sc) body with
   |mk r y=>cases r <;> rfl
  ·simp[hd]
theorem lam_eqS(S:Sub)(f:Nat)(x:Xs)(sc:Scope)(t:Bs)(k:Int)(body:List Dt):lambda S (f+1) x sc (.sym t k) body=match forms S f x ([(t,k)]::sc) body with
   |(.error e,x)=>(.error e,x)
   |(.ok b,x)=>(.ok (.lam 1 true b),x):=rfl
theorem qiy{l:List Dt}{is:List Sc.Id}(h:parsOf l=some is):Sc.distinct is=true/\is.length=l.length:=by
 unfold parsOf at h;cases hi:idsOf l with
 |none=>rw[hi]at h;cases h
 |some js=>
  rw[hi]at h;simp only[Option.bind_some]at h;by_cases hd:Sc.distinct js=true
  ·simp[hd]at h;subst h;exact⟨hd,qmf hi⟩
  ·simp[hd]at h
theorem qoz{K:Rl}{X:Xe}{G:Gh}{S:Sub}{m:Mc}{sc:Scope}{w w3:World}{n:Nat}{rb:Bool}{rvb:Except Nat (List Ex)×Xs}{rv:Except Nat Ex×Xs}(hrv:rv=match rvb with|(.error e,x)=>(.error e,x)|(.ok b,x)=>(.ok (.lam n rb b),x))(hmx:Mx X G w X G w3)
  (F:Nat)(args:Value->Array Value)(hF:∀(_Y:Xe) (H:Gh) (_x':Xs) (exs:List Ex) (v:Value) (w5:World),G.le H->Inv H S m w5->SRep H (n::shOf sc) exs v->Calls prog F (args v) w5 (Made H S m w5 (shOf sc) (.lam n rb exs)))
  {e':Ending}{w4:World}(h:BPost K X G S m sc n w3 rvb e' w4):RetP (fun v w4=>∃kc cc,v=.func (.func kc) #[] cc/\w4.cell? ⟨X.xb,0,none⟩=some (bp G.mb)/\(∀b,b<w3.heap.size->LooseX X G b->w4.heap[b]? =w3.heap[b]?)/\
   ∀w5,Lk w4 w5->Calls prog F (args v) w5 (RetP (fun v w6=>w6.cell? ⟨X.xb,0,none⟩=some (bp G.mb)/\(∀b,b<w3.heap.size->LooseX X G b->w6.heap[b]? =w3.heap[b]?)/\XPost K X G S m sc w rv (.returned v) w6) (XPost K X G S m sc w rv))) (XPost K X G S m sc w rv) e' w4:=by
 rcases h with⟨vd,x',hv,rfl,hc,hmt⟩|⟨Y,H,exs,x',v,hv,rfl,mx,g,i,hsr⟩
 ·exact .inl ⟨_,rfl,.inl ⟨vd,x',by rw[hrv,hv],rfl,hc,hmt⟩⟩
 ·obtain⟨kc,cc,rfl⟩:=hsr.isFunc;refine .inr ⟨_,rfl,kc,cc,rfl,i.cell0 mx g,fun b hb hl=>(hl.mx mx hb).2,fun w5 hw=>?_⟩;have g5:=Inv.lk hw g;have i5:=i.below (bl0 hw);have mx5:Mx X G w3 Y H w5:=mx.lk hw;refine Calls.mono (hF Y H x' exs _ w5 mx.up.le g5 hsr) ?_;intro e6 w6 h6;obtain⟨v6,rfl,h1,h2,h3⟩:=qc8 (rv:=rv) (hmx.trans mx5) i5 h6 (by rw[hrv,hv]);refine .inr ⟨v6,rfl,h1,fun b hb hl=>?_,h3⟩;obtain⟨q1,q2⟩:=hl.mx mx5 hb;rw[h2 b (Nat.lt_of_lt_of_le hb mx5.size) q1,q2]
theorem XPost.ends{K:Rl}{X:Xe}{G:Gh}{S:Sub}{m:Mc}{sc:Scope}{w w':World}{rv:Except Nat Ex×Xs}{e:Ending}(h:XPost K X G S m sc w rv e w'):(∃v,e=.returned v)\/(∃ps,e=.panicked ps):=by
 rcases h with⟨_,_,_,rfl,_⟩|⟨_,_,_,_,v,_,rfl,_⟩
 ·exact .inr ⟨_,rfl⟩
 ·exact .inl ⟨_,rfl⟩
theorem qox{K:Rl}{S:Sub}{f:Nat}(ih:FormsS K S f):LambdaS K S (f+1):=by
 intro X G m x sc w p e l a len cap g i hp hd hmb hlen hsc hne;obtain⟨xk,xn,xtr,xtx,xm,xa,xlen,xcap⟩:=e;have c0:w.cell? ⟨X.xb,0,none⟩=some (bp G.mb):=i.cell0 (Mx.refl X G w) g;have hbad:∀rv:Except Nat Ex×Xs,rv=(.error 4,x)->∀w',Below w.heap.size w w'->XPost K X G S m sc w rv (.panicked (stopP (stopV 4))) w':=fun rv h w' hb=>XPost.bad g i h hb
 have nots:xk≠3->xk≠4->lambda S (f+1) x sc p l=(.error 4,x)->Calls prog 293 #[bp X.xb,.agg (Dl.cells ⟨xk,xn,xtr,xtx,xm,xa,xlen,xcap⟩),.slice a len cap] w (XPost K X G S m sc w (lambda S (f+1) x sc p l)):=fun h3 h4 he=>
  qiw X.xb xk xn xtr xtx xm xa xlen xcap a len cap w _ h3 h4 (hbad _ he)
 have list:∀(ps:List Dt),p=.list ps->xk=4->∀es:List Dl,ps.length=es.length->(∀(i:Nat) (d:Dt) (e:Dl),ps[i]? =some d->es[i]? =some e->DRep G d e)->xlen=es.length->xlen<=30000->(∀(i j:Nat) (y:Dl),es[i]? =some y->j<6->∃g o,xa=some ⟨g,o,none⟩/\g<w.heap.size/\w.cell? ⟨g,o+i*6+j,none⟩=y.cells[j]?)->
   Calls prog 293 #[bp X.xb,.agg (Dl.cells ⟨xk,xn,xtr,xtx,xm,xa,xlen,xcap⟩),.slice a len cap] w (XPost K X G S m sc w (lambda S (f+1) x sc p l)):=by
  intro ps hps hk es hl1 hl2 hl3 hl4 hrow;subst hps;obtain rfl:xk=4:=hk;rw[lam_eq]at hne|-;refine qhf X.xb G.mb xn xtr xtx xm xa xlen xcap a len cap w _ fun w1 hw1=>?_
  have hb1:Below w.heap.size w w1:=bl1 hw1;have g1:=g.below hb1;have i1:=i.below hb1;refine Calls.mono (qjq ps es xa xlen xcap w1 hl1 hl3 (by omega) (fun i d e h1 h2=>?_) (fun i j y h1 h2=>?_)) ?_
  ·have hdr:=hl2 i d e h1 h2;cases hdr with
   |num e h=>exact .inr ⟨by omega,nofun⟩
   |bool e h=>exact .inr ⟨by omega,nofun⟩
   |str e h=>exact .inr ⟨by omega,nofun⟩
   |sym e h=>exact .inl ⟨h,rfl⟩
   |nil e h=>exact .inr ⟨by omega,nofun⟩
   |list e h=>exact .inr ⟨by omega,nofun⟩
  ·obtain⟨q,o,h3,h4,h5⟩:=hrow i j y h1 h2;exact⟨q,o,h3,Nat.lt_of_lt_of_le h4 hb1.size,(hb1.cell (p:=⟨q,o+i*6+j,none⟩) h4).trans h5⟩
  ·rintro e' w2 ⟨hb2,hcase⟩;have hb12:Below w.heap.size w w2:=hb1.trans (hb2.mono hb1.size);cases hpo:parsOf ps with
   |none=>
    rw[hpo]at hcase hne;subst hcase;exact .inl ⟨_,rfl,hbad _ rfl w2 hb12⟩
   |some is=>
    rw[hpo]at hcase hne;obtain⟨na,nc,ids,rfl,hids,hown⟩:=hcase;obtain⟨hdis,hil⟩:=qiy hpo;have hidl:ids.length=is.length:=by rw[<-hids];simp
    refine .inr ⟨_,rfl,na,is.length,nc,rfl,by omega,(i.below hb12).cell0 (Mx.ofBelow hb12) (g.below hb12),fun w3 hw3=>?_⟩;have hb3:Below w.heap.size w w3:=hb12.trans ((bl0 hw3).mono hb12.size);have g3:=g.below hb3;have i3:=i.below hb3;have hown':w2.ownsRow w1.heap.size 382 2 (.slice na ids.length nc) ids.length (idCells ids):=by rw[hidl];exact hown
    have hrow2:IdRow w3 na ids:=(qkq hown').keep fun b _=>by rw[hw3.heap]
    have hloose:∀b,na=some ⟨b,0,none⟩->b<w3.heap.size/\LooseX X G b:=fun b hb=>by
     have h1:=hown'.lt b (by rw[hb];rfl);refine⟨by rw[hw3.heap];exact h1.2,LooseX.new g i ?_⟩;have:=hb1.size;omega
    have hfne:(forms S f x (is::sc) l).1≠.error 0:=fun h=>by
     apply hne;simp only;cases hfr:forms S f x (is::sc) l with
     |mk fr fx=>rw[hfr]at h;have h:fr=.error 0:=h;subst h;rfl
    have key:=qp4 ih X G m x sc w3 l a len cap ids na nc g3 i3 hd hmb hlen hrow2 hloose (by rw[hids];exact hdis) (by omega) (by omega) (by rw[hids];exact hfne);rw[hids,hidl]at key;refine Calls.mono key ?_;intro e4 w4 h4;have fin:=qoz (rb:=false) (rv:=match some is with
      |none=>(.error 4,x)
      |some is=>match forms S f x (is::sc) l with
       |(.error e,x)=>(.error e,x)
       |(.ok b,x)=>(.ok (.lam is.length false b),x)) rfl (Mx.ofBelow (X:=X) (G:=G) hb3) 326 (fun v=>#[bp G.mb,.int .i64 (is.length:Int),v]) (fun Y H x' exs v w5 hle hI hs=>by
     have:=qoy (sh:=shOf sc) (n:=is.length) hI hs;rw[hle.mb]at this;exact this) h4
    rcases fin with⟨ps,rfl,hq⟩|⟨v,rfl,kc,cc,rfl,h1,_,h3⟩
    ·exact .inl ⟨ps,rfl,hq⟩
    ·refine .inr ⟨_,rfl,kc,cc,rfl,h1,fun w5 hw5=>Calls.mono (h3 w5 hw5) ?_⟩;rintro e6 w6 (⟨ps,rfl,hq⟩|⟨v6,rfl,h5,_,h7⟩)
     ·exact .inl ⟨ps,rfl,hq⟩
     ·exact .inr ⟨v6,rfl,h5,h7⟩
 cases hp with
 |num e h=>exact nots (by have h:xk=0:=h;omega) (by have h:xk=0:=h;omega) rfl
 |bool e h=>exact nots (by have h:xk=1:=h;omega) (by have h:xk=1:=h;omega) rfl
 |str e h=>exact nots (by have h:xk=2:=h;omega) (by have h:xk=2:=h;omega) rfl
 |nil e h hl=>exact list [] rfl h [] rfl (fun i d e h=>by simp at h) hl (by have hl:xlen=0:=hl;omega) (fun i j y h=>by simp at h)
 |list e h ps es gg o arr hl hc hm ha hg hr hs=>
  obtain⟨hs1,hs2⟩:=hs.at;exact list ps rfl h es hs1 hs2 hl hm fun i' j y hy hj=>⟨gg,o,ha,g.lt hg,by rw[g.cell hg];exact hr i' j y hy hj⟩
 |sym e h hz hc=>
  obtain rfl:xk=3:=h;rw[lam_eqS]at hne|-;refine qiv X.xb G.mb xn xtr xtx xm xa xlen xcap a len cap w _ c0 fun w0 hw0 w2 hb2 w3 hw3=>?_
  have hb0:Below w.heap.size w w0:=bl1 hw0;have hb02:Below w.heap.size w w2:=hb0.trans (hb2.mono hb0.size);have hb3:Below w.heap.size w w3:=hb02.trans ((bl1 hw3).mono hb02.size);have g3:=g.below hb3;have i3:=i.below hb3;have hnew:w3.heap[w2.heap.size]? =some (.cells #[.string xtx,.int .i64 xm] 382 (0,0)):=by rw[hw3.heap];exact heap_alloc_new _ _
  have hrow:IdRow w3 (some ⟨w2.heap.size,0,none⟩) [(xtx,xm)]:=fun j p hp=>by
   cases j with
   |zero=>
    simp at hp;subst hp;exact⟨w2.heap.size,rfl,by simp only[World.cell?,hnew];rfl,by simp only[World.cell?,hnew];rfl⟩
   |succ j=>simp at hp
  have hfne:(forms S f x ([(xtx.data.toList,xm)]::sc) l).1≠.error 0:=fun h=>by
   apply hne;cases hfr:forms S f x ([(xtx.data.toList,xm)]::sc) l with
   |mk fr fx=>rw[hfr]at h;have h:fr=.error 0:=h;subst h;rfl
  have hbox:w3.heap[w.heap.size]? =some (.cells (Dl.cells ⟨3,xn,xtr,xtx,xm,xa,xlen,xcap⟩) 134 (0,0)):=by
   have h0:w0.heap[w.heap.size]? =some (.cells (Dl.cells ⟨3,xn,xtr,xtx,xm,xa,xlen,xcap⟩) 134 (0,0)):=by rw[hw0.heap];exact heap_alloc_new _ _
   have l0:=(Array.getElem?_eq_some_iff.1 h0).1;rw[(bl1 hw3).block _ (Nat.lt_of_lt_of_le l0 hb2.size),hb2.block _ l0];exact h0
  have key:=qp4 ih X G m x sc w3 l a len cap [(xtx,xm)] (some ⟨w2.heap.size,0,none⟩) 1 g3 i3 hd hmb hlen hrow (fun b hb=>by
   cases hb;exact⟨(Array.getElem?_eq_some_iff.1 hnew).1,LooseX.new g i hb02.size⟩) rfl (by simp) (by omega) hfne
  refine Calls.mono key ?_;intro e4 w4 h4;have fin:=qoz (rb:=true) (rv:=match forms S f x ([(xtx.data.toList,xm)]::sc) l with
   |(.error e,x)=>(.error e,x)
   |(.ok b,x)=>(.ok (.lam 1 true b),x)) rfl (Mx.ofBelow (X:=X) (G:=G) hb3) 323 (fun v=>#[bp G.mb,v]) (fun Y H x' exs v w5 hle hI hs=>by
    have:=qma (sh:=shOf sc) hI hs;rw[hle.mb]at this;exact this) h4
  have lb:=(Array.getElem?_eq_some_iff.1 hbox).1;rcases fin with⟨ps,rfl,hq⟩|⟨v,rfl,kc,cc,rfl,h1,h2,h3⟩
  ·exact .inl ⟨ps,rfl,hq⟩
  ·refine .inr ⟨_,rfl,kc,cc,rfl,h1,by rw[h2 _ lb (LooseX.new g i (Nat.le_refl _))];exact hbox,fun w5 hw5=>Calls.mono (h3 w5 hw5) ?_⟩;rintro e6 w6 (⟨ps,rfl,hq⟩|⟨v6,rfl,h5,h6,h7⟩)
   ·exact .inl ⟨ps,rfl,hq⟩
   ·exact .inr ⟨v6,rfl,h5,by rw[h6 _ lb (LooseX.new g i (Nat.le_refl _))];exact hbox,h7⟩
end
section
open Sc
theorem RetP.imp{P P':Value->World->Prop}{Q Q':Ending->World->Prop}{e:Ending}{w:World}(h:RetP P Q e w)(h1:∀v w,P v w->P' v w)(h2:∀ps w,Q (.panicked ps) w->Q' (.panicked ps) w):RetP P' Q' e w:=by
 rcases h with⟨ps,rfl,h⟩|⟨v,rfl,h⟩
 ·exact .inl ⟨ps,rfl,h2 _ _ h⟩
 ·exact .inr ⟨v,rfl,h1 _ _ h⟩
section
variable {K:Rl} {X Y:Xe} {G H:Gh} {S:Sub} {m:Mc} {x x':Xs} {sc:Scope} {w w2 w3 w4:World}
theorem qkb{n q:Nat}{xs:List Value}(hxl:xs.length=n)(hn:n<=90000)(hq:w2.heap[q]? =some (.cells xs.toArray 241 (0,0)))(hqw:w.heap.size<=q)(hl:LooseX Y H q)(mx:Mx X G w Y H w2)(g:Inv H S m w2)(i:XInv K Y H S x' sc w2):
  H.le (H.add q (.cells xs.toArray 241 (0,0)))/\Inv (H.add q (.cells xs.toArray 241 (0,0))) S m w2/\XInv K Y (H.add q (.cells xs.toArray 241 (0,0))) S x' sc w2/\Mx X G w Y (H.add q (.cells xs.toArray 241 (0,0))) w2/\RowI (H.add q (.cells xs.toArray 241 (0,0))) 241 (.slice (some ⟨q,0,none⟩) n n) xs:=
 ⟨Gh.le_add hl.I,g.fix ⟨hl.mu,hl.F⟩ hl.I hq,XInv.fix i hl,mx.fix hqw hl.I,q,0,n,xs.toArray,by rw[hxl],Gh.add_at _ _ _,by omega,by omega,fun j y hy=>by simpa using hy⟩
theorem rx_of{rv:Except Nat Ex×Xs}{ex:Ex}{e':Ending}(mx:Mx X G w Y H w3)(hx:XInv K Y H S x' sc w3)(h:Made H S m w3 (shOf sc) ex e' w4)(hrv:rv=(.ok ex,x')):RX X.xb G.mb (XPost K X G S m sc w rv) e' w4:=by
 obtain⟨v,rfl,h1,_,h3⟩:=qc8 (rv:=rv) mx hx h hrv;exact .inr ⟨v,rfl,h1,h3⟩
theorem qn1{rv:Except Nat Ex×Xs}{ex:Ex}{e':Ending}(mx:Mx X G w Y H w3)(hx:XInv K Y H S x' sc w3)(h:Made H S m w3 (shOf sc) ex e' w4)(hrv:rv=(.ok ex,x')):RQ (XPost K X G S m sc w rv) e' w4:=by
 obtain⟨v,rfl,h1,_,h3⟩:=qc8 (rv:=rv) mx hx h hrv;exact .inr ⟨v,rfl,h3⟩
theorem XPost.from{rv:Except Nat Ex×Xs}{e':Ending}{w':World}(mx:Mx X G w Y H w2)(h:XPost K Y H S m sc w2 rv e' w'):XPost K X G S m sc w rv e' w':=by
 rcases h with⟨vd,y,h1,rfl,hc,hmt⟩|⟨Z,L,ex,y,v,h1,rfl,h2,h3,h4,h5⟩
 ·exact .inl ⟨vd,y,h1,rfl,hc.up mx.up,by rw[<-mx.same.2.1];exact hmt⟩
 ·exact .inr ⟨Z,L,ex,y,v,h1,rfl,mx.trans h2,h3,h4,h5⟩
theorem XPost.rq{rv:Except Nat Ex×Xs}{e':Ending}{w':World}(h:XPost K X G S m sc w rv e' w'):RQ (XPost K X G S m sc w rv) e' w':=RQ.of h h.ends
end
theorem qcc{K:Rl}{X:Xe}{G:Gh}{S:Sub}{m:Mc}{x:Xs}{sc:Scope}{w:World}{d:Dt}{e:Dl}(g:Inv G S m w)(i:XInv K X G S x sc w)(hd:DRep G d e){s:ByteArray}(hs:s.data.toList=kwN x sc d):∀w',Lk (w.alloc (.cells e.cells 134)) w'->Calls prog 232 #[bp X.xb,.agg e.cells] w' fun e' w2=>e'=.returned (.string s)/\Below w'.heap.size w' w2:=fun w' hw=>by
 have hb:=bl1 hw;refine Calls.mono (qer (g.below hb) (i.below hb) hd) ?_;rintro e' w2 ⟨rfl,h⟩;refine⟨?_,h⟩;rw[<-hs]
theorem qtg{K:Rl}{S:Sub}{f:Nat}(ih:FormsS K S f)(X:Xe)(G:Gh)(m:Mc)(x:Xs)(sc:Scope)(w:World)(l:List Dt)(e:Dl)(g:Inv G S m w)(i:XInv K X G S x sc w)(hd:DRep G (.list l) e)(hmb:membersL l<=1000000000000)(hl:l≠[])(hkw:kwN x sc (.list l)=[])(hsc:sc.length+f<=1000000000)(hne:(app S (f+1) x sc l).1≠.error 0):
  Calls prog 297 #[bp X.xb,.agg e.cells] w (XPost K X G S m sc w (app S (f+1) x sc l)):=by
 have hrow:=hd.row;have hW:=qcc g i hd (s:=⟨#[]⟩) (by rw[hkw]);obtain⟨xk,xn,xtr,xtx,xm,xa,xlen,xcap⟩:=e;have hrow:DRow G xa xlen xcap l:=hrow;obtain⟨n,rfl⟩:∃n,xlen=n+1:=by
  obtain⟨es,h1,_⟩:=hrow;cases l with
  |nil=>exact absurd rfl hl
  |cons a r=>exact⟨r.length,by simpa using h1⟩
 have hn:n+1<=30000:=by obtain⟨es,h1,h2,h3,h4,h5,h6⟩:=hrow;exact h5
 have happ:app S (f+1) x sc l=match forms S f x sc l with
  |(.ok (e::r),x)=>(.ok (.app e r),x)
  |(.ok [],x)=>(.error 4,x)
  |(.error e,x)=>(.error e,x):=rfl
 have hfne:(forms S f x sc l).1≠.error 0:=fun h=>by
  apply hne;rw[happ];cases hfr:forms S f x sc l with
  |mk fr fx=>rw[hfr]at h;have h:fr=.error 0:=h;subst h;rfl
 refine qjd X.xb G.mb xk xn xtr xtx xm xa n xcap w _ (i.cell0 (Mx.refl X G w) g) (by omega) hW fun w1 hb1=>?_
 have g1:=g.below hb1;have i1:=i.below hb1;refine Calls.mono (ih X G m x sc w1 l xa (n+1) xcap g1 i1 hrow hmb hsc hfne) ?_;rintro e' w2 (⟨vd,x',hv,rfl,hc,hmt⟩|⟨Y,H,exs,x',q,xs,hv,rfl,hxl,hq,hqw,hlq,mx,g2,i2,hxr⟩)
 ·exact .inl ⟨_,rfl,.inl ⟨vd,x',by rw[happ,hv],rfl,hc,hmt⟩⟩
 ·have mx':Mx X G w Y H w2:=(Mx.ofBelow hb1).trans mx;obtain⟨hle,g3,i3,mx3,hr⟩:=qkb hxl (by omega) hq (Nat.le_trans hb1.size hqw) hlq mx' g2 i2;refine .inr ⟨_,rfl,some ⟨q,0,none⟩,n+1,n+1,rfl,i2.cell0 mx' g2,fun w3 hw3=>?_⟩;cases hxr with
  |nil=>simp at hxl
  |cons _ e0 r x0 xr hc0 hs0=>
   have key:=app_mk (sh:=shOf sc) (f:=e0) (l:=r) (Inv.lk hw3 g3) (by rw[hxl];omega) hr (.cons _ _ _ _ _ (hc0.mono hle) (hs0.mono hle));have hmb':(H.add q (.cells (x0::xr).toArray 241 (0,0))).mb=G.mb:=mx3.up.le.mb;rw[hmb']at key;exact Calls.mono key fun e6 w6 h6=>rx_of (mx3.lk hw3) (i3.below (bl0 hw3)) h6 (by rw[happ,hv])
end
section
open Sc
theorem DRow.cells{G:Gh}{a:Option Addr}{len cap:Nat}{l:List Dt}(h:DRow G a len cap l)(hp:0<len):∃g o,a=some ⟨g,o,none⟩/\(∃arr,G.I g=some (.cells arr 134 (0,0)))/\∀(i:Nat) (d:Dt),l[i]? =some d->∃e:Dl,DRep G d e/\∀(S:Sub) (m:Mc) (w:World),Inv G S m w->∀j,j<6->w.cell? ⟨g,o+i*6+j,none⟩=e.cells[j]?:=by
 obtain⟨es,h1,h2,h3,h4,h5,h6⟩:=h;obtain⟨g,o,arr,q1,q2,q3⟩:=h6 hp;obtain⟨ha,hb⟩:=h3.at;refine⟨g,o,q1,⟨arr,q2⟩,fun i d hd=>?_⟩;have hi:=(List.getElem?_eq_some_iff.1 hd).1;have he:es[i]? =some es[i]:=List.getElem?_eq_getElem (by omega);exact⟨es[i],hb i d _ hd he,fun S m w g' j hj=>by rw[g'.cell q2];exact q3 i j _ he hj⟩
theorem DsRep.drop{G:Gh}:∀{l:List Dt} {es:List Dl} (k:Nat),DsRep G l es->DsRep G (l.drop k) (es.drop k)
 |_,_,0,h=>h
 |_,_,k+1,.nil=>.nil
 |_,_,k+1,.cons d r e es h hs=>by simpa using DsRep.drop k hs
theorem DRow.drop{G:Gh}{g o len cap:Nat}{l:List Dt}(k:Nat)(h:DRow G (some ⟨g,o,none⟩) len cap l)(hk:k<=len):DRow G (tlD g o cap k) (len-k) (cap-k) (l.drop k):=by
 obtain⟨es,h1,h2,h3,h4,h5,h6⟩:=h;refine⟨es.drop k,by simp;omega,by simp;omega,h3.drop k,by omega,by omega,fun hp=>?_⟩;obtain⟨g',o',arr,q1,q2,q3⟩:=h6 (by omega);cases q1;refine⟨g,o+k*6,arr,by unfold tlD;rw[if_neg (by omega)],q2,fun i j x hx hj=>?_⟩;rw[List.getElem?_drop]at hx;rw[show o+k*6+i*6+j=o+(k+i)*6+j from by rw[Nat.add_mul];omega];exact q3 (k+i) j x hx hj
theorem qgr(xb n xcap:Nat)(xa:Option Addr)(w:World)(Q:Ending->World->Prop)(h3:n≠3)(h4:n≠4)
  (hQ:∀w',Below w.heap.size w w'->Q (.panicked (stopP (stopV 4))) w'):
  Calls prog 335 #[bp xb,.slice xa n xcap] w Q:=by
 have HQ:=hZ hQ;have e3:((n:Int)==3)=false:=by simp;omega
 have e4:((n:Int)==4)=false:=by simp;omega
 clear hQ;go_enter func335,ntmps335
 go_wp2_with (first|(go_at_call 290;refine(qax _).mono ?_;rintro e w2 ⟨rfl,o,rfl⟩))
 exact⟨rfl,HQ.out _ (qab _ _)⟩
structure At (K:Rl) (X:Xe) (G:Gh) (S:Sub) (m:Mc) (x:Xs) (sc:Scope) (w:World) (t:Bs) (k:Int) (r:List Dt) (e:Dl):Prop where
 g:Inv G S m w
 i:XInv K X G S x sc w
 d:DRep G (.list (.sym t k::r)) e
 kw:kwN x sc (.list (.sym t k::r))=t
 mb:membersL r<=1000000000000
theorem At.bad{K:Rl}{X:Xe}{G:Gh}{S:Sub}{m:Mc}{x:Xs}{sc:Scope}{w:World}{t:Bs}{k:Int}{r:List Dt}{e:Dl}(A:At K X G S m x sc w t k r e){rv:Except Nat Ex×Xs}(h:rv=(.error 4,x)):∀w',Below w.heap.size w w'->XPost K X G S m sc w rv (.panicked (stopP (stopV 4))) w':=fun _ hb=>XPost.bad A.g A.i h hb
theorem At.c0{K:Rl}{X:Xe}{G:Gh}{S:Sub}{m:Mc}{x:Xs}{sc:Scope}{w:World}{t:Bs}{k:Int}{r:List Dt}{e:Dl}(A:At K X G S m x sc w t k r e):w.cell? ⟨X.xb,0,none⟩=some (bp G.mb):=A.i.cell0 (Mx.refl X G w) A.g
theorem qlo{K:Rl}{S:Sub}(f:Nat)(X:Xe)(G:Gh)(m:Mc)(x:Xs)(sc:Scope)(w:World)(k:Int)(r:List Dt)(e:Dl)(A:At K X G S m x sc w [113,117,111,116,101] k r e):
  Calls prog 297 #[bp X.xb,.agg e.cells] w (XPost K X G S m sc w (keyword S (f+1) x sc .quote r)):=by
 have hrow:=A.d.row;have hW:=qcc A.g A.i A.d (s:=⟨#[113,117,111,116,101]⟩) A.kw.symm;obtain⟨xk,xn,xtr,xtx,xm,xa,xlen,xcap⟩:=e;have hrow:DRow G xa xlen xcap (.sym [113,117,111,116,101] k::r):=hrow;have hlen:xlen=r.length+1:=by obtain⟨es,h1,_⟩:=hrow;simpa using h1
 have hn:xlen<=30000:=by obtain⟨es,h1,h2,h3,h4,h5,h6⟩:=hrow;exact h5
 subst hlen;have bad:r.length+1≠2->keyword S (f+1) x sc .quote r=(.error 4,x)->Calls prog 297 #[bp X.xb,.agg (Dl.cells ⟨xk,xn,xtr,xtx,xm,xa,r.length+1,xcap⟩)] w (XPost K X G S m sc w (keyword S (f+1) x sc .quote r)):=fun h1 h2=>
  qdn X.xb 0 xk xn xtr xtx xm xa r.length xcap w _ (by omega) h1 hW (A.bad h2)
 match r,A,hrow,hW,hn,bad with
 | [],A,hrow,hW,hn,bad=>exact bad (by simp) rfl
 |a::b::c,A,hrow,hW,hn,bad=>exact bad (by simp) rfl
 | [d],A,hrow,hW,hn,bad=>
  obtain⟨gg,o,rfl,_,hc⟩:=hrow.cells (by simp);obtain⟨y,hy,hcy⟩:=hc 1 d rfl;obtain⟨yk,yn,ytr,ytx,ym,ya,ylen,ycap⟩:=y;have cell:=hcy S m w A.g;refine qge X.xb G.mb xk xn xtr xtx xm gg o xcap w _ yk yn ytr ytx ym ya ylen ycap A.c0 (cell 0 (by omega)) (cell 1 (by omega)) (cell 2 (by omega)) (cell 3 (by omega)) (cell 4 (by omega)) (cell 5 (by omega)) hW fun w1 hb1=>?_
  have hmd:members d<=1000000000000:=Nat.le_trans (qca [d] (by simp)) A.mb;have key:=qky (sh:=shOf sc) (A.g.below hb1) hy hmd;exact Calls.mono key fun e6 w6 h6=>qn1 (Mx.ofBelow hb1) (A.i.below hb1) h6 rfl
theorem qm4{K:Rl}{S:Sub}{f:Nat}(ih:FormsS K S f)(X:Xe)(G:Gh)(m:Mc)(x:Xs)(sc:Scope)(w:World)(k:Int)(r:List Dt)(e:Dl)(A:At K X G S m x sc w [98,101,103,105,110] k r e)(hsc:sc.length+f<=1000000000)(hne:(keyword S (f+1) x sc .begin r).1≠.error 0):
  Calls prog 297 #[bp X.xb,.agg e.cells] w (XPost K X G S m sc w (keyword S (f+1) x sc .begin r)):=by
 have hrow:=A.d.row;have hW:=qcc A.g A.i A.d (s:=⟨#[98,101,103,105,110]⟩) A.kw.symm;obtain⟨xk,xn,xtr,xtx,xm,xa,xlen,xcap⟩:=e;have hrow:DRow G xa xlen xcap (.sym [98,101,103,105,110] k::r):=hrow;have hlen:xlen=r.length+1:=by obtain⟨es,h1,_⟩:=hrow;simpa using h1
 have hn:xlen<=30000:=by obtain⟨es,h1,h2,h3,h4,h5,h6⟩:=hrow;exact h5
 have hcp:xlen<=xcap:=by obtain⟨es,h1,h2,h3,h4,h5,h6⟩:=hrow;exact h4
 subst hlen;cases r with
 |nil=>exact qdo X.xb 0 xk xn xtr xtx xm xa 0 xcap w _ (by simp at hn;omega) (by omega) hW (A.bad rfl)
 |cons b r=>
  obtain⟨gg,o,rfl,_,_⟩:=hrow.cells (by simp);have hdr:=hrow.drop 1 (by simp);simp only[List.length_cons,Nat.add_sub_cancel,List.drop_succ_cons,List.drop_zero]at hdr hn hcp;have hkw:keyword S (f+1) x sc .begin (b::r)=match forms S f x sc (b::r)with
   |(.ok (b::r),x)=>(.ok (.seq b r),x)
   |(.ok [],x)=>(.error 4,x)
   |(.error e,x)=>(.error e,x):=rfl
  have hfne:(forms S f x sc (b::r)).1≠.error 0:=fun h=>by
   apply hne;rw[hkw];cases hfr:forms S f x sc (b::r)with
   |mk fr fx=>rw[hfr]at h;have h:fr=.error 0:=h;subst h;rfl
  refine qgf X.xb G.mb xk xn xtr xtx xm gg o r.length xcap w _ A.c0 (by omega) (by omega) hW fun w1 hb1=>?_
  refine Calls.mono (ih X G m x sc w1 (b::r) _ (r.length+1) _ (A.g.below hb1) (A.i.below hb1) hdr A.mb hsc hfne) ?_;rintro e' w2 (⟨vd,x',hv,rfl,hc,hmt⟩|⟨Y,H,exs,x',q,xs,hv,rfl,hxl,hq,hqw,hlq,mx,g2,i2,hxr⟩)
  ·exact .inl ⟨_,rfl,.inl ⟨vd,x',by rw[hkw,hv],rfl,hc,hmt⟩⟩
  ·have mx':Mx X G w Y H w2:=(Mx.ofBelow hb1).trans mx;obtain⟨hle,g3,i3,mx3,hr⟩:=qkb hxl (by omega) hq (Nat.le_trans hb1.size hqw) hlq mx' g2 i2;refine .inr ⟨_,rfl,_,_,_,rfl,i2.cell0 mx' g2,fun w3 hw3=>?_⟩;cases hxr with
   |nil=>simp at hxl
   |cons _ e0 r0 x0 xr hc0 hs0=>
    have key:=qtc (sh:=shOf sc) (e:=e0) (l:=r0) (Inv.lk hw3 g3) hr (.cons _ _ _ _ _ (hc0.mono hle) (hs0.mono hle));have hmb':(H.add q (.cells (x0::xr).toArray 241 (0,0))).mb=G.mb:=mx3.up.le.mb;rw[hmb']at key;exact Calls.mono key fun e6 w6 h6=>rx_of (mx3.lk hw3) (i3.below (bl0 hw3)) h6 (by rw[hkw,hv])
theorem qjh{K:Rl}{S:Sub}{f:Nat}(ih:LambdaS K S f)(X:Xe)(G:Gh)(m:Mc)(x:Xs)(sc:Scope)(w:World)(k:Int)(r:List Dt)(e:Dl)(A:At K X G S m x sc w [108,97,109,98,100,97] k r e)(hsc:sc.length+f<=1000000000)(hne:(keyword S (f+1) x sc .lambda r).1≠.error 0):
  Calls prog 297 #[bp X.xb,.agg e.cells] w (XPost K X G S m sc w (keyword S (f+1) x sc .lambda r)):=by
 have hrow:=A.d.row;have hW:=qcc A.g A.i A.d (s:=⟨#[108,97,109,98,100,97]⟩) A.kw.symm;obtain⟨xk,xn,xtr,xtx,xm,xa,xlen,xcap⟩:=e;have hrow:DRow G xa xlen xcap (.sym [108,97,109,98,100,97] k::r):=hrow;have hlen:xlen=r.length+1:=by obtain⟨es,h1,_⟩:=hrow;simpa using h1
 have hn:xlen<=30000:=by obtain⟨es,h1,h2,h3,h4,h5,h6⟩:=hrow;exact h5
 have hcp:xlen<=xcap:=by obtain⟨es,h1,h2,h3,h4,h5,h6⟩:=hrow;exact h4
 subst hlen;have bad:r.length+1<3->keyword S (f+1) x sc .lambda r=(.error 4,x)->Calls prog 297 #[bp X.xb,.agg (Dl.cells ⟨xk,xn,xtr,xtx,xm,xa,r.length+1,xcap⟩)] w (XPost K X G S m sc w (keyword S (f+1) x sc .lambda r)):=fun h1 h2=>
  qda X.xb 0 xk xn xtr xtx xm xa r.length xcap w _ (by omega) h1 hW (A.bad h2)
 match r,A,hrow,hW,hn,hcp,hne,bad with
 | [],A,hrow,hW,hn,hcp,hne,bad=>exact bad (by simp) rfl
 | [a],A,hrow,hW,hn,hcp,hne,bad=>exact bad (by simp) rfl
 |p::b::r,A,hrow,hW,hn,hcp,hne,bad=>
  obtain⟨gg,o,rfl,_,hc⟩:=hrow.cells (by simp);obtain⟨y,hy,hcy⟩:=hc 1 p rfl;obtain⟨yk,yn,ytr,ytx,ym,ya,ylen,ycap⟩:=y;have cell:=hcy S m w A.g;have hdr:=hrow.drop 2 (by simp);have hlr:(p::b::r).length+1-2=r.length+1:=by simp
  rw[hlr]at hdr;have hdr:DRow G (tlD gg o xcap 2) (r.length+1) (xcap-2) (b::r):=hdr;simp only[List.length_cons]at hn hcp;have hmb:membersL (b::r)<=1000000000000:=by have:=A.mb;simp only[membersL]at this|-;omega
  refine qe9 X.xb 0 xk xn xtr xtx xm gg o r.length xcap w _ yk yn ytr ytx ym ya ylen ycap (cell 0 (by omega)) (cell 1 (by omega)) (cell 2 (by omega)) (cell 3 (by omega)) (cell 4 (by omega)) (cell 5 (by omega)) (by omega) (by omega) hW fun w1 hb1=>?_
  refine Calls.mono (ih X G m x sc w1 p _ (b::r) _ _ _ (A.g.below hb1) (A.i.below hb1) hy hdr hmb (by omega) hsc hne) ?_;intro e6 w6 h6;exact(XPost.from (Mx.ofBelow hb1) h6).rq
end
section
open Sc
theorem XInv.keep{K:Rl}{X:Xe}{G:Gh}{S:Sub}{x:Xs}{sc:Scope}{w w':World}(i:XInv K X G S x sc w)(hk:∀b,b<w.heap.size->(b∈[X.rb,X.mm,X.ab,X.bm]\/X.Rw b)->w'.heap[b]? =w.heap[b]?)(hs:w.heap.size<=w'.heap.size):XInv K X G S x sc w':=by
 have kb:∀b,b∈[X.rb,X.mm,X.ab,X.bm]->w'.heap[b]? =w.heap[b]?:=fun b hb=>hk b (Nat.lt_of_lt_of_le (i.lo b hb).2.2.1 i.sl) (.inl hb)
 obtain⟨L,hL,hLb⟩:=i.bd;obtain⟨es,clock,M,hm1,hm2,hm3⟩:=i.mc;refine⟨i.xe,i.mt.keep (kb _ (by simp)),i.ml,by rw[kb _ (by simp)];exact i.ab,⟨L,⟨by rw[kb _ (by simp)];exact hL.1,hL.2.1,fun p hp=>qbd (hL.2.2.1 p hp) fun q hq=>?_,hL.2.2.2⟩,hLb⟩,fun b hb=>?_,⟨es,clock,M,by rw[kb _ (by simp)];exact hm1,hm2,hm3⟩,i.lo,i.nd,Nat.le_trans i.sl hs,i.sz⟩
 ·have hm:q∈own L:=List.mem_filterMap.2 ⟨p,hp,hq⟩;exact hk q (i.rr q (hLb q hm)).2.2.2.1 (.inr (hLb q hm))
 ·obtain⟨h1,h2,h3,h4,h5⟩:=i.rr b hb;exact⟨h1,h2,h3,Nat.lt_of_lt_of_le h4 hs,h5⟩
theorem XInv.grown{K:Rl}{X:Xe}{G:Gh}{S:Sub}{x:Xs}{sc:Scope}{w w':World}{q:Nat}(i:XInv K X G S x sc w)(hl:LooseX X G q)(hg:w.grownBy w' (some q)):XInv K X G S x sc w':=
 i.keep (fun b hb hc=>hg.block b hb fun e=>by
  cases e;exact hc.elim hl.O hl.R) hg.size
theorem Mx.grown{X Y:Xe}{G H:Gh}{w w2 w3:World}{q:Nat}(mx:Mx X G w Y H w2)(hq:w.heap.size<=q)(hg:w2.grownBy w3 (some q)):Mx X G w Y H w3:=
 ⟨mx.same,mx.up,mx.I,mx.mu,mx.rw,fun {k} h1 h2 h3 h4=>by rw[hg.block k (Nat.lt_of_lt_of_le h1 mx.size) (fun e=>by cases e;omega)];exact mx.blk h1 h2 h3 h4,Nat.le_trans mx.size hg.size⟩
theorem qn2{w:World}{q n:Nat}{xs:List Value}(hxl:xs.length=n)(hn:n<=90000)(hq:w.heap[q]? =some (.cells xs.toArray 241 (0,0))):w.ownsRow q 241 1 (.slice (some ⟨q,0,none⟩) n n) n xs:=
 ⟨by omega,.inr ⟨q,n,xs.toArray,rfl,Nat.le_refl _,hq,Nat.le_refl _,by unfold maxLen;omega,by simp[hxl],by subst hxl;simp⟩⟩
theorem if_case{K:Rl}{S:Sub}{f:Nat}(ih:FormsS K S f)(X:Xe)(G:Gh)(m:Mc)(x:Xs)(sc:Scope)(w:World)(k:Int)(r:List Dt)(e:Dl)(A:At K X G S m x sc w [105,102] k r e)(hsc:sc.length+f<=1000000000)(hne:(keyword S (f+1) x sc .ite r).1≠.error 0):
  Calls prog 297 #[bp X.xb,.agg e.cells] w (XPost K X G S m sc w (keyword S (f+1) x sc .ite r)):=by
 have hrow:=A.d.row;have hW:=qcc A.g A.i A.d (s:=⟨#[105,102]⟩) A.kw.symm;obtain⟨xk,xn,xtr,xtx,xm,xa,xlen,xcap⟩:=e;have hrow:DRow G xa xlen xcap (.sym [105,102] k::r):=hrow;have hlen:xlen=r.length+1:=by obtain⟨es,h1,_⟩:=hrow;simpa using h1
 have hn:xlen<=30000:=by obtain⟨es,h1,h2,h3,h4,h5,h6⟩:=hrow;exact h5
 have hcp:xlen<=xcap:=by obtain⟨es,h1,h2,h3,h4,h5,h6⟩:=hrow;exact h4
 subst hlen;refine qjc X.xb 0 xk xn xtr xtx xm xa r.length xcap w _ (by omega) hW fun w1 hb1=>?_
 have bad:r.length+1≠3->r.length+1≠4->keyword S (f+1) x sc .ite r=(.error 4,x)->Calls prog 335 #[bp X.xb,.slice xa (r.length+1) xcap] w1 (RQ (XPost K X G S m sc w (keyword S (f+1) x sc .ite r))):=fun h1 h2 h3=>by
  refine qgr X.xb (r.length+1) xcap xa w1 _ h1 h2 fun w' hb=>?_
  exact(A.bad h3 w' (hb1.trans (hb.mono hb1.size))).rq
 have good:∀(hr:r.length=2\/r.length=3) (mk:List Ex->Except Nat Ex),(keyword S (f+1) x sc .ite r=match forms S f x sc r with|(.ok l,x)=>(mk l,x)|(.error e,x)=>(.error e,x))->
   (∀(H:Gh) (exs:List Ex) (xs:List Value),XRep H (shOf sc) exs xs->xs.length=r.length->∃x0 x1 x2 c t o,(xs++[.func (.func 235) #[] #[]])[0]? =some x0/\(xs++[.func (.func 235) #[] #[]])[1]? =some x1/\(xs++[.func (.func 235) #[] #[]])[2]? =some x2/\CRep H (shOf sc) c x0/\CRep H (shOf sc) t x1/\ORep H (shOf sc) o x2/\mk exs=.ok (.ite c t o))->
   Calls prog 335 #[bp X.xb,.slice xa (r.length+1) xcap] w1 (RQ (XPost K X G S m sc w (keyword S (f+1) x sc .ite r))):=by
  intro hr mk hkw hmk;obtain⟨gg,o,rfl,_,_⟩:=hrow.cells (by omega);have hdr:=hrow.drop 1 (by omega);simp only[Nat.add_sub_cancel,List.drop_succ_cons,List.drop_zero]at hdr;have hfne:(forms S f x sc r).1≠.error 0:=fun h=>by
   apply hne;rw[hkw];cases hfr:forms S f x sc r with
   |mk fr fx=>rw[hfr]at h;have h:fr=.error 0:=h;subst h;rfl
  have g1:=A.g.below hb1;have i1:=A.i.below hb1;refine qju X.xb G.mb gg o r.length xcap w1 _ (i1.cell0 (Mx.refl X G w1) g1) hr hcp fun w2 hb2=>?_
  have hb12:Below w.heap.size w w2:=hb1.trans (hb2.mono hb1.size);refine Calls.mono (ih X G m x sc w2 r _ r.length _ (A.g.below hb12) (A.i.below hb12) hdr A.mb hsc hfne) ?_;rintro e' w3 (⟨vd,x',hv,rfl,hc,hmt⟩|⟨Y,H,exs,x',q,xs,hv,rfl,hxl,hq,hqw,hlq,mx,g2,i2,hxr⟩)
  ·exact .inl ⟨_,rfl,.inl ⟨_,rfl,.inl ⟨vd,x',by rw[hkw,hv],rfl,hc,hmt⟩⟩⟩
  ·have mx':Mx X G w Y H w3:=(Mx.ofBelow hb12).trans mx;obtain⟨x0,x1,x2,c,t,oo,e0,e1,e2,hc0,hc1,hc2,hmk'⟩:=hmk H exs xs hxr hxl;obtain⟨k0,d0,rfl,_⟩:=hc0.isF;obtain⟨k1,d1,rfl,_⟩:=hc1.isF;obtain⟨k2,d2,rfl,_⟩:=hc2.isF;refine .inr ⟨_,rfl,some ⟨q,0,none⟩,r.length,q,k0,k1,k2,d0,d1,d2,xs,rfl,qn2 hxl (by omega) hq,Nat.le_of_lt (Array.getElem?_eq_some_iff.1 hq).1,e0,e1,e2,fun w4 hg4=>?_⟩;have hqw':w.heap.size<=q:=Nat.le_trans hb12.size hqw;have hg4:w3.grownBy w4 (some q):=hg4;have g4:Inv H S m w4:=g2.grown hg4 fun b hb=>by cases hb;exact⟨hlq.I,hlq.mu,hlq.F⟩
   have i4:=i2.grown hlq hg4;have mx4:=mx'.grown hqw' hg4;refine⟨i4.cell0 mx4 g4,fun w5 hw5=>?_⟩;have key:=if_mk (sh:=shOf sc) (c:=c) (t:=t) (o:=oo) (Inv.lk hw5 g4) hc0 hc1 hc2;rw[mx4.up.le.mb]at key;refine Calls.mono key fun e6 w6 h6=>?_
   have:=qn1 (rv:=keyword S (f+1) x sc .ite r) (mx4.lk hw5) (i4.below (bl0 hw5)) h6 (by rw[hkw,hv];simp only[hmk']);exact RQ.of this (by rcases this with⟨ps,rfl,_⟩|⟨v,rfl,_⟩;exact .inr ⟨_,rfl⟩;exact .inl ⟨_,rfl⟩)
 match r,A,hrow,hW,hn,hcp,hne,bad,good with
 | [],A,hrow,hW,hn,hcp,hne,bad,good=>exact bad (by simp) (by simp) rfl
 | [_],A,hrow,hW,hn,hcp,hne,bad,good=>exact bad (by simp) (by simp) rfl
 | [a,b],A,hrow,hW,hn,hcp,hne,bad,good=>
  refine good (.inl rfl) (fun l=>match l with| [a,b]=>.ok (.ite a b none)|_=>.error 4) ?_ ?_
  ·show((match forms S f x sc [a,b]with|(.ok [a,b],x)=>(.ok (.ite a b none),x)|(.ok _,x)=>(.error 4,x)|(.error e,x)=>(.error e,x)):Except Nat Ex×Xs)=_;cases forms S f x sc [a,b]with
   |mk fr fx=>
    cases fr with
    |error e=>rfl
    |ok l=>match l with
     | []=>rfl
     | [_]=>rfl
     | [_,_]=>rfl
     |_::_::_::_=>rfl
  ·intro H exs xs hxr hxl
   match exs,xs,hxr,hxl with
   |_,_,.nil _,hxl=>simp at hxl
   |_,_,.cons _ _ _ _ _ _ (.nil _),hxl=>simp at hxl
   |_,_,.cons _ e0 _ x0 _ h0 (.cons _ e1 _ x1 _ h1 (.nil _)),hxl=>exact⟨x0,x1,_,e0,e1,none,rfl,rfl,rfl,h0,h1,.none _,rfl⟩
   |_,_,.cons _ _ _ _ _ _ (.cons _ _ _ _ _ _ (.cons _ _ _ _ _ _ _)),hxl=>simp at hxl
 | [a,b,c],A,hrow,hW,hn,hcp,hne,bad,good=>
  refine good (.inr rfl) (fun l=>match l with| [a,b,c]=>.ok (.ite a b (some c))|_=>.error 4) ?_ ?_
  ·show((match forms S f x sc [a,b,c]with|(.ok [a,b,c],x)=>(.ok (.ite a b (some c)),x)|(.ok _,x)=>(.error 4,x)|(.error e,x)=>(.error e,x)):Except Nat Ex×Xs)=_;cases forms S f x sc [a,b,c]with
   |mk fr fx=>
    cases fr with
    |error e=>rfl
    |ok l=>match l with
     | []=>rfl
     | [_]=>rfl
     | [_,_]=>rfl
     | [_,_,_]=>rfl
     |_::_::_::_::_=>rfl
  ·intro H exs xs hxr hxl
   match exs,xs,hxr,hxl with
   |_,_,.nil _,hxl=>simp at hxl
   |_,_,.cons _ _ _ _ _ _ (.nil _),hxl=>simp at hxl
   |_,_,.cons _ _ _ _ _ _ (.cons _ _ _ _ _ _ (.nil _)),hxl=>simp at hxl
   |_,_,.cons _ e0 _ x0 _ h0 (.cons _ e1 _ x1 _ h1 (.cons _ e2 _ x2 _ h2 (.nil _))),hxl=>exact⟨x0,x1,x2,e0,e1,some e2,rfl,rfl,rfl,h0,h1,.some _ _ _ h2,rfl⟩
   |_,_,.cons _ _ _ _ _ _ (.cons _ _ _ _ _ _ (.cons _ _ _ _ _ _ (.cons _ _ _ _ _ _ _))),hxl=>simp at hxl
 |a::b::c::d::r',A,hrow,hW,hn,hcp,hne,bad,good=>exact bad (by simp) (by simp) rfl
theorem qrz{x:Xs}{sc:Scope}{t:Bs}{k:Int}:(∃u n,find (t,k) sc=some (u,n)/\meanN x (t,k) sc=0/\varEx x (t,k) sc=some (.loc u n))\/(find (t,k) sc=none/\meanN x (t,k) sc=3/\varEx x (t,k) sc=some (.glo t))\/(find (t,k) sc=none/\meanN x (t,k) sc≠0/\meanN x (t,k) sc≠3/\varEx x (t,k) sc=none):=by
 cases hf:find (t,k) sc with
 |some p=>exact .inl ⟨p.1,p.2,rfl,by simp[meanN,hf],by simp[varEx,Xs.means,hf]⟩
 |none=>
  right;cases hk:Kw.of t with
  |some kk=>exact .inr ⟨rfl,by simp[meanN,hf,hk],by simp[meanN,hf,hk],by simp[varEx,Xs.means,hf,hk]⟩
  |none=>
   cases hm:x.mcr t with
   |some mm=>exact .inr ⟨rfl,by simp[meanN,hf,hk,hm],by simp[meanN,hf,hk,hm],by simp[varEx,Xs.means,hf,hk,hm]⟩
   |none=>exact .inl ⟨rfl,by simp[meanN,hf,hk,hm],by simp[varEx,Xs.means,hf,hk,hm]⟩
theorem qrb{K:Rl}{S:Sub}{f:Nat}(ih:FormS K S f)(X:Xe)(G:Gh)(m:Mc)(x:Xs)(sc:Scope)(w:World)(k:Int)(r:List Dt)(e:Dl)(A:At K X G S m x sc w [115,101,116,33] k r e)(hsc:sc.length+f<=1000000000)(hne:(keyword S (f+1) x sc .set r).1≠.error 0):
  Calls prog 297 #[bp X.xb,.agg e.cells] w (XPost K X G S m sc w (keyword S (f+1) x sc .set r)):=by
 have hrow:=A.d.row;have hW:=qcc A.g A.i A.d (s:=⟨#[115,101,116,33]⟩) A.kw.symm;obtain⟨xk,xn,xtr,xtx,xm,xa,xlen,xcap⟩:=e;have hrow:DRow G xa xlen xcap (.sym [115,101,116,33] k::r):=hrow;have hlen:xlen=r.length+1:=by obtain⟨es,h1,_⟩:=hrow;simpa using h1
 have hn:xlen<=30000:=by obtain⟨es,h1,h2,h3,h4,h5,h6⟩:=hrow;exact h5
 subst hlen;refine qi9 X.xb 0 xk xn xtr xtx xm xa r.length xcap w _ (by omega) hW fun w1 hb1=>?_
 have bad':∀{rv:Except Nat Ex×Xs},rv=(.error 4,x)->∀w',Below w1.heap.size w1 w'->RQ (XPost K X G S m sc w rv) (.panicked (stopP (stopV 4))) w':=fun h w' hb=>(A.bad h w' (hb1.trans (hb.mono hb1.size))).rq
 have bad:r.length+1≠3->keyword S (f+1) x sc .set r=(.error 4,x)->Calls prog 336 #[bp X.xb,.slice xa (r.length+1) xcap] w1 (RQ (XPost K X G S m sc w (keyword S (f+1) x sc .set r))):=fun h1 h3=>qgw X.xb (r.length+1) xcap xa w1 _ h1 (bad' h3)
 match r,A,hrow,hW,hn,hne,bad with
 | [],A,hrow,hW,hn,hne,bad=>exact bad (by simp) rfl
 | [_],A,hrow,hW,hn,hne,bad=>exact bad (by simp) rfl
 |_::_::_::_,A,hrow,hW,hn,hne,bad=>exact bad (by simp) rfl
 | [v,a],A,hrow,hW,hn,hne,bad=>
  obtain⟨gg,o,rfl,_,hc⟩:=hrow.cells (by simp);obtain⟨y,hy,hcy⟩:=hc 1 v rfl;obtain⟨z,hz,hcz⟩:=hc 2 a rfl;obtain⟨yk,yn,ytr,ytx,ym,ya,ylen,ycap⟩:=y;obtain⟨zk,zn,ztr,ztx,zm,za,zlen,zcap⟩:=z;have g1:=A.g.below hb1;have i1:=A.i.below hb1;have cy:=hcy S m w1 g1;have cz:=hcz S m w1 g1;have hkw:keyword S (f+1) x sc .set [v,a]=match (idOf v).bind (fun i=>varEx x i sc)with
   |none=>(.error 4,x)
   |some t=>match form S f x sc a with
    |(.error e,x)=>(.error e,x)
    |(.ok a,x)=>(match t with| .loc u n=>.ok (.setL u n a)| .glo s=>.ok (.setG s a)|_=>.error 4,x):=rfl
  have noid:yk≠3->idOf v=none->Calls prog 336 #[bp X.xb,.slice (some ⟨gg,o,none⟩) 3 xcap] w1 (RQ (XPost K X G S m sc w (keyword S (f+1) x sc .set [v,a]))):=fun h1 h2=>
   qfe X.xb gg o xcap yk yn ytr ytx ym ya ylen ycap w1 _ (cy 0 (by omega)) (cy 1 (by omega)) (cy 2 (by omega)) (cy 3 (by omega)) (cy 4 (by omega)) (cy 5 (by omega)) h1 (bad' (by rw[hkw,h2];rfl))
  have hma:members a<=1000000000000:=Nat.le_trans (qca [v,a] (by simp)) A.mb;cases hy with
  |num e h=>exact noid (by have h:yk=0:=h;omega) rfl
  |bool e h=>exact noid (by have h:yk=1:=h;omega) rfl
  |str e h=>exact noid (by have h:yk=2:=h;omega) rfl
  |nil e h=>exact noid (by have h:yk=4:=h;omega) rfl
  |list e h=>exact noid (by have h:yk=4:=h;omega) rfl
  |sym e h hzz hc0=>
   obtain rfl:yk=3:=h;have hM:∀w',Below w1.heap.size w1 w'->Calls prog 318 #[bp X.xb,idV ytx ym] w' fun e w2=>e=.returned (.tuple #[.int .i64 (meanN x (ytx.data.toList,ym) sc),meanA (ytx.data.toList,ym) sc])/\Below w'.heap.size w' w2:=fun w' hb=>qgd (g1.below hb) (i1.below hb) ytx ym
   have hid:idOf (.sym ytx.data.toList ym)=some (ytx.data.toList,ym):=rfl;have expr:∀(t:Ex) (mkE:Ex->Ex),varEx x (ytx.data.toList,ym) sc=some t->(∀b,(match t with| .loc u n=>.ok (.setL u n b)| .glo s=>.ok (.setG s b)|_=>.error 4)=(.ok (mkE b):Except Nat Ex))->∀(F:Nat) (args:Value->Array Value),
     (∀(H:Gh) (w':World) (b:Ex) (xv:Value),G.le H->Inv H S m w'->CRep H (shOf sc) b xv->Calls prog F (args xv) w' (Made H S m w' (shOf sc) (mkE b)))->
     ∀w',Below w1.heap.size w1 w'->Calls prog 236 #[bp X.xb,.agg (Dl.cells ⟨zk,zn,ztr,ztx,zm,za,zlen,zcap⟩)] w' (RetP (fun xv w2=>∃kc cc,xv=.func (.func kc) #[] cc/\w2.cell? ⟨X.xb,0,none⟩=some (bp G.mb)/\(∀b,w1.heap.size<=b->b<w'.heap.size->w2.heap[b]? =w'.heap[b]?)/\∀w3,Lk w2 w3->Calls prog F (args xv) w3 (RQ (RQ (XPost K X G S m sc w (keyword S (f+1) x sc .set [.sym ytx.data.toList ym,a]))))) (RQ (XPost K X G S m sc w (keyword S (f+1) x sc .set [.sym ytx.data.toList ym,a])))):=by
    intro t mkE hvar hmk F args hF w' hb;have hb':Below w.heap.size w w':=hb1.trans (hb.mono hb1.size);have hkw2:keyword S (f+1) x sc .set [.sym ytx.data.toList ym,a]=match form S f x sc a with
      |(.error e,x)=>(.error e,x)
      |(.ok a,x)=>(.ok (mkE a),x):=by
     rw[hkw,hid];simp only[Option.bind_some,hvar];cases form S f x sc a with
     |mk fr fx=>cases fr with
      |error e=>rfl
      |ok b=>simp only[hmk]
    have hfne:(form S f x sc a).1≠.error 0:=fun h=>by
     apply hne;rw[hkw2];cases hfr:form S f x sc a with
     |mk fr fx=>rw[hfr]at h;have h:fr=.error 0:=h;subst h;rfl
    refine Calls.mono (ih X G m x sc w' a _ (A.g.below hb') (A.i.below hb') hz hma hsc hfne) ?_;rintro e' w2 (⟨vd,x',hv,rfl,hcn,hmt⟩|⟨Y,H,ex,x',xv,hv,rfl,mx,g2,i2,hcr⟩)
    ·exact .inl ⟨_,rfl,.inl ⟨_,rfl,.inl ⟨vd,x',by rw[hkw2,hv],rfl,hcn,hmt⟩⟩⟩
    ·have mx':Mx X G w Y H w2:=(Mx.ofBelow hb').trans mx;obtain⟨kc,cc,rfl,_⟩:=hcr.isF;refine .inr ⟨_,rfl,kc,cc,rfl,i2.cell0 mx' g2,fun b h1 h2=>((LooseX.new A.g A.i (Nat.le_trans hb1.size h1)).mx mx h2).2,fun w3 hw3=>?_⟩;refine Calls.mono (hF H w3 ex _ mx'.up.le (Inv.lk hw3 g2) hcr) fun e6 w6 h6=>?_
     have:=qn1 (rv:=keyword S (f+1) x sc .set [.sym ytx.data.toList ym,a]) (mx'.lk hw3) (i2.below (bl0 hw3)) h6 (by rw[hkw2,hv]);exact RQ.of this (by rcases this with⟨ps,rfl,_⟩|⟨v,rfl,_⟩;exact .inr ⟨_,rfl⟩;exact .inl ⟨_,rfl⟩)
   rcases qrz (x:=x) (sc:=sc) (t:=ytx.data.toList) (k:=ym)with⟨u,n,hf,h0,hvar⟩|⟨hf,h3,hvar⟩|⟨hf,h0,h3,hvar⟩
   ·have hA:meanA (ytx.data.toList,ym) sc=.agg #[.int .i64 (u:Int),.int .i64 (n:Int)]:=by simp[meanA,hf]
    rw[h0,hA]at hM;obtain⟨ll,hl1,hl2⟩:=qjp hf;have hul:u<sc.length:=(List.getElem?_eq_some_iff.1 hl1).1;have hll:ll.length<=1000000000:=A.i.sz.2 ll (List.mem_of_getElem? hl1);refine qgv X.xb G.mb gg o xcap u n yn ytr ytx ym ya ylen ycap zk zn ztr ztx zm za zlen zcap w1 _ (i1.cell0 (Mx.refl X G w1) g1) (cy 0 (by omega)) (cy 1 (by omega)) (cy 2 (by omega)) (cy 3 (by omega)) (cy 4 (by omega)) (cy 5 (by omega)) (cz 0 (by omega)) (cz 1 (by omega)) (cz 2 (by omega)) (cz 3 (by omega)) (cz 4 (by omega)) (cz 5 (by omega)) hM (fun w' hb=>?_);have:=expr (.loc u n) (fun b=>.setL u n b) hvar (fun b=>rfl) 374 (fun xv=>#[bp G.mb,.agg #[.int .i64 (u:Int),.int .i64 (n:Int)],xv]) (fun H w' b xv hle hI hcr=>by
     have key:=setL_mk (sh:=shOf sc) (u:=u) (j:=n) (n:=ll.length) hI (by simp[shOf,hl1]) hl2 ⟨by have:=A.i.sz.1;omega,hll⟩ hcr;rw[hle.mb]at key;exact key) w' hb
    refine Calls.mono this fun e w h=>h.imp ?_ (fun _ _ h=>h)
    rintro xv w2 ⟨kc,cc,rfl,h1,h2,h3⟩;exact⟨kc,cc,rfl,h1,h2,h3⟩
   ·have hA:meanA (ytx.data.toList,ym) sc=.agg #[.int .i64 0,.int .i64 0]:=by simp[meanA,hf]
    rw[h3,hA]at hM;refine qgx X.xb G.mb gg o xcap 0 0 yn ytr ytx ym ya ylen ycap zk zn ztr ztx zm za zlen zcap w1 _ (i1.cell0 (Mx.refl X G w1) g1) (cy 0 (by omega)) (cy 1 (by omega)) (cy 2 (by omega)) (cy 3 (by omega)) (cy 4 (by omega)) (cy 5 (by omega)) (cz 0 (by omega)) (cz 1 (by omega)) (cz 2 (by omega)) (cz 3 (by omega)) (cz 4 (by omega)) (cz 5 (by omega)) hM (fun w' hb=>?_);have:=expr (.glo ytx.data.toList) (fun b=>.setG ytx.data.toList b) hvar (fun b=>rfl) 375 (fun xv=>#[bp G.mb,.string ytx,xv]) (fun H w' b xv hle hI hcr=>by
     have key:=setG_mk (sh:=shOf sc) (t:=ytx) hI hcr;rw[hle.mb]at key;exact key) w' hb
    refine Calls.mono this fun e w h=>h.imp ?_ (fun _ _ h=>h)
    rintro xv w2 ⟨kc,cc,rfl,h1,h2,h3⟩;exact⟨kc,cc,rfl,h1,h2,h3⟩
   ·have hA:meanA (ytx.data.toList,ym) sc=.agg #[.int .i64 0,.int .i64 0]:=by simp[meanA,hf]
    rw[hA]at hM;exact qgu X.xb gg o xcap _ 0 0 yn ytr ytx ym ya ylen ycap w1 _ (cy 0 (by omega)) (cy 1 (by omega)) (cy 2 (by omega)) (cy 3 (by omega)) (cy 4 (by omega)) (cy 5 (by omega)) h0 h3 hM (bad' (by rw[hkw,hid];simp only[Option.bind_some,hvar]))
end
section
open Sc
def BindP(G:Gh)(d:Dt)(e:Dl):Option (Dl×Dl)->Prop
 |some (a,b)=>∃da db,d=.list [da,db]/\DRep G da a/\DRep G db b/\e.len=2/\∃gb ob arr,e.a=some ⟨gb,ob,none⟩/\G.I gb=some (.cells arr 134 (0,0))/\(∀j,j<6->arr[ob+j]? =a.cells[j]?)/\(∀j,j<6->arr[ob+6+j]? =b.cells[j]?)
 |none=>e.len≠2/\∀da db,d≠.list [da,db]
theorem bind_at{G:Gh}{d:Dt}{e:Dl}(h:DRep G d e):∃o,BindP G d e o:=by
 cases h with
 |num e h h0 h1 hc=>exact⟨none,by have:=hc.1;show e.len≠2;omega,nofun⟩
 |bool e h hc=>exact⟨none,by have:=hc.1;show e.len≠2;omega,nofun⟩
 |str e h hz hc=>exact⟨none,by have:=hc.1;show e.len≠2;omega,nofun⟩
 |sym e h hz hc=>exact⟨none,by show e.len≠2;omega,nofun⟩
 |nil e h hl=>exact⟨none,by show e.len≠2;omega,nofun⟩
 |list e h l es g o arr hl hc hm ha hg hr hs=>
  match l,es,hs,hl,hr with
  |_,_,.nil,hl,hr=>exact⟨none,by simp at hl;omega,nofun⟩
  |_,_,.cons _ _ _ _ _ .nil,hl,hr=>exact⟨none,by simp at hl;omega,nofun⟩
  |_,_,.cons da _ ea _ h1 (.cons db _ eb _ h2 .nil),hl,hr=>
   refine⟨some (ea,eb),da,db,rfl,h1,h2,hl,g,o,arr,ha,hg,fun j hj=>by have:=hr 0 j ea rfl hj;simpa using this,fun j hj=>by have:=hr 1 j eb rfl hj;simpa using this⟩
  |_,_,.cons _ _ _ _ _ (.cons _ _ _ _ _ (.cons _ _ _ _ _ _)),hl,hr=>exact⟨none,by simp at hl;omega,nofun⟩
theorem qfx{G:Gh}:∀{bs:List Dt} {es:List Dl} {bd:Nat->Option (Dl×Dl)} {i:Nat},(∀(i:Nat) (d:Dt) (e:Dl),bs[i]? =some d->es[i]? =some e->BindP G d e (bd i))->bs.length=es.length->i<bs.length->bd i=none->bindings bs=none
 | [],_,_,i,_,_,h,_=>by simp at h
 |d::r,[],_,i,_,h,_,_=>by simp at h
 |d::r,e::es,bd,i,hp,hl,hi,hn=>by
  cases i with
  |zero=>
   have:=hp 0 d e rfl rfl;rw[hn]at this;have h2:=this.2;unfold bindings;split
   ·rename_i h;cases h
   ·rename_i h;cases h;exact absurd rfl (h2 _ _)
   ·rfl
  |succ i=>
   have ih:=qfx (bs:=r) (es:=es) (bd:=fun j=>bd (j+1)) (i:=i) (fun j d' e' h1 h2=>hp (j+1) d' e' (by simpa using h1) (by simpa using h2)) (by simpa using hl) (by simpa using hi) hn;unfold bindings;split
   ·rename_i h;cases h
   ·rename_i h;cases h;simp[ih]
   ·rfl
theorem qfw{G:Gh}:∀{bs:List Dt} {es:List Dl} {bd:Nat->Option (Dl×Dl)} {ns vs:List Dl},(∀(i:Nat) (d:Dt) (e:Dl),bs[i]? =some d->es[i]? =some e->BindP G d e (bd i))->bs.length=es.length->ns.length=bs.length->vs.length=bs.length->(∀(i:Nat) (a b:Dl),ns[i]? =some a->vs[i]? =some b->bd i=some (a,b))->
  ∃nD vD,bindings bs=some (nD,vD)/\DsRep G nD ns/\DsRep G vD vs/\membersL vD<=membersL bs
 | [],_,_,ns,vs,_,_,h1,h2,_=>by
  cases ns with
  |nil=>cases vs with
   |nil=>exact⟨[],[],rfl,.nil,.nil,Nat.le_refl _⟩
   |cons=>simp at h2
  |cons=>simp at h1
 |d::r,[],_,_,_,_,h,_,_,_=>by simp at h
 |d::r,e::es,bd,ns,vs,hp,hl,h1,h2,hb=>by
  match ns,vs,h1,h2,hb with
  | [],_,h1,_,_=>simp at h1
  |_::_,[],_,h2,_=>simp at h2
  |n::ns,v::vs,h1,h2,hb=>
   have h0:=hp 0 d e rfl rfl;rw[hb 0 n v rfl rfl]at h0;obtain⟨da,db,rfl,hda,hdb,_⟩:=h0;obtain⟨nD,vD,q1,q2,q3,q4⟩:=qfw (bs:=r) (es:=es) (bd:=fun j=>bd (j+1)) (ns:=ns) (vs:=vs) (fun j d' e' g1 g2=>hp (j+1) d' e' (by simpa using g1) (by simpa using g2)) (by simpa using hl) (by simpa using h1) (by simpa using h2) (fun j a b g1 g2=>hb (j+1) a b (by simpa using g1) (by simpa using g2));refine⟨da::nD,db::vD,by simp[bindings,q1],.cons _ _ _ _ hda q2,.cons _ _ _ _ hdb q3,?_⟩;simp only[membersL,members];omega
theorem qfu(l:List Dl)(i j:Nat)(x:Dl)(h:l[i]? =some x)(hj:j<6):(dlCells l)[i*6+j]? =x.cells[j]?:=by
 induction l generalizing i with
 |nil=>simp at h
 |cons a r ih=>
  have e6:a.cells.toList.length=6:=rfl;simp only[dlCells,List.flatMap_cons];cases i with
  |zero=>
   simp at h;subst h;rw[Nat.zero_mul,Nat.zero_add,List.getElem?_append_left (by rw[e6];exact hj)];simp
  |succ i=>
   have:=ih i (by simpa using h);rw[List.getElem?_append_right (by rw[e6];omega),e6,show(i+1)*6+j-6=i*6+j from by omega];exact this
theorem qkc{K:Rl}{X:Xe}{G G0:Gh}{S:Sub}{m:Mc}{x:Xs}{sc:Scope}{w0 w:World}{lo k nc:Nat}{na:Option Addr}{ns:List Dl}{nD:List Dt}(hlo:w0.heap.size<=lo)(ho:w.ownsRow lo 134 6 (.slice na k nc) k (dlCells ns))(hk:k<=30000)(hnl:ns.length=k)(hd:DsRep G nD ns)(g:Inv G S m w)(i:XInv K X G S x sc w)(mx:Mx X G0 w0 X G w)
  (hl:∀b,Value.ownBlock (.slice na k nc)=some b->LooseX X G b):
  ∃G1,G.le G1/\Inv G1 S m w/\XInv K X G1 S x sc w/\Mx X G0 w0 X G1 w/\DRow G1 na k nc nD/\(∀b,Value.ownBlock (.slice na k nc)≠some b->LooseX X G b->LooseX X G1 b):=by
 have hnD:nD.length=k:=by rw[<-hnl];exact hd.at.1
 rcases ho.2 with⟨hv,h0⟩|⟨q,cap,cur,hv,hb,hg,hc,hm,hsz,htk⟩
 ·cases hv;exact⟨G,Gh.le.refl G,g,i,mx,⟨ns,by omega,by omega,hd,Nat.zero_le _,by omega,fun h=>by omega⟩,fun b _ h=>h⟩
 ·cases hv;have hlq:=hl q rfl;have hle:=Gh.le_add (o:=.cells cur 134 (0,0)) hlq.I;refine⟨G.add q (.cells cur 134 (0,0)),hle,g.fix ⟨hlq.mu,hlq.F⟩ hlq.I hg,XInv.fix i hlq,mx.fix (Nat.le_trans hlo hb) hlq.I,⟨ns,by omega,by omega,hd.mono hle,hc,hk,fun _=>⟨q,0,cur,rfl,Gh.add_at _ _ _,fun i' j y hy hj=>?_⟩⟩,fun b hne hlb=>?_⟩
  ·have:=qfu ns i' j y hy hj;rw[<-htk,List.getElem?_take]at this;rw[Nat.zero_add];split at this
   ·simpa using this
   ·have hlt:j<y.cells.size:=hj;rw[Array.getElem?_eq_getElem hlt]at this;cases this
  ·have hbq:b≠q:=fun e=>hne (by rw[e];rfl)
   exact⟨by rw[qae _ hbq];exact hlb.I,hlb.mu,hlb.F,hlb.O,hlb.R⟩
theorem qr4{K:Rl}{S:Sub}{f:Nat}(ihL:LambdaS K S f)(ih:FormsS K S f)(X:Xe)(G:Gh)(m:Mc)(x:Xs)(sc:Scope)(w:World)(k:Int)(r:List Dt)(e:Dl)(A:At K X G S m x sc w [108,101,116] k r e)(hsc:sc.length+f<=1000000000)(hne:(keyword S (f+1) x sc .let' r).1≠.error 0):
  Calls prog 297 #[bp X.xb,.agg e.cells] w (XPost K X G S m sc w (keyword S (f+1) x sc .let' r)):=by
 have hrow:=A.d.row;have hW:=qcc A.g A.i A.d (s:=⟨#[108,101,116]⟩) A.kw.symm;obtain⟨xk,xn,xtr,xtx,xm,xa,xlen,xcap⟩:=e;have hrow:DRow G xa xlen xcap (.sym [108,101,116] k::r):=hrow;have hlen:xlen=r.length+1:=by obtain⟨es,h1,_⟩:=hrow;simpa using h1
 have hn:xlen<=30000:=by obtain⟨es,h1,h2,h3,h4,h5,h6⟩:=hrow;exact h5
 have hcp:xlen<=xcap:=by obtain⟨es,h1,h2,h3,h4,h5,h6⟩:=hrow;exact h4
 subst hlen;refine qjb X.xb 0 xk xn xtr xtx xm xa r.length xcap w _ (by omega) hW fun w1 hb1=>?_
 have g1:=A.g.below hb1;have i1:=A.i.below hb1;have bad':∀{rv:Except Nat Ex×Xs},rv=(.error 4,x)->∀w',Below w1.heap.size w1 w'->RQ (XPost K X G S m sc w rv) (.panicked (stopP (stopV 4))) w':=fun h w' hb=>(A.bad h w' (hb1.trans (hb.mono hb1.size))).rq
 match r,A,hrow,hW,hn,hcp,hne with
 | [],A,hrow,hW,hn,hcp,hne=>exact qfn X.xb 1 xcap xa w1 _ (by omega) (bad' rfl)
 | [_],A,hrow,hW,hn,hcp,hne=>
  refine qfn X.xb 2 xcap xa w1 _ (by omega) (bad' ?_);simp only[keyword]
 |d::b::r,A,hrow,hW,hn,hcp,hne=>
  simp only[List.length_cons]at hn hcp;obtain⟨gg,o,rfl,_,hc⟩:=hrow.cells (by simp);obtain⟨y,hy,hcy⟩:=hc 1 d rfl;obtain⟨yk,yn,ytr,ytx,ym,ya,ylen,ycap⟩:=y;have cy:=hcy S m w1 g1;have kind:yk≠4->keyword S (f+1) x sc .let' (d::b::r)=(.error 4,x)->Calls prog 337 #[bp X.xb,.slice (some ⟨gg,o,none⟩) (r.length+3) xcap] w1 (RQ (XPost K X G S m sc w (keyword S (f+1) x sc .let' (d::b::r)))):=fun h1 h2=>
   qjf X.xb gg o r.length xcap yk w1 _ (cy 0 (by omega)) h1 (by omega) (bad' h2)
  have hdr:=hrow.drop 2 (by simp);have hlr:(d::b::r).length+1-2=r.length+1:=by simp
  rw[hlr]at hdr;have hdr:DRow G (tlD gg o xcap 2) (r.length+1) (xcap-2) (b::r):=hdr;have hmb2:membersL (b::r)<=1000000000000:=by have:=A.mb;simp only[membersL]at this|-;omega
  have list:∀(bs:List Dt),d=.list bs->yk=4->∀es:List Dl,bs.length=es.length->(∀(i:Nat) (d:Dt) (e:Dl),bs[i]? =some d->es[i]? =some e->DRep G d e)->ylen=es.length->ylen<=30000->(∀(i j:Nat) (z:Dl),es[i]? =some z->j<6->∃q p,ya=some ⟨q,p,none⟩/\q<w1.heap.size/\w1.cell? ⟨q,p+i*6+j,none⟩=z.cells[j]?)->
    Calls prog 337 #[bp X.xb,.slice (some ⟨gg,o,none⟩) (r.length+3) xcap] w1 (RQ (XPost K X G S m sc w (keyword S (f+1) x sc .let' (d::b::r)))):=by
   intro bs hbs hk4 es hl1 hl2 hl3 hl4 hrw;subst hbs;obtain rfl:yk=4:=hk4;have hex:∀i:Nat,∃o:Option (Dl×Dl),∀(d:Dt) (e:Dl),bs[i]? =some d->es[i]? =some e->BindP G d e o:=fun i=>by
    cases hbi:bs[i]? with
    |none=>exact⟨none,fun d e h=>by cases h⟩
    |some d=>cases hei:es[i]? with
     |none=>exact⟨none,fun d e _ h=>by cases h⟩
     |some e=>
      obtain⟨o,ho⟩:=bind_at (hl2 i d e hbi hei);exact⟨o,fun d' e' h1 h2=>by cases h1;cases h2;exact ho⟩
   obtain⟨bd,hbd⟩:=Classical.axiomOfChoice hex;have hkw:keyword S (f+1) x sc .let' (.list bs::b::r)=match bindings bs with
    |none=>(.error 4,x)
    |some (ns,vs)=>match lambda S f x sc (.list ns) (b::r)with
     |(.error e,x)=>(.error e,x)
     |(.ok g,x)=>match forms S f x sc vs with
      |(.error e,x)=>(.error e,x)
      |(.ok vs,x)=>(.ok (.app g vs),x):=rfl
   refine qr5 X.xb G.mb gg o r.length xcap yn ytr ytx ym ya ylen ycap es bd w1 _ (by omega) (by omega) (cy 0 (by omega)) (cy 5 (by omega)) hl3 hl4 hrw (fun i z hz=>?_) (fun⟨i,hi,hni⟩=>?_) (fun wr na nc va vc ns vs hpr hrows=>?_)
   ·have hil:=(List.getElem?_eq_some_iff.1 hz).1;have hP:=hbd i bs[i] z (List.getElem?_eq_getElem (by omega)) hz;unfold BindIs;cases hb:bd i with
    |none=>rw[hb]at hP;exact hP.1
    |some ab=>
     obtain⟨a',b'⟩:=ab;rw[hb]at hP;obtain⟨da,db,_,_,_,h2,gb,ob,arr,h3,h4,h5,h6⟩:=hP;exact⟨h2,gb,ob,h3,g1.lt h4,fun j hj=>by rw[g1.cell h4];exact h5 j hj,fun j hj=>by rw[g1.cell h4];exact h6 j hj⟩
   ·exact bad' (by rw[hkw,qfx hbd hl1 (by omega) hni])
   ·obtain⟨hnl,hvl,hoN,hoV,hdis,hbw⟩:=hrows;obtain⟨nD,vD,hbind,hnD,hvD,hvm⟩:=qfw hbd hl1 (by omega) (by omega) hpr;rw[hbind]at hkw;have hbw':Below w.heap.size w wr:=hb1.trans (hbw.mono hb1.size);have gr:=A.g.below hbw';have ir:=A.i.below hbw';have loose:∀q,w1.heap.size<=q->LooseX X G q:=fun q hq=>LooseX.new A.g A.i (Nat.le_trans hb1.size hq)
    obtain⟨G1,le1,gr1,ir1,mx1,dr1,keep1⟩:=qkc hb1.size hoN (by omega) hnl hnD gr ir (Mx.ofBelow hbw') (fun q hq=>loose q (hoN.lt q hq).1);obtain⟨G2,le2,gr2,ir2,mx2,dr2,_⟩:=qkc hb1.size hoV (by omega) hvl (hvD.mono le1) gr1 ir1 mx1 (fun q hq=>keep1 q (fun e=>hdis q e hq) (loose q (hoV.lt q hq).1));have dN:DRep G2 (.list nD) ⟨4,0,false,⟨#[]⟩,0,na,ylen,nc⟩:=by
     obtain⟨es',q1,q2,q3,q4,q5,q6⟩:=dr1.mono le2;by_cases h0:0<ylen
     ·obtain⟨g',o',arr,e1,e2,e3⟩:=q6 h0;exact .list _ rfl nD es' g' o' arr q2 q4 q5 e1 e2 e3 q3
     ·have:nD=[]:=by cases nD with|nil=>rfl|cons=>simp at q1;omega
      subst this;exact .nil _ rfl (by show ylen=0;omega)
    have hlne:(lambda S f x sc (.list nD) (b::r)).1≠.error 0:=fun h=>by
     apply hne;rw[hkw];simp only;cases hfr:lambda S f x sc (.list nD) (b::r)with
     |mk fr fx=>rw[hfr]at h;have h:fr=.error 0:=h;subst h;rfl
    have leG:G.le G2:=le1.trans le2;intro w2 hb2;have key:=ihL X G2 m x sc w2 (.list nD) _ (b::r) _ _ _ (gr2.below hb2) (ir2.below hb2) dN (hdr.mono leG) hmb2 (by omega) hsc hlne;refine Calls.mono key ?_;rintro e' w3 (⟨vd,x',hv,rfl,hcn,hmt⟩|⟨Y,H,gx,x',v,hv,rfl,mx,g3,i3,hcr⟩)
    ·exact .inl ⟨_,rfl,.inl ⟨_,rfl,.inl ⟨vd,x',by rw[hkw];simp only[hv],rfl,hcn.up mx2.up,hmt⟩⟩⟩
    ·obtain⟨kc,cc,rfl,_⟩:=hcr.isF;have mx3:Mx X G w Y H w3:=(mx2.below hb2).trans mx;have e1:Y.xb=X.xb:=mx3.same.1;have hfne:(forms S f x' sc vD).1≠.error 0:=fun h=>by
      apply hne;rw[hkw];simp only[hv];cases hfr:forms S f x' sc vD with
      |mk fr fx=>rw[hfr]at h;have h:fr=.error 0:=h;subst h;rfl
     have hmv:membersL vD<=1000000000000:=by have:=A.mb;simp only[membersL,members]at this;omega
     have hDV:DRow H va ylen vc vD:=dr2.mono mx.up.le;have last:∀(W:World) (q0:Nat) (Z:Xe) (L:Gh) (x2:Xs) (exs:List Ex) (xs:List Value),forms S f x' sc vD=(.ok exs,x2)->XRep L (shOf sc) exs xs->xs.length=ylen->CRep L (shOf sc) gx (.func (.func kc) #[] cc)->Mx X G w Z L W->Inv L S m W->XInv K Z L S x2 sc W->w.heap.size<=q0->LooseX Z L q0->AppK X.xb G.mb (.func (.func kc) #[] cc) ylen xs (RQ (XPost K X G S m sc w (keyword S (f+1) x sc .let' (.list bs::b::r)))) q0 W:=by
      intro W q0 Z L x2 exs xs hfv hxr hxl hcg mxW gW iW hq0 hlq0 g6 cap6 w6 hg6 hat6 ho6;have g6I:Inv L S m w6:=gW.grown hg6 fun b hb=>by cases hb;exact⟨hlq0.I,hlq0.mu,hlq0.F⟩
      have i6:=iW.grown hlq0 hg6;have mx6:=mxW.grown hq0 hg6;have hl6:LooseX Z L g6:=by
       rcases hat6 with rfl|h
       ·exact hlq0
       ·exact LooseX.new gW iW h
      rcases ho6.2 with⟨hv6,_⟩|⟨g7,cap7,cur,hv6,hb6,hc6,hn6,hm6,hsz6,htk6⟩
      ·cases hv6
      ·cases hv6;have hw6:w.heap.size<=g6:=Nat.le_trans hq0 hb6;have le6:=Gh.le_add (o:=.cells cur 241 (0,0)) hl6.I;have g7:=g6I.fix ⟨hl6.mu,hl6.F⟩ hl6.I hc6;have i7:XInv K Z (L.add g6 (.cells cur 241 (0,0))) S x2 sc w6:=XInv.fix i6 hl6;have mx7:Mx X G w Z (L.add g6 (.cells cur 241 (0,0))) w6:=mx6.fix hw6 hl6.I;refine⟨i6.cell0 mx6 g6I,fun w7 hw7=>?_⟩;have hlx:(Value.func (.func kc) #[] cc::xs).length=1+ylen:=by simp[hxl];omega
       have hrI:RowI (L.add g6 (.cells cur 241 (0,0))) 241 (.slice (some ⟨g6,0,none⟩) (1+ylen) cap6) (.func (.func kc) #[] cc::xs):=by
        refine⟨g6,0,cap6,cur,by rw[hlx],Gh.add_at _ _ _,by rw[hlx];exact hn6,by rw[hlx];omega,fun j y hy=>?_⟩;have hy':([Value.func (.func kc) #[] cc]++xs)[j]? =some y:=hy;rw[<-htk6,List.getElem?_take]at hy';rw[Nat.zero_add];split at hy'
        ·simpa using hy'
        ·cases hy'
       have key:=app_mk (sh:=shOf sc) (f:=gx) (l:=exs) (Inv.lk hw7 g7) (by rw[hlx];omega) hrI (.cons _ _ _ _ _ (hcg.mono le6) (hxr.mono le6));have hmb':(L.add g6 (.cells cur 241 (0,0))).mb=G.mb:=mx7.up.le.mb;rw[hmb']at key;refine Calls.mono key fun e8 w8 h8=>?_
       obtain⟨v8,rfl,q1,_,q3⟩:=qc8 (rv:=keyword S (f+1) x sc .let' (.list bs::b::r)) (mx7.lk hw7) (i7.below (bl0 hw7)) h8 (by rw[hkw];simp only[hv,hfv]);exact .inr ⟨v8,rfl,q1,q3.rq⟩
     refine .inr ⟨_,rfl,kc,cc,rfl,i3.cell0 mx3 g3,fun w4 hw4=>?_,fun w4 hw4=>?_⟩
     ·have hb4:Below w3.heap.size w3 w4:=bl1 hw4;have key2:=ih Y H m x' sc w4 vD va ylen vc (g3.below hb4) (i3.below hb4) hDV hmv hsc hfne;rw[e1]at key2;refine Calls.mono key2 ?_;rintro e'' w5 (⟨vd,x2,hv2,rfl,hcn,hmt⟩|⟨Z,L,exs,x2,q,xs,hv2,rfl,hxl,hq,hqw,hlq,mx4,g5,i5,hxr⟩)
      ·exact .inl ⟨_,rfl,.inl ⟨_,rfl,.inl ⟨vd,x2,by rw[hkw];simp only[hv,hv2],rfl,hcn.up mx3.up,by rw[<-mx3.same.2.1];exact hmt⟩⟩⟩
      ·have mx5:Mx X G w Z L w5:=(mx3.below hb4).trans mx4;have hnew:w4.heap[w3.heap.size]? =some (.cells #[.func (.func kc) #[] cc] 241 (0,0)):=by rw[hw4.heap];exact heap_alloc_new _ _
       obtain⟨hl5,hk5⟩:=(LooseX.new g3 i3 (Nat.le_refl _)).mx mx4 (Array.getElem?_eq_some_iff.1 hnew).1;refine .inr ⟨_,rfl,xs,q,ylen,⟨rfl,hxl,i5.cell0 mx5 g5,fun j y hy=>by simp only[World.cell?,hq];simpa using hy,fun y hy=>?_⟩,by rw[hk5];exact hnew,last w5 w3.heap.size Z L x2 exs xs hv2 hxr hxl (hcr.mono mx4.up.le) mx5 g5 i5 mx3.size hl5⟩;obtain⟨kk,c',rfl⟩:=hxr.func y hy;rfl
     ·have hb4:Below w3.heap.size w3 w4:=bl0 hw4;have key2:=ih Y H m x' sc w4 vD va ylen vc (g3.below hb4) (i3.below hb4) hDV hmv hsc hfne;rw[e1]at key2;refine Calls.mono key2 ?_;rintro e'' w5 (⟨vd,x2,hv2,rfl,hcn,hmt⟩|⟨Z,L,exs,x2,q,xs,hv2,rfl,hxl,hq,hqw,hlq,mx4,g5,i5,hxr⟩)
      ·exact .inl ⟨_,rfl,.inl ⟨_,rfl,.inl ⟨vd,x2,by rw[hkw];simp only[hv,hv2],rfl,hcn.up mx3.up,by rw[<-mx3.same.2.1];exact hmt⟩⟩⟩
      ·have mx5:Mx X G w Z L w5:=(mx3.below hb4).trans mx4;have hb6:Below w5.heap.size w5 (w5.alloc (.cells #[.func (.func kc) #[] cc] 241)):=qab _ _;refine .inr ⟨_,rfl,xs,q,ylen,⟨rfl,hxl,i5.cell0 mx5 g5,fun j y hy=>by simp only[World.cell?,hq];simpa using hy,fun y hy=>?_⟩,last _ w5.heap.size Z L x2 exs xs hv2 hxr hxl (hcr.mono mx4.up.le) (mx5.below hb6) (g5.below hb6) (i5.below hb6) mx5.size (LooseX.new g5 i5 (Nat.le_refl _))⟩;obtain⟨kk,c',rfl⟩:=hxr.func y hy;rfl
  cases hy with
  |num e h=>exact kind (by have h:yk=0:=h;omega) rfl
  |bool e h=>exact kind (by have h:yk=1:=h;omega) rfl
  |str e h=>exact kind (by have h:yk=2:=h;omega) rfl
  |sym e h=>exact kind (by have h:yk=3:=h;omega) rfl
  |nil e h hl=>exact list [] rfl h [] rfl (fun i d e h=>by simp at h) hl (by have hl:ylen=0:=hl;omega) (fun i j y h=>by simp at h)
  |list e h ps es gg o arr hl hc hm ha hg hr hs=>
   obtain⟨hs1,hs2⟩:=hs.at;exact list ps rfl h es hs1 hs2 hl hm fun i' j y hy hj=>⟨gg,o,ha,g1.lt hg,by rw[g1.cell hg];exact hr i' j y hy hj⟩
end
section
open Sc
mutual
theorem qb9:∀d:Dt,parts d=members d+1
 | .num _=>rfl
 | .bool _=>rfl
 | .str _=>rfl
 | .sym _ _=>rfl
 | .list l=>by simp only[parts,members,qcu l];omega
theorem qcu:∀l:List Dt,partsL l=membersL l
 | []=>rfl
 |d::r=>by simp only[partsL,membersL,qb9 d,qcu r];omega
end
theorem qg2{S:Sub}{x:Xs}{mc:Macro}{r:List Dt}{sc:Scope}{d:Dt}{x1:Xs}{x2:Xs}(h:use S x mc r sc=(.ok (d,x1),x2)):parts d<=600:=by
 rw[use_eq]at h;split at h
 ·simp at h
 ·unfold useD at h;simp only at h;cases hf:mc.rules.findSome? (fun r'=>(matchL mc.lits sc r'.1 r).map (fun b=>(b,r'.2)))with
  |none=>rw[hf]at h;simp at h
  |some bt=>
   rw[hf]at h;simp only at h;cases hp:putT ((x.count+1:Nat):Int) bt.1 bt.2 with
   |none=>rw[hp]at h;simp at h
   |some d'=>
    rw[hp]at h;simp only at h;by_cases h6:parts d'<=600
    ·simp[h6]at h;obtain⟨⟨rfl,_⟩,_⟩:=h;exact h6
    ·simp[h6]at h
theorem qso{S:Sub}{f:Nat}{x:Xs}{sc:Scope}{t:Bs}{k:Int}{r:List Dt}{mc:Macro}(h:x.means (t,k) sc=.mac mc):form S (f+1) x sc (.list (.sym t k::r))=match use S x mc r sc with
  |(.error e,x)=>(.error e,x)
  |(.ok (d,x),_)=>form S f x sc d:=by
 simp only[form,h];rfl
theorem qhb(S:Sub):∀(f:Nat) (x:Xs) (sc:Scope) (d:Dt),(form S f x sc d).1≠.error 0->members d<=1000000000000->
  (∃j x' d',rewr S f x sc d=(.ok d',x')/\j+1<=f/\form S f x sc d=form S (j+1) x' sc d'/\(leadN x' sc d').1≠2/\members d'<=1000000000000)\/(∃vd x',rewr S f x sc d=(.error vd,x')/\form S f x sc d=(.error vd,x'))
 |0,x,sc,d,h,_=>absurd rfl h
 |f+1,x,sc,d,h,hm=>by
  by_cases h2:(leadN x sc d).1=2
  ·obtain⟨t,k,r,mc,rfl,hmeans,_,_⟩:=qgg h2;have e1:rewr S (f+1) x sc (.list (.sym t k::r))=match use S x mc r sc with
     |(.error e,x)=>(.error e,x)
     |(.ok (d,x),_)=>rewr S f x sc d:=by simp only[rewr,hmeans];rfl
   rw[qso hmeans]at h|-;rw[e1];cases hu:use S x mc r sc with
   |mk ur ux=>
    rw[hu]at h;cases ur with
    |error e=>exact .inr ⟨e,ux,rfl,rfl⟩
    |ok p=>
     obtain⟨d1,x1⟩:=p;simp only at h|-;have hp:=qg2 hu;rw[qb9]at hp;rcases qhb S f x1 sc d1 h (by omega)with⟨j,x',d',q1,q2,q3,q4,q5⟩|q
     ·exact .inl ⟨j,x',d',q1,by omega,q3,q4,q5⟩
     ·exact .inr q
  ·exact .inl ⟨f,x,d,qeq h2,Nat.le_refl _,rfl,h2,hm⟩
theorem qko{t:Bs}{k:Kw}(h:Kw.of t=some k):(k=.quote/\t=[113,117,111,116,101])\/(k=.ite/\t=[105,102])\/(k=.define/\t=[100,101,102,105,110,101])\/(k=.set/\t=[115,101,116,33])\/(k=.lambda/\t=[108,97,109,98,100,97])\/(k=.let'/\t=[108,101,116])\/(k=.begin/\t=[98,101,103,105,110])\/(k=.synx'/\t=[100,101,102,105,110,101,45,115,121,110,116,97,120]):=by
 unfold Kw.of at h;split at h
 ·rename_i e;cases h;exact .inl ⟨rfl,e⟩
 split at h
 ·rename_i e;cases h;exact .inr (.inl ⟨rfl,e⟩)
 split at h
 ·rename_i e;cases h;exact .inr (.inr (.inl ⟨rfl,e⟩))
 split at h
 ·rename_i e;cases h;exact .inr (.inr (.inr (.inl ⟨rfl,e⟩)))
 split at h
 ·rename_i e;cases h;exact .inr (.inr (.inr (.inr (.inl ⟨rfl,e⟩))))
 split at h
 ·rename_i e;cases h;exact .inr (.inr (.inr (.inr (.inr (.inl ⟨rfl,e⟩)))))
 split at h
 ·rename_i e;cases h;exact .inr (.inr (.inr (.inr (.inr (.inr (.inl ⟨rfl,e⟩))))))
 split at h
 ·rename_i e;cases h;exact .inr (.inr (.inr (.inr (.inr (.inr (.inr ⟨rfl,e⟩))))))
 ·cases h
theorem qfo{x:Xs}{sc:Scope}{t:Bs}{k:Int}{r:List Dt}(h:(leadN x sc (.list (.sym t k::r))).1≠2):(x.means (t,k) sc=.var/\kwN x sc (.list (.sym t k::r))=[])\/∃kk,Kw.of t=some kk/\x.means (t,k) sc=.kw kk/\kwN x sc (.list (.sym t k::r))=t:=by
 have hl:leadN x sc (.list (.sym t k::r))=(meanN x (t,k) sc,t):=rfl;rw[hl]at h;unfold kwN;rw[hl];unfold Xs.means;cases hf:find (t,k) sc with
 |some p=>exact .inl ⟨rfl,by simp[meanN,hf]⟩
 |none=>
  cases hk:Kw.of t with
  |some kk=>exact .inr ⟨kk,rfl,rfl,by simp[meanN,hf,hk]⟩
  |none=>
   cases hm:x.mcr t with
   |some mm=>exfalso;apply h;simp[meanN,hf,hk,hm]
   |none=>exact .inl ⟨rfl,by simp[meanN,hf,hk,hm]⟩
theorem list_of{K:Rl}{S:Sub}{j:Nat}(hall:∀i,i<j+1->FormS K S i/\FormsS K S i/\LambdaS K S i)(X:Xe)(G:Gh)(m:Mc)(x:Xs)(sc:Scope)(w:World)(l:List Dt)(e:Dl)(g:Inv G S m w)(i:XInv K X G S x sc w)(hd:DRep G (.list l) e)(hmb:members (.list l)<=1000000000000)(hsc:sc.length+(j+1)<=1000000000)(h2:(leadN x sc (.list l)).1≠2)(hne:(form S (j+1) x sc (.list l)).1≠.error 0):
  Calls prog 297 #[bp X.xb,.agg e.cells] w (XPost K X G S m sc w (form S (j+1) x sc (.list l))):=by
 have hmb:membersL l<=1000000000000:=hmb;have apps:∀l':List Dt,l'=l->l'≠[]->kwN x sc (.list l')=[]->form S (j+1) x sc (.list l')=app S j x sc l'->Calls prog 297 #[bp X.xb,.agg e.cells] w (XPost K X G S m sc w (form S (j+1) x sc (.list l'))):=by
  intro l' hl hnil hkw hf;subst hl;rw[hf]at hne|-;cases j with
  |zero=>exact absurd rfl hne
  |succ f=>exact qtg (hall f (by omega)).2.1 X G m x sc w l' e g i hd hmb hnil hkw (by omega) hne
 cases l with
 |nil=>
  have hlen:e.len=0:=by
   cases hd with
   |nil e h hl=>exact hl
   |list e h l es g o arr hl hc hm ha hg hr hs=>cases hs;exact hl
  obtain⟨xk,xn,xtr,xtx,xm,xa,xlen,xcap⟩:=e;obtain rfl:xlen=0:=hlen;exact qja X.xb xk xn xtr xtx xm xa xcap w _ fun w' hb=>XPost.bad g i rfl hb
 |cons d r=>
  cases d with
  |num v=>exact apps _ rfl nofun rfl rfl
  |bool v=>exact apps _ rfl nofun rfl rfl
  |str v=>exact apps _ rfl nofun rfl rfl
  |list v=>exact apps _ rfl nofun rfl rfl
  |sym t k=>
   rcases qfo h2 with⟨hm,hkw⟩|⟨kk,hk,hm,hkw⟩
   ·exact apps _ rfl nofun hkw (by simp only[form,hm])
   ·have hf:form S (j+1) x sc (.list (.sym t k::r))=keyword S j x sc kk r:=by simp only[form,hm]
    rw[hf]at hne|-;cases j with
    |zero=>exact absurd rfl hne
    |succ f=>
     have A:At K X G S m x sc w t k r e:=⟨g,i,hd,hkw,by simp only[membersL,members]at hmb;omega⟩;have hs:sc.length+f<=1000000000:=by omega
     obtain⟨h1,h3,h4⟩:=hall f (by omega);rcases qko hk with⟨rfl,rfl⟩|⟨rfl,rfl⟩|⟨rfl,rfl⟩|⟨rfl,rfl⟩|⟨rfl,rfl⟩|⟨rfl,rfl⟩|⟨rfl,rfl⟩|⟨rfl,rfl⟩
     ·exact qlo f X G m x sc w k r e A
     ·exact if_case h3 X G m x sc w k r e A hs hne
     ·have hrow:=A.d.row;have hW:=qcc A.g A.i A.d (s:=⟨#[100,101,102,105,110,101]⟩) A.kw.symm;obtain⟨xk,xn,xtr,xtx,xm,xa,xlen,xcap⟩:=e;have hlen:xlen=r.length+1:=by obtain⟨es,h1,_⟩:=hrow;simpa using h1
      have hn:xlen<=30000:=by obtain⟨es,h1,h2,h3,h4,h5,h6⟩:=hrow;exact h5
      subst hlen;exact qfa X.xb 0 xk xn xtr xtx xm xa r.length xcap w _ (by omega) hW (A.bad (by simp only[keyword]))
     ·exact qrb h1 X G m x sc w k r e A hs hne
     ·exact qjh h4 X G m x sc w k r e A hs hne
     ·exact qr4 h4 h3 X G m x sc w k r e A hs hne
     ·exact qm4 h3 X G m x sc w k r e A hs hne
     ·have hrow:=A.d.row;have hW:=qcc A.g A.i A.d (s:=⟨#[100,101,102,105,110,101,45,115,121,110,116,97,120]⟩) A.kw.symm;obtain⟨xk,xn,xtr,xtx,xm,xa,xlen,xcap⟩:=e;have hlen:xlen=r.length+1:=by obtain⟨es,h1,_⟩:=hrow;simpa using h1
      have hn:xlen<=30000:=by obtain⟨es,h1,h2,h3,h4,h5,h6⟩:=hrow;exact h5
      subst hlen;exact qe8 X.xb 0 xk xn xtr xtx xm xa r.length xcap w _ (by omega) hW (A.bad (by simp only[keyword]))
end
section
open Sc
theorem qgs{K:Rl}{X:Xe}{G H:Gh}{S:Sub}{m:Mc}{x x':Xs}{sc:Scope}{w w1 w2 W:World}{e e2:Dl}(g:Inv G S m w)(i:XInv K X G S x sc w)(hw1:Lk (w.alloc (.cells e.cells 134)) w1)(mx:Mx X G w1 X H w2)(g2:Inv H S m w2)(i2:XInv K X H S x' sc w2)
  (hW:Lk (set6 w2 w.heap.size (.int .i64 e2.k) (.int .i64 e2.n) (.bool e2.tr) (.string e2.tx) (.int .i64 e2.m) (.slice e2.a e2.len e2.cap)) W):w2.heap[w.heap.size]? =some (.cells e.cells 134 (0,0))/\Inv H S m W/\XInv K X H S x' sc W/\Mx X G w X H W:=by
 have hnew:w1.heap[w.heap.size]? =some (.cells e.cells 134 (0,0)):=by rw[hw1.heap];exact heap_alloc_new _ _
 obtain⟨hl,hk⟩:=(LooseX.new g i (Nat.le_refl _)).mx mx (Array.getElem?_eq_some_iff.1 hnew).1;have hb1:Below w.heap.size w w1:=bl1 hw1;have mx2:Mx X G w X H w2:=(Mx.ofBelow hb1).trans mx;refine⟨by rw[hk];exact hnew,Inv.lk hW (qrc g2 hl.I hl.mu hl.F),(set6_x i2 hl.O hl.R).below (bl0 hW),?_⟩;have m6:Mx X G w X H (set6 w2 w.heap.size (.int .i64 e2.k) (.int .i64 e2.n) (.bool e2.tr) (.string e2.tx) (.int .i64 e2.m) (.slice e2.a e2.len e2.cap)):=(((((mx2.set (Nat.le_refl _)).set (Nat.le_refl _)).set (Nat.le_refl _)).set (Nat.le_refl _)).set (Nat.le_refl _)).set (Nat.le_refl _);exact m6.lk hW
theorem DRep.kind{G:Gh}{d:Dt}{e:Dl}(h:DRep G d e):(e.k=3/\d=.sym e.tx.data.toList e.m)\/(e.k=4/\∃l,d=.list l)\/(e.k≠3/\e.k≠4/\(∀t m,d≠.sym t m)/\(∀l,d≠.list l)):=by
 cases h with
 |num e h=>exact .inr (.inr ⟨by omega,by omega,nofun,nofun⟩)
 |bool e h=>exact .inr (.inr ⟨by omega,by omega,nofun,nofun⟩)
 |str e h=>exact .inr (.inr ⟨by omega,by omega,nofun,nofun⟩)
 |sym e h=>exact .inl ⟨h,rfl⟩
 |nil e h=>exact .inr (.inl ⟨h,[],rfl⟩)
 |list e h l=>exact .inr (.inl ⟨h,l,rfl⟩)
theorem form_of{K:Rl}{S:Sub}(hR:SimRewr K S){f:Nat}(hall:∀i,i<f->FormS K S i/\FormsS K S i/\LambdaS K S i):FormS K S f:=by
 intro X G m x sc w d e g i hd hmb hsc hne;have hrf:=qhb S f x sc d hne hmb;obtain⟨xk,xn,xtr,xtx,xm,xa,xlen,xcap⟩:=e;have hxb:X.xb<w.heap.size:=g.lt i.xe;refine qpb X.xb G.mb xk xn xtr xtx xm xa xlen xcap w _ hxb fun w1 hw1=>?_
 have hb1:Below w.heap.size w w1:=bl1 hw1;have hrne:(rewr S f x sc d).1≠.error 0:=by
  rcases hrf with⟨j,x',d',h1,_⟩|⟨vd,x',h1,h2⟩
  ·rw[h1];exact nofun
  ·rw[h2]at hne;rw[h1];exact fun h=>hne (by cases h;rfl)
 refine Calls.mono (hR X G m x sc w1 d _ f (g.below hb1) (i.below hb1) hd hrne) ?_;rintro e' w2 (⟨H,d',x',e2,hrv,rfl,mx,g2,i2,hd2⟩|⟨vd,x',hrv,rfl,hc,hmt⟩)
 ·rcases hrf with⟨j,x1,d1,h1,hj,hform,hlead,hmem⟩|⟨vd,x1,h1,h2⟩
  ·rw[h1]at hrv;obtain⟨rfl,rfl⟩:d1=d'/\x1=x':=by simpa using hrv
   rw[hform]at hne|-;have hbox:=(qgs (e2:=e2) g i hw1 mx g2 i2 ⟨rfl,rfl,rfl,rfl⟩).1;refine .inr ⟨_,rfl,e2,rfl,hbox,?_,fun W hW=>?_⟩
   ·exact i2.cell0 mx g2
   ·obtain⟨_,gW,iW,mxW⟩:=qgs g i hw1 mx g2 i2 hW;refine⟨fun hk W' hb=>?_,fun hk=>?_,fun h3 h4=>?_⟩
    ·rcases hd2.kind with⟨_,rfl⟩|⟨h,_⟩|⟨h,_⟩
     ·have gW':=gW.below hb;have iW':=iW.below hb;refine Calls.mono (var_inv gW' iW' e2.tx e2.m) ?_;intro e6 w6 h6;have hfv:form S (j+1) x1 sc (.sym e2.tx.data.toList e2.m)=(match varEx x1 (e2.tx.data.toList,e2.m) sc with|some e=>.ok e|none=>.error 4,x1):=rfl;cases hv:varEx x1 (e2.tx.data.toList,e2.m) sc with
      |some ex=>
       rw[hv]at h6;exact qn1 (mxW.below hb) iW' h6 (by rw[hfv,hv])
      |none=>
       rw[hv]at h6;obtain⟨rfl,hb6⟩:=h6;refine .inl ⟨_,rfl,XPost.from (mxW.below hb) (XPost.bad gW' iW' (by rw[hfv,hv]) hb6)⟩
     ·omega
     ·exact absurd hk h
    ·rcases hd2.kind with⟨h,_⟩|⟨_,l,rfl⟩|⟨_,h,_⟩
     ·omega
     ·have key:=list_of (j:=j) (fun i hi=>hall i (by omega)) X H m x1 sc W l e2 gW iW hd2 hmem (by omega) hlead hne;exact Calls.mono key fun e6 w6 h6=>(XPost.from mxW h6).rq
     ·exact absurd hk h
    ·have hq:form S (j+1) x1 sc d1=(.ok (.quo d1),x1):=by
      cases d1 with
      |num v=>rfl
      |bool v=>rfl
      |str v=>rfl
      |sym t k=>rcases hd2.kind with⟨h,_⟩|⟨_,l,h⟩|⟨_,_,h,_⟩;exact absurd h h3;cases h;exact absurd rfl (h _ _)
      |list l=>rcases hd2.kind with⟨_,h⟩|⟨h,_⟩|⟨_,_,_,h⟩;cases h;exact absurd h h4;exact absurd rfl (h _)
     have key:=qky (sh:=shOf sc) gW hd2 hmem;rw[mxW.up.le.mb]at key;exact Calls.mono key fun e6 w6 h6=>qn1 mxW iW h6 hq
  ·rw[h1]at hrv;simp at hrv
 ·rcases hrf with⟨j,x1,d1,h1,_⟩|⟨vd1,x1,h1,h2⟩
  ·rw[h1]at hrv;simp at hrv
  ·rw[h1]at hrv;obtain⟨rfl,rfl⟩:vd1=vd/\x1=x':=by simpa using hrv
   exact .inl ⟨_,rfl,.inl ⟨vd1,x1,h2,rfl,hc,hmt⟩⟩
theorem all_of{K:Rl}{S:Sub}(hR:SimRewr K S):∀f,FormS K S f/\FormsS K S f/\LambdaS K S f:=by
 intro f;induction f using Nat.strongRecOn with
 |ind f ih=>
  refine⟨form_of hR ih,forms_of fun j hj=>(ih j hj).1,?_⟩;cases f with
  |zero=>intro X G m x sc w p e l a len cap _ _ _ _ _ _ _ h;exact absurd rfl h
  |succ f=>exact qox (ih f (by omega)).2.1
end
end Go.Proofs.YtldaocpojcfljaaGreatDoor
