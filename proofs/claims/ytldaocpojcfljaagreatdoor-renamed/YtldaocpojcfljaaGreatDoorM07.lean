import Derived.Test.YtldaocpojcfljaaGreatDoorM06
set_option maxRecDepth 100000
set_option maxHeartbeats 4000000
namespace Go.Proofs.YtldaocpojcfljaaGreatDoor
open Tryz hiding parts
open Go.RowKit Go.Shelf
open Sc
variable {G G0 H:Gh}{K:Rl}{S:Sub}{T b f k n q:Nat}{W w w' w0 w1 w2:Wd}{X Y:Xe}{br:Option Nat}{e:Dl}{e':En}{m:Mc}{x x':Xs}
theorem XInv.keep{sc:qaj}(i:XInv K X G S x sc w)(k:∀b,b<w.heap.size->(b∈[X.rb,X.mm,X.ab,X.bm]\/X.Rw b)->w'.heap[b]? =w.heap[b]?)(l:w.heap.size<=w'.heap.size):XInv K X G S x sc w':=by
 have d:∀b,b∈[X.rb,X.mm,X.ab,X.bm]->w'.heap[b]? =w.heap[b]?:=λb e=>k b (eW (i.lo b e).2.2.1 i.sl) (.inl e)
 obtain⟨L,f,a⟩:=i.bd;obtain⟨es,c,M,g,h,j⟩:=i.mc;refine⟨i.xe,i.mt.keep (d _ (by simp)),i.ml,by rw[d _ (by simp)];exact i.ab,⟨L,⟨by rw[d _ (by simp)];exact f.1,f.2.1,λp m=>qbr (f.2.2.1 p m) λq o=>?_,f.2.2.2⟩,a⟩,λb e=>?_,⟨es,c,M,by rw[d _ (by simp)];exact g,h,j⟩,i.lo,i.nd,eT i.sl l,i.sz⟩
 ·have n:q∈own L:=List.mem_filterMap.2 ⟨p,m,o⟩;exact k q (i.rr q (a q n)).2.2.2.1 (.inr (a q n))
 ·obtain⟨r,s,t,u,v⟩:=i.rr b e;exact⟨r,s,t,eW u l,v⟩
theorem XInv.grown{sc:qaj}(i:XInv K X G S x sc w)(a:LooseX X G q)(c:w.grownBy w' (some q)):XInv K X G S x sc w':=
 i.keep (λb d f=>c.block b d λe=>by
  cases e;exact f.elim a.O a.R) c.size
theorem Mx.grown{w3:Wd}(mx:Mx X G w Y H w2)(g:w.heap.size<=q)(a:w2.grownBy w3 (some q)):Mx X G w Y H w3:=
 ⟨mx.same,mx.up,mx.I,mx.mu,mx.rw,fun {k} b c d f=>by rw[a.block k (eW b mx.size) (λe=>by cases e;omega)];exact mx.blk b c d f,eT mx.size a.size⟩
theorem qr6{xs:List Vu}(a:xs.length=n)(c:n<=90000)(b:w.heap[q]? =some (.cells xs.toArray 241 (0,0))):w.ownsRow q 241 1 (.slice (some ⟨q,0,none⟩) n n) n xs:=
 ⟨by omega,.inr ⟨q,n,xs.toArray,rfl,eR _,b,eR _,by unfold maxLen;omega,by simp[a],by subst a;simp⟩⟩
theorem q0l(ih:qek K S f)(X:Xe)(G:Gh)(m:Mc)(x:Xs)(sc:qaj)(w:Wd)(k:Int)(r:List Dt)(e:Dl)(A:At K X G S m x sc w [105,102] k r e)(a6:sc.length+f<=1000000000)(hne:(qar S (f+1) x sc .ite r).1≠.error 0):
  Calls prog 297 #[bp X.xb,.agg e.cells] w (XPost K X G S m sc w (qar S (f+1) x sc .ite r)):=by
 have n:=A.d.row;have M:=qfo A.g A.i A.d (s:=⟨#[105,102]⟩) A.kw.symm;obtain⟨xk,xn,a7,a8,xm,T,z,xcap⟩:=e;have n:DRow G T z xcap (.sym [105,102] k::r):=n;have U:z=r.length+1:=by obtain⟨es,J,_⟩:=n;simpa using J
 have R:z<=30000:=by obtain⟨es,J,V,h3,h4,h5,h6⟩:=n;exact h5
 have y:z<=xcap:=by obtain⟨es,J,V,h3,h4,h5,h6⟩:=n;exact h4
 subst U;refine qm2 X.xb 0 xk xn a7 a8 xm T r.length xcap w _ (by omega) M λw1 C=>?_
 have bad:r.length+1≠3->r.length+1≠4->qar S (f+1) x sc .ite r=(.error 4,x)->Calls prog 335 #[bp X.xb,.slice T (r.length+1) xcap] w1 (RQ (XPost K X G S m sc w (qar S (f+1) x sc .ite r))):=λJ V h3=>by
  refine qj1 X.xb (r.length+1) xcap T w1 _ J V λw' hb=>?_
  exact(A.bad h3 w' (C.trans (hb.mono C.size))).rq
 have p:∀(hr:r.length=2\/r.length=3) (mk:List Ex->Except Nat Ex),(qar S (f+1) x sc .ite r=match qbb S f x sc r with|(.ok l,x)=>(mk l,x)|(.error e,x)=>(.error e,x))->
   (∀(H:Gh) (u:List Ex) (xs:List Vu),XRep H (qdu sc) u xs->xs.length=r.length->∃N x1 x2 c t o,(xs++[.func (.func 235) #[] #[]])[0]? =some N/\(xs++[.func (.func 235) #[] #[]])[1]? =some x1/\(xs++[.func (.func 235) #[] #[]])[2]? =some x2/\CRep H (qdu sc) c N/\CRep H (qdu sc) t x1/\ORep H (qdu sc) o x2/\mk u=.ok (.ite c t o))->
   Calls prog 335 #[bp X.xb,.slice T (r.length+1) xcap] w1 (RQ (XPost K X G S m sc w (qar S (f+1) x sc .ite r))):=by
  intro hr mk O a9;obtain⟨gg,o,rfl,_,_⟩:=n.cells (by omega);have W:=n.drop 1 (by omega);simp only[Nat.add_sub_cancel,List.drop_succ_cons,List.drop_zero]at W;have Z:(qbb S f x sc r).1≠.error 0:=λh=>by
   apply hne;rw[O];cases hfr:qbb S f x sc r with
   |mk fr fx=>rw[hfr]at h;have h:fr=.error 0:=h;subst h;rfl
  have g1:=A.g.below C;have i1:=A.i.below C;refine qnm X.xb G.mb gg o r.length xcap w1 _ (i1.cell0 (Mx.refl X G w1) g1) hr y λw2 b0=>?_
  have B:Below w.heap.size w w2:=C.trans (b0.mono C.size);refine Calls.mono (ih X G m x sc w2 r _ r.length _ (A.g.below B) (A.i.below B) W A.mb a6 Z) ?_;rintro e' w3 (⟨vd,x',hv,rfl,hc,b1⟩|⟨Y,H,u,x',q,xs,hv,rfl,j,hq,b2,L,mx,g2,i2,D⟩)
  ·exact .inl ⟨_,rfl,.inl ⟨_,rfl,.inl ⟨vd,x',by rw[O,hv],rfl,hc,b1⟩⟩⟩
  ·have b3:Mx X G w Y H w3:=(Mx.ofBelow B).trans mx;obtain⟨N,x1,x2,c,t,oo,e0,e1,e2,a0,a1,a2,a3⟩:=a9 H u xs D j;obtain⟨k0,d0,rfl,_⟩:=a0.isF;obtain⟨k1,d1,rfl,_⟩:=a1.isF;obtain⟨k2,d2,rfl,_⟩:=a2.isF;refine .inr ⟨_,rfl,some ⟨q,0,none⟩,r.length,q,k0,k1,k2,d0,d1,d2,xs,rfl,qr6 j (by omega) hq,Nat.le_of_lt (eE.1 hq).1,e0,e1,e2,λw4 E=>?_⟩;have a4:w.heap.size<=q:=eT B.size b2;have E:w3.grownBy w4 (some q):=E;have g4:Inv H S m w4:=g2.grown E λb hb=>by cases hb;exact⟨L.I,L.mu,L.F⟩
   have i4:=i2.grown L E;have P:=b3.grown a4 E;refine⟨i4.cell0 P g4,λw5 Q=>?_⟩;have a5:=q42 (sh:=qdu sc) (c:=c) (t:=t) (o:=oo) (Inv.lk Q g4) a0 a1 a2;rw[P.up.le.mb]at a5;refine Calls.mono a5 λe6 w6 h6=>?_
   have:=qr5 (rv:=qar S (f+1) x sc .ite r) (P.lk Q) (i4.below (bl0 Q)) h6 (by rw[O,hv];simp only[a3]);exact RQ.of this (by rcases this with⟨ps,rfl,_⟩|⟨v,rfl,_⟩;exact .inr ⟨_,rfl⟩;exact .inl ⟨_,rfl⟩)
 match r,A,n,M,R,y,hne,bad,p with
 | [],A,n,M,R,y,hne,bad,p=>exact bad (by simp) (by simp) rfl
 | [_],A,n,M,R,y,hne,bad,p=>exact bad (by simp) (by simp) rfl
 | [a,b],A,n,M,R,y,hne,bad,p=>
  refine p (.inl rfl) (λl=>match l with| [a,b]=>.ok (.ite a b none)|_=>.error 4) ?_ ?_
  ·show((match qbb S f x sc [a,b]with|(.ok [a,b],x)=>(.ok (.ite a b none),x)|(.ok _,x)=>(.error 4,x)|(.error e,x)=>(.error e,x)):Except Nat Ex×Xs)=_;cases qbb S f x sc [a,b]with
   |mk fr fx=>
    cases fr with
    |error e=>rfl
    |ok l=>match l with
     | []=>rfl
     | [_]=>rfl
     | [_,_]=>rfl
     |_::_::_::_=>rfl
  ·intro H u xs D j
   match u,xs,D,j with
   |_,_,.nil _,j=>simp at j
   |_,_,.cons _ _ _ _ _ _ (.nil _),j=>simp at j
   |_,_,.cons _ e0 _ N _ h0 (.cons _ e1 _ x1 _ J (.nil _)),j=>exact⟨N,x1,_,e0,e1,none,rfl,rfl,rfl,h0,J,.none _,rfl⟩
   |_,_,.cons _ _ _ _ _ _ (.cons _ _ _ _ _ _ (.cons _ _ _ _ _ _ _)),j=>simp at j
 | [a,b,c],A,n,M,R,y,hne,bad,p=>
  refine p (.inr rfl) (λl=>match l with| [a,b,c]=>.ok (.ite a b (some c))|_=>.error 4) ?_ ?_
  ·show((match qbb S f x sc [a,b,c]with|(.ok [a,b,c],x)=>(.ok (.ite a b (some c)),x)|(.ok _,x)=>(.error 4,x)|(.error e,x)=>(.error e,x)):Except Nat Ex×Xs)=_;cases qbb S f x sc [a,b,c]with
   |mk fr fx=>
    cases fr with
    |error e=>rfl
    |ok l=>match l with
     | []=>rfl
     | [_]=>rfl
     | [_,_]=>rfl
     | [_,_,_]=>rfl
     |_::_::_::_::_=>rfl
  ·intro H u xs D j
   match u,xs,D,j with
   |_,_,.nil _,j=>simp at j
   |_,_,.cons _ _ _ _ _ _ (.nil _),j=>simp at j
   |_,_,.cons _ _ _ _ _ _ (.cons _ _ _ _ _ _ (.nil _)),j=>simp at j
   |_,_,.cons _ e0 _ N _ h0 (.cons _ e1 _ x1 _ J (.cons _ e2 _ x2 _ V (.nil _))),j=>exact⟨N,x1,x2,e0,e1,some e2,rfl,rfl,rfl,h0,J,.some _ _ _ V,rfl⟩
   |_,_,.cons _ _ _ _ _ _ (.cons _ _ _ _ _ _ (.cons _ _ _ _ _ _ (.cons _ _ _ _ _ _ _))),j=>simp at j
 |a::b::c::d::r',A,n,M,R,y,hne,bad,p=>exact bad (by simp) (by simp) rfl
theorem qv4{x:Xs}{sc:qaj}{t:Bs}{k:Int}:(∃u n,find (t,k) sc=some (u,n)/\qb2 x (t,k) sc=0/\qc7 x (t,k) sc=some (.loc u n))\/(find (t,k) sc=none/\qb2 x (t,k) sc=3/\qc7 x (t,k) sc=some (.glo t))\/(find (t,k) sc=none/\qb2 x (t,k) sc≠0/\qb2 x (t,k) sc≠3/\qc7 x (t,k) sc=none):=by
 cases hf:find (t,k) sc with
 |some p=>exact .inl ⟨p.1,p.2,rfl,by simp[qb2,hf],by simp[qc7,Xs.means,hf]⟩
 |none=>
  right;cases hk:Kw.of t with
  |some a=>exact .inr ⟨rfl,by simp[qb2,hf,hk],by simp[qb2,hf,hk],by simp[qc7,Xs.means,hf,hk]⟩
  |none=>
   cases hm:x.mcr t with
   |some b=>exact .inr ⟨rfl,by simp[qb2,hf,hk,hm],by simp[qb2,hf,hk,hm],by simp[qc7,Xs.means,hf,hk,hm]⟩
   |none=>exact .inl ⟨rfl,by simp[qb2,hf,hk,hm],by simp[qc7,Xs.means,hf,hk,hm]⟩
theorem qvl(ih:qq8 K S f)(X:Xe)(G:Gh)(m:Mc)(x:Xs)(sc:qaj)(w:Wd)(k:Int)(r:List Dt)(e:Dl)(A:At K X G S m x sc w [115,101,116,33] k r e)(b4:sc.length+f<=1000000000)(hne:(qar S (f+1) x sc .set r).1≠.error 0):
  Calls prog 297 #[bp X.xb,.agg e.cells] w (XPost K X G S m sc w (qar S (f+1) x sc .set r)):=by
 have l:=A.d.row;have hW:=qfo A.g A.i A.d (s:=⟨#[115,101,116,33]⟩) A.kw.symm;obtain⟨xk,xn,b5,b6,xm,xa,P,p⟩:=e;have l:DRow G xa P p (.sym [115,101,116,33] k::r):=l;have b1:P=r.length+1:=by obtain⟨es,N,_⟩:=l;simpa using N
 have hn:P<=30000:=by obtain⟨es,N,h2,W,h4,h5,h6⟩:=l;exact h5
 subst b1;refine qm0 X.xb 0 xk xn b5 b6 xm xa r.length p w _ (by omega) hW λw1 E=>?_
 have Q:∀{rv:Except Nat Ex×Xs},rv=(.error 4,x)->∀w',Below w1.heap.size w1 w'->RQ (XPost K X G S m sc w rv) (.panicked (qan (qap 4))) w':=λh w' Z=>(A.bad h w' (E.trans (Z.mono E.size))).rq
 have bad:r.length+1≠3->qar S (f+1) x sc .set r=(.error 4,x)->Calls prog 336 #[bp X.xb,.slice xa (r.length+1) p] w1 (RQ (XPost K X G S m sc w (qar S (f+1) x sc .set r))):=λN W=>qj8 X.xb (r.length+1) p xa w1 _ N (Q W)
 match r,A,l,hW,hn,hne,bad with
 | [],A,l,hW,hn,hne,bad=>exact bad (by simp) rfl
 | [_],A,l,hW,hn,hne,bad=>exact bad (by simp) rfl
 |_::_::_::_,A,l,hW,hn,hne,bad=>exact bad (by simp) rfl
 | [v,a],A,l,hW,hn,hne,bad=>
  obtain⟨gg,o,rfl,_,hc⟩:=l.cells (by simp);obtain⟨y,hy,b7⟩:=hc 1 v rfl;obtain⟨z,hz,b8⟩:=hc 2 a rfl;obtain⟨yk,yn,a0,c,C,ya,I,J⟩:=y;obtain⟨zk,zn,a3,a4,zm,za,R,T⟩:=z;have g1:=A.g.below E;have i1:=A.i.below E;have q:=b7 S m w1 g1;have O:=b8 S m w1 g1;have a5:qar S (f+1) x sc .set [v,a]=match (q30 v).bind (λi=>qc7 x i sc)with
   |none=>(.error 4,x)
   |some t=>match form S f x sc a with
    |(.error e,x)=>(.error e,x)
    |(.ok a,x)=>(match t with| .loc u n=>.ok (.setL u n a)| .glo s=>.ok (.setG s a)|_=>.error 4,x):=rfl
  have D:yk≠3->q30 v=none->Calls prog 336 #[bp X.xb,.slice (some ⟨gg,o,none⟩) 3 p] w1 (RQ (XPost K X G S m sc w (qar S (f+1) x sc .set [v,a]))):=λN h2=>
   qh9 X.xb gg o p yk yn a0 c C ya I J w1 _ (q 0 (by omega)) (q 1 (by omega)) (q 2 (by omega)) (q 3 (by omega)) (q 4 (by omega)) (q 5 (by omega)) N (Q (by rw[a5,h2];rfl))
  have b9:qaf a<=1000000000000:=eT (qem [v,a] (by simp)) A.mb;cases hy with
  |num e h=>exact D (by have h:yk=0:=h;omega) rfl
  |bool e h=>exact D (by have h:yk=1:=h;omega) rfl
  |str e h=>exact D (by have h:yk=2:=h;omega) rfl
  |nil e h=>exact D (by have h:yk=4:=h;omega) rfl
  |list e h=>exact D (by have h:yk=4:=h;omega) rfl
  |sym e h c5 c6=>
   obtain rfl:yk=3:=h;have hM:∀w',Below w1.heap.size w1 w'->Calls prog 318 #[bp X.xb,idV c C] w' λe w2=>e=.returned (.tuple #[.int .i64 (qb2 x (c.data.toList,C) sc),qef (c.data.toList,C) sc])/\Below w'.heap.size w' w2:=λw' Z=>qjj (g1.below Z) (i1.below Z) c C
   have b2:q30 (.sym c.data.toList C)=some (c.data.toList,C):=rfl;have a2:∀(t:Ex) (a1:Ex->Ex),qc7 x (c.data.toList,C) sc=some t->(∀b,(match t with| .loc u n=>.ok (.setL u n b)| .glo s=>.ok (.setG s b)|_=>.error 4)=(.ok (a1 b):Except Nat Ex))->∀(F:Nat) (args:Vu->Array Vu),
     (∀(H:Gh) (w':Wd) (b:Ex) (L:Vu),G.le H->Inv H S m w'->CRep H (qdu sc) b L->Calls prog F (args L) w' (Made H S m w' (qdu sc) (a1 b)))->
     ∀w',Below w1.heap.size w1 w'->Calls prog 236 #[bp X.xb,.agg (Dl.cells ⟨zk,zn,a3,a4,zm,za,R,T⟩)] w' (RetP (λL w2=>∃kc cc,L=.func (.func kc) #[] cc/\w2.cell? ⟨X.xb,0,none⟩=some (bp G.mb)/\(∀b,w1.heap.size<=b->b<w'.heap.size->w2.heap[b]? =w'.heap[b]?)/\∀w3,Lk w2 w3->Calls prog F (args L) w3 (RQ (RQ (XPost K X G S m sc w (qar S (f+1) x sc .set [.sym c.data.toList C,a]))))) (RQ (XPost K X G S m sc w (qar S (f+1) x sc .set [.sym c.data.toList C,a])))):=by
    intro t a1 B c0 F args hF w' Z;have a6:Below w.heap.size w w':=E.trans (Z.mono E.size);have U:qar S (f+1) x sc .set [.sym c.data.toList C,a]=match form S f x sc a with
      |(.error e,x)=>(.error e,x)
      |(.ok a,x)=>(.ok (a1 a),x):=by
     rw[a5,b2];simp only[Option.bind_some,B];cases form S f x sc a with
     |mk fr fx=>cases fr with
      |error e=>rfl
      |ok b=>simp only[c0]
    have b3:(form S f x sc a).1≠.error 0:=λh=>by
     apply hne;rw[U];cases hfr:form S f x sc a with
     |mk fr fx=>rw[hfr]at h;have h:fr=.error 0:=h;subst h;rfl
    refine Calls.mono (ih X G m x sc w' a _ (A.g.below a6) (A.i.below a6) hz b9 b4 b3) ?_;rintro e' w2 (⟨vd,x',hv,rfl,c1,c2⟩|⟨Y,H,ex,x',L,hv,rfl,mx,g2,i2,M⟩)
    ·exact .inl ⟨_,rfl,.inl ⟨_,rfl,.inl ⟨vd,x',by rw[U,hv],rfl,c1,c2⟩⟩⟩
    ·have a7:Mx X G w Y H w2:=(Mx.ofBelow a6).trans mx;obtain⟨kc,cc,rfl,_⟩:=M.isF;refine .inr ⟨_,rfl,kc,cc,rfl,i2.cell0 a7 g2,λb N h2=>((LooseX.new A.g A.i (eT E.size N)).mx mx h2).2,λw3 a8=>?_⟩;refine Calls.mono (hF H w3 ex _ a7.up.le (Inv.lk a8 g2) M) λe6 w6 h6=>?_
     have:=qr5 (rv:=qar S (f+1) x sc .set [.sym c.data.toList C,a]) (a7.lk a8) (i2.below (bl0 a8)) h6 (by rw[U,hv]);exact RQ.of this (by rcases this with⟨ps,rfl,_⟩|⟨v,rfl,_⟩;exact .inr ⟨_,rfl⟩;exact .inl ⟨_,rfl⟩)
   rcases qv4 (x:=x) (sc:=sc) (t:=c.data.toList) (k:=C)with⟨u,n,hf,h0,B⟩|⟨hf,W,B⟩|⟨hf,h0,W,B⟩
   ·have hA:qef (c.data.toList,C) sc=.agg #[.int .i64 (u:Int),.int .i64 (n:Int)]:=by simp[qef,hf]
    rw[h0,hA]at hM;obtain⟨ll,a9,c3⟩:=qnd hf;have c7:u<sc.length:=(eL.1 a9).1;have c4:ll.length<=1000000000:=A.i.sz.2 ll (List.mem_of_getElem? a9);refine qj7 X.xb G.mb gg o p u n yn a0 c C ya I J zk zn a3 a4 zm za R T w1 _ (i1.cell0 (Mx.refl X G w1) g1) (q 0 (by omega)) (q 1 (by omega)) (q 2 (by omega)) (q 3 (by omega)) (q 4 (by omega)) (q 5 (by omega)) (O 0 (by omega)) (O 1 (by omega)) (O 2 (by omega)) (O 3 (by omega)) (O 4 (by omega)) (O 5 (by omega)) hM (λw' Z=>?_);have:=a2 (.loc u n) (λb=>.setL u n b) B (λb=>rfl) 374 (λL=>#[bp G.mb,.agg #[.int .i64 (u:Int),.int .i64 (n:Int)],L]) (λH w' b L b0 hI M=>by
     have V:=qy8 (sh:=qdu sc) (u:=u) (j:=n) (n:=ll.length) hI (by simp[qdu,a9]) c3 ⟨by have:=A.i.sz.1;omega,c4⟩ M;rw[b0.mb]at V;exact V) w' Z
    refine Calls.mono this λe w h=>h.imp ?_ (λ_ _ h=>h)
    rintro L w2 ⟨kc,cc,rfl,N,h2,W⟩;exact⟨kc,cc,rfl,N,h2,W⟩
   ·have hA:qef (c.data.toList,C) sc=.agg #[.int .i64 0,.int .i64 0]:=by simp[qef,hf]
    rw[W,hA]at hM;refine qj9 X.xb G.mb gg o p 0 0 yn a0 c C ya I J zk zn a3 a4 zm za R T w1 _ (i1.cell0 (Mx.refl X G w1) g1) (q 0 (by omega)) (q 1 (by omega)) (q 2 (by omega)) (q 3 (by omega)) (q 4 (by omega)) (q 5 (by omega)) (O 0 (by omega)) (O 1 (by omega)) (O 2 (by omega)) (O 3 (by omega)) (O 4 (by omega)) (O 5 (by omega)) hM (λw' Z=>?_);have:=a2 (.glo c.data.toList) (λb=>.setG c.data.toList b) B (λb=>rfl) 375 (λL=>#[bp G.mb,.string c,L]) (λH w' b L b0 hI M=>by
     have V:=qy9 (sh:=qdu sc) (t:=c) hI M;rw[b0.mb]at V;exact V) w' Z
    refine Calls.mono this λe w h=>h.imp ?_ (λ_ _ h=>h)
    rintro L w2 ⟨kc,cc,rfl,N,h2,W⟩;exact⟨kc,cc,rfl,N,h2,W⟩
   ·have hA:qef (c.data.toList,C) sc=.agg #[.int .i64 0,.int .i64 0]:=by simp[qef,hf]
    rw[hA]at hM;exact qj6 X.xb gg o p _ 0 0 yn a0 c C ya I J w1 _ (q 0 (by omega)) (q 1 (by omega)) (q 2 (by omega)) (q 3 (by omega)) (q 4 (by omega)) (q 5 (by omega)) h0 W hM (Q (by rw[a5,b2];simp only[Option.bind_some,B]))
def qxp(G:Gh)(d:Dt)(e:Dl):Option (Dl×Dl)->Prop
 |some (a,b)=>∃da db,d=.list [da,db]/\DRep G da a/\DRep G db b/\e.len=2/\∃gb ob arr,e.a=some ⟨gb,ob,none⟩/\G.I gb=some (.cells arr 134 (0,0))/\(∀j,j<6->arr[ob+j]? =a.cells[j]?)/\(∀j,j<6->arr[ob+6+j]? =b.cells[j]?)
 |none=>e.len≠2/\∀da db,d≠.list [da,db]
theorem q1a{G:Gh}{d:Dt}{e:Dl}(h:DRep G d e):∃o,qxp G d e o:=by
 cases h with
 |num e h r k b=>exact⟨none,by have:=b.1;show e.len≠2;omega,nofun⟩
 |bool e h b=>exact⟨none,by have:=b.1;show e.len≠2;omega,nofun⟩
 |str e h m b=>exact⟨none,by have:=b.1;show e.len≠2;omega,nofun⟩
 |sym e h m b=>exact⟨none,by show e.len≠2;omega,nofun⟩
 |nil e h a=>exact⟨none,by show e.len≠2;omega,nofun⟩
 |list e h l es g o f a b s n p c q=>
  match l,es,q,a,c with
  |_,_,.nil,a,c=>exact⟨none,by simp at a;omega,nofun⟩
  |_,_,.cons _ _ _ _ _ .nil,a,c=>exact⟨none,by simp at a;omega,nofun⟩
  |_,_,.cons da _ ea _ k (.cons db _ eb _ h2 .nil),a,c=>
   refine⟨some (ea,eb),da,db,rfl,k,h2,a,g,o,f,n,p,λj i=>by have:=c 0 j ea rfl i;simpa using this,λj i=>by have:=c 1 j eb rfl i;simpa using this⟩
  |_,_,.cons _ _ _ _ _ (.cons _ _ _ _ _ (.cons _ _ _ _ _ _)),a,c=>exact⟨none,by simp at a;omega,nofun⟩
theorem qix{G:Gh}:∀{bs:List Dt} {es:List Dl} {bd:Nat->Option (Dl×Dl)} {i:Nat},(∀(i:Nat) (d:Dt) (e:Dl),bs[i]? =some d->es[i]? =some e->qxp G d e (bd i))->bs.length=es.length->i<bs.length->bd i=none->qc0 bs=none
 | [],_,_,i,_,_,h,_=>by simp at h
 |d::r,[],_,i,_,h,_,_=>by simp at h
 |d::r,e::es,bd,i,hp,hl,hi,hn=>by
  cases i with
  |zero=>
   have:=hp 0 d e rfl rfl;rw[hn]at this;have a:=this.2;unfold qc0;split
   ·rename_i h;cases h
   ·rename_i h;cases h;exact absurd rfl (a _ _)
   ·rfl
  |succ i=>
   have b:=qix (bs:=r) (es:=es) (bd:=λj=>bd (j+1)) (i:=i) (λj c e' f a=>hp (j+1) c e' (by simpa using f) (by simpa using a)) (by simpa using hl) (by simpa using hi) hn;unfold qc0;split
   ·rename_i h;cases h
   ·rename_i h;cases h;simp[b]
   ·rfl
theorem qiw{G:Gh}:∀{bs:List Dt} {es:List Dl} {bd:Nat->Option (Dl×Dl)} {ns vs:List Dl},(∀(i:Nat) (d:Dt) (e:Dl),bs[i]? =some d->es[i]? =some e->qxp G d e (bd i))->bs.length=es.length->ns.length=bs.length->vs.length=bs.length->(∀(i:Nat) (a b:Dl),ns[i]? =some a->vs[i]? =some b->bd i=some (a,b))->
  ∃f c,qc0 bs=some (f,c)/\DsRep G f ns/\DsRep G c vs/\qad c<=qad bs
 | [],_,_,ns,vs,_,_,h1,h2,_=>by
  cases ns with
  |nil=>cases vs with
   |nil=>exact⟨[],[],rfl,.nil,.nil,eR _⟩
   |cons=>simp at h2
  |cons=>simp at h1
 |d::r,[],_,_,_,_,h,_,_,_=>by simp at h
 |d::r,e::es,bd,ns,vs,hp,hl,h1,h2,hb=>by
  match ns,vs,h1,h2,hb with
  | [],_,h1,_,_=>simp at h1
  |_::_,[],_,h2,_=>simp at h2
  |n::ns,v::vs,h1,h2,hb=>
   have o:=hp 0 d e rfl rfl;rw[hb 0 n v rfl rfl]at o;obtain⟨p,q,rfl,g,k,_⟩:=o;obtain⟨f,c,s,t,u,x⟩:=qiw (bs:=r) (es:=es) (bd:=λj=>bd (j+1)) (ns:=ns) (vs:=vs) (λj w e' l m=>hp (j+1) w e' (by simpa using l) (by simpa using m)) (by simpa using hl) (by simpa using h1) (by simpa using h2) (λj a b l m=>hb (j+1) a b (by simpa using l) (by simpa using m));refine⟨p::f,q::c,by simp[qc0,s],.cons _ _ _ _ g t,.cons _ _ _ _ k u,?_⟩;simp only[qad,qaf];omega
theorem qir(l:List Dl)(i j:Nat)(x:Dl)(h:l[i]? =some x)(b:j<6):(qch l)[i*6+j]? =x.cells[j]?:=by
 induction l generalizing i with
 |nil=>simp at h
 |cons a r c=>
  have e6:a.cells.toList.length=6:=rfl;simp only[qch,List.flatMap_cons];cases i with
  |zero=>
   simp at h;subst h;rw[Nat.zero_mul,Nat.zero_add,eA (by rw[e6];exact b)];simp
  |succ i=>
   have:=c i (by simpa using h);rw[eB (by rw[e6];omega),e6,show(i+1)*6+j-6=i*6+j from by omega];exact this
theorem qn7{sc:qaj}{lo n:Nat}{p:OA}{ns:List Dl}{r:List Dt}(s:w0.heap.size<=lo)(D:w.ownsRow lo 134 6 (.slice p k n) k (qch ns))(E:k<=30000)(t:ns.length=k)(u:DsRep G r ns)(g:Inv G S m w)(i:XInv K X G S x sc w)(mx:Mx X G0 w0 X G w)
  (H:∀b,Value.ownBlock (.slice p k n)=some b->LooseX X G b):
  ∃f,G.le f/\Inv f S m w/\XInv K X f S x sc w/\Mx X G0 w0 X f w/\DRow f p k n r/\(∀b,Value.ownBlock (.slice p k n)≠some b->LooseX X G b->LooseX X f b):=by
 have J:r.length=k:=by rw[<-t];exact u.at.1
 rcases D.2 with⟨v,U⟩|⟨q,cap,d,v,L,M,N,V,P,z⟩
 ·cases v;exact⟨G,Gh.le.refl G,g,i,mx,⟨ns,by omega,by omega,u,Nat.zero_le _,by omega,λh=>by omega⟩,λb _ h=>h⟩
 ·cases v;have a:=H q rfl;have l:=Gh.le_add (o:=.cells d 134 (0,0)) a.I;refine⟨G.add q (.cells d 134 (0,0)),l,g.fix ⟨a.mu,a.F⟩ a.I M,XInv.fix i a,mx.fix (eT s L) a.I,⟨ns,by omega,by omega,u.mono l,N,E,λ_=>⟨q,0,d,rfl,Gh.add_at _ _ _,λQ j y T C=>?_⟩⟩,λb hne c=>?_⟩
  ·have:=qir ns Q j y T C;rw[<-z,List.getElem?_take]at this;rw[Nat.zero_add];split at this
   ·simpa using this
   ·have A:j<y.cells.size:=C;rw[Array.getElem?_eq_getElem A]at this;cases this
  ·have B:b≠q:=λe=>hne (by rw[e];rfl)
   exact⟨by rw[qah _ B];exact c.I,c.mu,c.F,c.O,c.R⟩
theorem qwa(e9:qh2 K S f)(ih:qek K S f)(X:Xe)(G:Gh)(m:Mc)(x:Xs)(sc:qaj)(w:Wd)(k:Int)(r:List Dt)(e:Dl)(A:At K X G S m x sc w [108,101,116] k r e)(b3:sc.length+f<=1000000000)(hne:(qar S (f+1) x sc .let' r).1≠.error 0):
  Calls prog 297 #[bp X.xb,.agg e.cells] w (XPost K X G S m sc w (qar S (f+1) x sc .let' r)):=by
 have a:=A.d.row;have hW:=qfo A.g A.i A.d (s:=⟨#[108,101,116]⟩) A.kw.symm;obtain⟨xk,xn,f0,f1,xm,xa,N,xcap⟩:=e;have a:DRow G xa N xcap (.sym [108,101,116] k::r):=a;have c4:N=r.length+1:=by obtain⟨es,h1,_⟩:=a;simpa using h1
 have hn:N<=30000:=by obtain⟨es,h1,h2,h3,h4,h5,h6⟩:=a;exact h5
 have V:N<=xcap:=by obtain⟨es,h1,h2,h3,h4,h5,h6⟩:=a;exact h4
 subst c4;refine qm1 X.xb 0 xk xn f0 f1 xm xa r.length xcap w _ (by omega) hW λw1 c=>?_
 have g1:=A.g.below c;have i1:=A.i.below c;have O:∀{rv:Except Nat Ex×Xs},rv=(.error 4,x)->∀w',Below w1.heap.size w1 w'->RQ (XPost K X G S m sc w rv) (.panicked (qan (qap 4))) w':=λh w' hb=>(A.bad h w' (c.trans (hb.mono c.size))).rq
 match r,A,a,hW,hn,V,hne with
 | [],A,a,hW,hn,V,hne=>exact qij X.xb 1 xcap xa w1 _ (by omega) (O rfl)
 | [_],A,a,hW,hn,V,hne=>
  refine qij X.xb 2 xcap xa w1 _ (by omega) (O ?_);simp only[qar]
 |d::b::r,A,a,hW,hn,V,hne=>
  simp only[List.length_cons]at hn V;obtain⟨gg,o,rfl,_,hc⟩:=a.cells (by simp);obtain⟨y,P,f2⟩:=hc 1 d rfl;obtain⟨yk,yn,f3,f4,ym,ya,ylen,c5⟩:=y;have cy:=f2 S m w1 g1;have kind:yk≠4->qar S (f+1) x sc .let' (d::b::r)=(.error 4,x)->Calls prog 337 #[bp X.xb,.slice (some ⟨gg,o,none⟩) (r.length+3) xcap] w1 (RQ (XPost K X G S m sc w (qar S (f+1) x sc .let' (d::b::r)))):=λh1 h2=>
   qm4 X.xb gg o r.length xcap yk w1 _ (cy 0 (by omega)) h1 (by omega) (O h2)
  have a4:=a.drop 2 (by simp);have f5:(d::b::r).length+1-2=r.length+1:=by simp
  rw[f5]at a4;have a4:DRow G (tlD gg o xcap 2) (r.length+1) (xcap-2) (b::r):=a4;have c6:qad (b::r)<=1000000000000:=by have:=A.mb;simp only[qad]at this|-;omega
  have list:∀(bs:List Dt),d=.list bs->yk=4->∀es:List Dl,bs.length=es.length->(∀(i:Nat) (d:Dt) (e:Dl),bs[i]? =some d->es[i]? =some e->DRep G d e)->ylen=es.length->ylen<=30000->(∀(i j:Nat) (z:Dl),es[i]? =some z->j<6->∃q p,ya=some ⟨q,p,none⟩/\q<w1.heap.size/\w1.cell? ⟨q,p+i*6+j,none⟩=z.cells[j]?)->
    Calls prog 337 #[bp X.xb,.slice (some ⟨gg,o,none⟩) (r.length+3) xcap] w1 (RQ (XPost K X G S m sc w (qar S (f+1) x sc .let' (d::b::r)))):=by
   intro bs f6 f7 es c7 f8 f9 g0 g2;subst f6;obtain rfl:yk=4:=f7;have g4:∀i:Nat,∃o:Option (Dl×Dl),∀(d:Dt) (e:Dl),bs[i]? =some d->es[i]? =some e->qxp G d e o:=λi=>by
    cases hbi:bs[i]? with
    |none=>exact⟨none,λd e h=>by cases h⟩
    |some d=>cases hei:es[i]? with
     |none=>exact⟨none,λd e _ h=>by cases h⟩
     |some e=>
      obtain⟨o,ho⟩:=q1a (f8 i d e hbi hei);exact⟨o,λd' e' h1 h2=>by cases h1;cases h2;exact ho⟩
   obtain⟨bd,b4⟩:=Classical.axiomOfChoice g4;have t:qar S (f+1) x sc .let' (.list bs::b::r)=match qc0 bs with
    |none=>(.error 4,x)
    |some (ns,vs)=>match qco S f x sc (.list ns) (b::r)with
     |(.error e,x)=>(.error e,x)
     |(.ok g,x)=>match qbb S f x sc vs with
      |(.error e,x)=>(.error e,x)
      |(.ok vs,x)=>(.ok (.app g vs),x):=rfl
   refine qwb X.xb G.mb gg o r.length xcap yn f3 f4 ym ya ylen c5 es bd w1 _ (by omega) (by omega) (cy 0 (by omega)) (cy 5 (by omega)) f9 g0 g2 (λi z hz=>?_) (λ⟨i,hi,g8⟩=>?_) (λwr na nc va vc ns vs g9 b5=>?_)
   ·have l5:=(eL.1 hz).1;have hP:=b4 i bs[i] z (eG (by omega)) hz;unfold qut;cases hb:bd i with
    |none=>rw[hb]at hP;exact hP.1
    |some ab=>
     obtain⟨a',b'⟩:=ab;rw[hb]at hP;obtain⟨da,db,_,_,_,h2,gb,ob,b6,h3,h4,h5,h6⟩:=hP;exact⟨h2,gb,ob,h3,g1.lt h4,λj hj=>by rw[g1.cell h4];exact h5 j hj,λj hj=>by rw[g1.cell h4];exact h6 j hj⟩
   ·exact O (by rw[t,qix b4 c7 (by omega) g8])
   ·obtain⟨h7,h9,c8,c9,d0,i2⟩:=b5;obtain⟨nD,vD,b7,i4,i8,l6⟩:=qiw b4 c7 (by omega) (by omega) g9;rw[b7]at t;have a0:Below w.heap.size w wr:=c.trans (i2.mono c.size);have gr:=A.g.below a0;have ir:=A.i.below a0;have loose:∀q,w1.heap.size<=q->LooseX X G q:=λq hq=>LooseX.new A.g A.i (eT c.size hq)
    obtain⟨G1,d1,i9,j0,j1,j2,b8⟩:=qn7 c.size c8 (by omega) h7 i4 gr ir (Mx.ofBelow a0) (λq hq=>loose q (c8.lt q hq).1);obtain⟨G2,d2,j3,j4,d3,j5,_⟩:=qn7 c.size c9 (by omega) h9 (i8.mono d1) i9 j0 j1 (λq hq=>b8 q (λe=>d0 q e hq) (loose q (c9.lt q hq).1));have dN:DRep G2 (.list nD) ⟨4,0,false,⟨#[]⟩,0,na,ylen,nc⟩:=by
     obtain⟨j6,q1,q2,q3,q4,q5,q6⟩:=j2.mono d2;by_cases h0:0<ylen
     ·obtain⟨g',o',b6,e1,e2,e3⟩:=q6 h0;exact .list _ rfl nD j6 g' o' b6 q2 q4 q5 e1 e2 e3 q3
     ·have:nD=[]:=by cases nD with|nil=>rfl|cons=>simp at q1;omega
      subst this;exact .nil _ rfl (by show ylen=0;omega)
    have d4:(qco S f x sc (.list nD) (b::r)).1≠.error 0:=λh=>by
     apply hne;rw[t];simp only;cases hfr:qco S f x sc (.list nD) (b::r)with
     |mk fr fx=>rw[hfr]at h;have h:fr=.error 0:=h;subst h;rfl
    have j7:G.le G2:=d1.trans d2;intro w2 b9;have a5:=e9 X G2 m x sc w2 (.list nD) _ (b::r) _ _ _ (j3.below b9) (j4.below b9) dN (a4.mono j7) c6 (by omega) b3 d4;refine Calls.mono a5 ?_;rintro e' w3 (⟨vd,x',hv,rfl,a1,a2⟩|⟨Y,H,gx,x',v,hv,rfl,mx,g3,i3,c0⟩)
    ·exact .inl ⟨_,rfl,.inl ⟨_,rfl,.inl ⟨vd,x',by rw[t];simp only[hv],rfl,a1.up d3.up,a2⟩⟩⟩
    ·obtain⟨kc,cc,rfl,_⟩:=c0.isF;have n:Mx X G w Y H w3:=(d3.below b9).trans mx;have e1:Y.xb=X.xb:=n.same.1;have a9:(qbb S f x' sc vD).1≠.error 0:=λh=>by
      apply hne;rw[t];simp only[hv];cases hfr:qbb S f x' sc vD with
      |mk fr fx=>rw[hfr]at h;have h:fr=.error 0:=h;subst h;rfl
     have d5:qad vD<=1000000000000:=by have:=A.mb;simp only[qad,qaf]at this;omega
     have d6:DRow H va ylen vc vD:=j5.mono mx.up.le;have b0:∀(W:Wd) (q0:Nat) (Z:Xe) (L:Gh) (x2:Xs) (u:List Ex) (xs:List Vu),qbb S f x' sc vD=(.ok u,x2)->XRep L (qdu sc) u xs->xs.length=ylen->CRep L (qdu sc) gx (.func (.func kc) #[] cc)->Mx X G w Z L W->Inv L S m W->XInv K Z L S x2 sc W->w.heap.size<=q0->LooseX Z L q0->q6w X.xb G.mb (.func (.func kc) #[] cc) ylen xs (RQ (XPost K X G S m sc w (qar S (f+1) x sc .let' (.list bs::b::r)))) q0 W:=by
      intro W q0 Z L x2 u xs j8 D E j9 k0 gW iW d7 B g6 b1 w6 c1 d8 k1;have d9:Inv L S m w6:=gW.grown c1 λb hb=>by cases hb;exact⟨B.I,B.mu,B.F⟩
      have i6:=iW.grown B c1;have e0:=k0.grown d7 c1;have Q:LooseX Z L g6:=by
       rcases d8 with rfl|h
       ·exact B
       ·exact LooseX.new gW iW h
      rcases k1.2 with⟨c2,_⟩|⟨g7,l3,R,c2,a3,k2,k3,l7,l4,e4⟩
      ·cases c2
      ·cases c2;have k4:w.heap.size<=g6:=eT d7 a3;have e5:=Gh.le_add (o:=.cells R 241 (0,0)) Q.I;have g7:=d9.fix ⟨Q.mu,Q.F⟩ Q.I k2;have i7:XInv K Z (L.add g6 (.cells R 241 (0,0))) S x2 sc w6:=XInv.fix i6 Q;have e6:Mx X G w Z (L.add g6 (.cells R 241 (0,0))) w6:=e0.fix k4 Q.I;refine⟨i6.cell0 e0 d9,λw7 c3=>?_⟩;have a6:(Value.func (.func kc) #[] cc::xs).length=1+ylen:=by simp[E];omega
       have k5:RowI (L.add g6 (.cells R 241 (0,0))) 241 (.slice (some ⟨g6,0,none⟩) (1+ylen) b1) (.func (.func kc) #[] cc::xs):=by
        refine⟨g6,0,b1,R,by rw[a6],Gh.add_at _ _ _,by rw[a6];exact k3,by rw[a6];omega,λj y P=>?_⟩;have a7:([Value.func (.func kc) #[] cc]++xs)[j]? =some y:=P;rw[<-e4,List.getElem?_take]at a7;rw[Nat.zero_add];split at a7
        ·simpa using a7
        ·cases a7
       have a5:=qx7 (sh:=qdu sc) (f:=gx) (l:=u) (Inv.lk c3 g7) (by rw[a6];omega) k5 (.cons _ _ _ _ _ (j9.mono e5) (D.mono e5));have e7:(L.add g6 (.cells R 241 (0,0))).mb=G.mb:=e6.up.le.mb;rw[e7]at a5;refine Calls.mono a5 λe8 w8 h8=>?_
       obtain⟨v8,rfl,q1,_,q3⟩:=qe3 (rv:=qar S (f+1) x sc .let' (.list bs::b::r)) (e6.lk c3) (i7.below (bl0 c3)) h8 (by rw[t];simp only[hv,j8]);exact .inr ⟨v8,rfl,q1,q3.rq⟩
     refine .inr ⟨_,rfl,kc,cc,rfl,i3.cell0 n g3,λw4 a8=>?_,λw4 a8=>?_⟩
     ·have J:Below w3.heap.size w3 w4:=bl1 a8;have C:=ih Y H m x' sc w4 vD va ylen vc (g3.below J) (i3.below J) d6 d5 b3 a9;rw[e1]at C;refine Calls.mono C ?_;rintro k6 w5 (⟨vd,x2,M,rfl,a1,a2⟩|⟨Z,L,u,x2,q,xs,M,rfl,E,hq,k7,k8,T,g5,i5,D⟩)
      ·exact .inl ⟨_,rfl,.inl ⟨_,rfl,.inl ⟨vd,x2,by rw[t];simp only[hv,M],rfl,a1.up n.up,by rw[<-n.same.2.1];exact a2⟩⟩⟩
      ·have U:Mx X G w Z L w5:=(n.below J).trans T;have b2:w4.heap[w3.heap.size]? =some (.cells #[.func (.func kc) #[] cc] 241 (0,0)):=by rw[a8.heap];exact eN _ _
       obtain⟨k9,l0⟩:=(LooseX.new g3 i3 (eR _)).mx T (eE.1 b2).1;refine .inr ⟨_,rfl,xs,q,ylen,⟨rfl,E,i5.cell0 U g5,λj y P=>by simp only[World.cell?,hq];simpa using P,λy P=>?_⟩,by rw[l0];exact b2,b0 w5 w3.heap.size Z L x2 u xs M D E (c0.mono T.up.le) U g5 i5 n.size k9⟩;obtain⟨kk,c',rfl⟩:=D.func y P;rfl
     ·have J:Below w3.heap.size w3 w4:=bl0 a8;have C:=ih Y H m x' sc w4 vD va ylen vc (g3.below J) (i3.below J) d6 d5 b3 a9;rw[e1]at C;refine Calls.mono C ?_;rintro k6 w5 (⟨vd,x2,M,rfl,a1,a2⟩|⟨Z,L,u,x2,q,xs,M,rfl,E,hq,k7,k8,T,g5,i5,D⟩)
      ·exact .inl ⟨_,rfl,.inl ⟨_,rfl,.inl ⟨vd,x2,by rw[t];simp only[hv,M],rfl,a1.up n.up,by rw[<-n.same.2.1];exact a2⟩⟩⟩
      ·have U:Mx X G w Z L w5:=(n.below J).trans T;have a3:Below w5.heap.size w5 (w5.alloc (.cells #[.func (.func kc) #[] cc] 241)):=qaa _ _;refine .inr ⟨_,rfl,xs,q,ylen,⟨rfl,E,i5.cell0 U g5,λj y P=>by simp only[World.cell?,hq];simpa using P,λy P=>?_⟩,b0 _ w5.heap.size Z L x2 u xs M D E (c0.mono T.up.le) (U.below a3) (g5.below a3) (i5.below a3) U.size (LooseX.new g5 i5 (eR _))⟩;obtain⟨kk,c',rfl⟩:=D.func y P;rfl
  cases P with
  |num e h=>exact kind (by have h:yk=0:=h;omega) rfl
  |bool e h=>exact kind (by have h:yk=1:=h;omega) rfl
  |str e h=>exact kind (by have h:yk=2:=h;omega) rfl
  |sym e h=>exact kind (by have h:yk=3:=h;omega) rfl
  |nil e h hl=>exact list [] rfl h [] rfl (λi d e h=>by simp at h) hl (by have hl:ylen=0:=hl;omega) (λi j y h=>by simp at h)
  |list e h ps es gg o b6 hl hc hm ha hg hr hs=>
   obtain⟨l1,l2⟩:=hs.at;exact list ps rfl h es l1 l2 hl hm λi' j y P hj=>⟨gg,o,ha,g1.lt hg,by rw[g1.cell hg];exact hr i' j y P hj⟩
mutual
theorem qb6:∀d:Dt,qbu d=qaf d+1
 | .num _=>rfl
 | .bool _=>rfl
 | .str _=>rfl
 | .sym _ _=>rfl
 | .list l=>by simp only[qbu,qaf,qeg l];omega
theorem qeg:∀l:List Dt,qax l=qad l
 | []=>rfl
 |d::r=>by simp only[qax,qad,qb6 d,qeg r];omega
end
theorem qkg{mc:Macro}{r:List Dt}{sc:qaj}{d:Dt}{x1:Xs}{x2:Xs}(h:use S x mc r sc=(.ok (d,x1),x2)):qbu d<=600:=by
 rw[qxs]at h;split at h
 ·simp at h
 ·unfold qu1 at h;simp only at h;cases hf:mc.rules.findSome? (λc=>(qau mc.lits sc c.1 r).map (λb=>(b,c.2)))with
  |none=>rw[hf]at h;simp at h
  |some e=>
   rw[hf]at h;simp only at h;cases hp:qgi ((x.count+1:Nat):Int) e.1 e.2 with
   |none=>rw[hp]at h;simp at h
   |some f=>
    rw[hp]at h;simp only at h;by_cases a:qbu f<=600
    ·simp[a]at h;obtain⟨⟨rfl,_⟩,_⟩:=h;exact a
    ·simp[a]at h
theorem qwv{S:Sub}{f:Nat}{x:Xs}{sc:qaj}{t:Bs}{k:Int}{r:List Dt}{mc:Macro}(h:x.means (t,k) sc=.mac mc):form S (f+1) x sc (.list (.sym t k::r))=match use S x mc r sc with
  |(.error e,x)=>(.error e,x)
  |(.ok (d,x),_)=>form S f x sc d:=by
 simp only[form,h];rfl
theorem qkv(S:Sub):∀(f:Nat) (x:Xs) (sc:qaj) (d:Dt),(form S f x sc d).1≠.error 0->qaf d<=1000000000000->
  (∃j x' b,qf5 S f x sc d=(.ok b,x')/\j+1<=f/\form S f x sc d=form S (j+1) x' sc b/\(qca x' sc b).1≠2/\qaf b<=1000000000000)\/(∃g x',qf5 S f x sc d=(.error g,x')/\form S f x sc d=(.error g,x'))
 |0,x,sc,d,h,_=>absurd rfl h
 |f+1,x,sc,d,h,hm=>by
  by_cases c:(qca x sc d).1=2
  ·obtain⟨t,k,r,mc,rfl,a,_,_⟩:=qjn c;have e1:qf5 S (f+1) x sc (.list (.sym t k::r))=match use S x mc r sc with
     |(.error e,x)=>(.error e,x)
     |(.ok (d,x),_)=>qf5 S f x sc d:=by simp only[qf5,a];rfl
   rw[qwv a]at h|-;rw[e1];cases hu:use S x mc r sc with
   |mk i l=>
    rw[hu]at h;cases i with
    |error e=>exact .inr ⟨e,l,rfl,rfl⟩
    |ok p=>
     obtain⟨m,x1⟩:=p;simp only at h|-;have n:=qkg hu;rw[qb6]at n;rcases qkv S f x1 sc m h (by omega)with⟨j,x',b,o,w,s,u,v⟩|q
     ·exact .inl ⟨j,x',b,o,by omega,s,u,v⟩
     ·exact .inr q
  ·exact .inl ⟨f,x,d,qhh c,eR _,rfl,c,hm⟩
theorem qoo{t:Bs}{k:Kw}(h:Kw.of t=some k):(k=.quote/\t=[113,117,111,116,101])\/(k=.ite/\t=[105,102])\/(k=.define/\t=[100,101,102,105,110,101])\/(k=.set/\t=[115,101,116,33])\/(k=.qco/\t=[108,97,109,98,100,97])\/(k=.let'/\t=[108,101,116])\/(k=.begin/\t=[98,101,103,105,110])\/(k=.synx'/\t=[100,101,102,105,110,101,45,115,121,110,116,97,120]):=by
 unfold Kw.of at h;split at h
 ·rename_i e;cases h;exact .inl ⟨rfl,e⟩
 split at h
 ·rename_i e;cases h;exact .inr (.inl ⟨rfl,e⟩)
 split at h
 ·rename_i e;cases h;exact .inr (.inr (.inl ⟨rfl,e⟩))
 split at h
 ·rename_i e;cases h;exact .inr (.inr (.inr (.inl ⟨rfl,e⟩)))
 split at h
 ·rename_i e;cases h;exact .inr (.inr (.inr (.inr (.inl ⟨rfl,e⟩))))
 split at h
 ·rename_i e;cases h;exact .inr (.inr (.inr (.inr (.inr (.inl ⟨rfl,e⟩)))))
 split at h
 ·rename_i e;cases h;exact .inr (.inr (.inr (.inr (.inr (.inr (.inl ⟨rfl,e⟩))))))
 split at h
 ·rename_i e;cases h;exact .inr (.inr (.inr (.inr (.inr (.inr (.inr ⟨rfl,e⟩))))))
 ·cases h
theorem qik{x:Xs}{sc:qaj}{t:Bs}{k:Int}{r:List Dt}(h:(qca x sc (.list (.sym t k::r))).1≠2):(x.means (t,k) sc=.var/\kwN x sc (.list (.sym t k::r))=[])\/∃a,Kw.of t=some a/\x.means (t,k) sc=.kw a/\kwN x sc (.list (.sym t k::r))=t:=by
 have b:qca x sc (.list (.sym t k::r))=(qb2 x (t,k) sc,t):=rfl;rw[b]at h;unfold kwN;rw[b];unfold Xs.means;cases hf:find (t,k) sc with
 |some p=>exact .inl ⟨rfl,by simp[qb2,hf]⟩
 |none=>
  cases hk:Kw.of t with
  |some a=>exact .inr ⟨a,rfl,rfl,by simp[qb2,hf,hk]⟩
  |none=>
   cases hm:x.mcr t with
   |some c=>exfalso;apply h;simp[qb2,hf,hk,hm]
   |none=>exact .inl ⟨rfl,by simp[qb2,hf,hk,hm]⟩
theorem qz7{K:Rl}{S:Sub}{j:Nat}(h:∀i,i<j+1->qq8 K S i/\qek K S i/\qh2 K S i)(X:Xe)(G:Gh)(m:Mc)(x:Xs)(sc:qaj)(w:Wd)(l:List Dt)(e:Dl)(g:Inv G S m w)(i:XInv K X G S x sc w)(y:DRep G (.list l) e)(c:qaf (.list l)<=1000000000000)(z:sc.length+(j+1)<=1000000000)(B:(qca x sc (.list l)).1≠2)(hne:(form S (j+1) x sc (.list l)).1≠.error 0):
  Calls prog 297 #[bp X.xb,.agg e.cells] w (XPost K X G S m sc w (form S (j+1) x sc (.list l))):=by
 have c:qad l<=1000000000000:=c;have a:∀n:List Dt,n=l->n≠[]->kwN x sc (.list n)=[]->form S (j+1) x sc (.list n)=app S j x sc n->Calls prog 297 #[bp X.xb,.agg e.cells] w (XPost K X G S m sc w (form S (j+1) x sc (.list n))):=by
  intro n C o b q;subst C;rw[q]at hne|-;cases j with
  |zero=>exact absurd rfl hne
  |succ f=>exact qxi (h f (by omega)).2.1 X G m x sc w n e g i y c o b (by omega) hne
 cases l with
 |nil=>exact absurd rfl hne
 |cons d r=>
  cases d with
  |num v=>exact a _ rfl nofun rfl rfl
  |bool v=>exact a _ rfl nofun rfl rfl
  |str v=>exact a _ rfl nofun rfl rfl
  |list v=>exact a _ rfl nofun rfl rfl
  |sym t k=>
   rcases qik B with⟨s,b⟩|⟨D,E,s,b⟩
   ·exact a _ rfl nofun b (by simp only[form,s])
   ·have q:form S (j+1) x sc (.list (.sym t k::r))=qar S j x sc D r:=by simp only[form,s]
    rw[q]at hne|-;cases j with
    |zero=>exact absurd rfl hne
    |succ f=>
     have A:At K X G S m x sc w t k r e:=⟨g,i,y,b,by simp only[qad,qaf]at c;omega⟩;have p:sc.length+f<=1000000000:=by omega
     obtain⟨F,u,H⟩:=h f (by omega);rcases qoo E with⟨rfl,rfl⟩|⟨rfl,rfl⟩|⟨rfl,rfl⟩|⟨rfl,rfl⟩|⟨rfl,rfl⟩|⟨rfl,rfl⟩|⟨rfl,rfl⟩|⟨rfl,rfl⟩
     ·exact qpu f X G m x sc w k r e A
     ·exact q0l u X G m x sc w k r e A p hne
     ·exact absurd (by simp only[qar]) hne
     ·exact qvl F X G m x sc w k r e A p hne
     ·exact absurd (by simp only[qar]) hne
     ·exact qwa H u X G m x sc w k r e A p hne
     ·exact qq2 u X G m x sc w k r e A p hne
     ·exact absurd (by simp only[qar]) hne
theorem qj3{sc:qaj}{e2:Dl}(g:Inv G S m w)(i:XInv K X G S x sc w)(c:Lk (w.alloc (.cells e.cells 134)) w1)(mx:Mx X G w1 X H w2)(l:Inv H S m w2)(o:XInv K X H S x' sc w2)
  (f:Lk (qdh w2 w.heap.size (.int .i64 e2.k) (.int .i64 e2.n) (.bool e2.tr) (.string e2.tx) (.int .i64 e2.m) (.slice e2.a e2.len e2.cap)) W):w2.heap[w.heap.size]? =some (.cells e.cells 134 (0,0))/\Inv H S m W/\XInv K X H S x' sc W/\Mx X G w X H W:=by
 have b:w1.heap[w.heap.size]? =some (.cells e.cells 134 (0,0)):=by rw[c.heap];exact eN _ _
 obtain⟨d,p⟩:=(LooseX.new g i (eR _)).mx mx (eE.1 b).1;have h:Below w.heap.size w w1:=bl1 c;have j:Mx X G w X H w2:=(Mx.ofBelow h).trans mx;refine⟨by rw[p];exact b,Inv.lk f (qja l d.I d.mu d.F),(qr0 o d.O d.R).below (bl0 f),?_⟩;have m6:Mx X G w X H (qdh w2 w.heap.size (.int .i64 e2.k) (.int .i64 e2.n) (.bool e2.tr) (.string e2.tx) (.int .i64 e2.m) (.slice e2.a e2.len e2.cap)):=(((((j.set (eR _)).set (eR _)).set (eR _)).set (eR _)).set (eR _)).set (eR _);exact m6.lk f
theorem DRep.kind{G:Gh}{d:Dt}{e:Dl}(h:DRep G d e):(e.k=3/\d=.sym e.tx.data.toList e.m)\/(e.k=4/\∃l,d=.list l)\/(e.k≠3/\e.k≠4/\(∀t m,d≠.sym t m)/\(∀l,d≠.list l)):=by
 cases h with
 |num e h=>exact .inr (.inr ⟨by omega,by omega,nofun,nofun⟩)
 |bool e h=>exact .inr (.inr ⟨by omega,by omega,nofun,nofun⟩)
 |str e h=>exact .inr (.inr ⟨by omega,by omega,nofun,nofun⟩)
 |sym e h=>exact .inl ⟨h,rfl⟩
 |nil e h=>exact .inr (.inl ⟨h,[],rfl⟩)
 |list e h l=>exact .inr (.inl ⟨h,l,rfl⟩)
theorem q0u(hR:qh1 K S)(A:∀i,i<f->qq8 K S i/\qek K S i/\qh2 K S i):qq8 K S f:=by
 intro X G m x sc w d e g i hd B a1 hne;have r:=qkv S f x sc d hne B;obtain⟨xk,xn,Q,R,xm,xa,C,D⟩:=e;have T:X.xb<w.heap.size:=g.lt i.xe;refine qto X.xb G.mb xk xn Q R xm xa C D w _ T λw1 s=>?_
 have E:Below w.heap.size w w1:=bl1 s;have F:(qf5 S f x sc d).1≠.error 0:=by
  rcases r with⟨j,x',d',c,_⟩|⟨U,x',c,O⟩
  ·rw[c];exact nofun
  ·rw[O]at hne;rw[c];exact λh=>hne (by cases h;rfl)
 refine Calls.mono (hR X G m x sc w1 d _ f (g.below E) (i.below E) hd B F) ?_;rintro e' w2 (⟨H,d',x',e2,a,rfl,mx,V,Y,b⟩|⟨U,x',a,rfl,hc,Z⟩)
 ·rcases r with⟨j,x1,I,c,hj,u,y,p⟩|⟨U,x1,c,O⟩
  ·rw[c]at a;obtain⟨rfl,rfl⟩:I=d'/\x1=x':=by simpa using a
   rw[u]at hne|-;have J:=(qj3 (e2:=e2) g i s mx V Y ⟨rfl,rfl,rfl,rfl⟩).1;refine .inr ⟨_,rfl,e2,rfl,J,?_,λW hW=>?_⟩
   ·exact Y.cell0 mx V
   ·obtain⟨_,gW,iW,n⟩:=qj3 g i s mx V Y hW;refine⟨λhk W' P=>?_,λhk=>?_,λh3 h4=>?_⟩
    ·rcases b.kind with⟨_,rfl⟩|⟨h,_⟩|⟨h,_⟩
     ·have L:=gW.below P;have z:=iW.below P;refine Calls.mono (qyi L z e2.tx e2.m) ?_;intro e6 w6 q;have M:form S (j+1) x1 sc (.sym e2.tx.data.toList e2.m)=(match qc7 x1 (e2.tx.data.toList,e2.m) sc with|some e=>.ok e|none=>.error 4,x1):=rfl;cases hv:qc7 x1 (e2.tx.data.toList,e2.m) sc with
      |some ex=>
       rw[hv]at q;exact qr5 (n.below P) z q (by rw[M,hv])
      |none=>
       rw[hv]at q;obtain⟨rfl,a0⟩:=q;refine .inl ⟨_,rfl,XPost.from (n.below P) (XPost.bad L z (by rw[M,hv]) a0)⟩
     ·omega
     ·exact absurd hk h
    ·rcases b.kind with⟨h,_⟩|⟨_,l,rfl⟩|⟨_,h,_⟩
     ·omega
     ·have o:=qz7 (j:=j) (λi hi=>A i (by omega)) X H m x1 sc W l e2 gW iW b p (by omega) y hne;exact Calls.mono o λe6 w6 q=>(XPost.from n q).rq
     ·exact absurd hk h
    ·have hq:form S (j+1) x1 sc I=(.ok (.quo I),x1):=by
      cases I with
      |num v=>rfl
      |bool v=>rfl
      |str v=>rfl
      |sym t k=>rcases b.kind with⟨h,_⟩|⟨_,l,h⟩|⟨_,_,h,_⟩;exact absurd h h3;cases h;exact absurd rfl (h _ _)
      |list l=>rcases b.kind with⟨_,h⟩|⟨h,_⟩|⟨_,_,_,h⟩;cases h;exact absurd h h4;exact absurd rfl (h _)
     have o:=qo2 (sh:=qdu sc) gW b p;rw[n.up.le.mb]at o;exact Calls.mono o λe6 w6 q=>qr5 n iW q hq
  ·rw[c]at a;simp at a
 ·rcases r with⟨j,x1,I,c,_⟩|⟨N,x1,c,O⟩
  ·rw[c]at a;simp at a
  ·rw[c]at a;obtain⟨rfl,rfl⟩:N=U/\x1=x':=by simpa using a
   exact .inl ⟨_,rfl,.inl ⟨N,x1,O,rfl,hc,Z⟩⟩
theorem q3m{K:Rl}{S:Sub}(c:qh1 K S):∀f,qq8 K S f/\qek K S f/\qh2 K S f:=by
 intro f;induction f using Nat.strongRecOn with
 |ind f b=>
  refine⟨q0u c b,forms_of λj d=>(b j d).1,?_⟩;cases f with
  |zero=>intro X G m x sc w p e l a len cap _ _ _ _ _ _ _ h;exact absurd rfl h
  |succ f=>exact qsz (b f (by omega)).2.1
theorem XInv.setMac{sc:qaj}(i:XInv K X G S x sc w){c:Array MapEntry}{a:Nat}{g:List (Bs×Vu)}(l:x'.count=x.count)(n:c.toList.map (λe=>(e.key,e.val))=g.map (λp=>(Value.string ⟨p.1.toArray⟩,p.2)))(o:McRows K.R G x'.macros g):XInv K X G S x' sc (setB w X.mm (.map c a)):=by
 obtain⟨A,B,r,s,C,t⟩:=i.nab;have f:∀b,b≠X.mm->(setB w X.mm (.map c a)).heap[b]? =w.heap[b]?:=λb h=>qb5 h
 obtain⟨L,d,j⟩:=i.bd;obtain⟨es,D,M,k,u,v⟩:=i.mc;have y:=(i.lo X.mm (by simp)).2.2.1;refine⟨i.xe,by rw[l];exact i.mt.keep (f _ t),by rw[l];exact i.ml,by rw[f _ (Ne.symm r)];exact i.ab,⟨L,⟨by rw[f _ (Ne.symm s)];exact d.1,d.2.1,λp m=>qbr (d.2.2.1 p m) λq z=>f q (by have:=((d.2.2.1 p m).lt q z).1;omega),d.2.2.2⟩,j⟩,λb h=>by rw[qcr];exact i.rr b h,⟨c,a,g,qi7 k,n,o⟩,i.lo,i.nd,by rw[qcr];exact i.sl,i.sz⟩
theorem Inv.setB{sc:qaj}(g:Inv G S m w)(i:XInv K X G S x sc w)(o:Obj):Inv G S m (setB w X.mm o):=by
 obtain⟨a,b,_,c⟩:=i.lo X.mm (by simp);exact g.turns (λj f d=>qb5 λe=>d (by subst e;exact⟨a,b,c⟩)) (by rw[qcr];exact eR _) ⟨rfl,rfl,rfl⟩
theorem Mx.setB(mx:Mx X G w Y H w')(o:Obj):Mx X G w Y H (setB w' Y.mm o):=
 ⟨mx.same,mx.up,mx.I,mx.mu,mx.rw,fun {k} b c a d=>by rw[qb5 (λe=>a (by rw[e,mx.same.2.2.1];simp))];exact mx.blk b c a d,by rw[qcr];exact mx.size⟩
def q6n(H:Gh)(ex:Ex)(v:Vu):Prop:=(ex=.skip/\v=.func (.func 235) #[] #[])\/CRep H [] ex v
def TPost(K:Rl)(X:Xe)(G:Gh)(S:Sub)(m:Mc)(w:Wd)(rv:Except Nat Ex×Xs)(e':En)(w':Wd):Prop:=
 (∃vd x',rv=(.error vd,x')/\e'=.panicked (qan (qap vd))/\Cnt G S m w'/\Mt X.rb (Xs.count x') S.rewrites 12 w')\/
 (∃Y H ex x' v,rv=(.ok ex,x')/\e'=.returned v/\Mx X G w Y H w'/\Inv H S m w'/\XInv K Y H S x' [] w'/\q6n H ex v)
theorem TPost.of{rv:Except Nat Ex×Xs}(h:XPost K X G S m [] w rv e' w'):TPost K X G S m w rv e' w':=by
 rcases h with h|⟨Y,H,a,x',v,b,c,d,e,f,g⟩
 ·exact .inl h
 ·exact .inr ⟨Y,H,a,x',v,b,c,d,e,f,.inr g⟩
theorem TPost.ends{rv:Except Nat Ex×Xs}{e:En}(h:TPost K X G S m w rv e w'):(∃v,e=.returned v)\/(∃a,e=.panicked a):=by
 rcases h with⟨_,_,_,rfl,_⟩|⟨_,_,_,_,v,_,rfl,_⟩
 ·exact .inr ⟨_,rfl⟩
 ·exact .inl ⟨_,rfl⟩
theorem TPost.from{rv:Except Nat Ex×Xs}(mx:Mx X G w Y H w2)(h:TPost K Y H S m w2 rv e' w'):TPost K X G S m w rv e' w':=by
 rcases h with⟨c,y,a,rfl,d,b⟩|⟨Z,L,e,y,v,a,rfl,f,g,i,j⟩
 ·exact .inl ⟨c,y,a,rfl,d.up mx.up,by rw[<-mx.same.2.1];exact b⟩
 ·exact .inr ⟨Z,L,e,y,v,a,rfl,mx.trans f,g,i,j⟩
theorem TPost.bad{rv:Except Nat Ex×Xs}(g:Inv G S m w)(i:XInv K X G S x [] w)(h:rv=(.error 4,x))(a:Below w.heap.size w w'):TPost K X G S m w rv (.panicked (qan (qap 4))) w':=TPost.of (XPost.bad g i h a)
theorem qnf{d:Dt}(g:Inv G S m w)(i:XInv K X G S x [] w)(F:DRep G d e):Calls prog 291 #[bp X.xb,.agg e.cells] w λe' w'=>(∃t k,d=.sym t k/\Kw.of t=none/\t=e.tx.data.toList/\e'=.returned (.string e.tx)/\Inv G S m w'/\XInv K X G S (x.drop t) [] w'/\Mx X G w X G w')\/
  ((∀t k,d=.sym t k->(Kw.of t).isSome)/\e'=.panicked (qan (qap 4))/\Below w.heap.size w w'):=by
 obtain⟨p,q,j,a,r,s,b,c⟩:=e;rcases F.kind with⟨u,rfl⟩|⟨H,l,rfl⟩|⟨u,_,I,_⟩
 ·obtain rfl:p=3:=u;cases hk:Kw.of a.data.toList with
  |some L=>
   refine Calls.mono (qjx X.xb q j a r s b c w (by rw[hk];rfl)) ?_;rintro e' w' ⟨rfl,n⟩;exact .inr ⟨λt k h=>by cases h;rw[hk];rfl,rfl,n⟩
  |none=>
   obtain⟨es,f,M,v,y,z⟩:=i.mc;obtain⟨A,N,o,B,C⟩:=qqv X.mm es f M K.R G x.macros a y z;have c2:w.cell? ⟨X.xb,2,none⟩=some (.map (some X.mm)):=by rw[g.cell i.xe];rfl
   refine Calls.mono (qjw X.xb X.mm q j a r s b c es A f w c2 v (by rw[hk];rfl) o) ?_;rintro e' w' ⟨rfl,w1,n,D⟩;have J:=g.below n;have E:=i.below n;refine .inl ⟨_,_,rfl,hk,rfl,rfl,Inv.lk D (J.setB E _),(E.setMac (x':=x.drop a.data.toList) rfl B C).below (bl0 D),((Mx.ofBelow n).setB _).lk D⟩
 ·refine Calls.mono (qej X.xb p q j a r s b c w (by have h:p=4:=H;omega)) ?_;rintro e' w' ⟨rfl,n⟩;exact .inr ⟨nofun,rfl,n⟩
 ·refine Calls.mono (qej X.xb p q j a r s b c w u) ?_;rintro e' w' ⟨rfl,n⟩;exact .inr ⟨λt k h=>absurd h (I t k),rfl,n⟩
structure AtD (K:Rl) (X:Xe) (G:Gh) (S:Sub) (m:Mc) (x:Xs) (w:Wd) (t0:Bs) (k:Int) (r:List Dt) (a:OA) (len cap:Nat):Prop where
 g:Inv G S m w
 i:XInv K X G S x [] w
 row:DRow G a len cap (.sym t0 k::r)
 mb:qad r<=1000000000000
theorem qyn{S:Sub}{f:Nat}{x:Xs}{t:Bs}{k:Int}{r:List Dt}{mc:Macro}(h:x.means (t,k) []=.mac mc):top S (f+1) x (.list (.sym t k::r))=match use S x mc r []with
  |(.error e,x)=>(.error e,x)
  |(.ok (d,x),_)=>top S f x d:=by
 simp only[top,h];rfl
theorem qn8(S:Sub):∀(f:Nat) (x:Xs) (d:Dt),(top S f x d).1≠.error 0->qaf d<=1000000000000->
  (∃j x' b,qf5 S f x [] d=(.ok b,x')/\j+1<=f/\top S f x d=top S (j+1) x' b/\(qca x' [] b).1≠2/\qaf b<=1000000000000)\/(∃g x',qf5 S f x [] d=(.error g,x')/\top S f x d=(.error g,x'))
 |0,x,d,h,_=>absurd rfl h
 |f+1,x,d,h,hm=>by
  by_cases c:(qca x [] d).1=2
  ·obtain⟨t,k,r,mc,rfl,a,_,_⟩:=qjn c;have e1:qf5 S (f+1) x [] (.list (.sym t k::r))=match use S x mc r []with
     |(.error e,x)=>(.error e,x)
     |(.ok (d,x),_)=>qf5 S f x [] d:=by simp only[qf5,a];rfl
   rw[qyn a]at h|-;rw[e1];cases hu:use S x mc r []with
   |mk i l=>
    rw[hu]at h;cases i with
    |error e=>exact .inr ⟨e,l,rfl,rfl⟩
    |ok p=>
     obtain⟨m,x1⟩:=p;simp only at h|-;have n:=qkg hu;rw[qb6]at n;rcases qn8 S f x1 m h (by omega)with⟨j,x',b,o,w,s,u,v⟩|q
     ·exact .inl ⟨j,x',b,o,by omega,s,u,v⟩
     ·exact .inr q
  ·exact .inl ⟨f,x,d,qhh c,eR _,rfl,c,hm⟩
def qiz(K:Rl)(S:Sub):Prop:=∀(X:Xe) (G:Gh) (m:Mc) (x:Xs) (w:Wd) (t0:Bs) (k:Int) (r:List Dt) (a:OA) (len cap:Nat),AtD K X G S m x w t0 k r a len cap->Calls prog 234 #[bp X.xb,.slice a len cap] w (RetP (λv w2=>v=.tuple #[]/\∃Y H x',qcm x r=(.ok .skip,x')/\Mx X G w Y H w2/\Inv H S m w2/\XInv K Y H S x' [] w2) (TPost K X G S m w (qcm x r)))
def qm6(d:Dt):Prop:=∃k r,d=.list (.sym [100,101,102,105,110,101,45,115,121,110,116,97,120] k::r)
theorem q1p(hR:qh1 K S)(hS:qiz K S\/∀(X:Xe) (G:Gh) (w:Wd) (x:Xs) (F:Nat) (d D:Dt) (x':Xs),XInv K X G S x [] w->qf5 S F x [] d=(.ok D,x')->¬qm6 d->¬qm6 D)(X:Xe)(G:Gh)(m:Mc)(x:Xs)(w:Wd)(d:Dt)(e:Dl)(g:Inv G S m w)(i:XInv K X G S x [] w)(hd:DRep G d e)(E:qaf d<=1000000000000)(a4:f<=1000000000)(hne:(top S f x d).1≠.error 0)(V:qiz K S\/¬qm6 d):
  Calls prog 144 #[bp X.xb,.agg e.cells] w (TPost K X G S m w (top S f x d)):=by
 have y:=qn8 S f x d hne E;obtain⟨xk,xn,Z,a0,xm,xa,I,J⟩:=e;refine qtm X.xb xk xn Z a0 xm xa I J w _ λw1 z=>?_
 have M:Below w.heap.size w w1:=bl1 z;have N:(qf5 S f x [] d).1≠.error 0:=by
  rcases y with⟨j,x',D,p,_⟩|⟨vd,x',p,T⟩
  ·rw[p];exact nofun
  ·rw[T]at hne;rw[p];exact λh=>hne (by cases h;rfl)
 refine Calls.mono (hR X G m x [] w1 d _ f (g.below M) (i.below M) hd E N) ?_;rintro e' w2 (⟨H,D,x',e2,n,rfl,mx,g2,i2,A⟩|⟨vd,x',n,rfl,hc,a1⟩)
 ·rcases y with⟨j,x1,d1,p,hj,O,B,u⟩|⟨vd,x1,p,T⟩
  ·have P:qiz K S\/¬qm6 d1:=by
    rcases V with h|h
    ·exact .inl h
    ·rcases hS with h'|h'
     ·exact .inl h'
     ·exact .inr (h' X G w x f d d1 x1 i p h)
   rw[p]at n;obtain⟨rfl,rfl⟩:d1=D/\x1=x':=by simpa using n
   rw[O]at hne|-;have Q:=(qj3 (e2:=e2) g i z mx g2 i2 ⟨rfl,rfl,rfl,rfl⟩).1;refine .inr ⟨_,rfl,e2,rfl,Q,λW hW=>?_⟩;obtain⟨_,gW,iW,a2⟩:=qj3 g i z mx g2 i2 hW;refine Calls.mono (qhi gW iW A) ?_;rintro e3 w3 ⟨rfl,s⟩;refine⟨_,rfl,s,?_⟩;have g3:=gW.below s;have i3:=iW.below s;have C:=a2.below s;obtain⟨hF,_,hL⟩:=q3m hR (j+1);have b:kwN x1 [] d1≠[100,101,102,105,110,101]->kwN x1 [] d1≠[100,101,102,105,110,101,45,115,121,110,116,97,120]->top S (j+1) x1 d1=form S (j+1) x1 [] d1->
     ((⟨(kwN x1 [] d1).toArray⟩:BA).toList== [100,101,102,105,110,101])=false/\((⟨(kwN x1 [] d1).toArray⟩:BA).toList== [100,101,102,105,110,101,45,115,121,110,116,97,120])=false/\∀w4,Lk w3 w4->Calls prog 236 #[bp X.xb,.agg e2.cells] w4 (RQ (TPost K X G S m w (top S (j+1) x1 d1))):=by
    intro n1 n2 hf;refine⟨by rw[qbe];simpa using n1,by rw[qbe];simpa using n2,λw4 o=>?_⟩;rw[hf]at hne|-;refine Calls.mono (hF X H m x1 [] w4 d1 e2 (Inv.lk o g3) (i3.below (bl0 o)) A u (by simp;omega) hne) ?_;intro e6 w6 h6;have U:=TPost.from (C.lk o) (TPost.of h6);exact RQ.of U U.ends
   cases d1 with
   |num v=>exact .inr (.inr (b nofun nofun rfl))
   |bool v=>exact .inr (.inr (b nofun nofun rfl))
   |str v=>exact .inr (.inr (b nofun nofun rfl))
   |sym t k=>exact .inr (.inr (b nofun nofun rfl))
   |list l=>
    cases l with
    |nil=>exact .inr (.inr (b nofun nofun rfl))
    |cons d0 r=>
     cases d0 with
     |num v=>exact .inr (.inr (b nofun nofun rfl))
     |bool v=>exact .inr (.inr (b nofun nofun rfl))
     |str v=>exact .inr (.inr (b nofun nofun rfl))
     |list v=>exact .inr (.inr (b nofun nofun rfl))
     |sym t k=>
      have a3:qad r<=1000000000000:=by simp only[qaf,qad]at u;omega
      rcases qik B with⟨q,c⟩|⟨kk,hk,q,c⟩
      ·exact .inr (.inr (b (by rw[c];exact nofun) (by rw[c];exact nofun) (by simp only[top,q])))
      ·rcases qoo hk with⟨rfl,rfl⟩|⟨rfl,rfl⟩|⟨rfl,rfl⟩|⟨rfl,rfl⟩|⟨rfl,rfl⟩|⟨rfl,rfl⟩|⟨rfl,rfl⟩|⟨rfl,rfl⟩
       ·exact .inr (.inr (b (by rw[c];decide) (by rw[c];decide) (by simp only[top,q])))
       ·exact .inr (.inr (b (by rw[c];decide) (by rw[c];decide) (by simp only[top,q])))
       ·exact absurd (by simp only[top,q]) hne
       ·exact .inr (.inr (b (by rw[c];decide) (by rw[c];decide) (by simp only[top,q])))
       ·exact .inr (.inr (b (by rw[c];decide) (by rw[c];decide) (by simp only[top,q])))
       ·exact .inr (.inr (b (by rw[c];decide) (by rw[c];decide) (by simp only[top,q])))
       ·exact .inr (.inr (b (by rw[c];decide) (by rw[c];decide) (by simp only[top,q])))
       ·refine .inr (.inl ⟨by rw[c],λw4 o=>?_⟩);have ht:top S (j+1) x1 (.list (.sym [100,101,102,105,110,101,45,115,121,110,116,97,120] k::r))=qcm x1 r:=by simp only[top,q]
        rw[ht];rcases P with hs|hs
        ·refine Calls.mono (hs X H m x1 w4 _ k r e2.a e2.len e2.cap ⟨Inv.lk o g3,i3.below (bl0 o),A.row,a3⟩) ?_;intro e6 w6 h6;refine h6.imp ?_ ?_
         ·rintro v w7 ⟨rfl,Y,L,x9,q1,q2,q3,q4⟩;exact⟨rfl,.inr ⟨Y,L,.skip,x9,_,q1,rfl,(C.lk o).trans q2,q3,q4,.inl ⟨rfl,rfl⟩⟩⟩
         ·intro ps w7 U;exact TPost.from (C.lk o) U
        ·exact absurd ⟨k,r,rfl⟩ hs
  ·rw[p]at n;simp at n
 ·rcases y with⟨j,x1,d1,p,_⟩|⟨R,x1,p,T⟩
  ·rw[p]at n;simp at n
  ·rw[p]at n;obtain⟨rfl,rfl⟩:R=vd/\x1=x':=by simpa using n
   exact .inl ⟨_,rfl,.inl ⟨R,x1,T,rfl,hc,a1⟩⟩
theorem qbg{v:Vu}(h:Below n w w')(e:n<=b):Below n w (w'.setCell ⟨b,k,none⟩ v):=
 ⟨h.os,h.tape,h.output,by rw[qag];exact h.size,λc d=>by rw[qab (a:=⟨b,k,none⟩) c (by show c≠b;omega)];exact h.block c d⟩
def K0:Rl:=⟨λ_ _ _=>False,λ_ h=>h⟩
mutual
def wt:Dt->Nat
 | .num _=>1
 | .bool _=>1
 | .str t=>t.length+1
 | .sym t _=>t.length+1
 | .list l=>1+wtL l
def wtL:List Dt->Nat
 | []=>0
 |d::r=>wt d+wtL r
end
theorem qq9(a b:List Dt):wtL (a++b)=wtL a+wtL b:=by
 induction a with
 |nil=>simp[wtL]
 |cons d r c=>simp only[List.cons_append,wtL,c];omega
theorem qxt(P:UInt8->Bool)(l:List UInt8):(l.takeWhile P).length+(l.dropWhile P).length=l.length:=by
 rw[<-List.length_append,List.takeWhile_append_dropWhile]
theorem qi5(b:Bool)(l:List UInt8):(Px.skip b l).length<=l.length:=(Px.skip_suf l b).length_le
def q1k(l:List UInt8)(r:Py.R):Prop:=∀xs rr,r=.inr (xs,rr)->wtL xs+10*rr.length<=10*l.length
theorem qe9(l:List UInt8)(t:Dt)(r:List UInt8)(h:wt t+10*r.length<=10*l.length):q1k l (Py.closed t r):=by
 intro xs a e;unfold Py.closed at e;split at e
 ·cases e;simpa[wtL]using h
 ·split at e
  ·cases e;simpa[wtL]using h
  ·cases e
theorem qyh(c:UInt8)(r:List UInt8)(h:Px.wordB c=true):q1k (c::r) (Py.word (c::r)):=by
 have d:=qxt Px.wordB (c::r);have g:1<=((c::r).takeWhile Px.wordB).length:=by simp[List.takeWhile,h]
 unfold Py.word;generalize (c::r).takeWhile Px.wordB=a at d g;generalize (c::r).dropWhile Px.wordB=b at d;intro xs f e;unfold Py.wordOf at e;split at e
 ·split at e
  ·exact qe9 (c::r) _ b (by simp only[wt];omega) xs f e
  ·cases e
 ·split at e
  ·cases e
  ·exact qe9 (c::r) _ b (by simp only[wt];omega) xs f e
theorem q1r(c:UInt8)(r:List UInt8):q1k (c::r) (Py.str r):=by
 have a:=qxt Px.strB r;intro xs d e;unfold Py.str at e;split at e
 ·cases e
 ·rename_i c' f b;split at e
  ·cases e;rw[b]at a;simp only[List.length_cons,wtL,wt]at a|-;omega
  ·cases e
theorem qu2(c:UInt8)(r:List UInt8):q1k (c::r) (Py.truth r):=by
 intro xs a e;unfold Py.truth at e;split at e
 ·cases e
 ·rename_i c' b;split at e
  ·exact qe9 _ _ b (by simp only[wt,List.length_cons];omega) xs a e
  ·split at e
   ·exact qe9 _ _ b (by simp only[wt,List.length_cons];omega) xs a e
   ·cases e
theorem qr7:∀(f:Nat) (b:Bool) (d:Nat) (l:List UInt8),q1k l (Py.rd f b d l)
 |0,_,_,_=>λxs g e=>by simp[Py.rd]at e
 |f+1,true,d,l=>λxs g e=>by
  have i:=qi5 false l;rw[Py.rd]at e;split at e
  ·cases e
  ·rename_i c r h;rw[h]at i;split at e
   ·cases e;simp only[wtL,List.length_cons]at i|-;omega
   ·split at e
    ·cases e
    ·rename_i x m j;split at e
     ·cases e
     ·rename_i k q n;cases e;have a:=qr7 f false d (c::r) x m j;have b:=qr7 f true d m k g n;rw[qq9];omega
 |f+1,false,d,l=>λxs g e=>by
  have i:=qi5 false l;rw[Py.rd]at e;split at e
  ·cases e
  ·rename_i c r h;rw[h]at i;simp only[List.length_cons]at i;split at e
   ·split at e
    ·cases e
    ·split at e
     ·cases e
     ·rename_i k m j;cases e;have a:=qr7 f true (d+1) r k g j;simp only[wtL,wt];omega
   ·split at e
    ·split at e
     ·cases e
     ·split at e
      ·cases e
      ·rename_i k m j;cases e;have a:=qr7 f false (d+1) r k g j;have o:Px.quoteT.length=5:=rfl;simp only[wtL,wt,o];omega
    ·split at e
     ·have:=q1r c r xs g e;simp only[List.length_cons]at this;omega
     ·split at e
      ·have:=qu2 c r xs g e;simp only[List.length_cons]at this;omega
      ·split at e
       ·rename_i p;have:=qyh c r p xs g e;simp only[List.length_cons]at this;omega
       ·cases e
theorem qyq:∀(f:Nat) (l:List UInt8) (xs:List (Dt×Nat)) (d:List UInt8),Py.topP f l=.inr (xs,d)->wtL (xs.map (·.1))+10*d.length<=10*l.length:=by
 intro f l xs d h;have j:=Py.topP_top f l;rw[h]at j;have g:∀(f:Nat) (l:List UInt8),q1k l (Py.top f l):=by
  intro f;induction f with
  |zero=>intro l xs d e;simp[Py.top]at e
  |succ f m=>
   intro l xs d e;have n:=qi5 false l;rw[Py.top]at e;split at e
   ·cases e;simp[wtL]
   ·rename_i c r i;rw[i]at n;split at e
    ·cases e
    ·rename_i x k o;split at e
     ·cases e
     ·rename_i p s q;cases e;have a:=qr7 f false 0 (c::r) x k o;have b:=m k p d q;rw[qq9];omega
 exact g f l _ _ j
mutual
theorem qif:∀d:Dt,qaf d+1<=wt d
 | .num _=>by simp[qaf,wt]
 | .bool _=>by simp[qaf,wt]
 | .str _=>by simp[qaf,wt]
 | .sym _ _=>by simp[qaf,wt]
 | .list l=>by have:=qha l;simp only[qaf,wt];omega
theorem qha:∀l:List Dt,qad l<=wtL l
 | []=>by simp[qad]
 |d::r=>by have:=qif d;have:=qha r;simp only[qad,wtL];omega
end
theorem qxq{l:List Dt}{d:Dt}(h:d∈l):wt d<=wtL l:=by
 induction l with
 |nil=>simp at h
 |cons a r b=>
  simp only[wtL];rcases List.mem_cons.1 h with rfl|h
  ·omega
  ·have:=b h;omega
theorem q1o(d:Dt):1<=wt d:=by cases d <;> simp[wt]
theorem qyg(l:List Dt):l.length<=wtL l:=by
 induction l with
 |nil=>simp
 |cons a r b=>have:=q1o a;simp only[List.length_cons,wtL];omega
abbrev qkd(e:Rd.El):Dl:=⟨e.k,e.n,e.tr,e.tx,e.m,e.a,e.len,e.cap⟩
theorem qoz{G:Gh}:∀(es:List Rd.El) (a:List Dt),es.length=a.length->(∀(i:Nat) (x:Rd.El) (u:Dt),es[i]? =some x->a[i]? =some u->DRep G u (qkd x))->DsRep G a (es.map qkd)
 | [],[],_,_=>.nil
 | [],_::_,h,_=>by simp at h
 |_::_,[],h,_=>by simp at h
 |e::es,t::a,h,ha=>.cons _ _ _ _ (ha 0 e t rfl rfl) (qoz es a (by simpa using h) λi x u b c=>ha (i+1) x u (by simpa using b) (by simpa using c))
theorem qqt(l:List Rd.El)(i j:Nat)(x:Rd.El)(h:l[i]? =some x)(a:j<6):(l.flatMap Rd.El.cells)[i*6+j]? =(qkd x).cells[j]?:=by
 have e:l.flatMap Rd.El.cells=qch (l.map qkd):=by
  unfold qch;rw[List.flatMap_map];rfl
 rw[e];exact qir (l.map qkd) i j (qkd x) (by simp[h]) a
theorem qob{lo:Nat}{w:Wd}{G:Gh}(hI:∀(g:Nat) (k:Array Vu),lo<=g->w.heap[g]? =some (.cells k 134 (0,0))->G.I g=some (.cells k 134 (0,0))):∀{m:Nat} {e:Rd.El} {t:Dt},Rd.Rep lo Rd.NoB w m e t->wt t<=20000->DRep G t (qkd e)
 |0,_,_,h,_=>False.elim h
 |m+1,e,t,h,hw=>by
  rcases h with⟨b,rfl,v,r,d,l,n⟩|⟨b,rfl,d,l,n⟩|⟨b,rfl,d,l,n⟩|⟨b,rfl,d⟩|⟨b,es,f,rfl,E,c,o⟩
  ·exact .num (qkd e) b v r ⟨d,l,n⟩
  ·exact .bool (qkd e) b ⟨d,l,n⟩
  ·refine .str (qkd e) b ?_ ⟨d,l,n⟩;simp only[wt]at hw;have:e.tx.data.toList.length=e.tx.size:=by rw[Array.length_toList];rfl
   show e.tx.size<=1000000000;omega
  ·refine .sym (qkd e) b ?_ d;simp only[wt]at hw;have:e.tx.data.toList.length=e.tx.size:=by rw[Array.length_toList];rfl
   show e.tx.size<=1000000000;omega
  ·have z:wtL f<=20000:=by simp only[wt]at hw;omega
   have F:=qyg f;have K:=qoz (G:=G) es f E λi x u v r=>qob hI (o i x u v r) (eT (qxq (List.mem_of_getElem? r)) z)
   have A:=c.len;rcases c.owns.2 with⟨s,B⟩|⟨g,cap,p,s,L,M,N,Q,O,C⟩
   ·have:f=[]:=by cases f with|nil=>rfl|cons=>simp at E;omega
    subst this;exact .nil (qkd e) b B
   ·have q:e.a=some ⟨g,0,none⟩/\e.cap=cap:=by
     simp only[Rd.El.sl]at s;exact⟨by injection s,by injection s⟩
    refine .list (qkd e) b f (es.map qkd) g 0 p (by simp[A]) (by show e.len<=e.cap;rw[q.2];exact N) (by show e.len<=30000;omega) q.1 (hI g p L M) (λi j x H J=>?_) K;rw[List.getElem?_map]at H;obtain⟨y,P,rfl⟩:=Option.map_eq_some_iff.1 H;have:=qqt es i j y P J;rw[<-C,List.getElem?_take]at this;rw[Nat.zero_add];split at this
    ·simpa using this
    ·have D:j<(qkd y).cells.size:=J;rw[Array.getElem?_eq_getElem D]at this;cases this
theorem qqm(G:Gh)(S:Sub)(m:Mc)(w:Wd)(t:BA)(i:Inv G S m w)(f:qdj t.data.toList G.B=none):
  Calls prog 227 #[bp G.mb,.string t] w λe w'=>e=.returned (bp w.heap.size)/\Mv G w (G.glob t.data.toList w.heap.size) w'/\Inv (G.glob t.data.toList w.heap.size) S m w'/\w'.heap.size=w.heap.size+1:=by
 obtain⟨es,a,d,k⟩:=i.mp;have c2:=i.mb2;have l:=qii G.mp es a G.B t w d k;rw[f]at l;have l:(Instr.lookup 114 (.map (some G.mp)) (.string t) false).run prog w=.ok (.pointer none) w:=l;have g:G.mp<w.heap.size:=(eE.1 d).1;have u:=qe2 G.mp w.heap.size es a G.B t (w.alloc (.cells #[.nilIface] 318)) (by rw[eH _ _ _ g];exact d) k f;have v:(w.alloc (.cells #[.nilIface] 318)).cell? ⟨G.mb,2,none⟩=some (.map (some G.mp)):=(qac (qae c2) _).trans c2;have j:=hZ i;have q:=hZ k;have r:=hZ (qfj f);have x:=hZ d;clear i k f d;go_enter func227,ntmps227
 go_wp2;go_ret;have s:=j.out.below ((Below.refl _ _).alloc (eR _) (.cells #[.nilIface] 318));refine⟨rfl,⟨G.up_glob _ _,λ_=>rfl,fun {b} f=>?_,fun {c} n o=>?_,by simp⟩,s.newGlob r.out (eN _ _) (λh=>by have:=j.out.ml h;omega) (j.out.fresh (eR _)) (λh=>by have:=(j.out.ff h).2;omega) ?_ (by simp) ⟨rfl,rfl,rfl⟩ ⟨es.push ⟨.string t,bp w.heap.size,a⟩,a+1,?_,?_⟩,by simp⟩
 ·simp only[Gh.mut,Gh.glob,Gh.rows,List.mem_cons,List.mem_append,List.map_append,List.map_cons,List.map_nil,List.not_mem_nil,or_false]at f|-;rcases f with h|h|h|h|(h|h)|h
  ·exact .inl (.inl h)
  ·exact .inl (.inr (.inl h))
  ·exact .inl (.inr (.inr (.inl h)))
  ·exact .inl (.inr (.inr (.inr (.inl h))))
  ·exact .inl (.inr (.inr (.inr (.inr (.inl h)))))
  ·exact .inr (by omega)
  ·exact .inl (.inr (.inr (.inr (.inr (.inr h)))))
 ·have p:c≠G.mp:=λe=>o (e▸j.out.m4)
  simp[Ne.symm p,eH _ _ _ n]
 ·intro c o;simp[Ne.symm o]
 ·simp[Array.getElem?_setIfInBounds];omega
 ·simp[q.out]
theorem qis(G:Gh)(S:Sub)(m:Mc)(w:Wd)(t:BA)(v:Vl)(x:Vu)(i:Inv G S m w)(n:qdj t.data.toList G.B=none)(j:VRep G v x):
  Calls prog 139 #[bp G.mb,.string t,x] w λe w'=>e=.returned (.tuple #[])/\Mv G w (G.glob t.data.toList w.heap.size) w'/\Inv (G.glob t.data.toList w.heap.size) S {m with glob:=put t.data.toList v m.glob} w'/\w'.heap.size=w.heap.size+1:=by
 obtain⟨ty,y,rfl⟩:=j.form;have o:=hZ (qqm G S m w t i n);have p:=hZ j;have q:Hid (∀b,b∈G.mut->b<w.heap.size):=λb h=>i.ml h
 clear i j n;go_enter func139,ntmps139
 go_wp2_with (go_at_call 227;refine o.out.mono ?_;rintro e w2 ⟨rfl,r⟩;refine Hid.out ?_)
 obtain⟨c,d,g⟩:=r;have f:(t.data.toList,w.heap.size)∈(G.glob t.data.toList w.heap.size).B:=List.mem_append_right _ (by simp);obtain⟨z,s,l⟩:=d.gcell f;have u:=d.gfz f;have A:=hZ (And.intro c (And.intro d (And.intro f g)));clear c d f g;rcases l with rfl|⟨E,F,rfl⟩;all_goals
  refine hZ ?_;go_wp2;go_end0;obtain⟨c,d,f,g⟩:=A.out;refine⟨rfl,⟨c.up,c.I,c.mu,fun {k} C D=>?_,by rw[qag];exact c.size⟩,d.setGlob f (p.out.mono c.up.le),by rw[qag];exact g⟩;rw[qab (a:=⟨w.heap.size,0,none⟩) k (by show k≠w.heap.size;omega)];exact c.blk C D
def Mk(F T W:Nat):Prop:=∀(k:Nat) (cc:Array Vu) (w:Wd),Calls prog F #[.func (.func k) #[] cc] w λe w'=>e=.returned (bp (w.heap.size+1))/\Lk ((w.alloc (.cells #[.func (.func k) #[] cc] T)).alloc (.cells #[.func (.func W) #[] #[bp w.heap.size]] 300)) w'
def MkM(F W:Nat):Prop:=∀(mb:Nat) (w:Wd),Calls prog F #[bp mb] w λe w'=>e=.returned (bp (w.heap.size+1))/\Lk ((w.alloc (.cells #[bp mb] 107)).alloc (.cells #[.func (.func W) #[] #[bp w.heap.size]] 300)) w'
theorem qms:Mk 177 283 257:=by
 intro k cc w;go_enter func177,ntmps177
 go_wp2;go_ret;exact⟨rfl,rfl,rfl,rfl,rfl⟩
theorem qgj:Mk 193 287 268:=by
 intro k cc w;go_enter func193,ntmps193
 go_wp2;go_ret;exact⟨rfl,rfl,rfl,rfl,rfl⟩
theorem qv3:Mk 195 289 270:=by
 intro k cc w;go_enter func195,ntmps195
 go_wp2;go_ret;exact⟨rfl,rfl,rfl,rfl,rfl⟩
theorem q2h:Mk 201 293 271:=by
 intro k cc w;go_enter func201,ntmps201
 go_wp2;go_ret;exact⟨rfl,rfl,rfl,rfl,rfl⟩
theorem q4k:Mk 210 306 274:=by
 intro k cc w;go_enter func210,ntmps210
 go_wp2;go_ret;exact⟨rfl,rfl,rfl,rfl,rfl⟩
theorem q4j:Mk 214 308 276:=by
 intro k cc w;go_enter func214,ntmps214
 go_wp2;go_ret;exact⟨rfl,rfl,rfl,rfl,rfl⟩
theorem q4i:Mk 216 310 277:=by
 intro k cc w;go_enter func216,ntmps216
 go_wp2;go_ret;exact⟨rfl,rfl,rfl,rfl,rfl⟩
theorem q4h:Mk 219 312 278:=by
 intro k cc w;go_enter func219,ntmps219
 go_wp2;go_ret;exact⟨rfl,rfl,rfl,rfl,rfl⟩
theorem q4g:MkM 221 280:=by
 intro mb w;go_enter func221,ntmps221
 go_wp2;go_ret;exact⟨rfl,rfl,rfl,rfl,rfl⟩
theorem q4f:MkM 222 284:=by
 intro mb w;go_enter func222,ntmps222
 go_wp2;go_ret;exact⟨rfl,rfl,rfl,rfl,rfl⟩
theorem q4e:MkM 223 286:=by
 intro mb w;go_enter func223,ntmps223
 go_wp2;go_ret;exact⟨rfl,rfl,rfl,rfl,rfl⟩
def q65(mb:Nat)(nm:BA)(P:Wd->Prop)(e:En)(w1:Wd):Prop:=∃b,e=.returned (bp b)/\∀w2,Lk w1 w2->Calls prog 139 #[bp mb,.string nm,.iface 281 (bp b)] w2 λe w3=>e=.returned (.tuple #[])/\P w3
def q3w(mb q:Nat)(nm:BA)(P:Wd->Prop)(e:En)(w1:Wd):Prop:=∃b,e=.returned (bp b)/\w1.cell? ⟨q,0,none⟩=some (bp mb)/\∀w2,Lk w1 w2->Calls prog 139 #[bp mb,.string nm,.iface 281 (bp b)] w2 λe w3=>e=.returned (.tuple #[])/\w3.cell? ⟨q,0,none⟩=some (bp mb)/\P w3
def SK(mb:Nat)(St:Nat->Wd->Prop)(k f:Nat)(a:Array Vu)(nm:Bs):Prop:=∀w',St k w'->Calls prog f a w' (q65 mb ⟨nm.toArray⟩ (St (k+1)))
def SKq(mb q:Nat)(St:Nat->Wd->Prop)(k f:Nat)(a:Array Vu)(nm:Bs):Prop:=∀w',St k w'->Calls prog f a w' (q3w mb q ⟨nm.toArray⟩ (St (k+1)))
theorem qt5(mb:Nat)(w:Wd)(Q:En->Wd->Prop)(St:Nat->Wd->Prop)(c:St 0 w)(s:SK mb St 0 177 #[.func (.func 178) #[] #[]] [43]/\SK mb St 1 177 #[.func (.func 179) #[] #[]] [45]/\SK mb St 2 177 #[.func (.func 180) #[] #[]] [42]/\SK mb St 3 177 #[.func (.func 181) #[] #[]] [113,117,111,116,105,101,110,116]/\SK mb St 4 177 #[.func (.func 182) #[] #[]] [114,101,109,97,105,110,100,101,114]/\SK mb St 5 177 #[.func (.func 183) #[] #[]] [61]/\SK mb St 6 177 #[.func (.func 184) #[] #[]] [60]/\True)
  (d:∀w',St 7 w'->Q (.returned (.tuple #[])) w'):Calls prog 132 #[bp mb] w Q:=by
 have f:=hZ d;have X:=hZ c;have S:=hZ s;clear d c s;go_enter func132,ntmps132
 iterate 7 (have s:=hZ S.out.1;replace S:=hZ S.out.2;go_wp2_with (first|(go_at_call 177;refine(s.out _ X.out).mono ?_;clear s X;rintro e w1 ⟨b,rfl,a⟩;have K:=hZ a;clear a)|(go_at_call 139;refine(K.out _ (by exact⟨rfl,rfl,rfl,rfl⟩)).mono ?_;clear K;rintro e v ⟨rfl,a⟩;have X:=hZ a;clear a;refine Hid.out ?_));refine hZ ?_)
 go_wp2;go_end0;exact f.out _ X.out
theorem qt4(mb:Nat)(w:Wd)(Q:En->Wd->Prop)(St:Nat->Wd->Prop)(c:St 0 w)(s:SK mb St 0 185 #[] [110,117,108,108,63]/\SK mb St 1 186 #[] [112,97,105,114,63]/\SK mb St 2 187 #[] [105,110,116,101,103,101,114,63]/\SK mb St 3 188 #[] [115,121,109,98,111,108,63]/\SK mb St 4 189 #[] [115,116,114,105,110,103,63]/\SK mb St 5 190 #[] [98,111,111,108,101,97,110,63]/\SK mb St 6 191 #[] [112,114,111,99,101,100,117,114,101,63]/\SK mb St 7 192 #[] [115,101,97,108,63]/\True)
  (d:∀w',St 8 w'->Q (.returned (.tuple #[])) w'):Calls prog 133 #[bp mb] w Q:=by
 have f:=hZ d;have X:=hZ c;have S:=hZ s;clear d c s;go_enter func133,ntmps133
 iterate 8 (have s:=hZ S.out.1;replace S:=hZ S.out.2;go_wp2_with (first|((first|go_at_call 185|go_at_call 186|go_at_call 187|go_at_call 188|go_at_call 189|go_at_call 190|go_at_call 191|go_at_call 192);refine(s.out _ X.out).mono ?_;clear s X;rintro e w1 ⟨b,rfl,a⟩;have K:=hZ a;clear a)|(go_at_call 139;refine(K.out _ (by exact⟨rfl,rfl,rfl,rfl⟩)).mono ?_;clear K;rintro e v ⟨rfl,a⟩;have X:=hZ a;clear a;refine Hid.out ?_));refine hZ ?_)
 go_wp2;go_end0;exact f.out _ X.out
theorem qt3(mb:Nat)(w:Wd)(Q:En->Wd->Prop)(St:Nat->Wd->Prop)(l:∀w',Lk (w.alloc (.cells #[bp mb] 107)) w'->St 0 w')(g:∀k w1 w2,St k w1->Lk w1 w2->St k w2)(s:SKq mb w.heap.size St 0 193 #[.func (.func 194) #[] #[]] [110,111,116]/\SKq mb w.heap.size St 1 195 #[.func (.func 196) #[] #[]] [101,113,63]/\SKq mb w.heap.size St 2 195 #[.func (.func 197) #[] #[bp w.heap.size]] [101,113,117,97,108,63]/\True)
  (m:∀w',St 3 w'->Q (.returned (.tuple #[])) w'):Calls prog 134 #[bp mb] w Q:=by
 have o:∀(n:Fn) (first cap:Array Vu) (w:Wd),(Instr.makeFunc n first cap).run prog w=.ok (.func n first cap) w:=λ_ _ _ _=>rfl
 have p:=hZ m;have h:=hZ g;have X:=hZ (l _ (by exact⟨rfl,rfl,rfl,rfl⟩));have S:=hZ s;have i:=eN w (.cells #[bp mb] 107);have d:(w.alloc (.cells #[bp mb] 107)).cell? ⟨w.heap.size,0,none⟩=some (bp mb):=by simp only[World.cell?,i];rfl
 clear m g l i s;go_enter func134,ntmps134
 go_wp2_with (fail)
 generalize w.alloc (.cells #[bp mb] 107)=v0 at X d|-
 iterate 2 (have s:=hZ S.out.1;replace S:=hZ S.out.2;go_region_held2 (λw'=>w'.cell? ⟨w.heap.size,0,none⟩=some (bp mb)) (first|(exact d)|(exact j.out)|(exact f.out)|go_keep) (first|((first|go_at_call 193|go_at_call 195);refine(s.out _ (h.out _ _ _ X.out (by exact⟨rfl,rfl,rfl,rfl⟩))).mono ?_;rintro e w1 ⟨b,rfl,a,c⟩;have j:=hZ a;have K:=hZ c;clear a c)|(go_at_call 139;refine(K.out _ (by exact⟨rfl,rfl,rfl,rfl⟩)).mono ?_;rintro e v ⟨rfl,a,c⟩;have f:=hZ a;replace X:=hZ c;clear a c));replace d:=f.out;clear j f K s;go_wp2_with (fail))
 have s:=hZ S.out.1;replace S:=hZ S.out.2;go_region_held2 (λw'=>w'.cell? ⟨w.heap.size,0,none⟩=some (bp mb)) (first|(exact d)|(exact j.out)|(exact f.out)|go_keep) (first|((first|go_at_call 193|go_at_call 195);refine(s.out _ (h.out _ _ _ X.out (by exact⟨rfl,rfl,rfl,rfl⟩))).mono ?_;rintro e w1 ⟨b,rfl,a,c⟩;have j:=hZ a;have K:=hZ c;clear a c)|(go_at_call 139;refine(K.out _ (by exact⟨rfl,rfl,rfl,rfl⟩)).mono ?_;rintro e v ⟨rfl,a,c⟩;have f:=hZ a;replace X:=hZ c;clear a c));replace d:=f.out;clear j f K s;all_goals go_wp2
 all_goals go_end0
 all_goals exact p.out _ X.out
theorem qt2(mb:Nat)(w:Wd)(Q:En->Wd->Prop)(St:Nat->Wd->Prop)(l:∀w',Lk (w.alloc (.cells #[bp mb] 107)) w'->St 0 w')(g:∀k w1 w2,St k w1->Lk w1 w2->St k w2)(s:SKq mb w.heap.size St 0 195 #[.func (.func 199) #[] #[bp w.heap.size]] [99,111,110,115]/\SKq mb w.heap.size St 1 201 #[.func (.func 202) #[] #[]] [99,97,114]/\SKq mb w.heap.size St 2 201 #[.func (.func 203) #[] #[]] [99,100,114]/\True)
  (m:∀w',St 3 w'->Q (.returned (.tuple #[])) w'):Calls prog 135 #[bp mb] w Q:=by
 have o:∀(n:Fn) (first cap:Array Vu) (w:Wd),(Instr.makeFunc n first cap).run prog w=.ok (.func n first cap) w:=λ_ _ _ _=>rfl
 have p:=hZ m;have h:=hZ g;have X:=hZ (l _ (by exact⟨rfl,rfl,rfl,rfl⟩));have S:=hZ s;have i:=eN w (.cells #[bp mb] 107);have d:(w.alloc (.cells #[bp mb] 107)).cell? ⟨w.heap.size,0,none⟩=some (bp mb):=by simp only[World.cell?,i];rfl
 clear m g l i s;go_enter func135,ntmps135
 go_wp2_with (fail)
 generalize w.alloc (.cells #[bp mb] 107)=v0 at X d|-
 iterate 2 (have s:=hZ S.out.1;replace S:=hZ S.out.2;go_region_held2 (λw'=>w'.cell? ⟨w.heap.size,0,none⟩=some (bp mb)) (first|(exact d)|(exact j.out)|(exact f.out)|go_keep) (first|((first|go_at_call 195|go_at_call 201);refine(s.out _ (h.out _ _ _ X.out (by exact⟨rfl,rfl,rfl,rfl⟩))).mono ?_;rintro e w1 ⟨b,rfl,a,c⟩;have j:=hZ a;have K:=hZ c;clear a c)|(go_at_call 139;refine(K.out _ (by exact⟨rfl,rfl,rfl,rfl⟩)).mono ?_;rintro e v ⟨rfl,a,c⟩;have f:=hZ a;replace X:=hZ c;clear a c));replace d:=f.out;clear j f K s;go_wp2_with (fail))
 have s:=hZ S.out.1;replace S:=hZ S.out.2;go_region_held2 (λw'=>w'.cell? ⟨w.heap.size,0,none⟩=some (bp mb)) (first|(exact d)|(exact j.out)|(exact f.out)|go_keep) (first|((first|go_at_call 195|go_at_call 201);refine(s.out _ (h.out _ _ _ X.out (by exact⟨rfl,rfl,rfl,rfl⟩))).mono ?_;rintro e w1 ⟨b,rfl,a,c⟩;have j:=hZ a;have K:=hZ c;clear a c)|(go_at_call 139;refine(K.out _ (by exact⟨rfl,rfl,rfl,rfl⟩)).mono ?_;rintro e v ⟨rfl,a,c⟩;have f:=hZ a;replace X:=hZ c;clear a c));replace d:=f.out;clear j f K s;all_goals go_wp2
 all_goals go_end0
 all_goals exact p.out _ X.out
theorem qt1(mb:Nat)(w:Wd)(Q:En->Wd->Prop)(St:Nat->Wd->Prop)(o:∀w',Lk (w.alloc (.cells #[bp mb] 107)) w'->St 0 w')(g:∀k w1 w2,St k w1->Lk w1 w2->St k w2)(p:∀w',St 0 w'->∀w2,Lk (w'.alloc (.cells #[.func (.func 204) #[] #[bp w.heap.size]] 300)) w2->Calls prog 139 #[bp mb,.string ⟨#[108,105,115,116]⟩,.iface 281 (bp w'.heap.size)] w2 λe w3=>e=.returned (.tuple #[])/\w3.cell? ⟨w.heap.size,0,none⟩=some (bp mb)/\St 1 w3)(s:SKq mb w.heap.size St 1 193 #[.func (.func 205) #[] #[bp w.heap.size]] [108,101,110,103,116,104]/\SKq mb w.heap.size St 2 195 #[.func (.func 208) #[] #[bp w.heap.size]] [97,112,112,101,110,100]/\True)
  (q:∀w',St 3 w'->Q (.returned (.tuple #[])) w'):Calls prog 136 #[bp mb] w Q:=by
 have t:∀(r:Fn) (first cap:Array Vu) (w:Wd),(Instr.makeFunc r first cap).run prog w=.ok (.func r first cap) w:=λ_ _ _ _=>rfl
 have u:=hZ q;have i:=hZ g;have X:=hZ (o _ (by exact⟨rfl,rfl,rfl,rfl⟩));have S:=hZ s;have j:=eN w (.cells #[bp mb] 107);have d:(w.alloc (.cells #[bp mb] 107)).cell? ⟨w.heap.size,0,none⟩=some (bp mb):=by simp only[World.cell?,j];rfl
 have l:(w.alloc (.cells #[bp mb] 107)).heap.size=w.heap.size+1:=by simp
 have n:Hid (∀w2,Lk ((w.alloc (.cells #[bp mb] 107)).alloc (.cells #[.func (.func 204) #[] #[bp w.heap.size]] 300)) w2->Calls prog 139 #[bp mb,.string ⟨#[108,105,115,116]⟩,.iface 281 (bp (w.heap.size+1))] w2 λe w3=>e=.returned (.tuple #[])/\w3.cell? ⟨w.heap.size,0,none⟩=some (bp mb)/\St 1 w3):=λw2 h=>by
  have:=p _ X.out w2 h;rw[l]at this;exact this
 clear l p;clear q g o j s;go_enter func136,ntmps136
 go_wp2_with (first|(go_at_call 139;refine(n.out _ (by exact⟨rfl,rfl,rfl,rfl⟩)).mono ?_;clear X d;rintro e v1 ⟨rfl,d,a⟩;have X:=hZ a;clear a;refine Hid.out ?_))
 refine hZ ?_;go_wp2_with (fail)
 iterate 1 (have s:=hZ S.out.1;replace S:=hZ S.out.2;go_region_held2 (λw'=>w'.cell? ⟨w.heap.size,0,none⟩=some (bp mb)) (first|(exact d)|(exact m.out)|(exact f.out)|go_keep) (first|((first|go_at_call 193|go_at_call 195);refine(s.out _ (i.out _ _ _ X.out (by exact⟨rfl,rfl,rfl,rfl⟩))).mono ?_;rintro e w1 ⟨b,rfl,c,a⟩;have m:=hZ c;have K:=hZ a;clear c a)|(go_at_call 139;refine(K.out _ (by exact⟨rfl,rfl,rfl,rfl⟩)).mono ?_;rintro e v ⟨rfl,c,a⟩;have f:=hZ c;replace X:=hZ a;clear c a));replace d:=f.out;clear m f K s;go_wp2_with (fail))
 have s:=hZ S.out.1;replace S:=hZ S.out.2;go_region_held2 (λw'=>w'.cell? ⟨w.heap.size,0,none⟩=some (bp mb)) (first|(exact d)|(exact m.out)|(exact f.out)|go_keep) (first|((first|go_at_call 193|go_at_call 195);refine(s.out _ (i.out _ _ _ X.out (by exact⟨rfl,rfl,rfl,rfl⟩))).mono ?_;rintro e w1 ⟨b,rfl,c,a⟩;have m:=hZ c;have K:=hZ a;clear c a)|(go_at_call 139;refine(K.out _ (by exact⟨rfl,rfl,rfl,rfl⟩)).mono ?_;rintro e v ⟨rfl,c,a⟩;have f:=hZ c;replace X:=hZ a;clear c a));replace d:=f.out;clear m f K s;all_goals go_wp2
 all_goals go_end0
 all_goals exact u.out _ X.out
theorem qt0(mb:Nat)(w:Wd)(Q:En->Wd->Prop)(St:Nat->Wd->Prop)(l:∀w',Lk (w.alloc (.cells #[bp mb] 107)) w'->St 0 w')(g:∀k w1 w2,St k w1->Lk w1 w2->St k w2)(s:SKq mb w.heap.size St 0 210 #[.func (.func 211) #[] #[bp w.heap.size]] [115,116,114,105,110,103,45,97,112,112,101,110,100]/\SKq mb w.heap.size St 1 214 #[.func (.func 215) #[] #[]] [115,116,114,105,110,103,45,108,101,110,103,116,104]/\SKq mb w.heap.size St 2 216 #[.func (.func 217) #[] #[bp w.heap.size]] [110,117,109,98,101,114,45,62,115,116,114,105,110,103]/\SKq mb w.heap.size St 3 219 #[.func (.func 220) #[] #[bp w.heap.size]] [115,121,109,98,111,108,45,62,115,116,114,105,110,103]/\True)
  (m:∀w',St 4 w'->Q (.returned (.tuple #[])) w'):Calls prog 137 #[bp mb] w Q:=by
 have o:∀(n:Fn) (first cap:Array Vu) (w:Wd),(Instr.makeFunc n first cap).run prog w=.ok (.func n first cap) w:=λ_ _ _ _=>rfl
 have p:=hZ m;have h:=hZ g;have X:=hZ (l _ (by exact⟨rfl,rfl,rfl,rfl⟩));have S:=hZ s;have i:=eN w (.cells #[bp mb] 107);have d:(w.alloc (.cells #[bp mb] 107)).cell? ⟨w.heap.size,0,none⟩=some (bp mb):=by simp only[World.cell?,i];rfl
 clear m g l i s;go_enter func137,ntmps137
 go_wp2_with (fail)
 generalize w.alloc (.cells #[bp mb] 107)=v0 at X d|-
 iterate 3 (have s:=hZ S.out.1;replace S:=hZ S.out.2;go_region_held2 (λw'=>w'.cell? ⟨w.heap.size,0,none⟩=some (bp mb)) (first|(exact d)|(exact j.out)|(exact f.out)|go_keep) (first|((first|go_at_call 210|go_at_call 214|go_at_call 216|go_at_call 219);refine(s.out _ (h.out _ _ _ X.out (by exact⟨rfl,rfl,rfl,rfl⟩))).mono ?_;rintro e w1 ⟨b,rfl,a,c⟩;have j:=hZ a;have K:=hZ c;clear a c)|(go_at_call 139;refine(K.out _ (by exact⟨rfl,rfl,rfl,rfl⟩)).mono ?_;rintro e v ⟨rfl,a,c⟩;have f:=hZ a;replace X:=hZ c;clear a c));replace d:=f.out;clear j f K s;go_wp2_with (fail))
 have s:=hZ S.out.1;replace S:=hZ S.out.2;go_region_held2 (λw'=>w'.cell? ⟨w.heap.size,0,none⟩=some (bp mb)) (first|(exact d)|(exact j.out)|(exact f.out)|go_keep) (first|((first|go_at_call 210|go_at_call 214|go_at_call 216|go_at_call 219);refine(s.out _ (h.out _ _ _ X.out (by exact⟨rfl,rfl,rfl,rfl⟩))).mono ?_;rintro e w1 ⟨b,rfl,a,c⟩;have j:=hZ a;have K:=hZ c;clear a c)|(go_at_call 139;refine(K.out _ (by exact⟨rfl,rfl,rfl,rfl⟩)).mono ?_;rintro e v ⟨rfl,a,c⟩;have f:=hZ a;replace X:=hZ c;clear a c));replace d:=f.out;clear j f K s;all_goals go_wp2
 all_goals go_end0
 all_goals exact p.out _ X.out
theorem qtz(mb:Nat)(w:Wd)(Q:En->Wd->Prop)(St:Nat->Wd->Prop)(l:∀w',Lk (w.alloc (.cells #[bp mb] 107)) w'->St 0 w')(g:∀k w1 w2,St k w1->Lk w1 w2->St k w2)(s:SKq mb w.heap.size St 0 221 #[bp mb] [97,112,112,108,121]/\SKq mb w.heap.size St 1 222 #[bp mb] [99,97,108,108,47,99,99]/\SKq mb w.heap.size St 2 223 #[bp mb] [100,121,110,97,109,105,99,45,119,105,110,100]/\SKq mb w.heap.size St 3 193 #[.func (.func 224) #[] #[]] [101,114,114,111,114]/\SKq mb w.heap.size St 4 193 #[.func (.func 225) #[] #[bp w.heap.size]] [115,101,97,108]/\True)
  (m:∀w',St 5 w'->Q (.returned (.tuple #[])) w'):Calls prog 138 #[bp mb] w Q:=by
 have o:∀(n:Fn) (first cap:Array Vu) (w:Wd),(Instr.makeFunc n first cap).run prog w=.ok (.func n first cap) w:=λ_ _ _ _=>rfl
 have p:=hZ m;have h:=hZ g;have X:=hZ (l _ (by exact⟨rfl,rfl,rfl,rfl⟩));have S:=hZ s;have i:=eN w (.cells #[bp mb] 107);have d:(w.alloc (.cells #[bp mb] 107)).cell? ⟨w.heap.size,0,none⟩=some (bp mb):=by simp only[World.cell?,i];rfl
 clear m g l i s;go_enter func138,ntmps138
 go_wp2_with (fail)
 generalize w.alloc (.cells #[bp mb] 107)=v0 at X d|-
 iterate 4 (have s:=hZ S.out.1;replace S:=hZ S.out.2;go_region_held2 (λw'=>w'.cell? ⟨w.heap.size,0,none⟩=some (bp mb)) (first|(exact d)|(exact j.out)|(exact f.out)|go_keep) (first|((first|go_at_call 193|go_at_call 221|go_at_call 222|go_at_call 223);refine(s.out _ (h.out _ _ _ X.out (by exact⟨rfl,rfl,rfl,rfl⟩))).mono ?_;rintro e w1 ⟨b,rfl,a,c⟩;have j:=hZ a;have K:=hZ c;clear a c)|(go_at_call 139;refine(K.out _ (by exact⟨rfl,rfl,rfl,rfl⟩)).mono ?_;rintro e v ⟨rfl,a,c⟩;have f:=hZ a;replace X:=hZ c;clear a c));replace d:=f.out;clear j f K s;go_wp2_with (fail))
 have s:=hZ S.out.1;replace S:=hZ S.out.2;go_region_held2 (λw'=>w'.cell? ⟨w.heap.size,0,none⟩=some (bp mb)) (first|(exact d)|(exact j.out)|(exact f.out)|go_keep) (first|((first|go_at_call 193|go_at_call 221|go_at_call 222|go_at_call 223);refine(s.out _ (h.out _ _ _ X.out (by exact⟨rfl,rfl,rfl,rfl⟩))).mono ?_;rintro e w1 ⟨b,rfl,a,c⟩;have j:=hZ a;have K:=hZ c;clear a c)|(go_at_call 139;refine(K.out _ (by exact⟨rfl,rfl,rfl,rfl⟩)).mono ?_;rintro e v ⟨rfl,a,c⟩;have f:=hZ a;replace X:=hZ c;clear a c));replace d:=f.out;clear j f K s;all_goals go_wp2
 all_goals go_end0
 all_goals exact p.out _ X.out
def Sc.Pm.most:List Pm:=[.add,.sub,.mul,.quot,.rem,.eql,.lss,.nullQ,.pairQ,.intQ,.symQ,.strQ,.boolQ,.procQ,.sealQ,.not,.eqQ,.equalQ,.cons,.car,.cdr,.list,.length,.append,.strAppend,.strLength,.numStr,.symStr,.apply,.callcc,.wind,.error,.seal]
def Sc.Pm.off:Pm->Nat
 | .add=>1
 | .sub=>4
 | .mul=>7
 | .quot=>10
 | .rem=>13
 | .eql=>16
 | .lss=>19
 | .nullQ=>22
 | .pairQ=>25
 | .intQ=>28
 | .symQ=>31
 | .strQ=>34
 | .boolQ=>37
 | .procQ=>40
 | .sealQ=>43
 | .not=>47
 | .eqQ=>50
 | .equalQ=>53
 | .cons=>57
 | .car=>60
 | .cdr=>63
 | .list=>66
 | .length=>69
 | .append=>72
 | .strAppend=>76
 | .strLength=>79
 | .numStr=>82
 | .symStr=>85
 | .apply=>89
 | .callcc=>92
 | .wind=>95
 | .error=>98
 | .seal=>101
 |_=>0
def qql(l:List Pm):List (Bs×Vl):=l.foldl (λg p=>put p.name (.prim p) g) []
theorem qqk(l:List Pm)(p:Pm):qql (l++[p])=put p.name (.prim p) (qql l):=by simp[qql]
def PSt(G0:Gh)(w0:Wd)(S:Sub)(br:Option Nat)(done:List Pm)(n:Nat)(w:Wd):Prop:=
 ∃G,Inv G S {({}:Mc)with glob:=qql done} w/\w.heap.size=w0.heap.size+n/\G.B.map (·.1)=done.map Pm.name/\Mv G0 w0 G w/\∀r,br=some r->G.mbox r
theorem PSt.lk{done:List Pm}(h:PSt G0 w0 S br done n w)(a:Lk w w'):PSt G0 w0 S br done n w':=by
 obtain⟨G,b,c,d,e,f⟩:=h;exact⟨G,Inv.lk a b,by rw[a.heap];exact c,d,e.lk a,f⟩
theorem PSt.box{done:List Pm}(h:PSt G0 w0 S none done n w)(a:Lk (w.alloc (.cells #[bp G0.mb] 107)) w'):PSt G0 w0 S (some w.heap.size) done (n+1) w':=by
 obtain⟨G,c,e,f,d,_⟩:=h;have x1:=c.x1 (.cells #[bp G0.mb] 107);refine⟨G.add w.heap.size (.cells #[bp G0.mb] 107),Inv.lk a (c.alloc _),by rw[a.heap];simp[e];omega,f,d.trans ((Mv.ext x1 (qaa _ _)).lk a),λr g=>?_⟩;cases g;show Gh.I _ _=_;have b:(G.add w.heap.size (.cells #[bp G0.mb] 107)).mb=G0.mb:=d.up.le.mb;rw[b];exact Gh.add_at _ _ _
theorem PSt.off{done:List Pm}(h:PSt G0 w0 S br done n w):PSt G0 w0 S none done n w:=by
 obtain⟨G,a,b,c,d,_⟩:=h;exact⟨G,a,b,c,d,nofun⟩
theorem PSt.cell{done:List Pm}(h:PSt G0 w0 S (some q) done n w):w.cell? ⟨q,0,none⟩=some (bp G0.mb):=by
 obtain⟨G,a,_,_,b,c⟩:=h;have:=a.cell (c q rfl) 0;rw[b.up.le.mb]at this;exact this
theorem qhf{s:Bs}:∀{B:List (Bs×Nat)},s∉B.map (·.1)->qdj s B=none
 | [],_=>rfl
 |(t,b)::r,h=>by
  simp only[List.map_cons,List.mem_cons,not_or]at h;simp[qdj,h.1,qhf h.2]
theorem PSt.fin{done:List Pm}{d:Nat}{x:Vu}{p:Pm}{a:Gh}(i:Inv a S {({}:Mc)with glob:=qql done} w2)(s:w2.heap.size=w0.heap.size+d)(o:a.B.map (·.1)=done.map Pm.name)(c:Mv G0 w0 a w2)(k:∀r,br=some r->a.mbox r)
  (t:∀p,G0.P p=w0.heap.size+p.off)(u:b=w0.heap.size+p.off)(hI:a.I b=some (.cells #[x] 300 (0,0)))(f:PRep a p x)(g:p.name∉done.map Pm.name):Calls prog 139 #[bp G0.mb,.string ⟨p.name.toArray⟩,.iface 281 (bp b)] w2 λe w3=>e=.returned (.tuple #[])/\PSt G0 w0 S br (done++[p]) (d+1) w3:=by
 have l:a.mb=G0.mb:=c.up.le.mb;have h:a.P p=b:=by rw[c.up.le.P,t,u]
 have v:VRep a (.prim p) (.iface 281 (bp b)):=by
  have:=VRep.proc (G:=a) (.prim p) (a.P p) (.prim p x (by rw[h];exact hI) f);rw[h]at this;exact this
 have j:=qis a S _ w2 ⟨p.name.toArray⟩ (.prim p) _ i (qhf (by rw[o];simpa using g)) v;rw[l]at j;refine Calls.mono j ?_;rintro e w3 ⟨rfl,m,q,y⟩;have n:(⟨p.name.toArray⟩:BA).data.toList=p.name:=by simp
 rw[n]at m q;refine⟨rfl,a.glob p.name w2.heap.size,?_,by omega,?_,c.trans m,λr w=>m.up.le.mbox (k r w)⟩
 ·rw[qqk];exact q
 ·show(a.B++[(p.name,w2.heap.size)]).map (·.1)=_;simp[o]
theorem PSt.two{done:List Pm}(h:PSt G0 w0 S br done n w)(k:∀p,G0.P p=w0.heap.size+p.off)(p:Pm)(s:p.off=n+1)(b:p.name∉done.map Pm.name){x1:Vu}
  (c:∀G:Gh,G.I w.heap.size=some (.cells #[x1] T (0,0))->(∀r,br=some r->G.mbox r)->G.mb=G0.mb->PRep G p (.func (.func p.wrapF) #[] #[bp w.heap.size]))(a:Lk ((w.alloc (.cells #[x1] T)).alloc (.cells #[.func (.func p.wrapF) #[] #[bp w.heap.size]] 300)) w2):
  Calls prog 139 #[bp G0.mb,.string ⟨p.name.toArray⟩,.iface 281 (bp (w.heap.size+1))] w2 λe w3=>e=.returned (.tuple #[])/\PSt G0 w0 S br (done++[p]) (n+3) w3:=by
 obtain⟨G,i,l,m,o,j⟩:=h;have q:=Inv.lk a (i.alloc2 (.cells #[x1] T) (.cells #[.func (.func p.wrapF) #[] #[bp w.heap.size]] 300));have x2:=i.x2 (.cells #[x1] T) (.cells #[.func (.func p.wrapF) #[] #[bp w.heap.size]] 300);have f:Mv G0 w0 _ w2:=o.trans ((Mv.ext x2 ((qaa _ _).alloc (by simp) _)).lk a);exact PSt.fin q (d:=n+2) (by rw[a.heap];simp[l];omega) m f (λr g=>x2.le.mbox (j r g)) k (by omega) (Gh.add_at _ _ _) (c _ (by rw[qah _ (by omega)];exact Gh.add_at _ _ _) (λr g=>x2.le.mbox (j r g)) f.up.le.mb) b
theorem PSt.one{done:List Pm}(h:PSt G0 w0 S (some q) done n w)(i:∀p,G0.P p=w0.heap.size+p.off)(p:Pm)(t:p.off=n)(j:p.form=2)(b:p.name∉done.map Pm.name)(a:Lk (w.alloc (.cells #[.func (.func p.wrapF) #[] #[bp q]] 300)) w2):
  Calls prog 139 #[bp G0.mb,.string ⟨p.name.toArray⟩,.iface 281 (bp w.heap.size)] w2 λe w3=>e=.returned (.tuple #[])/\PSt G0 w0 S (some q) (done++[p]) (n+2) w3:=by
 obtain⟨G,f,k,l,m,g⟩:=h;have o:=Inv.lk a (f.alloc (.cells #[.func (.func p.wrapF) #[] #[bp q]] 300));have x2:=f.x1 (.cells #[.func (.func p.wrapF) #[] #[bp q]] 300);have c:Mv G0 w0 _ w2:=m.trans ((Mv.ext x2 (qaa _ _)).lk a);exact PSt.fin o (d:=n+1) (by rw[a.heap];simp[k];omega) l c (λr s=>x2.le.mbox (g r s)) i (by omega) (Gh.add_at _ _ _) (.self p q j (x2.le.mbox (g q rfl))) b
theorem qcv{a b c:Wd}(h:Lk a b)(d:Lk b c):Lk a c:=⟨d.heap.trans h.heap,d.tape.trans h.tape,d.os.trans h.os,d.output.trans h.output⟩
theorem qz2(w:Wd):Calls prog 185 #[] w λe w'=>e=.returned (bp (w.heap.size+1))/\Lk ((w.alloc (.cells #[.func (.func 260) #[] #[]] 287)).alloc (.cells #[.func (.func 268) #[] #[bp w.heap.size]] 300)) w':=by
 have H:=hZ (qgj 260 #[] w);go_enter func185,ntmps185
 go_wp2_with (first|(go_at_call 193;refine H.out.mono ?_;rintro e w2 ⟨rfl,a⟩;have b:=hZ a;clear a))
 go_ret;exact⟨rfl,b.out⟩
theorem qz1(w:Wd):Calls prog 186 #[] w λe w'=>e=.returned (bp (w.heap.size+1))/\Lk ((w.alloc (.cells #[.func (.func 261) #[] #[]] 287)).alloc (.cells #[.func (.func 268) #[] #[bp w.heap.size]] 300)) w':=by
 have H:=hZ (qgj 261 #[] w);go_enter func186,ntmps186
 go_wp2_with (first|(go_at_call 193;refine H.out.mono ?_;rintro e w2 ⟨rfl,a⟩;have b:=hZ a;clear a))
 go_ret;exact⟨rfl,b.out⟩
theorem qz0(w:Wd):Calls prog 187 #[] w λe w'=>e=.returned (bp (w.heap.size+1))/\Lk ((w.alloc (.cells #[.func (.func 262) #[] #[]] 287)).alloc (.cells #[.func (.func 268) #[] #[bp w.heap.size]] 300)) w':=by
 have H:=hZ (qgj 262 #[] w);go_enter func187,ntmps187
 go_wp2_with (first|(go_at_call 193;refine H.out.mono ?_;rintro e w2 ⟨rfl,a⟩;have b:=hZ a;clear a))
 go_ret;exact⟨rfl,b.out⟩
theorem qzz(w:Wd):Calls prog 188 #[] w λe w'=>e=.returned (bp (w.heap.size+1))/\Lk ((w.alloc (.cells #[.func (.func 263) #[] #[]] 287)).alloc (.cells #[.func (.func 268) #[] #[bp w.heap.size]] 300)) w':=by
 have H:=hZ (qgj 263 #[] w);go_enter func188,ntmps188
 go_wp2_with (first|(go_at_call 193;refine H.out.mono ?_;rintro e w2 ⟨rfl,a⟩;have b:=hZ a;clear a))
 go_ret;exact⟨rfl,b.out⟩
theorem qzy(w:Wd):Calls prog 189 #[] w λe w'=>e=.returned (bp (w.heap.size+1))/\Lk ((w.alloc (.cells #[.func (.func 264) #[] #[]] 287)).alloc (.cells #[.func (.func 268) #[] #[bp w.heap.size]] 300)) w':=by
 have H:=hZ (qgj 264 #[] w);go_enter func189,ntmps189
 go_wp2_with (first|(go_at_call 193;refine H.out.mono ?_;rintro e w2 ⟨rfl,a⟩;have b:=hZ a;clear a))
 go_ret;exact⟨rfl,b.out⟩
theorem qzx(w:Wd):Calls prog 190 #[] w λe w'=>e=.returned (bp (w.heap.size+1))/\Lk ((w.alloc (.cells #[.func (.func 265) #[] #[]] 287)).alloc (.cells #[.func (.func 268) #[] #[bp w.heap.size]] 300)) w':=by
 have H:=hZ (qgj 265 #[] w);go_enter func190,ntmps190
 go_wp2_with (first|(go_at_call 193;refine H.out.mono ?_;rintro e w2 ⟨rfl,a⟩;have b:=hZ a;clear a))
 go_ret;exact⟨rfl,b.out⟩
theorem qzw(w:Wd):Calls prog 191 #[] w λe w'=>e=.returned (bp (w.heap.size+1))/\Lk ((w.alloc (.cells #[.func (.func 266) #[] #[]] 287)).alloc (.cells #[.func (.func 268) #[] #[bp w.heap.size]] 300)) w':=by
 have H:=hZ (qgj 266 #[] w);go_enter func191,ntmps191
 go_wp2_with (first|(go_at_call 193;refine H.out.mono ?_;rintro e w2 ⟨rfl,a⟩;have b:=hZ a;clear a))
 go_ret;exact⟨rfl,b.out⟩
theorem qzv(w:Wd):Calls prog 192 #[] w λe w'=>e=.returned (bp (w.heap.size+1))/\Lk ((w.alloc (.cells #[.func (.func 267) #[] #[]] 287)).alloc (.cells #[.func (.func 268) #[] #[bp w.heap.size]] 300)) w':=by
 have H:=hZ (qgj 267 #[] w);go_enter func192,ntmps192
 go_wp2_with (first|(go_at_call 193;refine H.out.mono ?_;rintro e w2 ⟨rfl,a⟩;have b:=hZ a;clear a))
 go_ret;exact⟨rfl,b.out⟩
theorem PSt.stp{done:List Pm}{a:Array Vu}{x1:Vu}{St:Wd->Prop}(g:∀p,G0.P p=w0.heap.size+p.off)(p:Pm)(i:PSt G0 w0 S br done n w1)(j:p.off=n+1)(b:p.name∉done.map Pm.name)
  (c:∀G:Gh,G.I w1.heap.size=some (.cells #[x1] T (0,0))->(∀r,br=some r->G.mbox r)->G.mb=G0.mb->PRep G p (.func (.func p.wrapF) #[] #[bp w1.heap.size]))
  (k:Calls prog f a w1 λe w2=>e=.returned (bp (w1.heap.size+1))/\Lk ((w1.alloc (.cells #[x1] T)).alloc (.cells #[.func (.func p.wrapF) #[] #[bp w1.heap.size]] 300)) w2)(l:∀w,PSt G0 w0 S br (done++[p]) (n+3) w->St w):Calls prog f a w1 (q65 G0.mb ⟨p.name.toArray⟩ St):=by
 refine Calls.mono k ?_;rintro e w2 ⟨rfl,m⟩;exact⟨_,rfl,λw3 d=>Calls.mono (PSt.two i g p j b c (qcv m d)) λe w4 h=>⟨h.1,l _ h.2⟩⟩
theorem PSt.stq{done:List Pm}{a:Array Vu}{x1:Vu}{St:Wd->Prop}(j:∀p,G0.P p=w0.heap.size+p.off)(p:Pm)(g:PSt G0 w0 S (some q) done n w1)(k:p.off=n+1)(b:p.name∉done.map Pm.name)
  (c:∀G:Gh,G.I w1.heap.size=some (.cells #[x1] T (0,0))->(∀r,some q=some r->G.mbox r)->G.mb=G0.mb->PRep G p (.func (.func p.wrapF) #[] #[bp w1.heap.size]))
  (l:Calls prog f a w1 λe w2=>e=.returned (bp (w1.heap.size+1))/\Lk ((w1.alloc (.cells #[x1] T)).alloc (.cells #[.func (.func p.wrapF) #[] #[bp w1.heap.size]] 300)) w2)(m:∀w,PSt G0 w0 S (some q) (done++[p]) (n+3) w->St w):Calls prog f a w1 (q3w G0.mb q ⟨p.name.toArray⟩ St):=by
 refine Calls.mono l ?_;rintro e w2 ⟨rfl,i⟩;exact⟨_,rfl,(qaw i _).trans (qat (qat (PSt.cell g))),λw3 d=>Calls.mono (PSt.two g j p k b c (qcv i d)) λe w4 h=>⟨h.1,PSt.cell h.2,m _ h.2⟩⟩
theorem q04(G0:Gh)(w0:Wd)(S:Sub)(f:∀p,G0.P p=w0.heap.size+p.off)(w:Wd)(h:PSt G0 w0 S none (Pm.most.take 0) 0 w):Calls prog 132 #[bp G0.mb] w λe w'=>e=.returned (.tuple #[])/\PSt G0 w0 S none (Pm.most.take 7) 21 w':=by
 refine qt5 G0.mb w _ (λk w'=>PSt G0 w0 S none (Pm.most.take (0+k)) (0+3*k) w') h ⟨?_,?_,?_,?_,?_,?_,?_,trivial⟩ (λw' d=>⟨rfl,d⟩)
 ·exact λw1 d=>PSt.stp f .add d rfl (by decide) (λG a b c=>.bare .add _ rfl a) (qms 178 #[] w1) λ_ h=>h
 ·exact λw1 d=>PSt.stp f .sub d rfl (by decide) (λG a b c=>.bare .sub _ rfl a) (qms 179 #[] w1) λ_ h=>h
 ·exact λw1 d=>PSt.stp f .mul d rfl (by decide) (λG a b c=>.bare .mul _ rfl a) (qms 180 #[] w1) λ_ h=>h
 ·exact λw1 d=>PSt.stp f .quot d rfl (by decide) (λG a b c=>.bare .quot _ rfl a) (qms 181 #[] w1) λ_ h=>h
 ·exact λw1 d=>PSt.stp f .rem d rfl (by decide) (λG a b c=>.bare .rem _ rfl a) (qms 182 #[] w1) λ_ h=>h
 ·exact λw1 d=>PSt.stp f .eql d rfl (by decide) (λG a b c=>.bare .eql _ rfl a) (qms 183 #[] w1) λ_ h=>h
 ·exact λw1 d=>PSt.stp f .lss d rfl (by decide) (λG a b c=>.bare .lss _ rfl a) (qms 184 #[] w1) λ_ h=>h
theorem q03(G0:Gh)(w0:Wd)(S:Sub)(f:∀p,G0.P p=w0.heap.size+p.off)(w:Wd)(h:PSt G0 w0 S none (Pm.most.take 7) 21 w):Calls prog 133 #[bp G0.mb] w λe w'=>e=.returned (.tuple #[])/\PSt G0 w0 S none (Pm.most.take 15) 45 w':=by
 refine qt4 G0.mb w _ (λk w'=>PSt G0 w0 S none (Pm.most.take (7+k)) (21+3*k) w') h ⟨?_,?_,?_,?_,?_,?_,?_,?_,trivial⟩ (λw' d=>⟨rfl,d⟩)
 ·exact λw1 d=>PSt.stp f .nullQ d rfl (by decide) (λG a b c=>.bare .nullQ _ rfl a) (qz2 w1) λ_ h=>h
 ·exact λw1 d=>PSt.stp f .pairQ d rfl (by decide) (λG a b c=>.bare .pairQ _ rfl a) (qz1 w1) λ_ h=>h
 ·exact λw1 d=>PSt.stp f .intQ d rfl (by decide) (λG a b c=>.bare .intQ _ rfl a) (qz0 w1) λ_ h=>h
 ·exact λw1 d=>PSt.stp f .symQ d rfl (by decide) (λG a b c=>.bare .symQ _ rfl a) (qzz w1) λ_ h=>h
 ·exact λw1 d=>PSt.stp f .strQ d rfl (by decide) (λG a b c=>.bare .strQ _ rfl a) (qzy w1) λ_ h=>h
 ·exact λw1 d=>PSt.stp f .boolQ d rfl (by decide) (λG a b c=>.bare .boolQ _ rfl a) (qzx w1) λ_ h=>h
 ·exact λw1 d=>PSt.stp f .procQ d rfl (by decide) (λG a b c=>.bare .procQ _ rfl a) (qzw w1) λ_ h=>h
 ·exact λw1 d=>PSt.stp f .sealQ d rfl (by decide) (λG a b c=>.bare .sealQ _ rfl a) (qzv w1) λ_ h=>h
theorem q02(G0:Gh)(w0:Wd)(S:Sub)(f:∀p,G0.P p=w0.heap.size+p.off)(w:Wd)(h:PSt G0 w0 S none (Pm.most.take 15) 45 w):Calls prog 134 #[bp G0.mb] w λe w'=>e=.returned (.tuple #[])/\PSt G0 w0 S none (Pm.most.take 18) 55 w':=by
 refine qt3 G0.mb w _ (λk w'=>PSt G0 w0 S (some w.heap.size) (Pm.most.take (15+k)) (46+3*k) w') (λw1 g=>h.box g) (λk w1 w2 d i=>PSt.lk d i) ⟨?_,?_,?_,trivial⟩ (λw' d=>⟨rfl,PSt.off d⟩)
 ·exact λw1 d=>PSt.stq f .not d rfl (by decide) (λG a b c=>.bare .not _ rfl a) (qgj 194 #[] w1) λ_ h=>h
 ·exact λw1 d=>PSt.stq f .eqQ d rfl (by decide) (λG a b c=>.bare .eqQ _ rfl a) (qv3 196 #[] w1) λ_ h=>h
 ·exact λw1 d=>PSt.stq f .equalQ d rfl (by decide) (λG a b c=>.mach .equalQ _ _ rfl a (b _ rfl)) (qv3 197 #[bp w.heap.size] w1) λ_ h=>h
theorem q01(G0:Gh)(w0:Wd)(S:Sub)(f:∀p,G0.P p=w0.heap.size+p.off)(w:Wd)(h:PSt G0 w0 S none (Pm.most.take 18) 55 w):Calls prog 135 #[bp G0.mb] w λe w'=>e=.returned (.tuple #[])/\PSt G0 w0 S none (Pm.most.take 21) 65 w':=by
 refine qt2 G0.mb w _ (λk w'=>PSt G0 w0 S (some w.heap.size) (Pm.most.take (18+k)) (56+3*k) w') (λw1 g=>h.box g) (λk w1 w2 d i=>PSt.lk d i) ⟨?_,?_,?_,trivial⟩ (λw' d=>⟨rfl,PSt.off d⟩)
 ·exact λw1 d=>PSt.stq f .cons d rfl (by decide) (λG a b c=>.mach .cons _ _ rfl a (b _ rfl)) (qv3 199 #[bp w.heap.size] w1) λ_ h=>h
 ·exact λw1 d=>PSt.stq f .car d rfl (by decide) (λG a b c=>.bare .car _ rfl a) (q2h 202 #[] w1) λ_ h=>h
 ·exact λw1 d=>PSt.stq f .cdr d rfl (by decide) (λG a b c=>.bare .cdr _ rfl a) (q2h 203 #[] w1) λ_ h=>h
theorem q00(G0:Gh)(w0:Wd)(S:Sub)(f:∀p,G0.P p=w0.heap.size+p.off)(w:Wd)(h:PSt G0 w0 S none (Pm.most.take 21) 65 w):Calls prog 136 #[bp G0.mb] w λe w'=>e=.returned (.tuple #[])/\PSt G0 w0 S none (Pm.most.take 24) 74 w':=by
 refine qt1 G0.mb w _ (λk w'=>PSt G0 w0 S (some w.heap.size) (Pm.most.take (21+k)) ((match k with|0=>66|k+1=>68+3*k)) w') (λw1 j=>h.box j) (λk w1 w2 d g=>PSt.lk d g) ?_ ⟨?_,?_,trivial⟩ (λw' d=>⟨rfl,PSt.off d⟩)
 ·intro w1 d w2 g;refine Calls.mono (PSt.one d f .list rfl rfl (by decide) g) ?_;rintro e w3 ⟨rfl,i⟩;exact⟨rfl,PSt.cell i,i⟩
 ·exact λw1 d=>PSt.stq f .length d rfl (by decide) (λG a b c=>.mach .length _ _ rfl a (b _ rfl)) (qgj 205 #[bp w.heap.size] w1) λ_ h=>h
 ·exact λw1 d=>PSt.stq f .append d rfl (by decide) (λG a b c=>.mach .append _ _ rfl a (b _ rfl)) (qv3 208 #[bp w.heap.size] w1) λ_ h=>h
theorem q0z(G0:Gh)(w0:Wd)(S:Sub)(f:∀p,G0.P p=w0.heap.size+p.off)(w:Wd)(h:PSt G0 w0 S none (Pm.most.take 24) 74 w):Calls prog 137 #[bp G0.mb] w λe w'=>e=.returned (.tuple #[])/\PSt G0 w0 S none (Pm.most.take 28) 87 w':=by
 refine qt0 G0.mb w _ (λk w'=>PSt G0 w0 S (some w.heap.size) (Pm.most.take (24+k)) (75+3*k) w') (λw1 g=>h.box g) (λk w1 w2 d i=>PSt.lk d i) ⟨?_,?_,?_,?_,trivial⟩ (λw' d=>⟨rfl,PSt.off d⟩)
 ·exact λw1 d=>PSt.stq f .strAppend d rfl (by decide) (λG a b c=>.mach .strAppend _ _ rfl a (b _ rfl)) (q4k 211 #[bp w.heap.size] w1) λ_ h=>h
 ·exact λw1 d=>PSt.stq f .strLength d rfl (by decide) (λG a b c=>.bare .strLength _ rfl a) (q4j 215 #[] w1) λ_ h=>h
 ·exact λw1 d=>PSt.stq f .numStr d rfl (by decide) (λG a b c=>.mach .numStr _ _ rfl a (b _ rfl)) (q4i 217 #[bp w.heap.size] w1) λ_ h=>h
 ·exact λw1 d=>PSt.stq f .symStr d rfl (by decide) (λG a b c=>.mach .symStr _ _ rfl a (b _ rfl)) (q4h 220 #[bp w.heap.size] w1) λ_ h=>h
theorem q0y(G0:Gh)(w0:Wd)(S:Sub)(f:∀p,G0.P p=w0.heap.size+p.off)(w:Wd)(h:PSt G0 w0 S none (Pm.most.take 28) 87 w):Calls prog 138 #[bp G0.mb] w λe w'=>e=.returned (.tuple #[])/\PSt G0 w0 S none (Pm.most.take 33) 103 w':=by
 refine qtz G0.mb w _ (λk w'=>PSt G0 w0 S (some w.heap.size) (Pm.most.take (28+k)) (88+3*k) w') (λw1 g=>h.box g) (λk w1 w2 d i=>PSt.lk d i) ⟨?_,?_,?_,?_,?_,trivial⟩ (λw' d=>⟨rfl,PSt.off d⟩)
 ·exact λw1 d=>PSt.stq f .apply d rfl (by decide) (λG a b c=>.self .apply _ rfl (by show G.I _=_;rw[c];exact a)) (q4g G0.mb w1) λ_ h=>h
 ·exact λw1 d=>PSt.stq f .callcc d rfl (by decide) (λG a b c=>.self .callcc _ rfl (by show G.I _=_;rw[c];exact a)) (q4f G0.mb w1) λ_ h=>h
 ·exact λw1 d=>PSt.stq f .wind d rfl (by decide) (λG a b c=>.self .wind _ rfl (by show G.I _=_;rw[c];exact a)) (q4e G0.mb w1) λ_ h=>h
 ·exact λw1 d=>PSt.stq f .error d rfl (by decide) (λG a b c=>.bare .error _ rfl a) (qgj 224 #[] w1) λ_ h=>h
 ·exact λw1 d=>PSt.stq f .seal d rfl (by decide) (λG a b c=>.mach .seal _ _ rfl a (b _ rfl)) (qgj 225 #[bp w.heap.size] w1) λ_ h=>h
theorem qsc(G0:Gh)(w0:Wd)(S:Sub)(a:∀p,G0.P p=w0.heap.size+p.off)(h:PSt G0 w0 S none [] 0 w0):Calls prog 83 #[bp G0.mb] w0 λe w'=>e=.returned (.tuple #[])/\PSt G0 w0 S none Pm.most 103 w':=by
 have k:=hZ (q04 G0 w0 S a);have l:=hZ (q03 G0 w0 S a);have m:=hZ (q02 G0 w0 S a);have n:=hZ (q01 G0 w0 S a);have o:=hZ (q00 G0 w0 S a);have q:=hZ (q0z G0 w0 S a);have r:=hZ (q0y G0 w0 S a);have X:=hZ h;clear a h;go_enter func83,ntmps83
 go_wp2_with (first
  |(go_at_call 132;refine(k.out _ X.out).mono ?_;rintro e z ⟨rfl,b⟩;have s:=hZ b;clear b)
  |(go_at_call 133;refine(l.out _ s.out).mono ?_;rintro e A ⟨rfl,c⟩;have t:=hZ c;clear c)
  |(go_at_call 134;refine(m.out _ t.out).mono ?_;rintro e B ⟨rfl,d⟩;have u:=hZ d;clear d)
  |(go_at_call 135;refine(n.out _ u.out).mono ?_;rintro e C ⟨rfl,f⟩;have v:=hZ f;clear f)
  |(go_at_call 136;refine(o.out _ v.out).mono ?_;rintro e D ⟨rfl,g⟩;have w:=hZ g;clear g)
  |(go_at_call 137;refine(q.out _ w.out).mono ?_;rintro e E ⟨rfl,i⟩;have x:=hZ i;clear i)
  |(go_at_call 138;refine(r.out _ x.out).mono ?_;rintro e F ⟨rfl,j⟩;have y:=hZ j;clear j))
 go_end0;exact⟨rfl,y.out⟩
theorem qwq(w:Wd):Calls prog 141 #[.int .i64 0,.int .i64 1] w λe w'=>e=.returned (.iface 181 (.bool false))/\Lk w w':=by
 go_enter func141,ntmps141
 go_wp2;go_ret;exact⟨rfl,rfl,rfl,rfl,rfl⟩
theorem qwp(w:Wd):Calls prog 141 #[.int .i64 0,.int .i64 2] w λe w'=>e=.returned (.iface 181 (.bool false))/\Lk w w':=by
 go_enter func141,ntmps141
 go_wp2;go_ret;exact⟨rfl,rfl,rfl,rfl,rfl⟩
theorem qwo(w:Wd):Calls prog 141 #[.int .i64 0,.int .i64 4] w λe w'=>e=.returned (.iface 181 (.bool false))/\Lk w w':=by
 go_enter func141,ntmps141
 go_wp2;go_ret;exact⟨rfl,rfl,rfl,rfl,rfl⟩
theorem qwn(w:Wd):Calls prog 141 #[.int .i64 0,.int .i64 8] w λe w'=>e=.returned (.iface 181 (.bool false))/\Lk w w':=by
 go_enter func141,ntmps141
 go_wp2;go_ret;exact⟨rfl,rfl,rfl,rfl,rfl⟩
theorem qtg(w:Wd):Calls prog 141 #[.int .i64 0,.int .i64 16] w λe w'=>e=.returned (.iface 181 (.bool false))/\Lk w w':=by
 go_enter func141,ntmps141
 go_wp2;go_ret;exact⟨rfl,rfl,rfl,rfl,rfl⟩
theorem qzb(mb:Nat)(w:Wd)(f:∀a c w',Below w.heap.size w w'->Calls prog 91 #[.slice a 0 c,.iface 186 (.agg #[])] w' λe w2=>e=.returned (.iface 186 (.agg #[]))/\Below w.heap.size w w2):Calls prog 140 #[bp mb,.slice none 0 0] w λe w'=>e=.returned (.iface 186 (.agg #[]))/\Below w.heap.size w w':=by
 have g:=hZ f;have h:∀w:Wd,(Instr.makeSlice 184 (.int .i64 0) (.int .i64 0)).run prog w=.ok (.slice (some ⟨w.heap.size,0,none⟩) 0 0) (w.alloc (.cells (madeCells #[.nilIface] 0) 116)):=
  λw=>run_make_row' 184 116 .nilIface 16 underlying184 qm8 rfl .i64 .i64 0 (by omega) (by omega) w
 clear f;go_enter func140,ntmps140
 go_wp2;go_loopw [13] (λc wr=>c=.int .i64 0/\Below w.heap.size w wr) (λ_ _=>0)
 case atStart=>exact⟨rfl,((Below.refl _ _).alloc (eR _) _).alloc (by simp) _⟩
 case round=>
  obtain⟨rfl,b⟩:=hrel;have i:=hZ b;clear b;go_wp2_with (first|(go_at_call 91;refine(g.out _ _ _ i.out).mono ?_;rintro e w2 ⟨rfl,b⟩;have d:=hZ b;clear b))
  go_ret;exact⟨rfl,d.out⟩
theorem qrc(mb:Nat)(w:Wd)(Q:En->Wd->Prop)(St:Nat->Wd->Prop)
  (n:Calls prog 140 #[bp mb,.slice none 0 0] w λe w1=>e=.returned (.iface 186 (.agg #[]))/\∀w2,Lk w1 w2->Calls prog 139 #[bp mb,.string ⟨#[115,101,99,114,101,116,115]⟩,.iface 186 (.agg #[])] w2 λe w3=>e=.returned (.tuple #[])/\St 1 w3)
  (s1:∀w1,St 1 w1->∀w2,Lk w1 w2->Calls prog 139 #[bp mb,.string ⟨#[111,117,116]⟩,.iface 181 (.bool false)] w2 λe w3=>e=.returned (.tuple #[])/\St 2 w3)
  (o:∀w1,St 2 w1->∀w2,Lk w1 w2->Calls prog 139 #[bp mb,.string ⟨#[105,110]⟩,.iface 181 (.bool false)] w2 λe w3=>e=.returned (.tuple #[])/\St 3 w3)
  (p:∀w1,St 3 w1->∀w2,Lk w1 w2->Calls prog 139 #[bp mb,.string ⟨#[99,108,111,99,107]⟩,.iface 181 (.bool false)] w2 λe w3=>e=.returned (.tuple #[])/\St 4 w3)
  (q:∀w1,St 4 w1->∀w2,Lk w1 w2->Calls prog 139 #[bp mb,.string ⟨#[100,105,99,101]⟩,.iface 181 (.bool false)] w2 λe w3=>e=.returned (.tuple #[])/\St 5 w3)
  (r:∀w1,St 5 w1->∀w2,Lk w1 w2->Calls prog 139 #[bp mb,.string ⟨#[107,101,121]⟩,.iface 181 (.bool false)] w2 λe w3=>e=.returned (.tuple #[])/\St 6 w3)
  (s:∀w',St 6 w'->Q (.returned (.tuple #[])) w'):Calls prog 84 #[bp mb,.int .i64 0,.slice none 0 0] w Q:=by
 have z:=hZ s;have A:=hZ n;have t:=hZ s1;have u:=hZ o;have S3:=hZ p;have v:=hZ q;have x:=hZ r;clear s n s1 o p q r;go_enter func84,ntmps84
 go_wp2_with (first|(go_at_call 140;refine A.out.mono ?_;rintro e w1 ⟨rfl,a⟩;have K:=hZ a;clear a)|(go_at_fn 139;refine(K.out _ (by exact⟨rfl,rfl,rfl,rfl⟩)).mono ?_;rintro e v1 ⟨rfl,a⟩;have i:=hZ a;clear a;refine Hid.out ?_)|(go_at_call 139;refine(K.out _ (by exact⟨rfl,rfl,rfl,rfl⟩)).mono ?_;rintro e v1 ⟨rfl,a⟩;have i:=hZ a;clear a;refine Hid.out ?_))
 refine hZ ?_;go_wp2_with (first|(go_at_call 141;refine(qwq _).mono ?_;rintro e w1 ⟨rfl,b⟩;have c:=hZ b;clear b)|(go_at_fn 139;(refine(t.out _ i.out _ (qcv c.out (by exact⟨rfl,rfl,rfl,rfl⟩))).mono ?_;rintro e v2 ⟨rfl,a⟩;have j:=hZ a;clear a;refine Hid.out ?_))|(go_at_call 139;(refine(t.out _ i.out _ (qcv c.out (by exact⟨rfl,rfl,rfl,rfl⟩))).mono ?_;rintro e v2 ⟨rfl,a⟩;have j:=hZ a;clear a;refine Hid.out ?_)))
 refine hZ ?_;go_wp2_with (first|(go_at_call 141;refine(qwp _).mono ?_;rintro e w1 ⟨rfl,b⟩;have d:=hZ b;clear b)|(go_at_fn 139;(refine(u.out _ j.out _ (qcv d.out (by exact⟨rfl,rfl,rfl,rfl⟩))).mono ?_;rintro e v3 ⟨rfl,a⟩;have k:=hZ a;clear a;refine Hid.out ?_))|(go_at_call 139;(refine(u.out _ j.out _ (qcv d.out (by exact⟨rfl,rfl,rfl,rfl⟩))).mono ?_;rintro e v3 ⟨rfl,a⟩;have k:=hZ a;clear a;refine Hid.out ?_)))
 refine hZ ?_;go_wp2_with (first|(go_at_call 141;refine(qwo _).mono ?_;rintro e w1 ⟨rfl,b⟩;have f:=hZ b;clear b)|(go_at_fn 139;(refine(S3.out _ k.out _ (qcv f.out (by exact⟨rfl,rfl,rfl,rfl⟩))).mono ?_;rintro e v4 ⟨rfl,a⟩;have l:=hZ a;clear a;refine Hid.out ?_))|(go_at_call 139;(refine(S3.out _ k.out _ (qcv f.out (by exact⟨rfl,rfl,rfl,rfl⟩))).mono ?_;rintro e v4 ⟨rfl,a⟩;have l:=hZ a;clear a;refine Hid.out ?_)))
 refine hZ ?_;go_wp2_with (first|(go_at_call 141;refine(qwn _).mono ?_;rintro e w1 ⟨rfl,b⟩;have g:=hZ b;clear b)|(go_at_fn 139;(refine(v.out _ l.out _ (qcv g.out (by exact⟨rfl,rfl,rfl,rfl⟩))).mono ?_;rintro e v5 ⟨rfl,a⟩;have m:=hZ a;clear a;refine Hid.out ?_))|(go_at_call 139;(refine(v.out _ l.out _ (qcv g.out (by exact⟨rfl,rfl,rfl,rfl⟩))).mono ?_;rintro e v5 ⟨rfl,a⟩;have m:=hZ a;clear a;refine Hid.out ?_)))
 refine hZ ?_;go_wp2_with (first|(go_at_call 141;refine(qtg _).mono ?_;rintro e w1 ⟨rfl,b⟩;have h:=hZ b;clear b)|(go_at_fn 139;(refine(x.out _ m.out _ (qcv h.out (by exact⟨rfl,rfl,rfl,rfl⟩))).mono ?_;rintro e v6 ⟨rfl,a⟩;have y:=hZ a;clear a;refine Hid.out ?_))|(go_at_call 139;(refine(x.out _ m.out _ (qcv h.out (by exact⟨rfl,rfl,rfl,rfl⟩))).mono ?_;rintro e v6 ⟨rfl,a⟩;have y:=hZ a;clear a;refine Hid.out ?_)))
 refine hZ ?_;go_wp2;go_end0;exact z.out _ y.out
def world0:List (Bs×Vl):=[([115,101,99,114,101,116,115],.nil),([111,117,116],.bool false),([105,110],.bool false),([99,108,111,99,107],.bool false),([100,105,99,101],.bool false),([107,101,121],.bool false)]
def q14(l:List (Bs×Vl))(g:List (Bs×Vl)):List (Bs×Vl):=l.foldl (λg p=>put p.1 p.2 g) g
def WSt(G0:Gh)(w0:Wd)(S:Sub)(m:Mc)(k:Nat)(w:Wd):Prop:=∃G,Inv G S {m with glob:=q14 (world0.take k) m.glob} w/\G.B.map (·.1)=G0.B.map (·.1)++(world0.take k).map (·.1)/\Mv G0 w0 G w
theorem WSt.step(h:WSt G0 w0 S m k w)(i:Below w.heap.size w w2){s:BA}{v:Vl}{x:Vu}(d:world0[k]? =some (s.data.toList,v))(o:∀p,p∈world0->p.1∉G0.B.map (·.1))(q:∀G,VRep G v x):
  Calls prog 139 #[bp G0.mb,.string s,x] w2 λe w3=>e=.returned (.tuple #[])/\WSt G0 w0 S m (k+1) w3:=by
 obtain⟨G,r,l,n⟩:=h;have t:k<world0.length:=(eL.1 d).1;have a:world0.take (k+1)=world0.take k++[(s.data.toList,v)]:=by rw[List.take_add_one,d];rfl
 have b:s.data.toList∉G.B.map (·.1):=by
  rw[l,List.mem_append];rintro(h|h)
  ·exact o _ (List.mem_of_getElem? d) h
  ·have f:(world0.map (·.1)).Nodup:=by decide
   rw[List.map_take]at h;obtain⟨j,u,y⟩:=List.mem_take_iff_getElem.1 h;have e2:(world0.map (·.1))[k]? =some s.data.toList:=by rw[List.getElem?_map,d];rfl
   have e3:(world0.map (·.1))[j]? =some s.data.toList:=by rw[<-y];exact eG _
   have:=(List.getElem?_inj (by simp at u|-;omega) f).1 (e3.trans e2.symm);omega
 have c:=qis G S _ w2 s v x (r.below i) (qhf b) (q G);have g:G.mb=G0.mb:=n.up.le.mb;rw[g]at c;refine Calls.mono c ?_;rintro e w3 ⟨rfl,z,A,_⟩;refine⟨rfl,_,?_,?_,(n.trans (Mv.ext (Gh.ext.refl _ _) i)).trans z⟩
 ·have:q14 (world0.take (k+1)) m.glob=put s.data.toList v (q14 (world0.take k) m.glob):=by rw[a];simp[q14]
  rw[this];exact A
 ·show(G.B++[(s.data.toList,w2.heap.size)]).map (·.1)=_;rw[a];simp[l]
theorem qrb(i:Inv G S m w)(f:∀p,p∈world0->p.1∉G.B.map (·.1)):Calls prog 84 #[bp G.mb,.int .i64 0,.slice none 0 0] w λe w'=>e=.returned (.tuple #[])/\WSt G w S m 6 w':=by
 have n:WSt G w S m 0 w:=⟨G,i,by simp,Mv.refl _ _⟩;refine qrc G.mb w _ (WSt G w S m) ?_ (λw1 h w2 d=>h.step (bl0 d) rfl f λ_=>.bool _) (λw1 h w2 d=>h.step (bl0 d) rfl f λ_=>.bool _) (λw1 h w2 d=>h.step (bl0 d) rfl f λ_=>.bool _) (λw1 h w2 d=>h.step (bl0 d) rfl f λ_=>.bool _) (λw1 h w2 d=>h.step (bl0 d) rfl f λ_=>.bool _) (λw' h=>⟨rfl,h⟩);refine Calls.mono (qzb G.mb w λa c w' g=>?_) ?_
 ·refine Calls.mono (qom G S m w' a c [] [] .nil _ (i.below g) ⟨rfl,λj v x h=>by simp at h⟩ .nil (.inl rfl) (by simp)) ?_;rintro e w2 ⟨H,x,rfl,_,_,k,l⟩;have k:VRep H .nil x:=k;cases k with
  |nil=>exact⟨rfl,g.trans (l.mono g.size)⟩
  |proc _ b h=>cases h
 ·rintro e w1 ⟨rfl,g⟩;exact⟨rfl,λw2 d=>n.step (g.trans ((bl0 d).mono g.size)) rfl f λ_=>.nil⟩
def Gh.at(G:Gh)(w:Wd)(F:Nat->Prop):Gh:={G with W:=w,F:=F}
theorem Gh.le_at(G:Gh)(w:Wd)(F:Nat->Prop):G.le (G.at w F):=⟨λh=>h,λh=>h,λh=>h,λh=>h,rfl,rfl,rfl,rfl,rfl,rfl⟩
theorem Inv.at{F:Nat->Prop}(i:Inv G S m w)(g:w.os=W.os/\w.tape=W.tape/\w.output=W.output)(hF:∀b,F b->b<w.heap.size/\w.heap[b]? =W.heap[b]?/\b∉G.mut/\G.I b=none):Inv (G.at W F) S m w:=by
 have l:=G.le_at W F;refine⟨i.imm,i.nd,i.mi,i.ml,i.st,i.ce,i.sl,i.cl,?_,i.mp,?_,i.gd,i.gk,?_,i.el,i.jl,i.jn,i.ji,g,fun {b} f=>⟨(hF b f).2.1,(hF b f).1⟩,fun {b} h f=>(hF b f).2.2.1 h,fun {b} f=>(hF b f).2.2.2⟩
 ·obtain⟨n,o,a,b⟩:=i.ma;exact⟨n,o,a,b.mono l⟩
 ·intro s b p;obtain⟨x,a,k⟩:=i.gl p;exact⟨x,a,k.mono l⟩
 ·intro j vs e q;obtain⟨r,t,u,a,b,c,d⟩:=i.en q;exact⟨r,t,u,a,b,c.mono l,d.mono l λ_ _ _ _ _=>rfl⟩
theorem qtp(mb rb:Nat)(w:Wd):Calls prog 142 #[bp mb,bp rb] w λe w'=>e=.returned (bp (w.heap.size+3))/\Lk ((((w.alloc (.map #[] 0)).alloc (.map #[] 0)).alloc (.cells #[.int .i64 0,.map (some (w.heap.size+1))] 329)).alloc (.cells #[bp mb,bp rb,.map (some w.heap.size),bp (w.heap.size+2)] 331)) w':=by
 have a:∀w:Wd,(Instr.makeMap 325 none).run prog w=.ok (.map (some w.heap.size)) (w.alloc (.map #[] 0)):=λw=>by simp[Instr.makeMap]
 have b:∀w:Wd,(Instr.makeMap 327 none).run prog w=.ok (.map (some w.heap.size)) (w.alloc (.map #[] 0)):=λw=>by simp[Instr.makeMap]
 go_enter func142,ntmps142
 go_wp2;go_ret;exact⟨rfl,rfl,rfl,rfl,rfl⟩
theorem q6l{w:Wd}{b o o':Nat}{x v:Vu}(h:w.cell? ⟨b,o,none⟩=some x)(a:o≠o'):(w.setCell ⟨b,o',none⟩ v).cell? ⟨b,o,none⟩=some x:=by
 simp only[World.cell?,World.setCell,Array.getElem?_modify]at h|-;cases hw:w.heap[b]? with
 |none=>rw[hw]at h;simp at h
 |some d=>
  rw[hw]at h;cases d with
  |cells c t fr=>simp at h|-;rw[Array.getElem?_setIfInBounds_ne (Ne.symm a)];exact h
  |_=>simp at h
theorem qxb(m mb rb:Nat)(ga:OA)(n cap:Nat)(M:Nat->Dl)(pk:Nat->Int)(w:Wd)(Q:En->Wd->Prop)(R:Nat->Nat->Wd->Prop)(b5:n<=1000000)
  (c0:w.cell? ⟨m,0,none⟩=some (bp mb))(c1:w.cell? ⟨m,1,none⟩=some (bp rb))
  (h0:∀w',Lk w w'->Calls prog 142 #[bp mb,bp rb] w' λe w2=>∃q,e=.returned (bp q)/\∀w3,Lk w2 w3->R q 0 w3)
  (G:∀q k wr,R q k wr->k<n->∃g o,ga=some ⟨g,o,none⟩/\(∀j,j<6->wr.cell? ⟨g,o+k*7+j,none⟩=(M k).cells[j]?)/\wr.cell? ⟨g,o+k*7+6,none⟩=some (.int .i64 (pk k)))
  (H:∀q k wr,R q k wr->k<n->wr.cell? ⟨m,0,none⟩=some (bp mb)/\(∃p,wr.cell? ⟨m,4,none⟩=some (.int .i64 p))/\(∀o,wr.frozen? ⟨m,o,none⟩=false))
  (r:∀q k wr,R q k wr->k<n->∀w1,Lk ((wr.setCell ⟨m,4,none⟩ (.int .i64 (pk k))).alloc (.cells ((M k).cells++#[.int .i64 (pk k)]) 136)) w1->Calls prog 144 #[bp q,.agg (M k).cells] w1 (RetP (λv w2=>(∃kx cx,v=.func (.func kx) #[] cx)/\w2.cell? ⟨m,0,none⟩=some (bp mb)/\w2.heap[wr.heap.size]? =some (.cells ((M k).cells++#[.int .i64 (pk k)]) 136 (0,0))/\
   ∀w3,Lk w2 w3->Calls prog 143 #[bp mb,v] w3 (RetP (λx w4=>(∃t y,x=.iface t y)/\w4.cell? ⟨m,0,none⟩=some (bp mb)/\w4.heap[wr.heap.size]? =some (.cells ((M k).cells++#[.int .i64 (pk k)]) 136 (0,0))/\(k+1<n->∀O,Lk w4 O->R q (k+1) O)/\
    (k+1=n->∀O,Lk w4 O->Calls prog 145 #[x,.int .i64 1200] O λe w6=>∃s,e=.returned (.string s)/\(∃z,w6.cell? ⟨m,5,none⟩=some (.string z))/\(∀o,w6.frozen? ⟨m,o,none⟩=false)/\∀w7,Lk (w6.setCell ⟨m,5,none⟩ (.string s)) w7->R q (k+1) w7)) Q)) Q))
  (I:∀q wr,R q n wr->Q (.returned (.tuple #[])) wr):
  Calls prog 85 #[bp m,.slice ga n cap] w Q:=by
 have H0:=hZ h0;have P:=hZ G;have S:=hZ H;have K:=hZ r;have T:=hZ I;clear h0 G H r I;go_enter func85,ntmps85
 go_wp2_with (fail)
 refine qal 8 (by kernel_rfl) (by kernel_rfl) ?_;simp only[List.take_succ_cons,List.take_zero,List.drop_succ_cons,List.drop_zero];repeat still_step
 refine wpStill_nil ?_;go_wp2_with (go_at_call 142;refine(H0.out _ (by exact⟨rfl,rfl,rfl,rfl⟩)).mono ?_;rintro e w2 ⟨q,rfl,J⟩;have HK:=hZ J;clear J;refine Hid.out ?_)
 refine hZ ?_;go_wp2;go_loopw [19] (λc wr=>∃(k:Nat),k<=n/\c=.int .i64 (k:Int)/\R q k wr) (λc _=>n-(intOf c).toNat)
 case atStart=>exact⟨0,Nat.zero_le _,rfl,HK.out _ (by exact⟨rfl,rfl,rfl,rfl⟩)⟩
 case round=>
  obtain⟨k,hk,rfl,N⟩:=hrel;have U:=hZ N;clear N;by_cases L:k<n
  ·obtain⟨⟨A,B,i,l,C,D,b,d⟩,hy⟩:∃y,y=M k:=⟨_,rfl⟩;obtain⟨E,hp⟩:∃y,y=pk k:=⟨_,rfl⟩;obtain⟨g,o,rfl,cell,d6⟩:=P.out q k wr U.out L;obtain⟨r0,⟨q4,r4⟩,rf⟩:=S.out q k wr U.out L;rw[<-hy]at cell;rw[<-hp]at d6;have d0:wr.cell? ⟨g,o+k*7,none⟩=some (.int .i64 A):=cell 0 (by omega);have d1:wr.cell? ⟨g,o+k*7+1,none⟩=some (.int .i64 B):=cell 1 (by omega);have d2:wr.cell? ⟨g,o+k*7+2,none⟩=some (.bool i):=cell 2 (by omega);have d3:wr.cell? ⟨g,o+k*7+3,none⟩=some (.string l):=cell 3 (by omega);have d4:wr.cell? ⟨g,o+k*7+4,none⟩=some (.int .i64 C):=cell 4 (by omega);have d5:wr.cell? ⟨g,o+k*7+5,none⟩=some (.slice D b d):=cell 5 (by omega);have hc:=K.out q k wr U.out L;rw[<-hy,<-hp]at hc;have HC:=hZ hc;clear cell hc hy hp;have b7:=qae r0;have b6:(k:Int)<(n:Int):=by omega
   go_wp2_with (fail)
   have hz:=qag (w:=wr) (a:=⟨m,4,none⟩) (v:=.int .i64 E);have e0:=qat (o:=.cells #[.int .i64 A,.int .i64 B,.bool i,.string l,.int .i64 C,.slice D b d,.int .i64 E] 136) (q6l (o':=4) (v:=.int .i64 E) r0 (by omega));have f:=eN (wr.setCell ⟨m,4,none⟩ (.int .i64 E)) (.cells #[.int .i64 A,.int .i64 B,.bool i,.string l,.int .i64 C,.slice D b d,.int .i64 E] 136);rw[hz]at f;have F:=HC.out;clear HC;have eA:(Dl.cells ⟨A,B,i,l,C,D,b,d⟩++#[Value.int .i64 E])=#[.int .i64 A,.int .i64 B,.bool i,.string l,.int .i64 C,.slice D b d,.int .i64 E]:=rfl;rw[eA]at F;generalize (wr.setCell ⟨m,4,none⟩ (.int .i64 E)).alloc (.cells #[.int .i64 A,.int .i64 B,.bool i,.string l,.int .i64 C,.slice D b d,.int .i64 E] 136)=W at e0 f F|-;have HC:=hZ F;clear F eA hz;have a0:W.cell? ⟨wr.heap.size,0,none⟩=some (.int .i64 A):=by simp only[World.cell?,f];rfl
   have a1:W.cell? ⟨wr.heap.size,1,none⟩=some (.int .i64 B):=by simp only[World.cell?,f];rfl
   have a2:W.cell? ⟨wr.heap.size,2,none⟩=some (.bool i):=by simp only[World.cell?,f];rfl
   have a3:W.cell? ⟨wr.heap.size,3,none⟩=some (.string l):=by simp only[World.cell?,f];rfl
   have a4:W.cell? ⟨wr.heap.size,4,none⟩=some (.int .i64 C):=by simp only[World.cell?,f];rfl
   have a5:W.cell? ⟨wr.heap.size,5,none⟩=some (.slice D b d):=by simp only[World.cell?,f];rfl
   clear f;have V:∀W:Wd,W.cell? ⟨m,0,none⟩=some (bp mb)->W.heap[wr.heap.size]? =some (.cells #[.int .i64 A,.int .i64 B,.bool i,.string l,.int .i64 C,.slice D b d,.int .i64 E] 136 (0,0))->W.cell? ⟨m,0,none⟩=some (bp mb)/\W.cell? ⟨wr.heap.size,0,none⟩=some (.int .i64 A)/\W.cell? ⟨wr.heap.size,1,none⟩=some (.int .i64 B)/\W.cell? ⟨wr.heap.size,2,none⟩=some (.bool i)/\W.cell? ⟨wr.heap.size,3,none⟩=some (.string l)/\W.cell? ⟨wr.heap.size,4,none⟩=some (.int .i64 C)/\W.cell? ⟨wr.heap.size,5,none⟩=some (.slice D b d):=λW h0 h=>by
    refine⟨h0,?_,?_,?_,?_,?_,?_⟩ <;> simp only[World.cell?,h] <;> rfl
   have HM:=hZ V;clear V;go_region_held2 (λw'=>w'.cell? ⟨m,0,none⟩=some (bp mb)/\w'.cell? ⟨wr.heap.size,0,none⟩=some (.int .i64 A)/\w'.cell? ⟨wr.heap.size,1,none⟩=some (.int .i64 B)/\w'.cell? ⟨wr.heap.size,2,none⟩=some (.bool i)/\w'.cell? ⟨wr.heap.size,3,none⟩=some (.string l)/\w'.cell? ⟨wr.heap.size,4,none⟩=some (.int .i64 C)/\w'.cell? ⟨wr.heap.size,5,none⟩=some (.slice D b d)) (first|(exact⟨e0,a0,a1,a2,a3,a4,a5⟩)|(exact a7.out)|(exact a8.out)|go_keep)
    (first
     |(go_at_call 144;refine(HC.out _ (by exact⟨rfl,rfl,rfl,rfl⟩)).mono ?_;rintro e w2 (⟨ps,rfl,hq⟩|⟨v,rfl,⟨kx,cx,rfl⟩,X,u,J⟩);(exact⟨rfl,hq⟩);have a9:=hZ J;have a7:=hZ (HM.out _ X u);clear J X u)
     |(go_at_call 143;refine(a9.out _ (by exact⟨rfl,rfl,rfl,rfl⟩)).mono ?_;rintro e w4 (⟨ps,rfl,hq⟩|⟨v,rfl,⟨ty,y,rfl⟩,X,u,Y,Z⟩);(exact⟨rfl,hq⟩);have HA:=hZ Y;have b0:=hZ Z;have a8:=hZ (HM.out _ X u);clear Y Z X u))
   by_cases hl:k+1=n
   ·have Z:=b0.out hl;have b1:=hZ Z;clear Z;have e5:((k:Int)==(n:Int)-1)=true:=by simp;omega
    have e6:(k:Int)=(n:Int)-1:=by omega
    go_wp2_with (go_at_call 145;refine(b1.out _ (by exact⟨rfl,rfl,rfl,rfl⟩)).mono ?_;rintro e w6 ⟨s,rfl,⟨z,b8⟩,b9,J⟩;have b2:=hZ J;clear J;refine Hid.out ?_)
    refine hZ ?_;go_wp2;go_roundw
    case rel=>exact⟨k+1,by omega,by go_num,b2.out _ (by exact⟨rfl,rfl,rfl,rfl⟩)⟩
    case measure=>simp[intOf];omega
   ·have Y:=HA.out (by omega);have b3:=hZ Y;clear Y;have e5:((k:Int)==(n:Int)-1)=false:=by simp;omega
    have e6:¬(k:Int)=(n:Int)-1:=by omega
    go_wp2;go_roundw
    case rel=>exact⟨k+1,by omega,by go_num,b3.out _ (by exact⟨rfl,rfl,rfl,rfl⟩)⟩
    case measure=>simp[intOf];omega
  ·have a6:k=n:=by omega
   have N:=U.out;rw[a6]at N;have b4:=hZ N;clear N U;have c2:¬(k:Int)<(n:Int):=by omega
   clear a6;go_wp2;go_end0;exact T.out _ _ b4.out
end Go.Proofs.YtldaocpojcfljaaGreatDoor
