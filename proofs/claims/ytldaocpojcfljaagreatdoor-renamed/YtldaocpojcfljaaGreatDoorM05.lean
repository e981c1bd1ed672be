import Derived.Test.YtldaocpojcfljaaGreatDoorM04
set_option maxRecDepth 100000
set_option maxHeartbeats 4000000
namespace Go.Proofs.YtldaocpojcfljaaGreatDoor
open Tryz hiding parts
open Go.RowKit Go.Shelf
open Sc
variable {G H:Gh}{S:Sub}{W w w' w1 w2:Wd}{b t xb:Nat}{e:Dl}{m:Mc}{sh:List Nat}{u v0 v1 v2 v3 v4 v5:Vu}{x:Xs}{xs:List Vu}
theorem Inv.turns(i:Inv G S m w)(u:∀j,j<w.heap.size->¬(G.I j=Option.none/\j∉G.mut/\¬G.F j)->w'.heap[j]? =w.heap[j]?)(t:w.heap.size<=w'.heap.size)(l:w'.os=w.os/\w'.tape=w.tape/\w'.output=w.output):Inv G S m w':=by
 have k:∀c,c<w.heap.size->(G.I c≠Option.none\/c∈G.mut\/G.F c)->w'.heap[c]? =w.heap[c]?:=λc a h=>u c a λ⟨f,p,q⟩=>by
  rcases h with h|h|h
  ·exact h f
  ·exact p h
  ·exact q h
 have d:∀{c:Nat},c∈G.mut->w'.heap[c]? =w.heap[c]?:=fun {c} a=>k c (i.ml a) (.inr (.inl a))
 refine⟨fun {c x} a=>by rw[k c (i.lt a) (.inl (by rw[a];exact nofun))];exact i.imm a,i.nd,i.mi,λh=>eW (i.ml h) t,i.st.keep (d i.m2),i.ce.keep (d i.m3),i.sl,i.cl,by rw[d i.m1];exact i.ma,by rw[d i.m4];exact i.mp,fun {s c} h=>by rw[d (i.m5 h)];exact i.gl h,i.gd,i.gk,?_,i.el,i.jl,i.jn,i.ji,⟨l.1.trans i.fo.1,l.2.1.trans i.fo.2.1,l.2.2.trans i.fo.2.2⟩,fun {b} h=>⟨by rw[k b (i.ff h).2 (.inr (.inr h))];exact(i.ff h).1,eW (i.ff h).2 t⟩,i.fm,i.fi⟩;intro j vs e v;obtain⟨y,z,A,f,p,q,B⟩:=i.en v;exact⟨y,z,A,f,p,q,B.mono (Gh.le.refl _) λg o n cap r=>d (i.m6 (by rw[f,r]))⟩
def q3t(G:Gh)(S:Sub)(m:Mc)(w:Wd)(sh:List Nat)(l:List Ex)(e':En)(w':Wd):Prop:=∃H x,e'=.returned x/\G.ext H w.heap.size/\Below w.heap.size w w'/\Inv H S m w'/\SRep H sh l x
theorem qmb{S:Sub}{m:Mc}{sh:List Nat}:∀(l:List Ex) (e:Ex) (G:Gh) (w:Wd) (x:Vu) (xs:List Vu) (g o cap:Nat) (n:Array Vu),Inv G S m w->XRep G sh (e::l) (x::xs)->G.I g=some (.cells n 241 (0,0))->xs.length+1<=cap->xs.length+1<=1000000->(∀i y,(x::xs)[i]? =some y->n[o+i]? =some y)->
  Calls prog 361 #[.slice (some ⟨g,o,none⟩) (xs.length+1) cap] w (q3t G S m w sh (e::l))
 | [],e,G,w,x,xs,g,o,cap,n,i,hx,hg,hc,P,hr=>by
  cases hx with
  |cons _ _ _ _ _ h Q=>
   cases Q;obtain⟨k,c,rfl,_⟩:=h.isF;have c0:w.cell? ⟨g,o,none⟩=some (.func (.func k) #[] c):=by rw[i.cell hg];simpa using hr 0 _ rfl
   refine Calls.mono (qpn g o cap k c w c0) ?_;rintro e' w' ⟨rfl,hw⟩;exact⟨G,_,rfl,Gh.ext.refl _ _,bl0 hw,Inv.lk hw i,.one sh e _ h⟩
 |a::r,e,G,w,x,xs,g,o,cap,n,i,hx,hg,hc,P,hr=>by
  cases hx with
  |cons _ _ _ _ _ h Q=>
   cases xs with
   |nil=>cases Q
   |cons y R=>
    obtain⟨k,c,rfl,_⟩:=h.isF;have c0:w.cell? ⟨g,o,none⟩=some (.func (.func k) #[] c):=by rw[i.cell hg];simpa using hr 0 _ rfl
    have V:R.length+2<=cap:=by simpa using hc
    have X:R.length+2<=1000000:=by simpa using P
    have Y:tl1 g o cap=some ⟨g,o+1,none⟩:=if_neg (by omega);have Z:=qmc g o R.length cap k c w (q3t G S m w sh (e::a::r)) c0 V X (λw' p=>by
     have i':=i.below p;rw[Y];refine Calls.mono (qmb r a G w' y R g (o+1) (cap-1) n i' Q hg (by omega) (by omega) (λj z T=>by have:=hr (j+1) z (by simpa using T);rw[<-this];congr 1;omega)) ?_;rintro e' w1 ⟨H,z,rfl,d,f,i1,T⟩;obtain⟨k2,c2,rfl⟩:=T.isFunc;refine⟨k2,c2,rfl,by rw[i1.cell (d.le.I hg)];simpa using hr 0 _ rfl,f,p.size,?_⟩;intro U t w3 hne a0 a1 a2 a3 hk h3 h4 u v A C;have lo:∀b,w.heap.size<=b->(b<w'.heap.size\/w1.heap.size<=b)->H.I b=none/\b∉H.mut/\¬H.F b:=λb a4 hq=>by
      rcases hq with hq|hq
      ·exact⟨by rw[d.I hq];exact i.fresh a4,by rw[d.mut];exact λP=>by have:=i.ml P;omega,by rw[d.F];exact λhf=>by have:=(i.ff hf).2;omega⟩
      ·exact(i1.looses) b hq
     obtain⟨q,D,J⟩:=lo U a0 a2;obtain⟨s,K,L⟩:=lo t a1 a3;have i3:Inv H S m w3:=i1.turns (λj M N=>hk j M (λe=>N (e▸⟨q,D,J⟩)) (λe=>N (e▸⟨s,K,L⟩))) u ⟨v,A,C⟩;have i4:=i3.fix ⟨D,J⟩ q h3;have i5:=i4.fix (g:=t) ⟨by exact K,by exact L⟩ (by rw[qah _ (Ne.symm hne)];exact s) h4;have e3:Gh.ext G ((H.add U (.cells #[.func (.func k) #[] c] 241)).add t (.cells #[.func (.func k2) #[] c2] 241)) w.heap.size:=
      ⟨(d.le.trans (Gh.le_add q)).trans (Gh.le_add (by rw[qah _ (Ne.symm hne)];exact s)),d.E,d.B,fun {b} a5=>by
       rw[qah _ (by omega),qah _ (by omega)];exact d.I (eW a5 p.size),d.W,d.F⟩
     have O:H.le ((H.add U (.cells #[.func (.func k) #[] c] 241)).add t (.cells #[.func (.func k2) #[] c2] 241)):=(Gh.le_add q).trans (Gh.le_add (by rw[qah _ (Ne.symm hne)];exact s));refine⟨_,_,rfl,e3,⟨v.trans (f.os.trans p.os),A.trans (f.tape.trans p.tape),C.trans (f.output.trans p.output),eT (eT p.size f.size) u,λj M=>?_⟩,i5,.cons sh e a r U t _ _ (by rw[qah _ hne];exact Gh.add_at _ _ _) (Gh.add_at _ _ _) ((h.mono d.le).mono O) (T.mono O)⟩;rw[hk j (eW M (eT p.size f.size)) (by omega) (by omega),f.block j (eW M p.size),p.block j M])
    simpa using Z
theorem qxg{e:Ex}{l:List Ex}{sa:OA}{k sc:Nat}{x:Vu}(i:Inv G S m w)(q:RowI G 241 (.slice sa k sc) (x::xs))(r:XRep G sh (e::l) (x::xs)):Calls prog 338 #[bp G.mb,.slice sa k sc] w (Made G S m w sh (.seq e l)):=by
 obtain⟨g,o,cap,d,e1,s,t,u,v⟩:=q;cases e1;refine qq3 G.mb _ _ _ w _ Made.ends λw' n=>?_
 have z:=Inv.lk n i;refine Calls.mono (qmb l e G w' x xs g o sc d z r s (by simpa using t) (by simpa using u) v) ?_;rintro B w1 ⟨H,y,rfl,a,f,A,p⟩;obtain⟨kc,cc,rfl⟩:=p.isFunc;refine⟨kc,cc,rfl,λw2 b=>?_⟩;have c:=qds (sh:=sh) (e:=.seq e l) (Inv.lk b A) (.seq sh e l _ p);have j:H.mb=G.mb:=a.le.mb;rw[j]at c;exact Calls.mono c λe w3 h=>h.after ((Mv.lkl n (Mv.ext a f)).lk b)
def qus(N:Nat):Prop:=∀(G:Gh) (S:Sub) (m:Mc) (w:Wd) (d:Dt) (e:Dl),SizeOf.sizeOf d<N->Inv G S m w->DRep G d e->qaf d<=1000000000000->Calls prog 229 #[.agg e.cells] w λe' w'=>e'=.returned (.int .i64 (qaf d:Int))/\Below w.heap.size w w'
theorem qe0(l:List Dt)(k:Nat)(h:k<l.length):qad (l.take (k+1))=qad (l.take k)+1+qaf l[k]:=by
 induction l generalizing k with
 |nil=>simp at h
 |cons a r b=>
  cases k with
  |zero=>simp[qad]
  |succ k=>simp only[List.take_succ_cons,qad,List.getElem_cons_succ];rw[b k (by simpa using h)];omega
theorem qhb(l:List Dt)(k:Nat):qad (l.take k)<=qad l:=by
 induction l generalizing k with
 |nil=>simp
 |cons a r b=>
  cases k with
  |zero=>simp[qad]
  |succ k=>simp only[List.take_succ_cons,qad];have:=b k;omega
theorem qlb(l:List Dt):l.length<=qad l:=by
 induction l with
 |nil=>simp[qad]
 |cons a r b=>simp only[List.length_cons,qad];omega
theorem qo3(N:Nat)(ih:qus N)(G:Gh)(S:Sub)(m:Mc)(w:Wd)(l:List Dt)(xk xn:Int)(X:Bool)(Y:BA)(xm:Int)(xa:OA)(xlen D:Nat)(i:Inv G S m w)(hz:SizeOf.sizeOf (Dt.list l)<=N)(q:qad l<=1000000000000)
  (es:List Dl)(hl:l.length=es.length)(hd:∀(i:Nat) (d:Dt) (e:Dl),l[i]? =some d->es[i]? =some e->DRep G d e)(r:xlen=es.length)
  (t:∀(i j:Nat) (x:Dl),es[i]? =some x->j<6->∃g o,xa=some ⟨g,o,none⟩/\g<w.heap.size/\w.cell? ⟨g,o+i*6+j,none⟩=x.cells[j]?)(a5:xlen<=1000000):
  Calls prog 229 #[.agg (Dl.cells ⟨xk,xn,X,Y,xm,xa,xlen,D⟩)] w λO w'=>O=.returned (.int .i64 (qad l:Int))/\Below w.heap.size w w':=by
 have HI:=hZ i;have HD:=hZ hd;have HL:=hZ hl;have u:=hZ r;have v:=hZ t;have Z:=hZ ih;have HZ:=hZ hz;have E:=hZ q;clear i hd hl r t ih hz q;go_enter func229,ntmps229
 go_wp2;go_loopw [12,3] (λc s wr=>∃(k:Nat),k<=xlen/\c=.int .i64 (k:Int)/\s=.int .i64 ((xlen:Int)+(qad (l.take k):Int)-k)/\Below w.heap.size w wr) (λc _ _=>xlen-(intOf c).toNat)
 case atStart=>exact⟨0,Nat.zero_le _,rfl,by simp[qad],qaa _ _⟩
 case round=>
  obtain⟨k,hk,rfl,rfl,F⟩:=hrel;have C:=hZ F;clear F;by_cases a0:k<xlen
  ·have f:k<es.length:=by rw[<-u.out];exact a0
   have z:k<l.length:=by rw[HL.out];exact f
   obtain⟨⟨P,Q,h,n,R,T,a,b⟩,hy⟩:∃y,y=es[k]:=⟨_,rfl⟩;have A:es[k]? =some ⟨P,Q,h,n,R,T,a,b⟩:=by rw[hy];exact eG f
   obtain⟨g,o,rfl,a1,a2⟩:=v.out k 0 _ A (by omega);have cell:∀j,j<6->wr.cell? ⟨g,o+k*6+j,none⟩=(Dl.cells ⟨P,Q,h,n,R,T,a,b⟩)[j]?:=λj hj=>by
    obtain⟨g',o',e1,e2,e3⟩:=v.out k j _ A hj;cases e1;exact(C.out.cell (p:=⟨g,o+k*6+j,none⟩) a1).trans e3
   have c0:wr.cell? ⟨g,o+k*6,none⟩=some (.int .i64 P):=cell 0 (by omega);have c1:wr.cell? ⟨g,o+k*6+1,none⟩=some (.int .i64 Q):=cell 1 (by omega);have c2:wr.cell? ⟨g,o+k*6+2,none⟩=some (.bool h):=cell 2 (by omega);have c3:wr.cell? ⟨g,o+k*6+3,none⟩=some (.string n):=cell 3 (by omega);have c4:wr.cell? ⟨g,o+k*6+4,none⟩=some (.int .i64 R):=cell 4 (by omega);have c5:wr.cell? ⟨g,o+k*6+5,none⟩=some (.slice T a b):=cell 5 (by omega);have H:=HD.out k l[k] _ (eG z) A;have U:=qe0 l k z;have I:=qhb l (k+1);have B:k<=qad (l.take k):=by have:=qlb (l.take k);simp at this;omega
   have a3:=E.out;have HRep:Hid (∀w',Below wr.heap.size wr w'->Calls prog 229 #[.agg (Dl.cells ⟨P,Q,h,n,R,T,a,b⟩)] w' λO J=>O=.returned (.int .i64 (qaf l[k]:Int))/\Below wr.heap.size wr J):=λw' hb=>by
    refine Calls.mono (Z.out G S m w' l[k] _ (eW (qn2 (List.getElem_mem z)) HZ.out) (HI.out.below (C.out.trans (hb.mono C.out.size))) H (by omega)) ?_;rintro O J ⟨r1,V⟩;exact⟨r1,hb.trans (V.mono hb.size)⟩
   clear cell hy H a2;have a6:(k:Int)<(xlen:Int):=by omega
   have HT:=hZ (And.intro U (And.intro I B));obtain⟨mk,K⟩:∃mk,mk=qaf l[k]:=⟨_,rfl⟩;obtain⟨W,L⟩:∃W,W=qad (l.take k):=⟨_,rfl⟩;rw[<-K]at HRep HT U;rw[<-L]at HT U B|-;have a7:(xlen:Int)+(W:Int)-k+mk<=2000000000000/\0<=(xlen:Int)+(W:Int)-k:=by omega
   clear U I B a3 K L;go_wp2_with (go_at_call 229;refine(HRep.out _ (qaa _ _)).mono ?_;rintro e w2 ⟨rfl,V⟩;have a4:=hZ V;clear V)
   go_roundw
   case rel=>
    refine⟨k+1,by omega,by go_num,?_,C.out.trans (a4.out.mono C.out.size)⟩;have:=HT.out.1;rw[this];first|(congr 1;push_cast;omega)|(go_num)|skip
   case measure=>simp[intOf];omega
  ·have f:k=xlen:=by omega
   have HK:=hZ f;clear f;have M:l.take k=l:=by rw[HK.out,u.out,<-HL.out];simp
   have a8:¬(k:Int)<(xlen:Int):=by omega
   rw[M];clear M;go_wp2;go_ret;exact⟨by rw[HK.out];simp[Array.getD];try omega,C.out⟩
theorem qgp:∀N,qus N
 |0=>λG S m w d e h=>by omega
 |N+1=>λG S m w d e T i h r=>by
  obtain⟨s,u,p,q,y,z,a,c⟩:=e;have atom:a=0->qaf d=0->Calls prog 229 #[.agg (Dl.cells ⟨s,u,p,q,y,z,a,c⟩)] w λI w'=>I=.returned (.int .i64 (qaf d:Int))/\Below w.heap.size w w':=λE F=>by
   subst E;rw[F];have U:2<=N:=by
    have J:2<=SizeOf.sizeOf d:=by
     cases d with
     |num v=>
      rw[Dt.num.sizeOf_spec];cases v with
      |ofNat n=>rw[Int.ofNat.sizeOf_spec];omega
      |negSucc n=>rw[Int.negSucc.sizeOf_spec];omega
     |list l=>cases l <;> simp <;> omega
     |str t=>cases t <;> simp <;> omega
     |sym t k=>cases t <;> simp <;> omega
     |bool b=>cases b <;> simp
    omega
   exact qo3 N (qgp N) G S m w [] s u p q y z 0 c i (by simp;omega) (by simp[qad]) [] rfl (λi d e h=>by simp at h) rfl (λi j x h=>by simp at h) (by omega)
  cases h with
  |num e h E F f=>exact atom f.1 rfl
  |bool e h f=>exact atom f.1 rfl
  |str e h A f=>exact atom f.1 rfl
  |sym e h A f=>exact atom f rfl
  |nil e h B=>
   obtain rfl:a=0:=B;exact atom rfl rfl
  |list e h l es g o K B f L M H O A=>
   obtain rfl:z=some ⟨g,o,none⟩:=M;obtain⟨C,D⟩:=A.at;exact qo3 N (qgp N) G S m w l s u p q y _ a c i (by omega) r es C D B (λP j x Q R=>⟨g,o,rfl,(eE.1 (i.imm H)).1,by rw[i.cell H];exact O P j x Q R⟩) (by have J:a<=30000:=L;omega)
theorem qqx(mb:Nat)(g h:Int)(d:Bool)(f:BA)(i:Int)(j:OA)(a b:Nat)(w:Wd)(Q:En->Wd->Prop)(k:∀e w,Q e w->∃v,e=.returned v)
  (l:∀w',Lk ((w.alloc (.cells #[.pointer (some ⟨mb,0,none⟩)] 107)).alloc (.cells (Dl.cells ⟨g,h,d,f,i,j,a,b⟩) 134)) w'->Calls prog 229 #[.agg (Dl.cells ⟨g,h,d,f,i,j,a,b⟩)] w' λe w1=>∃c,e=.returned (.int .i64 c)/\w1.cell? ⟨w.heap.size,0,none⟩=some (.pointer (some ⟨mb,0,none⟩))/\
   ∀w2,Lk (w1.alloc (.cells #[.int .i64 c] 3)) w2->Calls prog 339 #[.pointer (some ⟨mb,0,none⟩),.func (.func 340) #[] #[.pointer (some ⟨w.heap.size,0,none⟩),.pointer (some ⟨w1.heap.size,0,none⟩),.pointer (some ⟨w.heap.size+1,0,none⟩)]] w2 Q):
  Calls prog 298 #[.pointer (some ⟨mb,0,none⟩),.agg (Dl.cells ⟨g,h,d,f,i,j,a,b⟩)] w Q:=by
 have q:=hZ l;have r:=hZ k;clear l k;go_enter func298,ntmps298
 go_wp2_with (go_at_call 229;refine(q.out _ (by exact⟨rfl,rfl,rfl,rfl⟩)).mono ?_;rintro e w1 ⟨c,rfl,m,n⟩;have lc:=qae m;have s:=qat (o:=.cells #[.int .i64 c] 3) m;have t:=hZ n;clear n;refine Hid.out ?_)
 refine hZ ?_;go_wp2_with (go_at_call 339;refine(t.out _ (by exact⟨rfl,rfl,rfl,rfl⟩)).mono ?_;intro e w2 p;obtain⟨v,rfl⟩:=r.out _ _ p)
 exact p
theorem qo2{d:Dt}(i:Inv G S m w)(t:DRep G d e)(g:qaf d<=1000000000000):Calls prog 298 #[bp G.mb,.agg e.cells] w (Made G S m w sh (.quo d)):=by
 obtain⟨j,k,c,f,l,n,a,b⟩:=e;refine qqx G.mb j k c f l n a b w _ Made.ends λw' u=>?_
 have r:=Inv.lk u (i.alloc2 (.cells #[bp G.mb] 107) (.cells (Dl.cells ⟨j,k,c,f,l,n,a,b⟩) 134));have x2:=i.x2 (.cells #[bp G.mb] 107) (.cells (Dl.cells ⟨j,k,c,f,l,n,a,b⟩) 134);have m2:=(Mv.ext x2 ((qaa _ _).alloc (by simp) _)).lk u;generalize v:(G.add w.heap.size (.cells #[bp G.mb] 107)).add (w.heap.size+1) (.cells (Dl.cells ⟨j,k,c,f,l,n,a,b⟩) 134)=H at r x2 m2;have x:H.I w.heap.size=some (.cells #[bp G.mb] 107 (0,0)):=by rw[<-v,qah _ (by omega)];exact Gh.add_at _ _ _
 have z:H.I (w.heap.size+1)=some (.cells (Dl.cells ⟨j,k,c,f,l,n,a,b⟩) 134 (0,0)):=by rw[<-v];exact Gh.add_at _ _ _
 have o:H.mb=G.mb:=x2.le.mb;refine Calls.mono (qgp _ H S m w' d _ (Nat.lt_succ_self _) r (t.mono x2.le) g) ?_;rintro B w1 ⟨rfl,y⟩;have s:=r.below y;refine⟨_,rfl,by rw[s.cell x];rfl,λw2 p=>?_⟩;have A:=Inv.lk p (s.alloc (.cells #[.int .i64 (qaf d:Int)] 3));have x4:=s.x1 (.cells #[.int .i64 (qaf d:Int)] 3);have q:=qds (sh:=sh) (e:=.quo d) A (.quo sh d w.heap.size w1.heap.size (w.heap.size+1) _ (by
  show Gh.I _ _=some (.cells #[bp H.mb] 107 (0,0));rw[o];exact x4.le.I x) (Gh.add_at _ _ _) (x4.le.I z) ((t.mono x2.le).mono x4.le))
 have e1:(H.add w1.heap.size (.cells #[.int .i64 (qaf d:Int)] 3)).mb=G.mb:=o;rw[e1]at q;exact Calls.mono q λe w3 h=>h.after (m2.trans ((Mv.ext (Gh.ext.refl _ _) y).trans ((Mv.ext x4 (qaa _ _)).lk p)))
abbrev idV(t:BA)(m:Int):Vu:=.agg #[.string t,.int .i64 m]
theorem q23(a b:BA)(m k:Int)(w:Wd):(Op.equal 382 (idV a m) (idV b k)).run prog w=.ok (a==b&&m==k) w:=by
 have h:(Op.equalIn 10000 382 (idV a m) (idV b k)).run prog w=.ok (a==b&&m==k) w:=by
  rw[show(10000:Nat)=9998+1+1 from rfl,Op.equalIn];simp[run_underlying underlying382,go_sem];rw[qhw];simp only[ByteArray.toList_eq];have c:(a.data=b.data)=(a.data.toList=b.data.toList):=propext ⟨λh=>by rw[h],λh=>Array.toList_inj.1 h⟩;by_cases d:a.data.toList=b.data.toList <;> by_cases e:m=k <;> simp[c,d,e]
 exact h
theorem qo4(e:Bool)(a:BA)(m:Int)(w:Wd):(Instr.checkKey e 10000 382 (idV a m)).run prog w=.ok () w:=by
 kernel_rfl
abbrev qop(i:Sc.Id):Vu:=idV ⟨i.1.toArray⟩ i.2
def qay{α:Type}(i:Sc.Id):List (Sc.Id×α)->Option α
 | []=>none
 |(j,a)::r=>if i=j then some a else qay i r
theorem q21(t:BA)(m:Int)(w:Wd):∀(es:List MapEntry) (L:List (Sc.Id×Vu)) (n:Nat),es.map (λe=>(e.key,e.val))=L.map (λp=>(qop p.1,p.2))->
  ∃r,(Instr.findAsking 382 (idV t m) es n).run prog w=.ok r w/\r.map (·.2)=qay (t.data.toList,m) L
 | [],[],n,_=>⟨none,by simp[Instr.findAsking],rfl⟩
 | [],_::_,n,h=>by simp at h
 |_::_,[],n,h=>by simp at h
 |e::es,(j,v)::L,n,h=>by
  simp only[List.map_cons,List.cons.injEq,Prod.mk.injEq]at h;obtain⟨⟨d,f⟩,g⟩:=h;have a:=q23 t ⟨j.1.toArray⟩ m j.2 w;rw[qdg]at a;by_cases b:(t.data.toList,m)=j
  ·subst b;refine⟨some (n,v),?_,by simp[qay]⟩;simp[Instr.findAsking,d,a,f]
  ·have i:(decide (t.data.toList=j.1)&&m==j.2)=false:=by
    by_cases c:t.data.toList=j.1
    ·have:¬m=j.2:=λk=>b (Prod.ext c k)
     simp[c,this]
    ·simp[c]
   rw[i]at a;obtain⟨r,e1,e2⟩:=q21 t m w es L (n+1) g;exact⟨r,by simp[Instr.findAsking,d,a,e1],by simpa[qay,b]using e2⟩
theorem qww(t:BA)(m:Int)(w:Wd)(es:List MapEntry)(L:List (Sc.Id×Vu))(h:es.map (λe=>(e.key,e.val))=L.map (λp=>(qop p.1,p.2))):
  ∃r,(Instr.findKey 382 (idV t m) es).run prog w=.ok r w/\r.map (·.2)=qay (t.data.toList,m) L:=by
 cases es with
 |nil=>
  cases L with
  |nil=>exact⟨none,by simp[Instr.findKey,run_underlying underlying382,Instr.findNow],rfl⟩
  |cons a r=>simp at h
 |cons e es=>
  obtain⟨r,e1,e2⟩:=q21 t m w (e::es) L 0 h;refine⟨r,?_,e2⟩;simp[Instr.findKey,run_underlying underlying382,Instr.findNow,Instr.sameNow,e1]
theorem qhe(c:Nat)(es:Array MapEntry)(a:Nat)(L:List (Sc.Id×Vu))(t:BA)(m:Int)(w:Wd)(f:w.heap[c]? =some (.map es a))(g:es.toList.map (λe=>(e.key,e.val))=L.map (λp=>(qop p.1,p.2))):
  (Instr.lookup 327 (.map (some c)) (idV t m) false).run prog w=.ok ((qay (t.data.toList,m) L).getD (.slice none 0 0)) w:=by
 obtain⟨r,e1,e2⟩:=qww t m w es.toList L g;have d:=qa4 c es a w f;cases r with
 |none=>
  cases hl:qay (t.data.toList,m) L with
  |none=>simp[Instr.lookup,run_underlying underlying327,go_sem,d,qo4,e1]
  |some b=>rw[hl]at e2;simp at e2
 |some p=>
  cases hl:qay (t.data.toList,m) L with
  |none=>rw[hl]at e2;simp at e2
  |some b=>rw[hl]at e2;obtain⟨i,v⟩:=p;simp at e2;subst e2;simp[Instr.lookup,run_underlying underlying327,go_sem,d,qo4,e1]
def qci(i:Sc.Id):qaj->List (Nat×Nat)
 | []=>[]
 |l::r=>qci i r++(match qbl i l with|some n=>[(r.length+1,n)]|none=>[])
theorem qi4{i:Sc.Id}:∀{sc:qaj} {p:Nat×Nat},p∈qci i sc->1<=p.1/\p.1<=sc.length
 | [],p,h=>by simp[qci]at h
 |l::r,p,h=>by
  simp only[qci,List.mem_append]at h;rcases h with h|h
  ·have:=qi4 h;simp;omega
  ·cases hf:qbl i l with
   |none=>rw[hf]at h;simp at h
   |some n=>rw[hf]at h;simp at h;subst h;simp
theorem qgw(i:Sc.Id):∀sc:qaj,(qci i sc).length<=sc.length
 | []=>by simp[qci]
 |l::r=>by
  have:=qgw i r;simp only[qci,List.length_append,List.length_cons];cases qbl i l <;> simp <;> omega
theorem qfs(i:Sc.Id):∀sc:qaj,find i sc=(qci i sc).getLast?.map λp=>(sc.length-p.1,p.2)
 | []=>rfl
 |l::r=>by
  cases hf:qbl i l with
  |some n=>simp[find,qci,hf]
  |none=>
   simp only[find,qci,hf,List.append_nil];rw[qfs i r];cases hl:(qci i r).getLast? with
   |none=>rfl
   |some p=>
    have:=qi4 (List.mem_of_getLast? hl);simp;omega
def qaz(l:List (Nat×Nat)):List Vu:=l.flatMap λp=>[.int .i64 (p.1:Int),.int .i64 (p.2:Int)]
structure Xe where
 xb:Nat
 rb:Nat
 mm:Nat
 ab:Nat
 bm:Nat
 lo:Nat
 Rw:Nat->Prop
def ScMapF(X:Xe)(sp:Sc.Id->List (Nat×Nat))(w:Wd)(L:List (Sc.Id×Vu)):Prop:=(∃es clock,w.heap[X.bm]? =some (.map es clock)/\es.toList.map (λe=>(e.key,e.val))=L.map (λp=>(qop p.1,p.2))/\(es.toList.map (·.born)).Nodup/\∀e,e∈es.toList->e.born<clock)/\(L.map (·.1)).Nodup/\
 (∀p,p∈L->w.ownsRow X.lo 459 2 p.2 (sp p.1).length (qaz (sp p.1)))/\(∀i,qay i L=none->sp i=[])/\(L.filterMap (·.2.ownBlock)).Nodup
abbrev q3s(X:Xe)(sc:qaj)(w:Wd)(L:List (Sc.Id×Vu)):Prop:=ScMapF X (λi=>qci i sc) w L
theorem qdc{α:Type}{i:Sc.Id}:∀{L:List (Sc.Id×α)} {a:α},qay i L=some a->(i,a)∈L
 | [],_,h=>by simp[qay]at h
 |(j,b)::r,a,h=>by
  by_cases c:i=j
  ·subst c;simp[qay]at h;subst h;simp
  ·simp[qay,c]at h;exact List.mem_cons_of_mem _ (qdc h)
theorem qkl(l:List (Nat×Nat))(k:Nat)(p:Nat×Nat)(h:l[k]? =some p):(qaz l)[2*k]? =some (.int .i64 (p.1:Int))/\(qaz l)[2*k+1]? =some (.int .i64 (p.2:Int)):=by
 induction l generalizing k with
 |nil=>simp at h
 |cons a r b=>
  cases k with
  |zero=>simp at h;subst h;simp[qaz]
  |succ k=>
   have:=b k (by simpa using h);simp only[qaz,List.flatMap_cons]at this|-;rw[show 2*(k+1)=2*k+2 from by omega,show 2*k+2+1=2*k+1+2 from by omega];simpa using this
theorem qlr(f b cap:Nat)(a:OA)(_:Int)(t:BA)(m:Int)(w:Wd)(h:w.cell? ⟨f,1,none⟩=some (.map (some b)))(c:b<w.heap.size)
  (g:∀w',w'.heap[b]? =w.heap[b]?->(Instr.lookup 327 (.map (some b)) (idV t m) false).run prog w'=.ok (.slice a 0 cap) w'):
  Calls prog 354 #[.pointer (some ⟨f,0,none⟩),idV t m] w λe w'=>e=.returned (.tuple #[.agg #[.int .i64 0,.int .i64 0],.bool false])/\Below w.heap.size w w':=by
 have i:=qae h;have lb:b<w.heap.size:=c;have d:=g ((w.alloc (.cells #[.string t,.int .i64 m] 382)).alloc (.cells #[.int .i64 0,.int .i64 0] 395)).drew (by show((w.alloc (.cells #[.string t,.int .i64 m] 382)).alloc (.cells #[.int .i64 0,.int .i64 0] 395)).heap[b]? =_;rw[eH _ _ _ (by simp;omega),eH _ _ _ lb]);unfold idV at d;clear g;go_enter func354,ntmps354
 go_wp2;go_region
 go_wp2;refine bodyPost_ret (v:=.tuple #[.agg #[.int .i64 0,.int .i64 0],.bool false]) (by simp[results,results354,go_sem, *]) rfl ?_;exact⟨rfl,bl2 (o:=.cells #[.string t,.int .i64 m] 382) (o2:=.cells #[.int .i64 0,.int .i64 0] 395) (by exact⟨rfl,rfl,rfl,rfl⟩)⟩
theorem qlq(f b cap g n:Nat)(c d a:Int)(t:BA)(m:Int)(w:Wd)(k:w.cell? ⟨f,0,none⟩=some (.int .i64 c))(l:w.cell? ⟨f,1,none⟩=some (.map (some b)))(h:b<w.heap.size)
  (j:∀w',w'.heap[b]? =w.heap[b]?->(Instr.lookup 327 (.map (some b)) (idV t m) false).run prog w'=.ok (.slice (some ⟨g,0,none⟩) (n+1) cap) w')(c0:w.cell? ⟨g,n*2,none⟩=some (.int .i64 d))(c1:w.cell? ⟨g,n*2+1,none⟩=some (.int .i64 a))(r:n+1<=2000000000)(s:0<=c/\c<=2000000000)(o:0<=d/\d<=2000000000):
  Calls prog 354 #[.pointer (some ⟨f,0,none⟩),idV t m] w λe w'=>e=.returned (.tuple #[.agg #[.int .i64 (c-d),.int .i64 a],.bool true])/\Below w.heap.size w w':=by
 have u:=qae l;have x:=qae c0;have lb:b<w.heap.size:=h;have i:=j ((w.alloc (.cells #[.string t,.int .i64 m] 382)).alloc (.cells #[.int .i64 0,.int .i64 0] 395)).drew (by show((w.alloc (.cells #[.string t,.int .i64 m] 382)).alloc (.cells #[.int .i64 0,.int .i64 0] 395)).heap[b]? =_;rw[eH _ _ _ (by simp;omega),eH _ _ _ lb]);unfold idV at i;clear j;have y:(((w.alloc (.cells #[.string t,.int .i64 m] 382)).alloc (.cells #[.int .i64 0,.int .i64 0] 395)).alloc (.cells #[.int .i64 d,.int .i64 a] 459)).cell? ⟨f,0,none⟩=some (.int .i64 c):=qat (qat (qat k));have hne:¬((n:Int)+1=0):=by omega
 have p:(n:Int)+1-1=n:=by omega
 have q:(n:Int)<(n:Int)+1:=by omega
 go_enter func354,ntmps354
 go_wp2;go_region
 go_wp2;go_region
 go_wp2;refine bodyPost_ret (v:=.tuple #[.agg #[.int .i64 (c-d),.int .i64 a],.bool true]) (by simp[results,results354,go_sem, *]) rfl ?_;exact⟨rfl,(((qaa w (.cells #[.string t,.int .i64 m] 382)).alloc (by simp) (.cells #[.int .i64 (c-d),.int .i64 a] 395)).alloc (by simp;omega) (.cells #[.int .i64 d,.int .i64 a] 459)).trans ((bl0 (by exact⟨rfl,rfl,rfl,rfl⟩)).mono (by simp;omega))⟩
structure Rl where
 R:Gh->Macro->Vu->Prop
 mono:∀{G H:Gh} {mc:Macro} {v:Vu},G.le H->R G mc v->R H mc v
inductive McRows (R:Gh->Macro->Vu->Prop) (G:Gh):List Macro->List (Bs×Vu)->Prop where
 |nil:McRows R G [] []
 |cons (mc:Macro) (v:Vu) (ms:List Macro) (L:List (Bs×Vu)) (h:R G mc v) (hn:∀m,m∈ms->m.name≠mc.name) (hs:McRows R G ms L):McRows R G (mc::ms) ((mc.name,v)::L)
theorem McRows.mono{K:Rl}{G H:Gh}(h:G.le H):∀{c L},McRows K.R G c L->McRows K.R H c L
 |_,_,.nil=>.nil
 |_,_,.cons mc v c L a n b=>.cons mc v c L (K.mono h a) n (McRows.mono h b)
structure XInv (K:Rl) (X:Xe) (G:Gh) (S:Sub) (x:Xs) (sc:qaj) (w:Wd):Prop where
 xe:G.I X.xb=some (.cells #[bp G.mb,bp X.rb,.map (some X.mm),bp X.ab] 331 (0,0))
 mt:Mt X.rb x.count S.rewrites 12 w
 ml:(x.count:Int)<=S.rewrites/\S.rewrites<=100000
 ab:w.heap[X.ab]? =some (.cells #[.int .i64 (sc.length:Int),.map (some X.bm)] 329 (0,0))
 bd:∃L,q3s X sc w L/\∀b,b∈L.filterMap (·.2.ownBlock)->X.Rw b
 rr:∀b,X.Rw b->G.I b=none/\b∉G.mut/\X.lo<=b/\b<w.heap.size/\¬G.F b
 mc:∃es clock L,w.heap[X.mm]? =some (.map es clock)/\es.toList.map (λe=>(e.key,e.val))=L.map (λp=>(Value.string ⟨p.1.toArray⟩,p.2))/\McRows K.R G x.macros L
 lo:∀b,b∈[X.rb,X.mm,X.ab,X.bm]->G.I b=none/\b∉G.mut/\b<X.lo/\¬G.F b
 nd:[X.rb,X.mm,X.ab,X.bm].Nodup
 sl:X.lo<=w.heap.size
 sz:sc.length<=1000000000/\∀l,l∈sc->l.length<=1000000000
theorem XInv.mv{K:Rl}{X:Xe}{sc:qaj}(m:Mv G w H w')(i:XInv K X G S x sc w):XInv K X H S x sc w':=by
 have k:∀b,b∈[X.rb,X.mm,X.ab,X.bm]->w'.heap[b]? =w.heap[b]?:=λb a=>by
  obtain⟨l,e,d,_⟩:=i.lo b a;exact m.blk (eW d i.sl) e
 have u:∀b,b<w.heap.size->G.I b=none/\b∉G.mut->H.I b=none/\b∉H.mut:=λb a h=>⟨by rw[m.I a];exact h.1,λB=>(m.mu B).elim h.2 (λh=>by omega)⟩
 obtain⟨L,n,f⟩:=i.bd;obtain⟨es,c,M,q,r,s⟩:=i.mc;refine⟨by rw[m.up.le.mb];exact m.up.le.I i.xe,i.mt.keep (k _ (by simp)),i.ml,by rw[k _ (by simp)];exact i.ab,⟨L,⟨?_,n.2.1,λp v=>?_,n.2.2.2⟩,f⟩,λb a=>?_,⟨es,c,M,by rw[k _ (by simp)];exact q,r,s.mono m.up.le⟩,λb a=>?_,i.nd,eT i.sl m.size,i.sz⟩
 ·rw[k _ (by simp)];exact n.1
 ·have y:=n.2.2.1 p v;refine⟨y.1,?_⟩;rcases y.2 with h|⟨g,cap,t,z,a,A,C⟩
  ·exact .inl h
  ·have j:g∈L.filterMap (·.2.ownBlock):=List.mem_filterMap.2 ⟨p,v,by rw[z];rfl⟩;exact .inr ⟨g,cap,t,z,a,by rw[m.blk (eE.1 A).1 (i.rr g (f g j)).2.1];exact A,C⟩
 ·obtain⟨l,e,d,o,D⟩:=i.rr b a;have:=u b o ⟨l,e⟩;exact⟨this.1,this.2,d,eW o m.size,by rw[m.up.F];exact D⟩
 ·obtain⟨l,e,d,o⟩:=i.lo b a;have:=u b (eW d i.sl) ⟨l,e⟩;exact⟨this.1,this.2,d,by rw[m.up.F];exact o⟩
theorem XInv.below{K:Rl}{X:Xe}{sc:qaj}(i:XInv K X G S x sc w)(h:Below w.heap.size w w'):XInv K X G S x sc w':=i.mv (Mv.ext (Gh.ext.refl _ _) h)
def qln(i:Sc.Id)(sc:qaj):Vu:=match find i sc with
 |some (u,n)=>.tuple #[.agg #[.int .i64 (u:Int),.int .i64 (n:Int)],.bool true]
 |none=>.tuple #[.agg #[.int .i64 0,.int .i64 0],.bool false]
theorem qox{K:Rl}{X:Xe}{sc:qaj}(i:XInv K X G S x sc w)(t:BA)(m:Int):
  Calls prog 354 #[bp X.ab,idV t m] w λe w'=>e=.returned (qln (t.data.toList,m) sc)/\Below w.heap.size w w':=by
 obtain⟨L,H,I⟩:=i.bd;obtain⟨⟨es,f,n,z,_⟩,J,o,h,D⟩:=H;have c0:w.cell? ⟨X.ab,0,none⟩=some (.int .i64 (sc.length:Int)):=by simp[World.cell?,i.ab]
 have c1:w.cell? ⟨X.ab,1,none⟩=some (.map (some X.bm)):=by simp[World.cell?,i.ab]
 have q:X.bm<w.heap.size:=(eE.1 n).1;have j:∀w',w'.heap[X.bm]? =w.heap[X.bm]?->(Instr.lookup 327 (.map (some X.bm)) (idV t m) false).run prog w'=.ok ((qay (t.data.toList,m) L).getD (.slice none 0 0)) w':=λw' A=>qhe X.bm es f L t m w' (A.trans n) z
 have b:qci (t.data.toList,m) sc=[]->(∃a cap,(qay (t.data.toList,m) L).getD (.slice none 0 0)=.slice a 0 cap)->Calls prog 354 #[bp X.ab,idV t m] w λe w'=>e=.returned (qln (t.data.toList,m) sc)/\Below w.heap.size w w':=λu ⟨a,cap,l⟩=>by
  rw[l]at j;refine Calls.mono (qlr X.ab X.bm cap a 0 t m w c1 q j) ?_;rintro e w' ⟨rfl,E⟩;refine⟨?_,E⟩;have:find (t.data.toList,m) sc=none:=by rw[qfs,u];rfl
  simp[qln,this]
 cases hl:qay (t.data.toList,m) L with
 |none=>exact b (h _ hl) ⟨none,0,by rw[hl];rfl⟩
 |some v=>
  have F:=o _ (qdc hl);simp only at F;rcases F.2 with⟨l,M⟩|⟨g,cap,N,l,E,O,W,Y,P,B⟩
  ·exact b (List.eq_nil_of_length_eq_zero M) ⟨none,0,by rw[hl,l];rfl⟩
  ·cases u:(qci (t.data.toList,m) sc).reverse with
   |nil=>
    have c:qci (t.data.toList,m) sc=[]:=by simpa using u
    exact b c ⟨some ⟨g,0,none⟩,cap,by rw[hl,l,c];rfl⟩
   |cons p r=>
    have c:qci (t.data.toList,m) sc=r.reverse++[p]:=by rw[<-List.reverse_reverse (qci _ _),u];simp
    have d:(qci (t.data.toList,m) sc).length=r.length+1:=by rw[c];simp
    have Q:(qci (t.data.toList,m) sc)[r.length]? =some p:=by rw[c];simp
    obtain⟨R,s1⟩:=qkl _ _ _ Q;have T:=qi4 (i:=(t.data.toList,m)) (sc:=sc) (p:=p) (by rw[c];simp);have cc:∀k v,(qaz (qci (t.data.toList,m) sc))[k]? =some v->w.cell? ⟨g,k,none⟩=some v:=λk v y=>by
     rw[<-B,List.getElem?_take]at y;split at y
     ·simp only[World.cell?,O];simpa using y
     ·cases y
    have s:∀w',w'.heap[X.bm]? =w.heap[X.bm]?->(Instr.lookup 327 (.map (some X.bm)) (idV t m) false).run prog w'=.ok (.slice (some ⟨g,0,none⟩) (r.length+1) cap) w':=λw' A=>by
     rw[j w' A,hl,l,d];rfl
    have U:r.length+1<=sc.length:=by
     rw[<-d];exact qgw _ _
    have:=i.sz.1;refine Calls.mono (qlq X.ab X.bm cap g r.length sc.length p.1 p.2 t m w c0 c1 q s (cc _ _ (by rw[Nat.mul_comm];exact R)) (cc _ _ (by rw[Nat.mul_comm];exact s1)) (by omega) (by omega) (by omega)) ?_;rintro e w' ⟨rfl,C⟩;refine⟨?_,C⟩;have V:find (t.data.toList,m) sc=some (sc.length-p.1,p.2):=by rw[qfs,c];simp
    have e1:((sc.length-p.1:Nat):Int)=(sc.length:Int)-p.1:=by omega
    simp only[qln,V,e1]
structure Mx (X:Xe) (G:Gh) (w:Wd) (Y:Xe) (H:Gh) (w':Wd):Prop where
 same:Y.xb=X.xb/\Y.rb=X.rb/\Y.mm=X.mm/\Y.ab=X.ab/\Y.bm=X.bm/\Y.lo=X.lo
 up:G.up H
 I:∀{b:Nat},b<w.heap.size->H.I b=G.I b
 mu:∀{b:Nat},b∈H.mut->b∈G.mut\/w.heap.size<=b
 rw:∀{b:Nat},Y.Rw b->X.Rw b\/w.heap.size<=b
 blk:∀{k:Nat},k<w.heap.size->k∉G.mut->k∉[X.rb,X.mm,X.ab,X.bm]->¬X.Rw k->w'.heap[k]? =w.heap[k]?
 size:w.heap.size<=w'.heap.size
theorem Mx.of{X:Xe}(m:Mv G w H w'):Mx X G w X H w':=⟨⟨rfl,rfl,rfl,rfl,rfl,rfl⟩,m.up,m.I,m.mu,.inl,λa b _ _=>m.blk a b,m.size⟩
theorem Mx.refl(X:Xe)(G:Gh)(w:Wd):Mx X G w X G w:=Mx.of (Mv.refl G w)
theorem Mx.trans{X Y Z:Xe}{L:Gh}(a:Mx X G w Y H w1)(b:Mx Y H w1 Z L w2):Mx X G w Z L w2:=by
 obtain⟨s1,c,d,e,f,m⟩:=a.same;obtain⟨t1,n,o,p,q,r⟩:=b.same;refine⟨⟨t1.trans s1,n.trans c,o.trans d,p.trans e,q.trans f,r.trans m⟩,a.up.trans b.up,λh=>(b.I (eW h a.size)).trans (a.I h),λh=>(b.mu h).elim a.mu (λh=>.inr (eT a.size h)),λh=>(b.rw h).elim a.rw (λh=>.inr (eT a.size h)),fun {k} g i j l=>?_,eT a.size b.size⟩;rw[b.blk (eW g a.size) (λh=>(a.mu h).elim i (λh=>by omega)) (by rw[c,d,e,f];exact j) (λh=>(a.rw h).elim l (λh=>by omega)),a.blk g i j l]
theorem Mx.lk{X Y:Xe}(a:Mx X G w Y H w1)(h:Lk w1 w2):Mx X G w Y H w2:=⟨a.same,a.up,a.I,a.mu,a.rw,λb c d e=>by rw[h.heap];exact a.blk b c d e,by rw[h.heap];exact a.size⟩
theorem qak(w:Wd):Calls prog 290 #[.bool true] w λe w'=>e=.returned (.tuple #[])/\w'=w:=by
 go_enter func290,ntmps290
 go_wp2_with (go_at_call 273;refine(qc8 _ _).mono ?_;rintro e w2 ⟨rfl,a⟩;obtain rfl:=a.symm)
 go_end0;exact⟨rfl,rfl⟩
theorem qav(w:Wd):Calls prog 290 #[.bool false] w λe w'=>e=.panicked (qan (qap 4))/\∃o,w'=w.alloc o:=by
 go_enter func290,ntmps290
 go_wp2_with (go_at_call 273;refine(qc9 _ _).mono ?_;rintro e w2 ⟨rfl,o,rfl⟩)
 exact⟨rfl,rfl,o,rfl⟩
theorem qbe(t:BA)(l:List UInt8):(t.toList==l)=decide (t.data.toList=l):=by
 rw[ByteArray.toList_eq];by_cases h:t.data.toList=l <;> simp[h]
theorem qs2(s:Bs):(Kw.of s).isSome=(decide (s=[113,117,111,116,101])||decide (s=[105,102])||decide (s=[100,101,102,105,110,101])||decide (s=[115,101,116,33])||decide (s=[108,97,109,98,100,97])||decide (s=[108,101,116])||decide (s=[98,101,103,105,110])||decide (s=[100,101,102,105,110,101,45,115,121,110,116,97,120])):=by
 unfold Kw.of;by_cases a:s=[113,117,111,116,101]
 ·simp[a]
 by_cases b:s=[105,102]
 ·simp[b]
 by_cases c:s=[100,101,102,105,110,101]
 ·simp[c]
 by_cases d:s=[115,101,116,33]
 ·simp[d]
 by_cases e:s=[108,97,109,98,100,97]
 ·simp[e]
 by_cases f:s=[108,101,116]
 ·simp[f]
 by_cases g:s=[98,101,103,105,110]
 ·simp[g]
 by_cases h:s=[100,101,102,105,110,101,45,115,121,110,116,97,120]
 ·simp[h]
 simp[a,b,c,d,e,f,g,h]
theorem qjr(t:BA)(w:Wd):Calls prog 320 #[.string t] w λe w'=>e=.returned (.bool (Kw.of t.data.toList).isSome)/\Lk w w':=by
 rw[qs2];have a:=qbe t [113,117,111,116,101];have b:=qbe t [105,102];have c:=qbe t [100,101,102,105,110,101];have d:=qbe t [115,101,116,33];have f:=qbe t [108,97,109,98,100,97];have g:=qbe t [108,101,116];have h:=qbe t [98,101,103,105,110];have i:=qbe t [100,101,102,105,110,101,45,115,121,110,116,97,120];generalize decide (t.data.toList=[113,117,111,116,101])=b1 at a|-;generalize decide (t.data.toList=[105,102])=b2 at b|-;generalize decide (t.data.toList=[100,101,102,105,110,101])=b3 at c|-;generalize decide (t.data.toList=[115,101,116,33])=b4 at d|-;generalize decide (t.data.toList=[108,97,109,98,100,97])=b5 at f|-;generalize decide (t.data.toList=[108,101,116])=b6 at g|-;generalize decide (t.data.toList=[98,101,103,105,110])=b7 at h|-;generalize decide (t.data.toList=[100,101,102,105,110,101,45,115,121,110,116,97,120])=b8 at i|-;go_enter func320,ntmps320
 go_wp2;all_goals clear a b c d f g h i
 all_goals go_ret
 all_goals first
  |(exfalso;simp_all;done)
  |(refine⟨?_,rfl,rfl,rfl,rfl⟩;simp_all)
theorem qa8(h:Int)(d:Bool)(a:BA)(f:Int)(i:OA)(b c:Nat)(w:Wd):Calls prog 296 #[.agg (Dl.cells ⟨3,h,d,a,f,i,b,c⟩)] w λe w'=>e=.returned (idV a f)/\Below w.heap.size w w':=by
 go_enter func296,ntmps296
 go_wp2_with (go_at_call 290;refine(qak _).mono ?_;rintro e w2 ⟨rfl,g⟩;obtain rfl:=g.symm)
 refine bodyPost_ret (v:=idV a f) (by simp[results,results296,go_sem, *]) rfl ?_;exact⟨rfl,bl2 (by exact⟨rfl,rfl,rfl,rfl⟩)⟩
theorem qe5(c g:Int)(d:Bool)(f:BA)(h:Int)(i:OA)(a b:Nat)(w:Wd)(j:c≠3):Calls prog 296 #[.agg (Dl.cells ⟨c,g,d,f,h,i,a,b⟩)] w λe w'=>e=.panicked (qan (qap 4))/\Below w.heap.size w w':=by
 have k:(c==3)=false:=by simpa using j
 go_enter func296,ntmps296
 go_wp2_with (go_at_call 290;refine(qav _).mono ?_;rintro e w2 ⟨rfl,o,rfl⟩)
 exact⟨rfl,rfl,(bl2 (by exact⟨rfl,rfl,rfl,rfl⟩)).trans ((qaa _ _).mono (by simp;omega))⟩
def qb2(x:Xs)(i:Sc.Id)(sc:qaj):Int:=match find i sc with
 |some _=>0
 |none=>if(Kw.of i.1).isSome then 1 else if(x.mcr i.1).isSome then 2 else 3
def qef(i:Sc.Id)(sc:qaj):Vu:=match find i sc with
 |some (u,n)=>.agg #[.int .i64 (u:Int),.int .i64 (n:Int)]
 |none=>.agg #[.int .i64 0,.int .i64 0]
theorem qev{x y v:Vu}(h:W.heap[b]? =some (.cells #[x,y] t (0,0))):((W.setCell ⟨b,0,none⟩ u).setCell ⟨b,1,none⟩ v).heap[b]? =some (.cells #[u,v] t (0,0)):=by
 simp[World.setCell,Array.getElem?_modify,h]
theorem qa9{W':Wd}{v:Vu}(e:w.heap.size<=b)(h:Below w.heap.size w W)(c:Lk ((W.setCell ⟨b,0,none⟩ u).setCell ⟨b,1,none⟩ v) W'):Below w.heap.size w W':=
 ⟨c.os.trans h.os,c.tape.trans h.tape,c.output.trans h.output,by rw[c.heap,qag,qag];exact h.size,λk d=>by
  rw[c.heap,qab (a:=⟨b,1,none⟩) k (by show k≠b;omega),qab (a:=⟨b,0,none⟩) k (by show k≠b;omega)];exact h.block k d⟩
theorem qz3(xb _ _ P G:Nat)(t:BA)(m:Int)(bd V C:Bool)(u n:Int)(vr:Vu)(w:Wd)(c3:w.cell? ⟨xb,3,none⟩=some (.pointer (some ⟨G,0,none⟩)))(c2:w.cell? ⟨xb,2,none⟩=some (.map (some P)))
  (hF:∀w',Below w.heap.size w w'->Calls prog 354 #[.pointer (some ⟨G,0,none⟩),idV t m] w' λe w2=>e=.returned (.tuple #[.agg #[.int .i64 u,.int .i64 n],.bool bd])/\Below w'.heap.size w' w2)
  (hL:∀w',Below w.heap.size w w'->(Instr.lookup 325 (.map (some P)) (.string t) true).run prog w'=.ok (.tuple #[vr,.bool C]) w')
  (hK:∀w',Calls prog 320 #[.string t] w' λe w2=>e=.returned (.bool V)/\Lk w' w2):
  Calls prog 318 #[.pointer (some ⟨xb,0,none⟩),idV t m] w λe w'=>e=.returned (.tuple #[.int .i64 (if bd then 0 else if V then 1 else if C then 2 else 3),.agg #[.int .i64 u,.int .i64 n]])/\Below w.heap.size w w':=by
 have l1:=qae c3;have HL:=hZ hL;have HK:=hZ hK;have keep:∀{w' w2:Wd},Below w'.heap.size w' w2->∀{b k:Nat} {v:Vu},w'.cell? ⟨b,k,none⟩=some v->w2.cell? ⟨b,k,none⟩=some v:=fun {w' w2} z {b k v} hv=>(z.cell (p:=⟨b,k,none⟩) (qae hv)).trans hv
 have A:∀{w':Wd},Lk ((w.alloc (.cells #[.string t,.int .i64 m] 382)).alloc (.cells #[.int .i64 0,.int .i64 0] 395)) w'->w'.cell? ⟨xb,3,none⟩=some (.pointer (some ⟨G,0,none⟩))/\w'.cell? ⟨xb,2,none⟩=some (.map (some P))/\w'.cell? ⟨w.heap.size,0,none⟩=some (.string t)/\w'.cell? ⟨w.heap.size,1,none⟩=some (.int .i64 m):=fun {w'} B=>by
  have e:∀b k,w'.cell? ⟨b,k,none⟩=((w.alloc (.cells #[.string t,.int .i64 m] 382)).alloc (.cells #[.int .i64 0,.int .i64 0] 395)).cell? ⟨b,k,none⟩:=λb k=>by simp only[World.cell?,B.heap]
  have hn:=eN w (.cells #[.string t,.int .i64 m] 382);refine⟨by rw[e];exact qat (qat c3),by rw[e];exact qat (qat c2),by rw[e];exact qat (by simp only[World.cell?,hn];rfl),by rw[e];exact qat (by simp only[World.cell?,hn];rfl)⟩
 have H:Hid (∀w',Lk ((w.alloc (.cells #[.string t,.int .i64 m] 382)).alloc (.cells #[.int .i64 0,.int .i64 0] 395)) w'->Calls prog 354 #[.pointer (some ⟨G,0,none⟩),.agg #[.string t,.int .i64 m]] w' λe w2=>e=.returned (.tuple #[.agg #[.int .i64 u,.int .i64 n],.bool bd])/\(w2.cell? ⟨xb,3,none⟩=some (.pointer (some ⟨G,0,none⟩))/\w2.cell? ⟨xb,2,none⟩=some (.map (some P))/\w2.cell? ⟨w.heap.size,0,none⟩=some (.string t)/\w2.cell? ⟨w.heap.size,1,none⟩=some (.int .i64 m))/\Below w.heap.size w w2/\w2.heap[w.heap.size+1]? =some (.cells #[.int .i64 0,.int .i64 0] 395 (0,0))):=λw' B=>Calls.mono (hF w' (bl2 B)) λe w2 ⟨X,z⟩=>by
  obtain⟨b1,Y,Z,b4⟩:=A B;have Q:w'.heap[w.heap.size+1]? =some (.cells #[.int .i64 0,.int .i64 0] 395 (0,0)):=by
   have:=eN (w.alloc (.cells #[.string t,.int .i64 m] 382)) (.cells #[.int .i64 0,.int .i64 0] 395);rw[B.heap];simpa using this
  exact⟨X,⟨keep z b1,keep z Y,keep z Z,keep z b4⟩,(bl2 B).trans (z.mono (bl2 B).size),by rw[z.block _ (eE.1 Q).1];exact Q⟩
 have I:Hid (∀w',Lk (((w.alloc (.cells #[.string t,.int .i64 m] 382)).alloc (.cells #[.int .i64 0,.int .i64 0] 395)).alloc (.cells #[.int .i64 0,.int .i64 0] 395)) w'->Calls prog 354 #[.pointer (some ⟨G,0,none⟩),.agg #[.string t,.int .i64 m]] w' λe w2=>e=.returned (.tuple #[.agg #[.int .i64 u,.int .i64 n],.bool bd])/\(w2.heap[w.heap.size+2]? =some (.cells #[.int .i64 0,.int .i64 0] 395 (0,0))/\(w2.cell? ⟨w.heap.size+2,0,none⟩=some (.int .i64 0)/\w2.cell? ⟨w.heap.size+2,1,none⟩=some (.int .i64 0)/\(∀o,w2.frozen? ⟨w.heap.size+2,o,none⟩=false)))/\(w2.cell? ⟨xb,3,none⟩=some (.pointer (some ⟨G,0,none⟩))/\w2.cell? ⟨xb,2,none⟩=some (.map (some P))/\w2.cell? ⟨w.heap.size,0,none⟩=some (.string t)/\w2.cell? ⟨w.heap.size,1,none⟩=some (.int .i64 m))/\Below w.heap.size w w2/\w2.heap[w.heap.size+1]? =some (.cells #[.int .i64 0,.int .i64 0] 395 (0,0))):=λw' B=>by
  have J:Below w.heap.size w w':=(((qaa w (.cells #[.string t,.int .i64 m] 382)).alloc (by simp) (.cells #[.int .i64 0,.int .i64 0] 395)).alloc (by simp;omega) (.cells #[.int .i64 0,.int .i64 0] 395)).trans ((bl0 B).mono (by simp;omega));refine Calls.mono (hF w' J) ?_;rintro e w2 ⟨X,z⟩;obtain⟨b1,Y,Z,b4⟩:=A (w':=(w.alloc (.cells #[.string t,.int .i64 m] 382)).alloc (.cells #[.int .i64 0,.int .i64 0] 395)) ⟨rfl,rfl,rfl,rfl⟩;have up:∀{b k:Nat} {v:Vu},((w.alloc (.cells #[.string t,.int .i64 m] 382)).alloc (.cells #[.int .i64 0,.int .i64 0] 395)).cell? ⟨b,k,none⟩=some v->w'.cell? ⟨b,k,none⟩=some v:=fun {b k v} h=>by
   have:=qat (o:=.cells #[.int .i64 0,.int .i64 0] 395) h;simp only[World.cell?,B.heap]at this|-;exact this
  have y:w'.heap[w.heap.size+2]? =some (.cells #[.int .i64 0,.int .i64 0] 395 (0,0)):=by
   have:=eN ((w.alloc (.cells #[.string t,.int .i64 m] 382)).alloc (.cells #[.int .i64 0,.int .i64 0] 395)) (.cells #[.int .i64 0,.int .i64 0] 395);rw[B.heap];simpa using this
  have D:w2.heap[w.heap.size+2]? =some (.cells #[.int .i64 0,.int .i64 0] 395 (0,0)):=by rw[z.block _ (eE.1 y).1];exact y
  exact⟨X,⟨D,by simp only[World.cell?,D];rfl,by simp only[World.cell?,D];rfl,λo=>by simp[World.frozen?,D]⟩,⟨keep z (up b1),keep z (up Y),keep z (up Z),keep z (up b4)⟩,J.trans (z.mono J.size),by
   have Q:w'.heap[w.heap.size+1]? =some (.cells #[.int .i64 0,.int .i64 0] 395 (0,0)):=by
    have:=eN (w.alloc (.cells #[.string t,.int .i64 m] 382)) (.cells #[.int .i64 0,.int .i64 0] 395);rw[B.heap,eH _ _ _ (by simp)];simpa using this
   rw[z.block _ (eE.1 Q).1];exact Q⟩
 obtain⟨k3,k2,k0,k1⟩:=A (w':=(w.alloc (.cells #[.string t,.int .i64 m] 382)).alloc (.cells #[.int .i64 0,.int .i64 0] 395)) ⟨rfl,rfl,rfl,rfl⟩;clear hF hL hK A keep;go_enter func318,ntmps318
 go_wp2_with (fail)
 go_region_held3 (λw'=>w'.cell? ⟨xb,3,none⟩=some (.pointer (some ⟨G,0,none⟩))/\w'.cell? ⟨w.heap.size,0,none⟩=some (.string t)/\w'.cell? ⟨w.heap.size,1,none⟩=some (.int .i64 m)) (first|(exact⟨j.out.1.1,j.out.1.2.2.1,j.out.1.2.2.2⟩)|(exact⟨k3,k0,k1⟩)|(exact⟨qat k3,qat k0,qat k1⟩)|(exact⟨qat j.out.1.1,qat j.out.1.2.2.1,qat j.out.1.2.2.2⟩)|(exact⟨qbx (qbx j.out.1.1 (by simp;omega)) (by simp;omega),qbx (qbx j.out.1.2.2.1 (by simp;omega)) (by simp;omega),qbx (qbx j.out.1.2.2.2 (by simp;omega)) (by simp;omega)⟩)|go_keep|(trace_state;fail))
  (first
   |(go_at_call 354;refine(H.out _ (by exact⟨rfl,rfl,rfl,rfl⟩)).mono ?_;rintro e w1 ⟨rfl,R⟩;have j:=hZ R;clear R)
   |(go_at_call 354;refine(I.out _ (by exact⟨rfl,rfl,rfl,rfl⟩)).mono ?_;rintro e w1 ⟨rfl,⟨y,d0,d1,fz⟩,R⟩;have S:=hZ y;have j:=hZ R;clear R y))
 ·obtain⟨⟨p3,E,F,p1⟩,d,f⟩:=j.out;have d:Below w.heap.size w (w1.alloc (.cells #[.int .i64 u,.int .i64 n] 395)):=d.trans ((qaa _ _).mono d.size);have E:=qat (o:=.cells #[.int .i64 u,.int .i64 n] 395) E;have F:=qat (o:=.cells #[.int .i64 u,.int .i64 n] 395) F;have f:(w1.alloc (.cells #[.int .i64 u,.int .i64 n] 395)).heap[w.heap.size+1]? =some (.cells #[.int .i64 0,.int .i64 0] 395 (0,0)):=by rw[eH _ _ _ (eE.1 f).1];exact f
  have y:=eN w1 (.cells #[.int .i64 u,.int .i64 n] 395);have K:w.heap.size+1<w1.heap.size:=by have:=(eE.1 j.out.2.2).1;exact this
  generalize w1.heap.size=q at y K|-;generalize w1.alloc (.cells #[.int .i64 u,.int .i64 n] 395)=W at d E F f y|-;have T:W.cell? ⟨q,0,none⟩=some (.int .i64 u):=by simp only[World.cell?,y];rfl
  have U:W.cell? ⟨q,1,none⟩=some (.int .i64 n):=by simp only[World.cell?,y];rfl
  clear j p3 p1 y H I;have lz:=(eE.1 f).1;have a0:=HL.out W.drew (d.trans ((bl0 (by exact⟨rfl,rfl,rfl,rfl⟩)).mono d.size));have r:=hZ d;have i:=hZ f;clear d f;have r0:W.cell? ⟨w.heap.size+1,0,none⟩=some (.int .i64 0):=by simp only[World.cell?,i.out];rfl
  have r1:W.cell? ⟨w.heap.size+1,1,none⟩=some (.int .i64 0):=by simp only[World.cell?,i.out];rfl
  have L:W.frozen? ⟨w.heap.size+1,0,none⟩=false:=by simp[World.frozen?,i.out]
  have M:W.frozen? ⟨w.heap.size+1,1,none⟩=false:=by simp[World.frozen?,i.out]
  go_wp2_with (fail)
  go_region
  cases bd
  ·go_wp2_with (go_at_call 320;refine(HK.out _).mono ?_;rintro e w2 ⟨rfl,s⟩;refine Hid.out ?_)
   have x:Lk W w2:=⟨s.1,s.2,s.3,s.4⟩;have c:Hid (w2.heap[w.heap.size+1]? =some (.cells #[.int .i64 0,.int .i64 0] 395 (0,0))):=by
    have h:=i.out;rw[<-x.heap]at h;exact h
   have l:Hid (Below w.heap.size w w2):=r.out.trans ((bl0 x).mono r.out.size);have T:w2.cell? ⟨q,0,none⟩=some (.int .i64 u):=by simp only[World.cell?,x.heap];exact T
   have U:w2.cell? ⟨q,1,none⟩=some (.int .i64 n):=by simp only[World.cell?,x.heap];exact U
   have r0:w2.cell? ⟨w.heap.size+1,0,none⟩=some (.int .i64 0):=by simp only[World.cell?,c.out];rfl
   have r1:w2.cell? ⟨w.heap.size+1,1,none⟩=some (.int .i64 0):=by simp only[World.cell?,c.out];rfl
   have L:w2.frozen? ⟨w.heap.size+1,0,none⟩=false:=by simp[World.frozen?,c.out]
   have M:w2.frozen? ⟨w.heap.size+1,1,none⟩=false:=by simp[World.frozen?,c.out]
   clear s x i r;refine hZ ?_;cases V
   ·cases C
    ·have g:=qev (u:=.int .i64 u) (v:=.int .i64 n) c.out;have N:((w2.setCell ⟨w.heap.size+1,0,none⟩ (.int .i64 u)).setCell ⟨w.heap.size+1,1,none⟩ (.int .i64 n)).cell? ⟨w.heap.size+1,0,none⟩=some (.int .i64 u):=by simp only[World.cell?,g];rfl
     have O:((w2.setCell ⟨w.heap.size+1,0,none⟩ (.int .i64 u)).setCell ⟨w.heap.size+1,1,none⟩ (.int .i64 n)).cell? ⟨w.heap.size+1,1,none⟩=some (.int .i64 n):=by simp only[World.cell?,g];rfl
     clear g;go_wp2_with (fail)
     go_region
     go_wp2;refine bodyPost_ret (v:=.tuple #[.int .i64 3,.agg #[.int .i64 u,.int .i64 n]]) (by simp[results,results318,go_sem, *]) rfl ?_;exact⟨rfl,qa9 (b:=w.heap.size+1) (u:=.int .i64 u) (v:=.int .i64 n) (by omega) l.out (by exact⟨rfl,rfl,rfl,rfl⟩)⟩
    ·have g:=qev (u:=.int .i64 u) (v:=.int .i64 n) c.out;have N:((w2.setCell ⟨w.heap.size+1,0,none⟩ (.int .i64 u)).setCell ⟨w.heap.size+1,1,none⟩ (.int .i64 n)).cell? ⟨w.heap.size+1,0,none⟩=some (.int .i64 u):=by simp only[World.cell?,g];rfl
     have O:((w2.setCell ⟨w.heap.size+1,0,none⟩ (.int .i64 u)).setCell ⟨w.heap.size+1,1,none⟩ (.int .i64 n)).cell? ⟨w.heap.size+1,1,none⟩=some (.int .i64 n):=by simp only[World.cell?,g];rfl
     clear g;go_wp2_with (fail)
     go_region
     go_wp2;refine bodyPost_ret (v:=.tuple #[.int .i64 2,.agg #[.int .i64 u,.int .i64 n]]) (by simp[results,results318,go_sem, *]) rfl ?_;exact⟨rfl,qa9 (b:=w.heap.size+1) (u:=.int .i64 u) (v:=.int .i64 n) (by omega) l.out (by exact⟨rfl,rfl,rfl,rfl⟩)⟩
   ·have g:=qev (u:=.int .i64 u) (v:=.int .i64 n) c.out;have N:((w2.setCell ⟨w.heap.size+1,0,none⟩ (.int .i64 u)).setCell ⟨w.heap.size+1,1,none⟩ (.int .i64 n)).cell? ⟨w.heap.size+1,0,none⟩=some (.int .i64 u):=by simp only[World.cell?,g];rfl
    have O:((w2.setCell ⟨w.heap.size+1,0,none⟩ (.int .i64 u)).setCell ⟨w.heap.size+1,1,none⟩ (.int .i64 n)).cell? ⟨w.heap.size+1,1,none⟩=some (.int .i64 n):=by simp only[World.cell?,g];rfl
    clear g;go_wp2_with (fail)
    go_region
    go_wp2;refine bodyPost_ret (v:=.tuple #[.int .i64 1,.agg #[.int .i64 u,.int .i64 n]]) (by simp[results,results318,go_sem, *]) rfl ?_;exact⟨rfl,qa9 (b:=w.heap.size+1) (u:=.int .i64 u) (v:=.int .i64 n) (by omega) l.out (by exact⟨rfl,rfl,rfl,rfl⟩)⟩
  ·have g:=qev (u:=.int .i64 u) (v:=.int .i64 n) i.out;have N:((W.setCell ⟨w.heap.size+1,0,none⟩ (.int .i64 u)).setCell ⟨w.heap.size+1,1,none⟩ (.int .i64 n)).cell? ⟨w.heap.size+1,0,none⟩=some (.int .i64 u):=by simp only[World.cell?,g];rfl
   have O:((W.setCell ⟨w.heap.size+1,0,none⟩ (.int .i64 u)).setCell ⟨w.heap.size+1,1,none⟩ (.int .i64 n)).cell? ⟨w.heap.size+1,1,none⟩=some (.int .i64 n):=by simp only[World.cell?,g];rfl
   clear g;go_wp2_with (fail)
   go_region
   go_wp2;refine bodyPost_ret (v:=.tuple #[.int .i64 0,.agg #[.int .i64 u,.int .i64 n]]) (by simp[results,results318,go_sem, *]) rfl ?_;exact⟨rfl,qa9 (b:=w.heap.size+1) (u:=.int .i64 u) (v:=.int .i64 n) (by omega) r.out (by exact⟨rfl,rfl,rfl,rfl⟩)⟩
 ·obtain⟨⟨p3,E,F,p1⟩,d,f⟩:=j.out;have d:Below w.heap.size w ((w1.setCell ⟨w.heap.size+2,0,none⟩ (.int .i64 u)).setCell ⟨w.heap.size+2,1,none⟩ (.int .i64 n)):=qa9 (by omega) d ⟨rfl,rfl,rfl,rfl⟩;have E:((w1.setCell ⟨w.heap.size+2,0,none⟩ (.int .i64 u)).setCell ⟨w.heap.size+2,1,none⟩ (.int .i64 n)).cell? ⟨xb,2,none⟩=some (.map (some P)):=qbx (qbx E (by simp;omega)) (by simp;omega);have F:((w1.setCell ⟨w.heap.size+2,0,none⟩ (.int .i64 u)).setCell ⟨w.heap.size+2,1,none⟩ (.int .i64 n)).cell? ⟨w.heap.size,0,none⟩=some (.string t):=qbx (qbx F (by simp)) (by simp);have f:((w1.setCell ⟨w.heap.size+2,0,none⟩ (.int .i64 u)).setCell ⟨w.heap.size+2,1,none⟩ (.int .i64 n)).heap[w.heap.size+1]? =some (.cells #[.int .i64 0,.int .i64 0] 395 (0,0)):=by
   rw[qab (a:=⟨w.heap.size+2,1,none⟩) _ (by show w.heap.size+1≠w.heap.size+2;omega),qab (a:=⟨w.heap.size+2,0,none⟩) _ (by show w.heap.size+1≠w.heap.size+2;omega)];exact f
  have y:=qev (u:=.int .i64 u) (v:=.int .i64 n) S.out;have K:w.heap.size+1<w.heap.size+1+1:=by omega
  have e2:w.heap.size+2=w.heap.size+1+1:=rfl;rw[e2]at y E F f d;generalize a1:w.heap.size+1+1=q at y K E F f d|-;generalize (w1.setCell ⟨q,0,none⟩ (.int .i64 u)).setCell ⟨q,1,none⟩ (.int .i64 n)=W at d E F f y|-;have T:W.cell? ⟨q,0,none⟩=some (.int .i64 u):=by simp only[World.cell?,y];rfl
  have U:W.cell? ⟨q,1,none⟩=some (.int .i64 n):=by simp only[World.cell?,y];rfl
  clear j S p3 p1 y H I d0 d1 fz a1 e2;have lz:=(eE.1 f).1;have a0:=HL.out W.drew (d.trans ((bl0 (by exact⟨rfl,rfl,rfl,rfl⟩)).mono d.size));have r:=hZ d;have i:=hZ f;clear d f;have r0:W.cell? ⟨w.heap.size+1,0,none⟩=some (.int .i64 0):=by simp only[World.cell?,i.out];rfl
  have r1:W.cell? ⟨w.heap.size+1,1,none⟩=some (.int .i64 0):=by simp only[World.cell?,i.out];rfl
  have L:W.frozen? ⟨w.heap.size+1,0,none⟩=false:=by simp[World.frozen?,i.out]
  have M:W.frozen? ⟨w.heap.size+1,1,none⟩=false:=by simp[World.frozen?,i.out]
  go_wp2_with (fail)
  go_region
  cases bd
  ·go_wp2_with (go_at_call 320;refine(HK.out _).mono ?_;rintro e w2 ⟨rfl,s⟩;refine Hid.out ?_)
   have x:Lk W w2:=⟨s.1,s.2,s.3,s.4⟩;have c:Hid (w2.heap[w.heap.size+1]? =some (.cells #[.int .i64 0,.int .i64 0] 395 (0,0))):=by
    have h:=i.out;rw[<-x.heap]at h;exact h
   have l:Hid (Below w.heap.size w w2):=r.out.trans ((bl0 x).mono r.out.size);have T:w2.cell? ⟨q,0,none⟩=some (.int .i64 u):=by simp only[World.cell?,x.heap];exact T
   have U:w2.cell? ⟨q,1,none⟩=some (.int .i64 n):=by simp only[World.cell?,x.heap];exact U
   have r0:w2.cell? ⟨w.heap.size+1,0,none⟩=some (.int .i64 0):=by simp only[World.cell?,c.out];rfl
   have r1:w2.cell? ⟨w.heap.size+1,1,none⟩=some (.int .i64 0):=by simp only[World.cell?,c.out];rfl
   have L:w2.frozen? ⟨w.heap.size+1,0,none⟩=false:=by simp[World.frozen?,c.out]
   have M:w2.frozen? ⟨w.heap.size+1,1,none⟩=false:=by simp[World.frozen?,c.out]
   clear s x i r;refine hZ ?_;cases V
   ·cases C
    ·have g:=qev (u:=.int .i64 u) (v:=.int .i64 n) c.out;have N:((w2.setCell ⟨w.heap.size+1,0,none⟩ (.int .i64 u)).setCell ⟨w.heap.size+1,1,none⟩ (.int .i64 n)).cell? ⟨w.heap.size+1,0,none⟩=some (.int .i64 u):=by simp only[World.cell?,g];rfl
     have O:((w2.setCell ⟨w.heap.size+1,0,none⟩ (.int .i64 u)).setCell ⟨w.heap.size+1,1,none⟩ (.int .i64 n)).cell? ⟨w.heap.size+1,1,none⟩=some (.int .i64 n):=by simp only[World.cell?,g];rfl
     clear g;go_wp2_with (fail)
     go_region
     go_wp2;refine bodyPost_ret (v:=.tuple #[.int .i64 3,.agg #[.int .i64 u,.int .i64 n]]) (by simp[results,results318,go_sem, *]) rfl ?_;exact⟨rfl,qa9 (b:=w.heap.size+1) (u:=.int .i64 u) (v:=.int .i64 n) (by omega) l.out (by exact⟨rfl,rfl,rfl,rfl⟩)⟩
    ·have g:=qev (u:=.int .i64 u) (v:=.int .i64 n) c.out;have N:((w2.setCell ⟨w.heap.size+1,0,none⟩ (.int .i64 u)).setCell ⟨w.heap.size+1,1,none⟩ (.int .i64 n)).cell? ⟨w.heap.size+1,0,none⟩=some (.int .i64 u):=by simp only[World.cell?,g];rfl
     have O:((w2.setCell ⟨w.heap.size+1,0,none⟩ (.int .i64 u)).setCell ⟨w.heap.size+1,1,none⟩ (.int .i64 n)).cell? ⟨w.heap.size+1,1,none⟩=some (.int .i64 n):=by simp only[World.cell?,g];rfl
     clear g;go_wp2_with (fail)
     go_region
     go_wp2;refine bodyPost_ret (v:=.tuple #[.int .i64 2,.agg #[.int .i64 u,.int .i64 n]]) (by simp[results,results318,go_sem, *]) rfl ?_;exact⟨rfl,qa9 (b:=w.heap.size+1) (u:=.int .i64 u) (v:=.int .i64 n) (by omega) l.out (by exact⟨rfl,rfl,rfl,rfl⟩)⟩
   ·have g:=qev (u:=.int .i64 u) (v:=.int .i64 n) c.out;have N:((w2.setCell ⟨w.heap.size+1,0,none⟩ (.int .i64 u)).setCell ⟨w.heap.size+1,1,none⟩ (.int .i64 n)).cell? ⟨w.heap.size+1,0,none⟩=some (.int .i64 u):=by simp only[World.cell?,g];rfl
    have O:((w2.setCell ⟨w.heap.size+1,0,none⟩ (.int .i64 u)).setCell ⟨w.heap.size+1,1,none⟩ (.int .i64 n)).cell? ⟨w.heap.size+1,1,none⟩=some (.int .i64 n):=by simp only[World.cell?,g];rfl
    clear g;go_wp2_with (fail)
    go_region
    go_wp2;refine bodyPost_ret (v:=.tuple #[.int .i64 1,.agg #[.int .i64 u,.int .i64 n]]) (by simp[results,results318,go_sem, *]) rfl ?_;exact⟨rfl,qa9 (b:=w.heap.size+1) (u:=.int .i64 u) (v:=.int .i64 n) (by omega) l.out (by exact⟨rfl,rfl,rfl,rfl⟩)⟩
  ·have g:=qev (u:=.int .i64 u) (v:=.int .i64 n) i.out;have N:((W.setCell ⟨w.heap.size+1,0,none⟩ (.int .i64 u)).setCell ⟨w.heap.size+1,1,none⟩ (.int .i64 n)).cell? ⟨w.heap.size+1,0,none⟩=some (.int .i64 u):=by simp only[World.cell?,g];rfl
   have O:((W.setCell ⟨w.heap.size+1,0,none⟩ (.int .i64 u)).setCell ⟨w.heap.size+1,1,none⟩ (.int .i64 n)).cell? ⟨w.heap.size+1,1,none⟩=some (.int .i64 n):=by simp only[World.cell?,g];rfl
   clear g;go_wp2_with (fail)
   go_region
   go_wp2;refine bodyPost_ret (v:=.tuple #[.int .i64 0,.agg #[.int .i64 u,.int .i64 n]]) (by simp[results,results318,go_sem, *]) rfl ?_;exact⟨rfl,qa9 (b:=w.heap.size+1) (u:=.int .i64 u) (v:=.int .i64 n) (by omega) r.out (by exact⟨rfl,rfl,rfl,rfl⟩)⟩
def qdb{α:Type}(s:List UInt8):List (List UInt8×α)->Option α
 | []=>none
 |(t,a)::r=>if s=t then some a else qdb s r
theorem qhm(t:BA):∀(es:List MapEntry) (L:List (List UInt8×Vu)) (i:Nat),es.map (λe=>(e.key,e.val))=L.map (λp=>(Value.string ⟨p.1.toArray⟩,p.2))->
  ∃r,Instr.findNow .string (.string t) es i=some r/\r.map (·.2)=qdb t.data.toList L
 | [],[],i,_=>⟨none,rfl,rfl⟩
 | [],_::_,i,h=>by simp at h
 |_::_,[],i,h=>by simp at h
 |e::es,(s,b)::L,i,h=>by
  simp only[List.map_cons,List.cons.injEq,Prod.mk.injEq]at h;obtain⟨⟨c,d⟩,f⟩:=h;simp only[Instr.findNow,c,Instr.sameNow,qdg,qdb];by_cases a:t.data.toList=s
  ·simp[a,d]
  ·simp only[a,decide_false];obtain⟨r,e1,e2⟩:=qhm t es L (i+1) f;exact⟨r,e1,by simpa[a]using e2⟩
theorem qmt(c:Nat)(es:Array MapEntry)(a:Nat)(L:List (List UInt8×Vu))(t:BA)(w:Wd)(f:w.heap[c]? =some (.map es a))(g:es.toList.map (λe=>(e.key,e.val))=L.map (λp=>(Value.string ⟨p.1.toArray⟩,p.2))):
  (Instr.lookup 325 (.map (some c)) (.string t) true).run prog w=.ok (.tuple #[(qdb t.data.toList L).getD (.slice none 0 0),.bool (qdb t.data.toList L).isSome]) w:=by
 obtain⟨r,e1,e2⟩:=qhm t es.toList L 0 g;have d:=qa4 c es a w f;cases r with
 |none=>
  cases hl:qdb t.data.toList L with
  |none=>simp[Instr.lookup,run_underlying underlying325,go_sem,d,qh8,Instr.findKey,run_underlying underlying9,e1]
  |some b=>rw[hl]at e2;simp at e2
 |some p=>
  cases hl:qdb t.data.toList L with
  |none=>rw[hl]at e2;simp at e2
  |some b=>rw[hl]at e2;obtain⟨i,v⟩:=p;simp at e2;subst e2;simp[Instr.lookup,run_underlying underlying325,go_sem,d,qh8,Instr.findKey,run_underlying underlying9,e1]
theorem McRows.look{R:Gh->Macro->Vu->Prop}(s:Bs):∀{a:List Macro} {L:List (Bs×Vu)},McRows R G a L->(qdb s L).isSome=(a.find? (λm=>m.name==s)).isSome/\∀v,qdb s L=some v->∃mc,a.find? (λm=>m.name==s)=some mc/\R G mc v
 |_,_,.nil=>⟨rfl,λv h=>by cases h⟩
 |_,_,.cons mc v a L h _ hs=>by
  by_cases e:s=mc.name
  ·subst e;exact⟨by simp[qdb],λu b=>⟨mc,by simp,by simp[qdb]at b;subst b;exact h⟩⟩
  ·have d:(mc.name==s)=false:=by simpa using Ne.symm e
   obtain⟨f,g⟩:=McRows.look s hs;exact⟨by simpa[qdb,e,d]using f,λu b=>by
    obtain⟨c,i,j⟩:=g u (by simpa[qdb,e]using b);exact⟨c,by simpa[d]using i,j⟩⟩
theorem qjj{K:Rl}{X:Xe}{sc:qaj}(g:Inv G S m w)(i:XInv K X G S x sc w)(t:BA)(k:Int):
  Calls prog 318 #[bp X.xb,idV t k] w λe w'=>e=.returned (.tuple #[.int .i64 (qb2 x (t.data.toList,k) sc),qef (t.data.toList,k) sc])/\Below w.heap.size w w':=by
 obtain⟨es,a,L,b,d,f⟩:=i.mc;have j:X.mm<w.heap.size:=(eE.1 b).1;have c3:w.cell? ⟨X.xb,3,none⟩=some (.pointer (some ⟨X.ab,0,none⟩)):=by rw[g.cell i.xe];rfl
 have c2:w.cell? ⟨X.xb,2,none⟩=some (.map (some X.mm)):=by rw[g.cell i.xe];rfl
 have l:=(f.look t.data.toList).1;obtain⟨u,n,bd,o,q,r⟩:∃(u n:Int) (bd:Bool),qln (t.data.toList,k) sc=.tuple #[.agg #[.int .i64 u,.int .i64 n],.bool bd]/\bd=(find (t.data.toList,k) sc).isSome/\qef (t.data.toList,k) sc=.agg #[.int .i64 u,.int .i64 n]:=by
  unfold qln qef;cases find (t.data.toList,k) sc with
  |none=>exact⟨0,0,false,rfl,rfl,rfl⟩
  |some p=>exact⟨p.1,p.2,true,rfl,rfl,rfl⟩
 refine Calls.mono (qz3 X.xb G.mb X.rb X.mm X.ab t k bd (Kw.of t.data.toList).isSome (qdb t.data.toList L).isSome u n ((qdb t.data.toList L).getD (.slice none 0 0)) w c3 c2 (λw' c=>?_) (λw' c=>qmt X.mm es a L t w' (by rw[c.block _ j];exact b) d) (λw'=>qjr t w')) ?_
 ·refine Calls.mono (qox (i.below c) t k) ?_;rintro e w2 ⟨rfl,h⟩;exact⟨by rw[o],h⟩
 ·rintro e w' ⟨rfl,c⟩;refine⟨?_,c⟩;rw[r,l,q];congr 3;unfold qb2 Xs.mcr;cases find (t.data.toList,k) sc with
  |none=>simp
  |some p=>simp
theorem qsy(xb:Nat)(d f:Int)(b:Bool)(c:BA)(g:Int)(h:OA)(a:Nat)(w:Wd):
  Calls prog 288 #[.pointer (some ⟨xb,0,none⟩),.agg (Dl.cells ⟨d,f,b,c,g,h,0,a⟩)] w λe w'=>e=.returned (.tuple #[.int .i64 3,.string ⟨#[]⟩])/\Below w.heap.size w w':=by
 go_enter func288,ntmps288
 go_wp2;go_ret2
 exact⟨rfl,bl1 (by exact⟨rfl,rfl,rfl,rfl⟩)⟩
theorem qp6(xb g o n:Nat)(h i b:Int)(c:Bool)(d:BA)(j:Int)(a:Nat)(w:Wd)(c0:w.cell? ⟨g,o,none⟩=some (.int .i64 b))(f:b≠3)(m:n+1<=1000000):
  Calls prog 288 #[.pointer (some ⟨xb,0,none⟩),.agg (Dl.cells ⟨h,i,c,d,j,some ⟨g,o,none⟩,n+1,a⟩)] w λe w'=>e=.returned (.tuple #[.int .i64 3,.string ⟨#[]⟩])/\Below w.heap.size w w':=by
 have p:=qae c0;have k:(b==3)=false:=by simpa using f
 have l:(b !=3)=true:=by simpa using f
 have q:¬((n:Int)+1=0):=by omega
 have r:(0:Int)<(n:Int)+1:=by omega
 go_enter func288,ntmps288
 go_wp2;go_ret2
 exact⟨rfl,bl1 (by exact⟨rfl,rfl,rfl,rfl⟩)⟩
theorem qwd(xb g o n:Nat)(B C:Int)(q:Bool)(r:BA)(D:Int)(j:Nat)(s:Int)(k:Bool)(a:BA)(h:Int)(t:OA)(c d:Nat)(x:Int)(_:Array Vu)(w:Wd)
  (c0:w.cell? ⟨g,o,none⟩=some (.int .i64 3))(c1:w.cell? ⟨g,o+1,none⟩=some (.int .i64 s))(c2:w.cell? ⟨g,o+2,none⟩=some (.bool k))(c3:w.cell? ⟨g,o+3,none⟩=some (.string a))(c4:w.cell? ⟨g,o+4,none⟩=some (.int .i64 h))(c5:w.cell? ⟨g,o+5,none⟩=some (.slice t c d))(E:n+1<=1000000)
  (y:∀w',Below w.heap.size w w'->Calls prog 318 #[.pointer (some ⟨xb,0,none⟩),.agg #[.string a,.int .i64 h]] w' λe w2=>(∃u v,e=.returned (.tuple #[.int .i64 x,.agg #[.int .i64 u,.int .i64 v]]))/\Below w'.heap.size w' w2):
  Calls prog 288 #[.pointer (some ⟨xb,0,none⟩),.agg (Dl.cells ⟨B,C,q,r,D,some ⟨g,o,none⟩,n+1,j⟩)] w λe w'=>e=.returned (.tuple #[.int .i64 x,.string a])/\Below w.heap.size w w':=by
 have F:=qae c0;have G:¬((n:Int)+1=0):=by omega
 have H:(0:Int)<(n:Int)+1:=by omega
 have z:=hZ y;clear y;go_enter func288,ntmps288
 go_wp2_with (go_at_call 296;refine(qa8 s k a h t c d _).mono ?_;rintro e w2 ⟨rfl,i⟩;refine Hid.out ?_)
 have l:Below w.heap.size w w2:=(qaa _ _).trans (i.mono (by simp));have b:=hZ l;clear i l;refine hZ ?_;go_wp2_with (go_at_call 318;refine(z.out _ (b.out.trans ((qaa _ _).mono b.out.size))).mono ?_;rintro e w3 ⟨⟨u,v,rfl⟩,i⟩;refine Hid.out ?_)
 have m:(w2.alloc (.cells #[.string a,.int .i64 h] 382)).heap[w2.heap.size]? =some (.cells #[.string a,.int .i64 h] 382 (0,0)):=eN _ _;have f:w3.heap[w2.heap.size]? =some (.cells #[.string a,.int .i64 h] 382 (0,0)):=by rw[i.block _ (by simp)];exact m
 have A:w3.cell? ⟨w2.heap.size,0,none⟩=some (.string a):=by simp only[World.cell?,f];rfl
 have I:=qae A;have p:Hid (Below w.heap.size w w3):=(b.out.trans ((qaa _ _).mono b.out.size)).trans (i.mono (by have:=b.out.size;simp;omega));clear i m f z;have J:=qat (o:=.cells #[.int .i64 u,.int .i64 v] 395) A;refine hZ ?_;go_wp2_with (fail)
 go_region
 go_wp2;go_ret2
 exact⟨rfl,p.out.trans ((bl1 (o:=.cells #[.int .i64 u,.int .i64 v] 395) (by exact⟨rfl,rfl,rfl,rfl⟩)).mono p.out.size)⟩
def qca(x:Xs)(sc:qaj):Dt->Int×Bs
 | .list (.sym t k::_)=>(qb2 x (t,k) sc,t)
 |_=>(3,[])
theorem qon{K:Rl}{X:Xe}{sc:qaj}{d:Dt}(g:Inv G S m w)(i:XInv K X G S x sc w)(Y:DRep G d e):
  Calls prog 288 #[bp X.xb,.agg e.cells] w λA w'=>A=.returned (.tuple #[.int .i64 (qca x sc d).1,.string ⟨(qca x sc d).2.toArray⟩])/\Below w.heap.size w w':=by
 obtain⟨C,D,k,n,E,N,q,c⟩:=e;have a:q=0->qca x sc d=(3,[])->Calls prog 288 #[bp X.xb,.agg (Dl.cells ⟨C,D,k,n,E,N,q,c⟩)] w λA w'=>A=.returned (.tuple #[.int .i64 (qca x sc d).1,.string ⟨(qca x sc d).2.toArray⟩])/\Below w.heap.size w w':=λF H=>by
  subst F;rw[H];exact qsy X.xb C D k n E N c w
 cases Y with
 |num e h F H f=>exact a f.1 rfl
 |bool e h f=>exact a f.1 rfl
 |str e h y f=>exact a f.1 rfl
 |sym e h y f=>exact a f rfl
 |nil e h B=>exact a B rfl
 |list e h l es z o O B f P R T U y=>
  obtain rfl:N=some ⟨z,o,none⟩:=R;cases y with
  |nil=>exact a B rfl
  |cons Q r Z I F y=>
   obtain⟨t,V,J,s,L,W,u,v⟩:=Z;obtain rfl:q=I.length+1:=B;have P:I.length+1<=30000:=P;have cell:∀j,j<6->w.cell? ⟨z,o+j,none⟩=(Dl.cells ⟨t,V,J,s,L,W,u,v⟩)[j]?:=λj hj=>by
    rw[g.cell T,<-U 0 j _ rfl hj];simp
   have c0:w.cell? ⟨z,o,none⟩=some (.int .i64 t):=cell 0 (by omega);have b:t≠3->qca x sc (.list (Q::r))=(3,[])->Calls prog 288 #[bp X.xb,.agg (Dl.cells ⟨C,D,k,n,E,some ⟨z,o,none⟩,I.length+1,c⟩)] w λA w'=>A=.returned (.tuple #[.int .i64 (qca x sc (.list (Q::r))).1,.string ⟨(qca x sc (.list (Q::r))).2.toArray⟩])/\Below w.heap.size w w':=λhk H=>by
    rw[H];exact qp6 X.xb z o I.length C D t k n E c w c0 hk (by omega)
   cases F with
   |num e h F H f=>exact b (by have h:t=0:=h;omega) rfl
   |bool e h f=>exact b (by have h:t=1:=h;omega) rfl
   |str e h y f=>exact b (by have h:t=2:=h;omega) rfl
   |nil e h B=>exact b (by have h:t=4:=h;omega) rfl
   |list e h l es z o O B f P R T U y=>exact b (by have h:t=4:=h;omega) rfl
   |sym e h y f=>
    obtain rfl:t=3:=h;refine Calls.mono (qwd X.xb z o I.length C D k n E c V J s L W u v (qb2 x (s.data.toList,L) sc) #[] w c0 (cell 1 (by omega)) (cell 2 (by omega)) (cell 3 (by omega)) (cell 4 (by omega)) (cell 5 (by omega)) (by omega) (λw' M=>?_)) ?_
    ·refine Calls.mono (qjj (g.below M) (i.below M) s L) ?_;rintro e w2 ⟨rfl,h2⟩;refine⟨?_,h2⟩;unfold qef;cases find (s.data.toList,L) sc with
     |none=>exact⟨0,0,rfl⟩
     |some p=>exact⟨p.1,p.2,rfl⟩
    ·rintro A w' ⟨rfl,M⟩;exact⟨rfl,M⟩
def kwN(x:Xs)(sc:qaj)(d:Dt):Bs:=if(qca x sc d).1=1 then(qca x sc d).2 else []
theorem qqa(xb:Nat)(j k:Int)(c:Bool)(d:BA)(l:Int)(m:OA)(a b:Nat)(f:Int)(s:BA)(w:Wd)(n:∀w',Below w.heap.size w w'->Calls prog 288 #[.pointer (some ⟨xb,0,none⟩),.agg (Dl.cells ⟨j,k,c,d,l,m,a,b⟩)] w' λe w2=>e=.returned (.tuple #[.int .i64 f,.string s])/\Below w'.heap.size w' w2):
  Calls prog 232 #[.pointer (some ⟨xb,0,none⟩),.agg (Dl.cells ⟨j,k,c,d,l,m,a,b⟩)] w λe w'=>e=.returned (.string (if f=1 then s else⟨#[]⟩))/\Below w.heap.size w w':=by
 have o:=hZ n;clear n;by_cases h:f=1
 ·subst h;go_enter func232,ntmps232
  go_wp2_with (go_at_call 288;refine(o.out _ (by first|exact bl0 (by exact⟨rfl,rfl,rfl,rfl⟩)|exact bl1 (by exact⟨rfl,rfl,rfl,rfl⟩))).mono ?_;rintro e w2 ⟨rfl,g⟩;have i:=hZ g;clear g)
  go_ret;exact⟨rfl,(bl1 (by exact⟨rfl,rfl,rfl,rfl⟩)).trans (i.out.mono (by simp))⟩
 ·have p:(f==1)=false:=by simpa using h
  have q:(f !=1)=true:=by simpa using h
  rw[if_neg h];go_enter func232,ntmps232
  go_wp2_with (go_at_call 288;refine(o.out _ (by first|exact bl0 (by exact⟨rfl,rfl,rfl,rfl⟩)|exact bl1 (by exact⟨rfl,rfl,rfl,rfl⟩))).mono ?_;rintro e w2 ⟨rfl,g⟩;have i:=hZ g;clear g)
  go_ret;exact⟨rfl,(bl1 (by exact⟨rfl,rfl,rfl,rfl⟩)).trans (i.out.mono (by simp))⟩
theorem qhi{K:Rl}{X:Xe}{sc:qaj}{d:Dt}(g:Inv G S m w)(i:XInv K X G S x sc w)(l:DRep G d e):
  Calls prog 232 #[bp X.xb,.agg e.cells] w λk w'=>k=.returned (.string ⟨(kwN x sc d).toArray⟩)/\Below w.heap.size w w':=by
 obtain⟨n,o,f,j,p,q,a,b⟩:=e;refine Calls.mono (qqa X.xb n o f j p q a b (qca x sc d).1 ⟨(qca x sc d).2.toArray⟩ w λw' c=>qon (g.below c) (i.below c) l) ?_;rintro k w' ⟨rfl,c⟩;refine⟨?_,c⟩;unfold kwN;by_cases h:(qca x sc d).1=1 <;> simp[h]
def Kept(xb:Nat)(w w' w2:Wd):Prop:=∀b,b<w'.heap.size->(w.heap.size<=b\/b=xb)->w2.heap[b]? =w'.heap[b]?
theorem Kept.cell(h:Kept xb w w' w2){k:Nat}{v:Vu}(a:w'.cell? ⟨b,k,none⟩=some v)(c:w.heap.size<=b\/b=xb):w2.cell? ⟨b,k,none⟩=some v:=by
 have:=h b (qae a) c;simp only[World.cell?,this]at a|-;exact a
theorem qpb(xb mb:Nat)(u n:Int)(t:BA)(m:Int)(w:Wd)(Q:En->Wd->Prop)(c0:w.cell? ⟨xb,0,none⟩=some (.pointer (some ⟨mb,0,none⟩)))
  (o:∀w',Below w.heap.size w w'->Calls prog 318 #[.pointer (some ⟨xb,0,none⟩),.agg #[.string t,.int .i64 m]] w' λe w2=>e=.returned (.tuple #[.int .i64 0,.agg #[.int .i64 u,.int .i64 n]])/\Below w'.heap.size w' w2)
  (r:∀w',Below w.heap.size w w'->Calls prog 331 #[.pointer (some ⟨mb,0,none⟩),.agg #[.int .i64 u,.int .i64 n]] w' λe w2=>(∃v,e=.returned v)/\Kept xb w w' w2/\Q e w2):
  Calls prog 295 #[.pointer (some ⟨xb,0,none⟩),idV t m] w Q:=by
 have y:=qae c0;have s:=hZ o;have z:=hZ r;clear o r;go_enter func295,ntmps295
 go_wp2_with (first|(go_at_call 318;refine(s.out _ (bl1 (by exact⟨rfl,rfl,rfl,rfl⟩))).mono ?_;rintro e w2 ⟨rfl,x⟩;refine Hid.out ?_))
 have a:Below w.heap.size w w2:=(qaa _ _).trans (x.mono (by simp));have g:Below w.heap.size w (w2.alloc (.cells #[.int .i64 u,.int .i64 n] 395)):=a.trans ((qaa _ _).mono a.size);have j:(w2.alloc (.cells #[.int .i64 u,.int .i64 n] 395)).cell? ⟨xb,0,none⟩=some (.pointer (some ⟨mb,0,none⟩)):=qat ((a.cell (p:=⟨xb,0,none⟩) y).trans c0);have f:=eN w2 (.cells #[.int .i64 u,.int .i64 n] 395);have h:(w2.alloc (.cells #[.int .i64 u,.int .i64 n] 395)).cell? ⟨w2.heap.size,0,none⟩=some (.int .i64 u):=by simp only[World.cell?,f];rfl
 have i:(w2.alloc (.cells #[.int .i64 u,.int .i64 n] 395)).cell? ⟨w2.heap.size,1,none⟩=some (.int .i64 n):=by simp only[World.cell?,f];rfl
 have c:w.heap.size<=w2.heap.size:=a.size;have d:=hZ g;clear x a g s f;refine hZ ?_;go_wp2_with (go_at_call 290;refine(qak _).mono ?_;rintro e w3 ⟨rfl,k⟩;obtain rfl:=k.symm)
 generalize A:w2.alloc (.cells #[.int .i64 u,.int .i64 n] 395)=W at d j h i|-;generalize w2.heap.size=q at h i c|-;clear A;go_region_held3 (λw'=>w'.cell? ⟨xb,0,none⟩=some (.pointer (some ⟨mb,0,none⟩))/\w'.cell? ⟨q,0,none⟩=some (.int .i64 u)/\w'.cell? ⟨q,1,none⟩=some (.int .i64 n)) (first|(exact⟨j,h,i⟩)|(exact l.out)|go_keep)
  (first|(go_at_call 331;refine(z.out _ (d.out.trans ((bl0 (by exact⟨rfl,rfl,rfl,rfl⟩)).mono d.out.size))).mono ?_;rintro e w3 ⟨⟨v,rfl⟩,b,f⟩;have l:=hZ (And.intro (b.cell (v:=.pointer (some ⟨mb,0,none⟩)) (by exact j) (.inr rfl)) (And.intro (b.cell (v:=.int .i64 u) (by exact h) (.inl c)) (b.cell (v:=.int .i64 n) (by exact i) (.inl c))));have B:=hZ f;clear f b))
 all_goals go_wp2
 all_goals exact B.out
theorem qpc(xb mb:Nat)(u n:Int)(t:BA)(m:Int)(w:Wd)(Q:En->Wd->Prop)(c0:w.cell? ⟨xb,0,none⟩=some (.pointer (some ⟨mb,0,none⟩)))
  (o:∀w',Below w.heap.size w w'->Calls prog 318 #[.pointer (some ⟨xb,0,none⟩),.agg #[.string t,.int .i64 m]] w' λe w2=>e=.returned (.tuple #[.int .i64 3,.agg #[.int .i64 u,.int .i64 n]])/\Below w'.heap.size w' w2)
  (r:∀w',Below w.heap.size w w'->Calls prog 332 #[.pointer (some ⟨mb,0,none⟩),.string t] w' λe w2=>(∃v,e=.returned v)/\Kept xb w w' w2/\Q e w2):
  Calls prog 295 #[.pointer (some ⟨xb,0,none⟩),idV t m] w Q:=by
 have y:=qae c0;have s:=hZ o;have z:=hZ r;clear o r;have d:=eN w (.cells #[.string t,.int .i64 m] 382);go_enter func295,ntmps295
 go_wp2_with (first|(go_at_call 318;refine(s.out _ (bl1 (by exact⟨rfl,rfl,rfl,rfl⟩))).mono ?_;rintro e w2 ⟨rfl,h⟩;refine Hid.out ?_))
 have a:Below w.heap.size w w2:=(qaa _ _).trans (h.mono (by simp));have f:Below w.heap.size w (w2.alloc (.cells #[.int .i64 u,.int .i64 n] 395)):=a.trans ((qaa _ _).mono a.size);have i:(w2.alloc (.cells #[.int .i64 u,.int .i64 n] 395)).cell? ⟨xb,0,none⟩=some (.pointer (some ⟨mb,0,none⟩)):=qat ((a.cell (p:=⟨xb,0,none⟩) y).trans c0);have g:w2.heap[w.heap.size]? =some (.cells #[.string t,.int .i64 m] 382 (0,0)):=by rw[h.block _ (by simp)];exact d
 have j:(w2.alloc (.cells #[.int .i64 u,.int .i64 n] 395)).cell? ⟨w.heap.size,0,none⟩=some (.string t):=qat (by simp only[World.cell?,g];rfl);have b:=hZ f;clear h a f s d g;refine hZ ?_;go_wp2_with (go_at_call 290;refine(qak _).mono ?_;rintro e w3 ⟨rfl,k⟩;obtain rfl:=k.symm)
 generalize A:w2.alloc (.cells #[.int .i64 u,.int .i64 n] 395)=W at b i j|-;generalize w2.heap.size=q;clear A;go_region_held3 (λw'=>w'.cell? ⟨xb,0,none⟩=some (.pointer (some ⟨mb,0,none⟩))/\w'.cell? ⟨w.heap.size,0,none⟩=some (.string t)) (first|(exact⟨i,j⟩)|(exact l.out)|go_keep)
  (first|(go_at_call 332;refine(z.out _ (b.out.trans ((bl0 (by exact⟨rfl,rfl,rfl,rfl⟩)).mono b.out.size))).mono ?_;rintro e w3 ⟨⟨v,rfl⟩,c,x⟩;have l:=hZ (And.intro (c.cell (v:=.pointer (some ⟨mb,0,none⟩)) (by exact i) (.inr rfl)) (c.cell (v:=.string t) (by exact j) (.inl (eR _))));have B:=hZ x;clear x c))
 all_goals go_wp2
 all_goals exact B.out
theorem qpa(xb:Nat)(b u n:Int)(t:BA)(m:Int)(w:Wd)(h:b≠0)(i:b≠3)
  (d:∀w',Below w.heap.size w w'->Calls prog 318 #[.pointer (some ⟨xb,0,none⟩),.agg #[.string t,.int .i64 m]] w' λe w2=>e=.returned (.tuple #[.int .i64 b,.agg #[.int .i64 u,.int .i64 n]])/\Below w'.heap.size w' w2):
  Calls prog 295 #[.pointer (some ⟨xb,0,none⟩),idV t m] w λe w'=>e=.panicked (qan (qap 4))/\Below w.heap.size w w':=by
 have f:=hZ d;have j:(b==0)=false:=by simpa using h
 have e3:(b==3)=false:=by simpa using i
 clear d;go_enter func295,ntmps295
 go_wp2_with (first|(go_at_call 318;refine(f.out _ (bl1 (by exact⟨rfl,rfl,rfl,rfl⟩))).mono ?_;rintro e w2 ⟨rfl,g⟩;refine Hid.out ?_))
 have a:Below w.heap.size w w2:=(qaa _ _).trans (g.mono (by simp));have c:Hid (Below w.heap.size w (w2.alloc (.cells #[.int .i64 u,.int .i64 n] 395))):=a.trans ((qaa _ _).mono a.size);clear g a f;refine hZ ?_;go_wp2_with (go_at_call 290;refine(qav _).mono ?_;rintro e w3 ⟨rfl,o,rfl⟩)
 exact⟨rfl,rfl,c.out.trans ((qaa _ _).mono c.out.size)⟩
theorem qlp{i:Sc.Id}:∀{l:List Sc.Id} {n:Nat},qbl i l=some n->n<l.length
 | [],n,h=>by simp[qbl]at h
 |j::r,n,h=>by
  by_cases e:j=i
  ·simp[qbl,e]at h;subst h;simp
  ·simp only[qbl,if_neg e,Option.map_eq_some_iff]at h;obtain⟨k,a,rfl⟩:=h;have:=qlp a;simp;omega
theorem qnd{i:Sc.Id}:∀{sc:qaj} {u n:Nat},find i sc=some (u,n)->∃l,sc[u]? =some l/\n<l.length
 | [],u,n,h=>by simp[find]at h
 |l::r,u,n,h=>by
  cases hf:qbl i l with
  |some k=>simp[find,hf]at h;obtain⟨rfl,rfl⟩:=h;exact⟨l,rfl,qlp hf⟩
  |none=>
   simp only[find,hf,Option.map_eq_some_iff]at h;obtain⟨⟨a,b⟩,c,d⟩:=h;cases d;obtain⟨e,f,g⟩:=qnd c;exact⟨e,by simpa using f,g⟩
abbrev qdu(sc:qaj):List Nat:=sc.map List.length
theorem Made.kept{m0:Mc}{e:Ex}{f:En}{o:Obj}(g:Inv G S m0 w)(c:G.I xb=some o)(h:Made G S m w' sh e f w2):Kept xb w w' w2:=by
 obtain⟨H,x,_,i,_⟩:=h;intro b j d;refine i.blk j λa=>?_
 rcases d with d|rfl
 ·have:=g.ml a;omega
 ·have:=g.mi a;rw[this]at c;cases c
theorem qyi{K:Rl}{X:Xe}{sc:qaj}(g:Inv G S m w)(i:XInv K X G S x sc w)(t:BA)(k:Int):
  Calls prog 295 #[bp X.xb,idV t k] w λr w'=>match qc7 x (t.data.toList,k) sc with
   |some s=>Made G S m w (qdu sc) s r w'
   |none=>r=.panicked (qan (qap 4))/\Below w.heap.size w w':=by
 have c0:w.cell? ⟨X.xb,0,none⟩=some (.pointer (some ⟨G.mb,0,none⟩)):=by rw[g.cell i.xe];rfl
 have d:∀w',Below w.heap.size w w'->Calls prog 318 #[bp X.xb,idV t k] w' λe w2=>e=.returned (.tuple #[.int .i64 (qb2 x (t.data.toList,k) sc),qef (t.data.toList,k) sc])/\Below w'.heap.size w' w2:=λw' b=>qjj (g.below b) (i.below b) t k
 cases hf:find (t.data.toList,k) sc with
 |some p=>
  obtain⟨u,n⟩:=p;have f:qc7 x (t.data.toList,k) sc=some (.loc u n):=by simp[qc7,Xs.means,hf]
  rw[f];have e1:qb2 x (t.data.toList,k) sc=0:=by simp[qb2,hf]
  have e2:qef (t.data.toList,k) sc=.agg #[.int .i64 (u:Int),.int .i64 (n:Int)]:=by simp[qef,hf]
  rw[e1,e2]at d;obtain⟨l,c,o⟩:=qnd hf;have v:u<sc.length:=(eL.1 c).1;have q:l.length<=1000000000:=i.sz.2 l (List.mem_of_getElem? c);refine qpb X.xb G.mb u n t k w _ c0 d λw' b=>?_
  refine Calls.mono (qv7 (sh:=qdu sc) (u:=u) (j:=n) (n:=l.length) (g.below b) (by simp[qdu,c]) o ⟨by have:=i.sz.1;omega,q⟩) ?_;intro e w2 h;exact⟨Made.ends _ _ h,h.kept g i.xe,h.after (Mv.ext (Gh.ext.refl _ _) b)⟩
 |none=>
  have e2:qef (t.data.toList,k) sc=.agg #[.int .i64 ((0:Nat):Int),.int .i64 ((0:Nat):Int)]:=by simp[qef,hf]
  by_cases a:qb2 x (t.data.toList,k) sc=3
  ·have f:qc7 x (t.data.toList,k) sc=some (.glo t.data.toList):=by
    unfold qb2 at a;rw[hf]at a;simp only at a;unfold qc7 Xs.means;rw[hf];cases hk:Kw.of t.data.toList with
    |some y=>rw[hk]at a;simp at a
    |none=>
     rw[hk]at a;cases hm:x.mcr t.data.toList with
     |some z=>rw[hm]at a;simp at a
     |none=>rfl
   rw[f];rw[a,e2]at d;refine qpc X.xb G.mb 0 0 t k w _ c0 d λw' b=>?_
   refine Calls.mono (q20 (sh:=qdu sc) (t:=t) (g.below b)) ?_;intro e w2 h;exact⟨Made.ends _ _ h,h.kept g i.xe,h.after (Mv.ext (Gh.ext.refl _ _) b)⟩
  ·have f:qc7 x (t.data.toList,k) sc=none:=by
    unfold qb2 at a;rw[hf]at a;simp only at a;unfold qc7 Xs.means;rw[hf];cases hk:Kw.of t.data.toList with
    |some y=>rfl
    |none=>
     rw[hk]at a;cases hm:x.mcr t.data.toList with
     |some z=>rfl
     |none=>rw[hm]at a;simp at a
   rw[f];rw[e2]at d;have A:qb2 x (t.data.toList,k) sc≠0:=by
    unfold qb2;rw[hf];simp only;split
    ·decide
    ·split <;> decide
   exact qpa X.xb _ 0 0 t k w A a d
def qu1(x:Xs)(mc:Macro)(args:List Dt)(sc:qaj):Option Dt:=match mc.rules.findSome? (λr=>(qau mc.lits sc r.1 args).map (λb=>(b,r.2)))with
 |none=>none
 |some (b,t)=>match qgi x.count b t with
  |none=>none
  |some d=>if qbu d<=600 then some d else none
theorem qxs(S:Sub)(x:Xs)(mc:Macro)(args:List Dt)(sc:qaj):use S x mc args sc=if S.rewrites<=(x.count:Int)then(.error 12,x)else match qu1 {x with count:=x.count+1} mc args sc with
  |none=>(.error 4,{x with count:=x.count+1})
  |some d=>(.ok (d,{x with count:=x.count+1}),{x with count:=x.count+1}):=by
 unfold use qu1;split
 ·rfl
 ·simp only;split <;> rename_i h <;> rw[h] <;> simp only
  split <;> rename_i a <;> rw[a] <;> simp only
  split <;> rfl
def qf5(S:Sub):Nat->Xs->qaj->Dt->Except Nat Dt×Xs
 |0,x,_,_=>(.error 0,x)
 |f+1,x,sc,d=>match d with
  | .list (.sym t k::r)=>match x.means (t,k) sc with
   | .mac mc=>match use S x mc r sc with
    |(.error e,x)=>(.error e,x)
    |(.ok (d,x),_)=>qf5 S f x sc d
   |_=>(.ok d,x)
  |d=>(.ok d,x)
def q1g(K:Rl)(S:Sub):Prop:=∀(X:Xe) (G:Gh) (m:Mc) (x:Xs) (sc:qaj) (w:Wd) (t:Bs) (k:Int) (r:List Dt) (e:Dl) (mc:Macro) (v:Vu),Inv G S m w->XInv K X G S x sc w->DRep G (.list (.sym t k::r)) e->qaf (.list (.sym t k::r))<=1000000000000->K.R G mc v->
 Calls prog 289 #[.agg e.cells,v,bp X.ab,.int .i64 (x.count:Int)] w λe' w'=>match qu1 x mc r sc with
  |some d=>∃H e2,e'=.returned (.agg e2.cells)/\Mv G w H w'/\Inv H S m w'/\DRep H d e2
  |none=>e'=.panicked (qan (qap 4))/\Cnt G S m w'/\Mt X.rb x.count S.rewrites 12 w'
theorem qyr(b:Nat)(t c a:Int)(w:Wd)(h:Mt b t c a w):Calls prog 57 #[.pointer (some ⟨b,0,none⟩)] w λe w'=>e=.returned (.int .i64 t)/\w'=w:=by
 have c0:=h.c0;clear h;go_enter func57,ntmps57
 go_wp2;go_ret;exact⟨rfl,rfl⟩
theorem XInv.count{K:Rl}{X:Xe}{sc:qaj}(i:XInv K X G S x sc w)(n:Nat)(q:(n:Int)<=S.rewrites):XInv K X G S {x with count:=n} sc (w.setCell ⟨X.rb,0,none⟩ (.int .i64 (n:Int))):=by
 have d:=i.nd;simp only[List.nodup_cons,List.mem_cons,List.not_mem_nil,or_false,not_or]at d;obtain⟨⟨r,s,t⟩,_⟩:=d;have f:∀b,b≠X.rb->(w.setCell ⟨X.rb,0,none⟩ (.int .i64 (n:Int))).heap[b]? =w.heap[b]?:=λb g=>qab (a:=⟨X.rb,0,none⟩) b g
 obtain⟨L,e,j⟩:=i.bd;obtain⟨es,c,M,k,l,m⟩:=i.mc;have o:=(i.lo X.rb (by simp)).2.2.1;refine⟨i.xe,?_,⟨q,i.ml.2⟩,by rw[f _ (Ne.symm s)];exact i.ab,⟨L,⟨by rw[f _ (Ne.symm t)];exact e.1,e.2.1,λp u=>qsj (e.2.2.1 p u) o,e.2.2.2⟩,j⟩,λb g=>by rw[qag];exact i.rr b g,⟨es,c,M,by rw[f _ (Ne.symm r)];exact k,l,m⟩,i.lo,i.nd,by rw[qag];exact i.sl,i.sz⟩;have h:=i.mt;unfold Mt at h|-;simp[World.setCell,Array.getElem?_modify,h]
def qya(K:Rl)(X:Xe)(G:Gh)(S:Sub)(m:Mc)(sc:qaj)(w:Wd)(rv:Except Nat Dt×Xs)(e':En)(w':Wd):Prop:=
 (∃H d' x' e2,rv=(.ok d',x')/\e'=.returned (.agg (Dl.cells e2))/\Mx X G w X H w'/\Inv H S m w'/\XInv K X H S x' sc w'/\DRep H d' e2)\/
 (∃vd x',rv=(.error vd,x')/\e'=.panicked (qan (qap vd))/\Cnt G S m w'/\Mt X.rb (Xs.count x') S.rewrites 12 w')
def q6p(K:Rl)(X:Xe)(G:Gh)(S:Sub)(m:Mc)(sc:qaj)(w:Wd)(rv:Except Nat Dt×Xs)(k:Nat)(_:Vu)(wr:Wd):Prop:=
 ∃(j:Nat) (x1:Xs) (d1:Dt) (e1:Dl) (H:Gh),j<=k/\rv=qf5 S j x1 sc d1/\Mx X G w X H wr/\Inv H S m wr/\XInv K X H S x1 sc wr/\DRep H d1 e1/\wr.heap[w.heap.size]? =some (.cells e1.cells 134 (0,0))/\
  wr.heap[w.heap.size+1]? =some (.cells #[.int .i64 0,.int .i64 0,.bool false,.string ⟨#[]⟩,.int .i64 0,.slice none 0 0] 134 (0,0))/\(∀b,w.heap.size<=b->b<=w.heap.size+1->H.I b=none/\b∉H.mut)/\qaf d1<=1000000000000
theorem qjn{x:Xs}{sc:qaj}{d:Dt}(h:(qca x sc d).1=2):∃t k r mc,d=.list (.sym t k::r)/\x.means (t,k) sc=.mac mc/\x.mcr t=some mc/\(qca x sc d).2=t:=by
 unfold qca at h|-;split at h
 ·rename_i t k r;unfold qb2 at h;cases hf:find (t,k) sc with
  |some p=>rw[hf]at h;simp at h
  |none=>
   rw[hf]at h;simp only at h;cases hk:Kw.of t with
   |some a=>rw[hk]at h;simp at h
   |none=>
    rw[hk]at h;cases hm:x.mcr t with
    |none=>rw[hm]at h;simp at h
    |some mc=>exact⟨t,k,r,mc,rfl,by simp[Xs.means,hf,hk,hm],hm,rfl⟩
 ·simp at h
theorem qhh{sc:qaj}{d:Dt}{j:Nat}(h:(qca x sc d).1≠2):qf5 S (j+1) x sc d=(.ok d,x):=by
 unfold qf5;split
 ·rename_i t k r;have:∀mc,x.means (t,k) sc≠.mac mc:=λmc a=>by
   apply h;unfold Xs.means at a;unfold qca qb2;cases hf:find (t,k) sc with
   |some p=>rw[hf]at a;simp at a
   |none=>
    rw[hf]at a;simp only at a|-;cases hk:Kw.of t with
    |some b=>rw[hk]at a;simp at a
    |none=>
     rw[hk]at a;cases hmm:x.mcr t with
     |none=>rw[hmm]at a;simp at a
     |some mc=>simp[hf]
  split
  ·rename_i mc a;exact absurd a (this mc)
  ·rfl
 ·rfl
theorem XInv.set{K:Rl}{X:Xe}{sc:qaj}(i:XInv K X G S x sc w){o:Nat}{v:Vu}(C:b∉[X.rb,X.mm,X.ab,X.bm])(D:¬X.Rw b):XInv K X G S x sc (w.setCell ⟨b,o,none⟩ v):=by
 have y:∀c,c≠b->(w.setCell ⟨b,o,none⟩ v).heap[c]? =w.heap[c]?:=λc f=>qab (a:=⟨b,o,none⟩) c f
 have l:∀c,c∈[X.rb,X.mm,X.ab,X.bm]->(w.setCell ⟨b,o,none⟩ v).heap[c]? =w.heap[c]?:=λc f=>y c λe=>C (e▸f)
 obtain⟨L,m,j⟩:=i.bd;obtain⟨es,d,M,n,q,r⟩:=i.mc;refine⟨i.xe,i.mt.keep (l _ (by simp)),i.ml,by rw[l _ (by simp)];exact i.ab,⟨L,⟨by rw[l _ (by simp)];exact m.1,m.2.1,λp z=>?_,m.2.2.2⟩,j⟩,λc f=>by rw[qag];exact i.rr c f,⟨es,d,M,by rw[l _ (by simp)];exact n,q,r⟩,i.lo,i.nd,by rw[qag];exact i.sl,i.sz⟩;have A:=m.2.2.1 p z;refine⟨A.1,?_⟩;rcases A.2 with h|⟨g,cap,s,B,t,E,u⟩
 ·exact .inl h
 ·have k:g∈L.filterMap (·.2.ownBlock):=List.mem_filterMap.2 ⟨p,z,by rw[B];rfl⟩;exact .inr ⟨g,cap,s,B,t,by rw[y g λe=>D (e▸j g k)];exact E,u⟩
abbrev qdh(W:Wd)(b:Nat)(v0 v1 v2 v3 v4 v5:Vu):Wd:=(((((W.setCell ⟨b,0,none⟩ v0).setCell ⟨b,1,none⟩ v1).setCell ⟨b,2,none⟩ v2).setCell ⟨b,3,none⟩ v3).setCell ⟨b,4,none⟩ v4).setCell ⟨b,5,none⟩ v5
theorem qdv{a x1 x2 x3 x4 x5:Vu}(h:W.heap[b]? =some (.cells #[a,x1,x2,x3,x4,x5] t (0,0))):(qdh W b v0 v1 v2 v3 v4 v5).heap[b]? =some (.cells #[v0,v1,v2,v3,v4,v5] t (0,0)):=by
 simp[World.setCell,Array.getElem?_modify,h]
theorem qew{c:Nat}(h:c≠b):(qdh W b v0 v1 v2 v3 v4 v5).heap[c]? =W.heap[c]?:=by
 rw[qab (a:=⟨b,5,none⟩) c h,qab (a:=⟨b,4,none⟩) c h,qab (a:=⟨b,3,none⟩) c h,qab (a:=⟨b,2,none⟩) c h,qab (a:=⟨b,1,none⟩) c h,qab (a:=⟨b,0,none⟩) c h]
theorem set6_size:(qdh W b v0 v1 v2 v3 v4 v5).heap.size=W.heap.size:=by simp
theorem qja(i:Inv G S m W)(hI:G.I b=none)(a:b∉G.mut)(c:¬G.F b):Inv G S m (qdh W b v0 v1 v2 v3 v4 v5):=(((((i.loose hI a c).loose hI a c).loose hI a c).loose hI a c).loose hI a c).loose hI a c
theorem qr0{K:Rl}{X:Xe}{sc:qaj}(i:XInv K X G S x sc W)(a:b∉[X.rb,X.mm,X.ab,X.bm])(c:¬X.Rw b):XInv K X G S x sc (qdh W b v0 v1 v2 v3 v4 v5):=(((((i.set a c).set a c).set a c).set a c).set a c).set a c
theorem qle(c:Nat)(es:Array MapEntry)(a:Nat)(L:List (List UInt8×Vu))(t:BA)(w:Wd)(f:w.heap[c]? =some (.map es a))(g:es.toList.map (λe=>(e.key,e.val))=L.map (λp=>(Value.string ⟨p.1.toArray⟩,p.2))):
  (Instr.lookup 325 (.map (some c)) (.string t) false).run prog w=.ok ((qdb t.data.toList L).getD (.slice none 0 0)) w:=by
 obtain⟨r,e1,e2⟩:=qhm t es.toList L 0 g;have d:=qa4 c es a w f;cases r with
 |none=>
  cases hl:qdb t.data.toList L with
  |none=>simp[Instr.lookup,run_underlying underlying325,go_sem,d,qh8,Instr.findKey,run_underlying underlying9,e1]
  |some b=>rw[hl]at e2;simp at e2
 |some p=>
  cases hl:qdb t.data.toList L with
  |none=>rw[hl]at e2;simp at e2
  |some b=>rw[hl]at e2;obtain⟨i,v⟩:=p;simp at e2;subst e2;simp[Instr.lookup,run_underlying underlying325,go_sem,d,qh8,Instr.findKey,run_underlying underlying9,e1]
def RetP(P:Vu->Wd->Prop)(Q:En->Wd->Prop)(e:En)(w:Wd):Prop:=(∃ps,e=.panicked ps/\Q (.panicked ps) w)\/(∃v,e=.returned v/\P v w)
theorem qm7:(prog.info? 241).map (λi=>(i.zero,i.size,i.bytes))=some (some .nilFunc,1,8):=by kernel_rfl
theorem qqr(xb:Nat)(D:OA)(xlen i:Nat)(s:Nat->Dl)(w:Wd)(Q:En->Wd->Prop)(R:Nat->Wd->Prop)(E:xlen<=1000000)
  (F:∀w',Lk (w.alloc (.cells (madeCells #[.nilFunc] xlen) 241)) w'->R 0 w')
  (b:∀k wr,R k wr->k<xlen->∃g o,D=some ⟨g,o,none⟩/\∀j,j<6->wr.cell? ⟨g,o+k*6+j,none⟩=(s k).cells[j]?)
  (a:∀k wr,R k wr->k<xlen->∀w',Lk (wr.alloc (.cells (s k).cells 134)) w'->Calls prog 236 #[bp xb,.agg (s k).cells] w' (RetP (λv w2=>(∃kc cc,v=.func (.func kc) #[] cc)/\(∃z,w2.cell? ⟨w.heap.size,k,none⟩=some z)/\w2.frozen? ⟨w.heap.size,k,none⟩=false/\∀w3,Lk (w2.setCell ⟨w.heap.size,k,none⟩ v) w3->R (k+1) w3) Q))
  (d:∀wr,R xlen wr->Q (.returned (.slice (some ⟨w.heap.size,0,none⟩) xlen xlen)) wr):
  Calls prog 334 #[bp xb,.slice D xlen i] w Q:=by
 have I:∀w:Wd,(Instr.makeSlice 426 (.int .i64 (xlen:Int)) (.int .i64 (xlen:Int))).run prog w=.ok (.slice (some ⟨w.heap.size,0,none⟩) xlen xlen) (w.alloc (.cells (madeCells #[.nilFunc] xlen) 241)):=
  λw=>run_make_row' 426 241 .nilFunc 8 underlying426 qm7 rfl .i64 .i64 xlen (by omega) (by omega) w
 have J:=hZ F;have l:=hZ b;have f:=hZ a;have m:=hZ d;clear F b a d;go_enter func334,ntmps334
 go_wp2;go_loopw [13] (λc wr=>∃(k:Nat),k<=xlen/\c=.int .i64 (k:Int)/\R k wr) (λc _=>xlen-(intOf c).toNat)
 case atStart=>exact⟨0,Nat.zero_le _,rfl,J.out _ (by exact⟨rfl,rfl,rfl,rfl⟩)⟩
 case round=>
  obtain⟨k,U,rfl,h⟩:=hrel;have t:=hZ h;clear h;by_cases n:k<xlen
  ·obtain⟨⟨K,L,u,x,M,N,p,q⟩,A⟩:∃y,y=s k:=⟨_,rfl⟩;obtain⟨g,o,rfl,cell⟩:=l.out k wr t.out n;rw[<-A]at cell;have c0:wr.cell? ⟨g,o+k*6,none⟩=some (.int .i64 K):=cell 0 (by omega);have c1:wr.cell? ⟨g,o+k*6+1,none⟩=some (.int .i64 L):=cell 1 (by omega);have c2:wr.cell? ⟨g,o+k*6+2,none⟩=some (.bool u):=cell 2 (by omega);have c3:wr.cell? ⟨g,o+k*6+3,none⟩=some (.string x):=cell 3 (by omega);have c4:wr.cell? ⟨g,o+k*6+4,none⟩=some (.int .i64 M):=cell 4 (by omega);have c5:wr.cell? ⟨g,o+k*6+5,none⟩=some (.slice N p q):=cell 5 (by omega);have B:=f.out k wr t.out n;rw[<-A]at B;have O:=hZ B;clear cell B A;have G:(k:Int)<(xlen:Int):=by omega
   go_wp2_with (go_at_call 236;refine(O.out _ (by exact⟨rfl,rfl,rfl,rfl⟩)).mono ?_;rintro e w2 (⟨V,rfl,P⟩|⟨v,rfl,⟨kc,cc,rfl⟩,⟨z,W⟩,fz,H⟩);(exact⟨rfl,P⟩);have S:=hZ H;clear H;refine Hid.out ?_)
   refine hZ ?_;go_wp2;go_roundw
   case rel=>exact⟨k+1,by omega,by go_num,S.out _ (by exact⟨rfl,rfl,rfl,rfl⟩)⟩
   case measure=>simp[intOf];omega
  ·have r:k=xlen:=by omega
   have h:=t.out;rw[r]at h;have C:=hZ h;clear h t;have T:¬(k:Int)<(xlen:Int):=by omega
   clear r;go_wp2;exact m.out _ C.out
def RQ(Q:En->Wd->Prop):En->Wd->Prop:=RetP (λv w=>Q (.returned v) w) Q
theorem RQ.of{Q:En->Wd->Prop}{e:En}(h:Q e w)(b:(∃v,e=.returned v)\/(∃a,e=.panicked a)):RQ Q e w:=by
 rcases b with⟨v,rfl⟩|⟨a,rfl⟩
 ·exact .inr ⟨v,rfl,h⟩
 ·exact .inl ⟨a,rfl,h⟩
theorem qto(xb mb:Nat)(A B:Int)(x:Bool)(y:BA)(C:Int)(D:OA)(l p:Nat)(w:Wd)(Q:En->Wd->Prop)(X:xb<w.heap.size)
  (L:∀w',Lk (w.alloc (.cells (Dl.cells ⟨A,B,x,y,C,D,l,p⟩) 134)) w'->Calls prog 231 #[bp xb,.agg (Dl.cells ⟨A,B,x,y,C,D,l,p⟩)] w' (RetP (λv w2=>∃e2:Dl,v=.agg e2.cells/\w2.heap[w.heap.size]? =some (.cells (Dl.cells ⟨A,B,x,y,C,D,l,p⟩) 134 (0,0))/\w2.cell? ⟨xb,0,none⟩=some (bp mb)/\
   ∀W,Lk (qdh w2 w.heap.size (.int .i64 e2.k) (.int .i64 e2.n) (.bool e2.tr) (.string e2.tx) (.int .i64 e2.m) (.slice e2.a e2.len e2.cap)) W->
    (e2.k=3->∀E,Below W.heap.size W E->Calls prog 295 #[bp xb,idV e2.tx e2.m] E (RQ Q))/\(e2.k=4->Calls prog 297 #[bp xb,.agg e2.cells] W (RQ Q))/\(e2.k≠3->e2.k≠4->Calls prog 298 #[bp mb,.agg e2.cells] W (RQ Q))) Q)):
  Calls prog 236 #[bp xb,.agg (Dl.cells ⟨A,B,x,y,C,D,l,p⟩)] w Q:=by
 have M:=hZ L;clear L;go_enter func236,ntmps236
 go_wp2_with (go_at_call 231;refine(M.out _ (by exact⟨rfl,rfl,rfl,rfl⟩)).mono ?_;rintro e w2 (⟨J,rfl,t⟩|⟨v,rfl,⟨q,r,h,g,j,s,d,f⟩,rfl,i,K,N⟩);(exact⟨rfl,t⟩);refine Hid.out ?_)
 have Y:w2.cell? ⟨w.heap.size,0,none⟩=some (.int .i64 A):=by simp only[World.cell?,i];rfl
 have t1:w2.cell? ⟨w.heap.size,1,none⟩=some (.int .i64 B):=by simp only[World.cell?,i];rfl
 have Z:w2.cell? ⟨w.heap.size,2,none⟩=some (.bool x):=by simp only[World.cell?,i];rfl
 have t3:w2.cell? ⟨w.heap.size,3,none⟩=some (.string y):=by simp only[World.cell?,i];rfl
 have t4:w2.cell? ⟨w.heap.size,4,none⟩=some (.int .i64 C):=by simp only[World.cell?,i];rfl
 have t5:w2.cell? ⟨w.heap.size,5,none⟩=some (.slice D l p):=by simp only[World.cell?,i];rfl
 have tf:∀o,w2.frozen? ⟨w.heap.size,o,none⟩=false:=λo=>by simp[World.frozen?,i]
 have u:=qdv (v0:=.int .i64 q) (v1:=.int .i64 r) (v2:=.bool h) (v3:=.string g) (v4:=.int .i64 j) (v5:=.slice s d f) i;have O:(qdh w2 w.heap.size (.int .i64 q) (.int .i64 r) (.bool h) (.string g) (.int .i64 j) (.slice s d f)).cell? ⟨w.heap.size,0,none⟩=some (.int .i64 q):=by simp only[World.cell?,u];rfl
 have s1:(qdh w2 w.heap.size (.int .i64 q) (.int .i64 r) (.bool h) (.string g) (.int .i64 j) (.slice s d f)).cell? ⟨w.heap.size,1,none⟩=some (.int .i64 r):=by simp only[World.cell?,u];rfl
 have P:(qdh w2 w.heap.size (.int .i64 q) (.int .i64 r) (.bool h) (.string g) (.int .i64 j) (.slice s d f)).cell? ⟨w.heap.size,2,none⟩=some (.bool h):=by simp only[World.cell?,u];rfl
 have R:(qdh w2 w.heap.size (.int .i64 q) (.int .i64 r) (.bool h) (.string g) (.int .i64 j) (.slice s d f)).cell? ⟨w.heap.size,3,none⟩=some (.string g):=by simp only[World.cell?,u];rfl
 have S:(qdh w2 w.heap.size (.int .i64 q) (.int .i64 r) (.bool h) (.string g) (.int .i64 j) (.slice s d f)).cell? ⟨w.heap.size,4,none⟩=some (.int .i64 j):=by simp only[World.cell?,u];rfl
 have T:(qdh w2 w.heap.size (.int .i64 q) (.int .i64 r) (.bool h) (.string g) (.int .i64 j) (.slice s d f)).cell? ⟨w.heap.size,5,none⟩=some (.slice s d f):=by simp only[World.cell?,u];rfl
 have U:(qdh w2 w.heap.size (.int .i64 q) (.int .i64 r) (.bool h) (.string g) (.int .i64 j) (.slice s d f)).cell? ⟨xb,0,none⟩=some (bp mb):=by
  have:=qew (W:=w2) (b:=w.heap.size) (c:=xb) (v0:=.int .i64 q) (v1:=.int .i64 r) (v2:=.bool h) (v3:=.string g) (v4:=.int .i64 j) (v5:=.slice s d f) (by omega);simp only[World.cell?,this]at K|-;exact K
 have F:=hZ N;clear N i u M;by_cases H:q=3
 ·subst H;have z:Hid (∀E,Below (qdh w2 w.heap.size (.int .i64 3) (.int .i64 r) (.bool h) (.string g) (.int .i64 j) (.slice s d f)).heap.size (qdh w2 w.heap.size (.int .i64 3) (.int .i64 r) (.bool h) (.string g) (.int .i64 j) (.slice s d f)) E->Calls prog 295 #[bp xb,.agg #[.string g,.int .i64 j]] E (RQ Q)):=(F.out (qdh w2 w.heap.size (.int .i64 3) (.int .i64 r) (.bool h) (.string g) (.int .i64 j) (.slice s d f)) ⟨rfl,rfl,rfl,rfl⟩).1 rfl;clear F;refine hZ ?_;go_wp2_with (first|(go_at_call 296;refine(qa8 r h g j s d f _).mono ?_;rintro e w3 ⟨rfl,V⟩;have HB:=hZ V;clear V)|(go_at_call 295;refine(z.out _ HB.out).mono ?_;rintro e w3 (⟨J,rfl,t⟩|⟨v,rfl,t⟩);(exact⟨rfl,t⟩);have G:=hZ t;clear t))
  exact G.out
 ·by_cases I:q=4
  ·subst I;refine hZ ?_;go_wp2_with (first|(go_at_call 297;refine((F.out _ (by exact⟨rfl,rfl,rfl,rfl⟩)).2.1 rfl).mono ?_;rintro e w3 (⟨J,rfl,t⟩|⟨v,rfl,t⟩);(exact⟨rfl,t⟩);have G:=hZ t;clear t))
   exact G.out
  ·have e3:(q==3)=false:=by simpa using H
   have e4:(q==4)=false:=by simpa using I
   have z:Hid (∀W,Lk (qdh w2 w.heap.size (.int .i64 q) (.int .i64 r) (.bool h) (.string g) (.int .i64 j) (.slice s d f)) W->Calls prog 298 #[bp mb,.agg #[.int .i64 q,.int .i64 r,.bool h,.string g,.int .i64 j,.slice s d f]] W (RQ Q)):=λW hW=>(F.out W hW).2.2 H I
   clear F H I;refine hZ ?_;go_wp2_with (fail)
   unfold qdh at O s1 P R S T U z;generalize (((((w2.setCell ⟨w.heap.size,0,none⟩ (.int .i64 q)).setCell ⟨w.heap.size,1,none⟩ (.int .i64 r)).setCell ⟨w.heap.size,2,none⟩ (.bool h)).setCell ⟨w.heap.size,3,none⟩ (.string g)).setCell ⟨w.heap.size,4,none⟩ (.int .i64 j)).setCell ⟨w.heap.size,5,none⟩ (.slice s d f)=W at O s1 P R S T U z|-;clear Y t1 Z t3 t4 t5 tf K;refine qal 5 (by kernel_rfl) (by kernel_rfl) ?_;simp only[List.take_succ_cons,List.take_zero,List.drop_succ_cons,List.drop_zero];repeat still_step
   refine wpStill_nil ?_;go_wp2_with (first|(go_at_call 298;refine(z.out _ (by exact⟨rfl,rfl,rfl,rfl⟩)).mono ?_;rintro e w3 (⟨J,rfl,t⟩|⟨v,rfl,t⟩);(exact⟨rfl,t⟩);have G:=hZ t;clear t))
   exact G.out
def RX(xb mb:Nat)(Q:En->Wd->Prop):En->Wd->Prop:=RetP (λv w=>w.cell? ⟨xb,0,none⟩=some (bp mb)/\Q (.returned v) w) Q
def tlD(g o cap k:Nat):OA:=if cap=k then some ⟨g,o,none⟩else some ⟨g,o+k*6,none⟩
theorem qbz(g o n cap:Nat)(a:n+1<=cap)(w:Wd):(Instr.slice 132 (.slice (some ⟨g,o,none⟩) (n+1) cap) (some (.int .i64 1)) none none).run prog w=.ok (.slice (tlD g o cap 1) n (cap-1)) w:=by
 have b:1<=cap:=by omega
 simp[Instr.slice,Instr.sliceBounds,run_underlying underlying132,go_sem,tlD];omega
theorem qfd(g o n cap:Nat)(a:n+2<=cap)(w:Wd):(Instr.slice 132 (.slice (some ⟨g,o,none⟩) (n+2) cap) (some (.int .i64 2)) none none).run prog w=.ok (.slice (tlD g o cap 2) n (cap-2)) w:=by
 have b:1<=cap:=by omega
 have c:2<=cap:=by omega
 simp[Instr.slice,Instr.sliceBounds,run_underlying underlying132,go_sem,tlD];omega
theorem qm3(xb mb:Nat)(m o:Int)(d:Bool)(f:BA)(q:Int)(k:OA)(n b:Nat)(w:Wd)(Q:En->Wd->Prop)(c0:w.cell? ⟨xb,0,none⟩=some (bp mb))(I:n+1<=1000000)
  (u:∀w',Lk (w.alloc (.cells (Dl.cells ⟨m,o,d,f,q,k,n+1,b⟩) 134)) w'->Calls prog 232 #[bp xb,.agg (Dl.cells ⟨m,o,d,f,q,k,n+1,b⟩)] w' λe w2=>e=.returned (.string ⟨#[]⟩)/\Below w'.heap.size w' w2)
  (x:∀w',Below w.heap.size w w'->Calls prog 334 #[bp xb,.slice k (n+1) b] w' (RetP (λv w2=>∃a l c,v=.slice a l c/\w2.cell? ⟨xb,0,none⟩=some (bp mb)/\∀w3,Lk w2 w3->Calls prog 333 #[bp mb,.slice a l c] w3 (RX xb mb Q)) Q)):
  Calls prog 297 #[bp xb,.agg (Dl.cells ⟨m,o,d,f,q,k,n+1,b⟩)] w Q:=by
 have C:=qae c0;have y:=hZ u;have D:=hZ x;clear u x;have z:(0:Int)<(n:Int)+1:=by omega
 go_enter func297,ntmps297
 go_wp2_with (first|(go_at_call 290;refine(qak _).mono ?_;rintro e w2 ⟨rfl,r⟩;obtain rfl:=r.symm)|(go_at_call 232;refine(y.out _ (by exact⟨rfl,rfl,rfl,rfl⟩)).mono ?_;rintro e w2 ⟨rfl,A⟩;refine Hid.out ?_))
 have g:Below w.heap.size w w2:=(qaa _ _).trans (A.mono (by simp));have E:=(g.cell (p:=⟨xb,0,none⟩) C).trans c0;have i:=hZ g;clear A g y;refine hZ ?_;go_wp2_with (fail)
 go_region_held2 (λw'=>w'.cell? ⟨xb,0,none⟩=some (bp mb)) (first|(exact E)|(exact s.out)|(exact t.out)|go_keep)
  (first
   |(go_at_call 334;refine(D.out _ (i.out.trans ((bl0 (by exact⟨rfl,rfl,rfl,rfl⟩)).mono i.out.size))).mono ?_;rintro e w3 (⟨F,rfl,h⟩|⟨v,rfl,a,l,c,rfl,j,B⟩);(exact⟨rfl,h⟩);have s:=hZ j;have G:=hZ B;clear j B)
   |(go_at_call 333;refine(G.out _ (by exact⟨rfl,rfl,rfl,rfl⟩)).mono ?_;rintro e w4 (⟨F,rfl,h⟩|⟨v,rfl,j,h⟩);(exact⟨rfl,h⟩);have t:=hZ j;have H:=hZ h;clear j h))
 all_goals go_wp2
 all_goals exact H.out
theorem qm2(xb _:Nat)(i j:Int)(b:Bool)(c:BA)(k:Int)(g:OA)(n a:Nat)(w:Wd)(Q:En->Wd->Prop)(u:n+1<=1000000)
  (m:∀w',Lk (w.alloc (.cells (Dl.cells ⟨i,j,b,c,k,g,n+1,a⟩) 134)) w'->Calls prog 232 #[bp xb,.agg (Dl.cells ⟨i,j,b,c,k,g,n+1,a⟩)] w' λe w2=>e=.returned (.string ⟨#[105,102]⟩)/\Below w'.heap.size w' w2)
  (o:∀w',Below w.heap.size w w'->Calls prog 335 #[bp xb,.slice g (n+1) a] w' (RQ Q)):
  Calls prog 297 #[bp xb,.agg (Dl.cells ⟨i,j,b,c,k,g,n+1,a⟩)] w Q:=by
 have s:=hZ o;clear o;have p:=hZ m;clear m;have q:(0:Int)<(n:Int)+1:=by omega
 go_enter func297,ntmps297
 go_wp2_with (first|(go_at_call 290;refine(qak _).mono ?_;rintro e w2 ⟨rfl,l⟩;obtain rfl:=l.symm)|(go_at_call 232;refine(p.out _ (by exact⟨rfl,rfl,rfl,rfl⟩)).mono ?_;rintro e w2 ⟨rfl,r⟩;refine Hid.out ?_))
 have f:Below w.heap.size w w2:=(qaa _ _).trans (r.mono (by simp));have d:=hZ f;clear r f p;refine hZ ?_;go_wp2_with (first|(go_at_call 335;refine(s.out _ (by first|(exact d.out)|(exact d.out.trans ((bl0 (by exact⟨rfl,rfl,rfl,rfl⟩)).mono d.out.size)))).mono ?_;rintro e w3 (⟨x,rfl,h⟩|⟨v,rfl,h⟩);(exact⟨rfl,h⟩);have t:=hZ h;clear h))
 exact t.out
theorem qm0(xb _:Nat)(i j:Int)(b:Bool)(c:BA)(k:Int)(g:OA)(n a:Nat)(w:Wd)(Q:En->Wd->Prop)(u:n+1<=1000000)
  (m:∀w',Lk (w.alloc (.cells (Dl.cells ⟨i,j,b,c,k,g,n+1,a⟩) 134)) w'->Calls prog 232 #[bp xb,.agg (Dl.cells ⟨i,j,b,c,k,g,n+1,a⟩)] w' λe w2=>e=.returned (.string ⟨#[115,101,116,33]⟩)/\Below w'.heap.size w' w2)
  (o:∀w',Below w.heap.size w w'->Calls prog 336 #[bp xb,.slice g (n+1) a] w' (RQ Q)):
  Calls prog 297 #[bp xb,.agg (Dl.cells ⟨i,j,b,c,k,g,n+1,a⟩)] w Q:=by
 have s:=hZ o;clear o;have p:=hZ m;clear m;have q:(0:Int)<(n:Int)+1:=by omega
 go_enter func297,ntmps297
 go_wp2_with (first|(go_at_call 290;refine(qak _).mono ?_;rintro e w2 ⟨rfl,l⟩;obtain rfl:=l.symm)|(go_at_call 232;refine(p.out _ (by exact⟨rfl,rfl,rfl,rfl⟩)).mono ?_;rintro e w2 ⟨rfl,r⟩;refine Hid.out ?_))
 have f:Below w.heap.size w w2:=(qaa _ _).trans (r.mono (by simp));have d:=hZ f;clear r f p;refine hZ ?_;go_wp2_with (first|(go_at_call 336;refine(s.out _ (by first|(exact d.out)|(exact d.out.trans ((bl0 (by exact⟨rfl,rfl,rfl,rfl⟩)).mono d.out.size)))).mono ?_;rintro e w3 (⟨x,rfl,h⟩|⟨v,rfl,h⟩);(exact⟨rfl,h⟩);have t:=hZ h;clear h))
 exact t.out
theorem qm1(xb _:Nat)(i j:Int)(b:Bool)(c:BA)(k:Int)(g:OA)(n a:Nat)(w:Wd)(Q:En->Wd->Prop)(u:n+1<=1000000)
  (m:∀w',Lk (w.alloc (.cells (Dl.cells ⟨i,j,b,c,k,g,n+1,a⟩) 134)) w'->Calls prog 232 #[bp xb,.agg (Dl.cells ⟨i,j,b,c,k,g,n+1,a⟩)] w' λe w2=>e=.returned (.string ⟨#[108,101,116]⟩)/\Below w'.heap.size w' w2)
  (o:∀w',Below w.heap.size w w'->Calls prog 337 #[bp xb,.slice g (n+1) a] w' (RQ Q)):
  Calls prog 297 #[bp xb,.agg (Dl.cells ⟨i,j,b,c,k,g,n+1,a⟩)] w Q:=by
 have s:=hZ o;clear o;have p:=hZ m;clear m;have q:(0:Int)<(n:Int)+1:=by omega
 go_enter func297,ntmps297
 go_wp2_with (first|(go_at_call 290;refine(qak _).mono ?_;rintro e w2 ⟨rfl,l⟩;obtain rfl:=l.symm)|(go_at_call 232;refine(p.out _ (by exact⟨rfl,rfl,rfl,rfl⟩)).mono ?_;rintro e w2 ⟨rfl,r⟩;refine Hid.out ?_))
 have f:Below w.heap.size w w2:=(qaa _ _).trans (r.mono (by simp));have d:=hZ f;clear r f p;refine hZ ?_;go_wp2_with (first|(go_at_call 337;refine(s.out _ (by first|(exact d.out)|(exact d.out.trans ((bl0 (by exact⟨rfl,rfl,rfl,rfl⟩)).mono d.out.size)))).mono ?_;rintro e w3 (⟨x,rfl,h⟩|⟨v,rfl,h⟩);(exact⟨rfl,h⟩);have t:=hZ h;clear h))
 exact t.out
theorem qfl(xb _:Nat)(g h:Int)(b:Bool)(c:BA)(i:Int)(j:OA)(n a:Nat)(w:Wd)(Q:En->Wd->Prop)(t:n+1<=1000000)(u:n+1≠2)
  (l:∀w',Lk (w.alloc (.cells (Dl.cells ⟨g,h,b,c,i,j,n+1,a⟩) 134)) w'->Calls prog 232 #[bp xb,.agg (Dl.cells ⟨g,h,b,c,i,j,n+1,a⟩)] w' λe w2=>e=.returned (.string ⟨#[113,117,111,116,101]⟩)/\Below w'.heap.size w' w2)
  (m:∀w',Below w.heap.size w w'->Q (.panicked (qan (qap 4))) w'):
  Calls prog 297 #[bp xb,.agg (Dl.cells ⟨g,h,b,c,i,j,n+1,a⟩)] w Q:=by
 have s:=hZ m;clear m;have p:=hZ l;clear l;have q:(0:Int)<(n:Int)+1:=by omega
 have v:((n:Int)+1==2)=false:=by simp;omega
 go_enter func297,ntmps297
 go_wp2_with (first|(go_at_call 290;refine(qak _).mono ?_;rintro e w2 ⟨rfl,k⟩;obtain rfl:=k.symm)|(go_at_call 232;refine(p.out _ (by exact⟨rfl,rfl,rfl,rfl⟩)).mono ?_;rintro e w2 ⟨rfl,r⟩;refine Hid.out ?_))
 have d:Below w.heap.size w w2:=(qaa _ _).trans (r.mono (by simp));have f:=hZ d;clear r d p;refine hZ ?_;go_wp2_with (first|(go_at_call 290;refine(qav _).mono ?_;rintro e w3 ⟨rfl,o,rfl⟩))
 exact⟨rfl,s.out _ (f.out.trans ((qaa _ _).mono f.out.size))⟩
theorem qfm(xb _:Nat)(g h:Int)(b:Bool)(c:BA)(i:Int)(j:OA)(n a:Nat)(w:Wd)(Q:En->Wd->Prop)(s:n+1<=1000000)(t:n+1<2)
  (l:∀w',Lk (w.alloc (.cells (Dl.cells ⟨g,h,b,c,i,j,n+1,a⟩) 134)) w'->Calls prog 232 #[bp xb,.agg (Dl.cells ⟨g,h,b,c,i,j,n+1,a⟩)] w' λe w2=>e=.returned (.string ⟨#[98,101,103,105,110]⟩)/\Below w'.heap.size w' w2)
  (m:∀w',Below w.heap.size w w'->Q (.panicked (qan (qap 4))) w'):
  Calls prog 297 #[bp xb,.agg (Dl.cells ⟨g,h,b,c,i,j,n+1,a⟩)] w Q:=by
 obtain rfl:n=0:=by omega
 have r:=hZ m;have p:=hZ l;clear l m;go_enter func297,ntmps297
 go_wp2_with (first|(go_at_call 290;refine(qak _).mono ?_;rintro e w2 ⟨rfl,k⟩;obtain rfl:=k.symm)|(go_at_call 232;refine(p.out _ (by exact⟨rfl,rfl,rfl,rfl⟩)).mono ?_;rintro e w2 ⟨rfl,q⟩;refine Hid.out ?_))
 have d:Below w.heap.size w w2:=(qaa _ _).trans (q.mono (by simp));have f:=hZ d;clear q d p;refine hZ ?_;go_wp2_with (first|(go_at_call 290;refine(qav _).mono ?_;rintro e w3 ⟨rfl,o,rfl⟩))
 exact⟨rfl,r.out _ (f.out.trans ((qaa _ _).mono f.out.size))⟩
theorem qjl(xb mb:Nat)(n q:Int)(f:Bool)(h:BA)(r:Int)(g o:Nat)(b:Nat)(w:Wd)(Q:En->Wd->Prop)(s t:Int)(j:Bool)(k:BA)(u:Int)(x:OA)(c d:Nat)(c0:w.cell? ⟨xb,0,none⟩=some (bp mb))(c1:w.cell? ⟨g,o+6,none⟩=some (.int .i64 s))(c2:w.cell? ⟨g,o+6+1,none⟩=some (.int .i64 t))(c3:w.cell? ⟨g,o+6+2,none⟩=some (.bool j))(c4:w.cell? ⟨g,o+6+3,none⟩=some (.string k))(c5:w.cell? ⟨g,o+6+4,none⟩=some (.int .i64 u))(c6:w.cell? ⟨g,o+6+5,none⟩=some (.slice x c d))
  (y:∀w',Lk (w.alloc (.cells (Dl.cells ⟨n,q,f,h,r,some ⟨g,o,none⟩,2,b⟩) 134)) w'->Calls prog 232 #[bp xb,.agg (Dl.cells ⟨n,q,f,h,r,some ⟨g,o,none⟩,2,b⟩)] w' λe w2=>e=.returned (.string ⟨#[113,117,111,116,101]⟩)/\Below w'.heap.size w' w2)
  (z:∀w',Below w.heap.size w w'->Calls prog 298 #[bp mb,.agg (Dl.cells ⟨s,t,j,k,u,x,c,d⟩)] w' (RQ Q)):
  Calls prog 297 #[bp xb,.agg (Dl.cells ⟨n,q,f,h,r,some ⟨g,o,none⟩,2,b⟩)] w Q:=by
 have C:=hZ z;clear z;have D:=qae c0;have A:=hZ y;clear y;go_enter func297,ntmps297
 go_wp2_with (first|(go_at_call 290;refine(qak _).mono ?_;rintro e w2 ⟨rfl,i⟩;obtain rfl:=i.symm)|(go_at_call 232;refine(A.out _ (by exact⟨rfl,rfl,rfl,rfl⟩)).mono ?_;rintro e w2 ⟨rfl,B⟩;refine Hid.out ?_))
 have a:Below w.heap.size w w2:=(qaa _ _).trans (B.mono (by simp));have F:=(a.cell (p:=⟨xb,0,none⟩) D).trans c0;have G:=(a.cell (p:=⟨g,_,none⟩) (qae c1)).trans c1;have H:=(a.cell (p:=⟨g,_,none⟩) (qae c2)).trans c2;have I:=(a.cell (p:=⟨g,_,none⟩) (qae c3)).trans c3;have J:=(a.cell (p:=⟨g,_,none⟩) (qae c4)).trans c4;have K:=(a.cell (p:=⟨g,_,none⟩) (qae c5)).trans c5;have L:=(a.cell (p:=⟨g,_,none⟩) (qae c6)).trans c6;have l:=hZ a;clear B a A c0 c1 c2 c3 c4 c5 c6;refine hZ ?_;go_wp2_with (first|(go_at_call 290;refine(qak _).mono ?_;rintro e w2 ⟨rfl,i⟩;obtain rfl:=i.symm))
 refine qal 7 (by kernel_rfl) (by kernel_rfl) ?_;simp only[List.take_succ_cons,List.take_zero,List.drop_succ_cons,List.drop_zero];repeat still_step
 refine wpStill_nil ?_;go_wp2_with (first|(go_at_call 298;refine(C.out _ (l.out.trans ((bl0 (by exact⟨rfl,rfl,rfl,rfl⟩)).mono l.out.size))).mono ?_;rintro e w3 (⟨M,rfl,m⟩|⟨v,rfl,m⟩);(exact⟨rfl,m⟩);have E:=hZ m;clear m))
 exact E.out
theorem qjm(xb mb:Nat)(q r:Int)(d:Bool)(f:BA)(s:Int)(g o:Nat)(n b:Nat)(w:Wd)(Q:En->Wd->Prop)(c0:w.cell? ⟨xb,0,none⟩=some (bp mb))(M:n+2<=1000000)(t:n+2<=b)
  (y:∀w',Lk (w.alloc (.cells (Dl.cells ⟨q,r,d,f,s,some ⟨g,o,none⟩,n+2,b⟩) 134)) w'->Calls prog 232 #[bp xb,.agg (Dl.cells ⟨q,r,d,f,s,some ⟨g,o,none⟩,n+2,b⟩)] w' λe w2=>e=.returned (.string ⟨#[98,101,103,105,110]⟩)/\Below w'.heap.size w' w2)
  (z:∀w',Below w.heap.size w w'->Calls prog 334 #[bp xb,.slice (tlD g o b 1) (n+1) (b-1)] w' (RetP (λv w2=>∃a l c,v=.slice a l c/\w2.cell? ⟨xb,0,none⟩=some (bp mb)/\∀w3,Lk w2 w3->Calls prog 338 #[bp mb,.slice a l c] w3 (RX xb mb Q)) Q)):
  Calls prog 297 #[bp xb,.agg (Dl.cells ⟨q,r,d,f,s,some ⟨g,o,none⟩,n+2,b⟩)] w Q:=by
 have E:∀w,(Instr.slice 132 (.slice (some ⟨g,o,none⟩) (n+2) b) (some (.int .i64 1)) none none).run prog w=.ok (.slice (tlD g o b 1) (n+1) (b-1)) w:=λw=>qbz g o (n+1) b t w
 have F:=hZ z;have G:=qae c0;clear z;have A:=hZ y;clear y;have B:(0:Int)<(n:Int)+2:=by omega
 have H:(2:Int)<=(n:Int)+2:=by omega
 go_enter func297,ntmps297
 go_wp2_with (first|(go_at_call 290;refine(qak _).mono ?_;rintro e w2 ⟨rfl,h⟩;obtain rfl:=h.symm)|(go_at_call 232;refine(A.out _ (by exact⟨rfl,rfl,rfl,rfl⟩)).mono ?_;rintro e w2 ⟨rfl,C⟩;refine Hid.out ?_))
 have i:Below w.heap.size w w2:=(qaa _ _).trans (C.mono (by simp));have I:=(i.cell (p:=⟨xb,0,none⟩) G).trans c0;have k:=hZ i;clear C i A;refine hZ ?_;go_wp2_with (first|(go_at_call 290;refine(qak _).mono ?_;rintro e w2 ⟨rfl,h⟩;obtain rfl:=h.symm))
 go_region_held2 (λw'=>w'.cell? ⟨xb,0,none⟩=some (bp mb)) (first|(exact I)|(exact u.out)|(exact x.out)|go_keep)
  (first
   |(go_at_call 334;refine(F.out _ (k.out.trans ((bl0 (by exact⟨rfl,rfl,rfl,rfl⟩)).mono k.out.size))).mono ?_;rintro e w3 (⟨J,rfl,j⟩|⟨v,rfl,a,l,c,rfl,m,D⟩);(exact⟨rfl,j⟩);have u:=hZ m;have K:=hZ D;clear m D)
   |(go_at_call 338;refine(K.out _ (by exact⟨rfl,rfl,rfl,rfl⟩)).mono ?_;rintro e w4 (⟨J,rfl,j⟩|⟨v,rfl,m,j⟩);(exact⟨rfl,j⟩);have x:=hZ m;have L:=hZ j;clear m j))
 all_goals go_wp2
 all_goals exact L.out
theorem qjc{lo e:Nat}{v:Vu}{n:Nat}{g l c:Nat}(h:w.ownsRow lo e 1 v n xs)(a:v=.slice (some ⟨g,0,none⟩) l c){i:Nat}{x:Vu}(b:xs[i]? =some x):w.cell? ⟨g,i,none⟩=some x:=by
 rcases h.2 with⟨d,o⟩|⟨p,cap,j,d,q,k,r,s,m,f⟩
 ·rw[d]at a;cases a
 ·rw[d]at a;cases a;rw[<-f,List.getElem?_take]at b;split at b
  ·simp only[World.cell?,k];simpa using b
  ·cases b
theorem qnm(xb mb g o n b:Nat)(w:Wd)(Q:En->Wd->Prop)(c0:w.cell? ⟨xb,0,none⟩=some (bp mb))(G:n=2\/n=3)(y:n+1<=b)
  (H:∀w',Below w.heap.size w w'->Calls prog 334 #[bp xb,.slice (tlD g o b 1) n (b-1)] w' (RetP (λv w2=>∃a c lo z A B c0 c1 c2 xs,v=.slice a n c/\w2.ownsRow lo 241 1 (.slice a n c) n xs/\lo<=w2.heap.size/\(xs++[.func (.func 235) #[] #[]])[0]? =some (.func (.func z) #[] c0)/\(xs++[.func (.func 235) #[] #[]])[1]? =some (.func (.func A) #[] c1)/\(xs++[.func (.func 235) #[] #[]])[2]? =some (.func (.func B) #[] c2)/\
   ∀w3,w2.grownBy w3 (Value.slice a n c).ownBlock->w3.cell? ⟨xb,0,none⟩=some (bp mb)/\∀w4,Lk w3 w4->Calls prog 373 #[bp mb,.func (.func z) #[] c0,.func (.func A) #[] c1,.func (.func B) #[] c2] w4 (RQ Q)) Q)):
  Calls prog 335 #[bp xb,.slice (some ⟨g,o,none⟩) (n+1) b] w Q:=by
 obtain⟨P,R,p,q,r⟩:=info_parts qm7;have S:∀w,(Instr.slice 132 (.slice (some ⟨g,o,none⟩) (n+1) b) (some (.int .i64 1)) none none).run prog w=.ok (.slice (tlD g o b 1) n (b-1)) w:=λw=>qbz g o n b y w
 have I:=hZ H;have l0:=qae c0;clear H;have T:n<=3:=by omega
 have C:((n:Int)+1==3)=true\/(((n:Int)+1==3)=false/\((n:Int)+1==4)=true):=by
  rcases G with rfl|rfl
  ·left;rfl
  ·right;exact⟨rfl,rfl⟩
 clear G;rcases C with D|⟨D,J⟩;all_goals
  go_enter func335,ntmps335
  go_wp2_with (first|(go_at_call 290;refine(qak _).mono ?_;rintro e w2 ⟨rfl,E⟩;obtain rfl:=E.symm)|(go_at_call 334;refine(I.out _ (by first|exact Below.refl _ _|exact bl0 (by exact⟨rfl,rfl,rfl,rfl⟩))).mono ?_;rintro e w2 (⟨U,rfl,m⟩|⟨v,rfl,a,c,lo,z,A,B,d0,d1,d2,xs,rfl,k,V,h,i,j,K⟩);(exact⟨rfl,m⟩);refine Hid.out ?_))
  have l:Hid (w2.ownsRow lo 241 1 (.slice a n c) n xs):=k;have L:=hZ (And.intro h (And.intro i j));have M:=hZ K;clear k h i j K;refine hZ ?_;go_wp2_with (at_builtin;refine wpList_append_lies _ rfl _ _ 426 rfl lo 241 P .nilFunc 1 8 underlying426 R p q r rfl (by decide) _ _ _ rfl (l.out.alloc _) ⟨w2.heap.size,0,none⟩ 1 1 [.func (.func 235) #[] #[]] rfl rfl ?c1 ?c2 (by decide) ?c3 ?c4 ?c5 (w2.heap.size+1) ?c6 ?_)
  case c1=>exact World.news_of_block (cs:=#[.func (.func 235) #[] #[]]) (by have:=eN w2 (.cells #[.func (.func 235) #[] #[]] 241);simpa using this)
  case c2=>intro u N;simp at N;rcases N with rfl;rfl
  case c3=>unfold maxLen;omega
  case c4=>omega
  case c5=>simp;omega
  case c6=>simp
  intro g3 O w3 d f s t;refine Hid.out ?_;obtain⟨h,i,j⟩:=L.out;have p0:=qjc d rfl h;have p1:=qjc d rfl i;have p2:=qjc d rfl j;obtain⟨cx,x⟩:=M.out w3 (qcg f);have F:=hZ x;clear x d f s t h i j M l L I;have W:(0:Int)<(n:Int)+1:=by omega
  have X:(1:Int)<(n:Int)+1:=by first|omega|(simp at D;omega)|(simp at J;omega)
  have Y:(2:Int)<(n:Int)+1:=by first|omega|(simp at D;omega)|(simp at J;omega)
  refine hZ ?_;go_wp2_with (fail)
  refine qal 13 (by kernel_rfl) (by kernel_rfl) ?_;simp only[List.take_succ_cons,List.take_zero,List.drop_succ_cons,List.drop_zero];repeat still_step
  refine wpStill_nil ?_;go_wp2_with (first|(go_at_call 373;refine(F.out _ (by exact⟨rfl,rfl,rfl,rfl⟩)).mono ?_;rintro e w4 (⟨U,rfl,m⟩|⟨v,rfl,m⟩);(exact⟨rfl,m⟩);have Z:=hZ m;clear m))
  exact Z.out
theorem qj7(xb mb g o y:Nat)(u v:Int)(T:Int)(z:Bool)(c:BA)(s:Int)(U:OA)(j k:Nat)(I J:Int)(m:Bool)(n:BA)(K:Int)(L:OA)(d f:Nat)(w:Wd)(Q:En->Wd->Prop)(c0:w.cell? ⟨xb,0,none⟩=some (bp mb))(a0:w.cell? ⟨g,o+6,none⟩=some (.int .i64 3))(a1:w.cell? ⟨g,o+6+1,none⟩=some (.int .i64 T))(a2:w.cell? ⟨g,o+6+2,none⟩=some (.bool z))(a3:w.cell? ⟨g,o+6+3,none⟩=some (.string c))(a4:w.cell? ⟨g,o+6+4,none⟩=some (.int .i64 s))(a5:w.cell? ⟨g,o+6+5,none⟩=some (.slice U j k))(M:w.cell? ⟨g,o+12,none⟩=some (.int .i64 I))(b1:w.cell? ⟨g,o+12+1,none⟩=some (.int .i64 J))(N:w.cell? ⟨g,o+12+2,none⟩=some (.bool m))(O:w.cell? ⟨g,o+12+3,none⟩=some (.string n))(P:w.cell? ⟨g,o+12+4,none⟩=some (.int .i64 K))(R:w.cell? ⟨g,o+12+5,none⟩=some (.slice L d f))
  (V:∀w',Below w.heap.size w w'->Calls prog 318 #[bp xb,.agg #[.string c,.int .i64 s]] w' λe w2=>e=.returned (.tuple #[.int .i64 0,.agg #[.int .i64 u,.int .i64 v]])/\Below w'.heap.size w' w2)
  (W:∀w',Below w.heap.size w w'->Calls prog 236 #[bp xb,.agg (Dl.cells ⟨I,J,m,n,K,L,d,f⟩)] w' (RetP (λx w2=>∃kc cc,x=.func (.func kc) #[] cc/\w2.cell? ⟨xb,0,none⟩=some (bp mb)/\(∀b,w.heap.size<=b->b<w'.heap.size->w2.heap[b]? =w'.heap[b]?)/\∀w3,Lk w2 w3->Calls prog 374 #[bp mb,.agg #[.int .i64 u,.int .i64 v],.func (.func kc) #[] cc] w3 (RQ Q)) Q)):
  Calls prog 336 #[bp xb,.slice (some ⟨g,o,none⟩) 3 y] w Q:=by
 have l0:=qae c0;have X:=hZ V;have Y:=hZ W;clear V W;go_enter func336,ntmps336
 go_wp2_with (first|(go_at_call 290;refine(qak _).mono ?_;rintro e w2 ⟨rfl,q⟩;obtain rfl:=q.symm)|(go_at_call 296;refine(qa8 T z c s U j k _).mono ?_;rintro e w2 ⟨rfl,l⟩;refine Hid.out ?_))
 have A:Below w.heap.size w (w2.alloc (.cells #[.string c,.int .i64 s] 382)):=l.trans ((qaa _ _).mono l.size);have B:=eN w2 (.cells #[.string c,.int .i64 s] 382);have a6:w.heap.size<=w2.heap.size:=l.size;have h:=hZ A;have C:=hZ B;clear l A B;refine hZ ?_;go_wp2_with (first|(go_at_call 318;refine(X.out _ h.out).mono ?_;rintro e w3 ⟨rfl,l⟩;refine Hid.out ?_))
 have i:Below w.heap.size w w3:=h.out.trans (l.mono h.out.size);have a:Below w.heap.size w (w3.alloc (.cells #[.int .i64 u,.int .i64 v] 395)):=i.trans ((qaa _ _).mono i.size);have D:(w3.alloc (.cells #[.int .i64 u,.int .i64 v] 395)).heap[w2.heap.size]? =some (.cells #[.string c,.int .i64 s] 382 (0,0)):=by
  have e1:=(l.block _ (by simp)).trans C.out;rw[eH _ _ _ (eE.1 e1).1];exact e1
 have E:=eN w3 (.cells #[.int .i64 u,.int .i64 v] 395);have S:w.heap.size<=w3.heap.size:=i.size;have e0:(w3.alloc (.cells #[.int .i64 u,.int .i64 v] 395)).cell? ⟨g,o+12,none⟩=some (.int .i64 I):=(a.cell (p:=⟨g,_,none⟩) (qae M)).trans M;have e1:(w3.alloc (.cells #[.int .i64 u,.int .i64 v] 395)).cell? ⟨g,o+12+1,none⟩=some (.int .i64 J):=(a.cell (p:=⟨g,_,none⟩) (qae b1)).trans b1;have e2:(w3.alloc (.cells #[.int .i64 u,.int .i64 v] 395)).cell? ⟨g,o+12+2,none⟩=some (.bool m):=(a.cell (p:=⟨g,_,none⟩) (qae N)).trans N;have e3:(w3.alloc (.cells #[.int .i64 u,.int .i64 v] 395)).cell? ⟨g,o+12+3,none⟩=some (.string n):=(a.cell (p:=⟨g,_,none⟩) (qae O)).trans O;have e4:(w3.alloc (.cells #[.int .i64 u,.int .i64 v] 395)).cell? ⟨g,o+12+4,none⟩=some (.int .i64 K):=(a.cell (p:=⟨g,_,none⟩) (qae P)).trans P;have e5:(w3.alloc (.cells #[.int .i64 u,.int .i64 v] 395)).cell? ⟨g,o+12+5,none⟩=some (.slice L d f):=(a.cell (p:=⟨g,_,none⟩) (qae R)).trans R;have F:=hZ a;have G:=hZ (And.intro D E);clear l i a D E X h C M b1 N O P R a0 a1 a2 a3 a4 a5;refine hZ ?_;go_wp2_with (first|(go_at_call 290;refine(qak _).mono ?_;rintro e w2 ⟨rfl,q⟩;obtain rfl:=q.symm)|(go_at_call 236;refine(Y.out _ F.out).mono ?_;rintro e w4 (⟨ps,rfl,t⟩|⟨x,rfl,kc,cc,rfl,cx,H,Z⟩);(exact⟨rfl,t⟩);refine Hid.out ?_))
 have r:=(H w3.heap.size S (by simp)).trans G.out.2;have k0:w4.cell? ⟨w3.heap.size,0,none⟩=some (.int .i64 u):=by simp only[World.cell?,r];rfl
 have k1:w4.cell? ⟨w3.heap.size,1,none⟩=some (.int .i64 v):=by simp only[World.cell?,r];rfl
 have HK:=hZ Z;clear Z H r G F Y e0 e1 e2 e3 e4 e5;refine hZ ?_;go_wp2_with (fail)
 refine qal 6 (by kernel_rfl) (by kernel_rfl) ?_;simp only[List.take_succ_cons,List.take_zero,List.drop_succ_cons,List.drop_zero];repeat still_step
 refine wpStill_nil ?_;go_wp2_with (first|(go_at_call 374;refine(HK.out _ (by exact⟨rfl,rfl,rfl,rfl⟩)).mono ?_;rintro e w4 (⟨ps,rfl,t⟩|⟨v,rfl,t⟩);(exact⟨rfl,t⟩);have HQ:=hZ t;clear t))
 exact HQ.out
theorem qj9(xb mb g o y:Nat)(u v:Int)(T:Int)(z:Bool)(a:BA)(s:Int)(U:OA)(j k:Nat)(I J:Int)(m:Bool)(n:BA)(K:Int)(L:OA)(d f:Nat)(w:Wd)(Q:En->Wd->Prop)(c0:w.cell? ⟨xb,0,none⟩=some (bp mb))(a0:w.cell? ⟨g,o+6,none⟩=some (.int .i64 3))(a1:w.cell? ⟨g,o+6+1,none⟩=some (.int .i64 T))(a2:w.cell? ⟨g,o+6+2,none⟩=some (.bool z))(a3:w.cell? ⟨g,o+6+3,none⟩=some (.string a))(a4:w.cell? ⟨g,o+6+4,none⟩=some (.int .i64 s))(a5:w.cell? ⟨g,o+6+5,none⟩=some (.slice U j k))(M:w.cell? ⟨g,o+12,none⟩=some (.int .i64 I))(b1:w.cell? ⟨g,o+12+1,none⟩=some (.int .i64 J))(N:w.cell? ⟨g,o+12+2,none⟩=some (.bool m))(O:w.cell? ⟨g,o+12+3,none⟩=some (.string n))(P:w.cell? ⟨g,o+12+4,none⟩=some (.int .i64 K))(R:w.cell? ⟨g,o+12+5,none⟩=some (.slice L d f))
  (V:∀w',Below w.heap.size w w'->Calls prog 318 #[bp xb,.agg #[.string a,.int .i64 s]] w' λe w2=>e=.returned (.tuple #[.int .i64 3,.agg #[.int .i64 u,.int .i64 v]])/\Below w'.heap.size w' w2)
  (W:∀w',Below w.heap.size w w'->Calls prog 236 #[bp xb,.agg (Dl.cells ⟨I,J,m,n,K,L,d,f⟩)] w' (RetP (λx w2=>∃kc cc,x=.func (.func kc) #[] cc/\w2.cell? ⟨xb,0,none⟩=some (bp mb)/\(∀b,w.heap.size<=b->b<w'.heap.size->w2.heap[b]? =w'.heap[b]?)/\∀w3,Lk w2 w3->Calls prog 375 #[bp mb,.string a,.func (.func kc) #[] cc] w3 (RQ Q)) Q)):
  Calls prog 336 #[bp xb,.slice (some ⟨g,o,none⟩) 3 y] w Q:=by
 have l0:=qae c0;have X:=hZ V;have Y:=hZ W;clear V W;go_enter func336,ntmps336
 go_wp2_with (first|(go_at_call 290;refine(qak _).mono ?_;rintro e w2 ⟨rfl,q⟩;obtain rfl:=q.symm)|(go_at_call 296;refine(qa8 T z a s U j k _).mono ?_;rintro e w2 ⟨rfl,l⟩;refine Hid.out ?_))
 have A:Below w.heap.size w (w2.alloc (.cells #[.string a,.int .i64 s] 382)):=l.trans ((qaa _ _).mono l.size);have B:=eN w2 (.cells #[.string a,.int .i64 s] 382);have S:w.heap.size<=w2.heap.size:=l.size;have h:=hZ A;have C:=hZ B;clear l A B;refine hZ ?_;go_wp2_with (first|(go_at_call 318;refine(X.out _ h.out).mono ?_;rintro e w3 ⟨rfl,l⟩;refine Hid.out ?_))
 have i:Below w.heap.size w w3:=h.out.trans (l.mono h.out.size);have c:Below w.heap.size w (w3.alloc (.cells #[.int .i64 u,.int .i64 v] 395)):=i.trans ((qaa _ _).mono i.size);have D:(w3.alloc (.cells #[.int .i64 u,.int .i64 v] 395)).heap[w2.heap.size]? =some (.cells #[.string a,.int .i64 s] 382 (0,0)):=by
  have e1:=(l.block _ (by simp)).trans C.out;rw[eH _ _ _ (eE.1 e1).1];exact e1
 have E:=eN w3 (.cells #[.int .i64 u,.int .i64 v] 395);have a6:w.heap.size<=w3.heap.size:=i.size;have e0:(w3.alloc (.cells #[.int .i64 u,.int .i64 v] 395)).cell? ⟨g,o+12,none⟩=some (.int .i64 I):=(c.cell (p:=⟨g,_,none⟩) (qae M)).trans M;have e1:(w3.alloc (.cells #[.int .i64 u,.int .i64 v] 395)).cell? ⟨g,o+12+1,none⟩=some (.int .i64 J):=(c.cell (p:=⟨g,_,none⟩) (qae b1)).trans b1;have e2:(w3.alloc (.cells #[.int .i64 u,.int .i64 v] 395)).cell? ⟨g,o+12+2,none⟩=some (.bool m):=(c.cell (p:=⟨g,_,none⟩) (qae N)).trans N;have e3:(w3.alloc (.cells #[.int .i64 u,.int .i64 v] 395)).cell? ⟨g,o+12+3,none⟩=some (.string n):=(c.cell (p:=⟨g,_,none⟩) (qae O)).trans O;have e4:(w3.alloc (.cells #[.int .i64 u,.int .i64 v] 395)).cell? ⟨g,o+12+4,none⟩=some (.int .i64 K):=(c.cell (p:=⟨g,_,none⟩) (qae P)).trans P;have e5:(w3.alloc (.cells #[.int .i64 u,.int .i64 v] 395)).cell? ⟨g,o+12+5,none⟩=some (.slice L d f):=(c.cell (p:=⟨g,_,none⟩) (qae R)).trans R;have F:=hZ c;have r:=hZ (And.intro D E);clear l i c D E X h C M b1 N O P R a0 a1 a2 a3 a4 a5;refine hZ ?_;go_wp2_with (first|(go_at_call 290;refine(qak _).mono ?_;rintro e w2 ⟨rfl,q⟩;obtain rfl:=q.symm)|(go_at_call 236;refine(Y.out _ F.out).mono ?_;rintro e w4 (⟨ps,rfl,t⟩|⟨x,rfl,kc,cc,rfl,cx,G,Z⟩);(exact⟨rfl,t⟩);refine Hid.out ?_))
 have H:=(G w2.heap.size S (eE.1 r.out.1).1).trans r.out.1;have k0:w4.cell? ⟨w2.heap.size,0,none⟩=some (.string a):=by simp only[World.cell?,H];rfl
 have HK:=hZ Z;clear Z G H r F Y e0 e1 e2 e3 e4 e5;refine hZ ?_;go_wp2_with (fail)
 refine qal 7 (by kernel_rfl) (by kernel_rfl) ?_;simp only[List.take_succ_cons,List.take_zero,List.drop_succ_cons,List.drop_zero];repeat still_step
 refine wpStill_nil ?_;go_wp2_with (first|(go_at_call 375;refine(HK.out _ (by exact⟨rfl,rfl,rfl,rfl⟩)).mono ?_;rintro e w4 (⟨ps,rfl,t⟩|⟨v,rfl,t⟩);(exact⟨rfl,t⟩);have HQ:=hZ t;clear t))
 exact HQ.out
theorem qj6(xb g o h:Nat)(i u v:Int)(n:Int)(j:Bool)(a:BA)(l:Int)(p:OA)(b c:Nat)(w:Wd)(Q:En->Wd->Prop)(z:w.cell? ⟨g,o+6,none⟩=some (.int .i64 3))(A:w.cell? ⟨g,o+6+1,none⟩=some (.int .i64 n))(B:w.cell? ⟨g,o+6+2,none⟩=some (.bool j))(C:w.cell? ⟨g,o+6+3,none⟩=some (.string a))(D:w.cell? ⟨g,o+6+4,none⟩=some (.int .i64 l))(E:w.cell? ⟨g,o+6+5,none⟩=some (.slice p b c))(s:i≠0)(t:i≠3)
  (q:∀w',Below w.heap.size w w'->Calls prog 318 #[bp xb,.agg #[.string a,.int .i64 l]] w' λe w2=>e=.returned (.tuple #[.int .i64 i,.agg #[.int .i64 u,.int .i64 v]])/\Below w'.heap.size w' w2)
  (r:∀w',Below w.heap.size w w'->Q (.panicked (qan (qap 4))) w'):
  Calls prog 336 #[bp xb,.slice (some ⟨g,o,none⟩) 3 h] w Q:=by
 have x:=hZ q;have y:=hZ r;have F:(i==0)=false:=by simpa using s
 have e3:(i==3)=false:=by simpa using t
 clear q r;go_enter func336,ntmps336
 go_wp2_with (first|(go_at_call 290;refine(qak _).mono ?_;rintro e w2 ⟨rfl,m⟩;obtain rfl:=m.symm)|(go_at_call 296;refine(qa8 n j a l p b c _).mono ?_;rintro e w2 ⟨rfl,f⟩;refine Hid.out ?_))
 have d:Hid (Below w.heap.size w (w2.alloc (.cells #[.string a,.int .i64 l] 382))):=f.trans ((qaa _ _).mono f.size);clear f;refine hZ ?_;go_wp2_with (first|(go_at_call 318;refine(x.out _ d.out).mono ?_;rintro e w3 ⟨rfl,f⟩;have k:=hZ (d.out.trans (f.mono d.out.size));clear f)|(go_at_call 290;refine(qav _).mono ?_;rintro e w4 ⟨rfl,o,rfl⟩))
 exact⟨rfl,y.out _ (k.out.trans (((qaa _ _).alloc (by simp) _).mono k.out.size))⟩
theorem qh9(xb g o c:Nat)(h j:Int)(d:Bool)(f:BA)(k:Int)(l:OA)(a b:Nat)(w:Wd)(Q:En->Wd->Prop)(r:w.cell? ⟨g,o+6,none⟩=some (.int .i64 h))(s:w.cell? ⟨g,o+6+1,none⟩=some (.int .i64 j))(t:w.cell? ⟨g,o+6+2,none⟩=some (.bool d))(u:w.cell? ⟨g,o+6+3,none⟩=some (.string f))(v:w.cell? ⟨g,o+6+4,none⟩=some (.int .i64 k))(x:w.cell? ⟨g,o+6+5,none⟩=some (.slice l a b))(n:h≠3)
  (m:∀w',Below w.heap.size w w'->Q (.panicked (qan (qap 4))) w'):
  Calls prog 336 #[bp xb,.slice (some ⟨g,o,none⟩) 3 c] w Q:=by
 have p:=hZ m;clear m;go_enter func336,ntmps336
 go_wp2_with (first|(go_at_call 290;refine(qak _).mono ?_;rintro e w2 ⟨rfl,i⟩;obtain rfl:=i.symm)|(go_at_call 296;refine(qe5 h j d f k l a b _ n).mono ?_;rintro e w2 ⟨rfl,q⟩))
 exact⟨rfl,p.out _ q⟩
theorem qj8(xb n a:Nat)(c:OA)(w:Wd)(Q:En->Wd->Prop)(f:n≠3)
  (b:∀w',Below w.heap.size w w'->Q (.panicked (qan (qap 4))) w'):
  Calls prog 336 #[bp xb,.slice c n a] w Q:=by
 have d:=hZ b;have g:((n:Int)==3)=false:=by simp;omega
 clear b;go_enter func336,ntmps336
 go_wp2_with (first|(go_at_call 290;refine(qav _).mono ?_;rintro e w2 ⟨rfl,o,rfl⟩))
 exact⟨rfl,d.out _ (qaa _ _)⟩
theorem qug(xb d:Nat)(i f:OA)(j k g h:Nat)(w:Wd)(Q:En->Wd->Prop)(c3:w.cell? ⟨xb,3,none⟩=some (bp d))
  (l:Calls prog 359 #[bp d,.slice f g h] w λe w1=>e=.returned (.tuple #[])/\Calls prog 334 #[bp xb,.slice i j k] w1 (RetP (λv w2=>∃a n c,v=.slice a n c/\w2.cell? ⟨xb,3,none⟩=some (bp d)/\
   Calls prog 360 #[bp d,.slice f g h] w2 λe w3=>e=.returned (.tuple #[])/\Calls prog 361 #[.slice a n c] w3 (RQ Q)) Q)):
  Calls prog 324 #[bp xb,.slice i j k,.slice f g h] w Q:=by
 have q:=hZ l;clear l;go_enter func324,ntmps324
 go_wp2_with (first|(go_at_call 359;refine q.out.mono ?_;rintro e w1 ⟨rfl,m⟩;have r:=hZ m;clear m)|(go_at_call 334;refine r.out.mono ?_;rintro e w2 (⟨s,rfl,b⟩|⟨v,rfl,a,n,c,rfl,y,o⟩);(exact⟨rfl,b⟩);have t:=hZ o;clear o)|(go_at_call 360;refine t.out.mono ?_;rintro e w3 ⟨rfl,p⟩;have u:=hZ p;clear p)|(go_at_call 361;refine u.out.mono ?_;rintro e w4 (⟨s,rfl,b⟩|⟨v,rfl,b⟩);(exact⟨rfl,b⟩);have x:=hZ b;clear b))
 exact x.out
theorem qk0(xb mb:Nat)(p:Int)(d:Bool)(f:BA)(q:Int)(j:OA)(a b:Nat)(r:OA)(s t:Nat)(w:Wd)(Q:En->Wd->Prop)
  (u:∀w',Lk (w.alloc (.cells (Dl.cells ⟨4,p,d,f,q,j,a,b⟩) 134)) w'->Calls prog 325 #[.slice j a b] w' (RetP (λv w2=>∃k g l,v=.slice k g l/\g<=1000000/\w2.cell? ⟨xb,0,none⟩=some (bp mb)/\∀w3,Lk w2 w3->Calls prog 324 #[bp xb,.slice r s t,.slice k g l] w3 (RetP (λv w4=>∃kc cc,v=.func (.func kc) #[] cc/\w4.cell? ⟨xb,0,none⟩=some (bp mb)/\
   ∀x,Lk w4 x->Calls prog 326 #[bp mb,.int .i64 (g:Int),.func (.func kc) #[] cc] x (RX xb mb Q)) Q)) Q)):
  Calls prog 293 #[bp xb,.agg (Dl.cells ⟨4,p,d,f,q,j,a,b⟩),.slice r s t] w Q:=by
 have z:=hZ u;clear u;go_enter func293,ntmps293
 go_wp2_with (first|(go_at_call 290;refine(qak _).mono ?_;rintro e w2 ⟨rfl,m⟩;obtain rfl:=m.symm)|(go_at_call 325;refine(z.out _ (by exact⟨rfl,rfl,rfl,rfl⟩)).mono ?_;rintro e w2 (⟨y,rfl,c⟩|⟨v,rfl,k,g,l,rfl,A,B,h⟩);(exact⟨rfl,c⟩);have C:=hZ h;clear h;refine Hid.out ?_))
 refine hZ ?_;go_wp2_with (fail)
 go_region_held2 (λw'=>w'.cell? ⟨xb,0,none⟩=some (bp mb)) (first|(exact B)|(exact n.out)|(exact o.out)|go_keep)
  (first
   |(go_at_call 324;refine(C.out _ (by exact⟨rfl,rfl,rfl,rfl⟩)).mono ?_;rintro e w3 (⟨y,rfl,c⟩|⟨v,rfl,kc,cc,rfl,i,h⟩);(exact⟨rfl,c⟩);have n:=hZ i;have D:=hZ h;clear i h)
   |(go_at_call 326;refine(D.out _ (by exact⟨rfl,rfl,rfl,rfl⟩)).mono ?_;rintro e w4 (⟨y,rfl,c⟩|⟨v,rfl,i,c⟩);(exact⟨rfl,c⟩);have o:=hZ i;have E:=hZ c;clear i c))
 all_goals go_wp2
 all_goals exact E.out
theorem qmh(xb:Nat)(a h:Int)(d:Bool)(f:BA)(i:Int)(j:OA)(b c:Nat)(k:OA)(l m:Nat)(w:Wd)(Q:En->Wd->Prop)(n:a≠3)(p:a≠4)
  (g:∀w',Below w.heap.size w w'->Q (.panicked (qan (qap 4))) w'):
  Calls prog 293 #[bp xb,.agg (Dl.cells ⟨a,h,d,f,i,j,b,c⟩),.slice k l m] w Q:=by
 have q:=hZ g;have e3:(a==3)=false:=by simpa using n
 have e4:(a==4)=false:=by simpa using p
 clear g;go_enter func293,ntmps293
 go_wp2_with (first|(go_at_call 290;refine(qav _).mono ?_;rintro e w2 ⟨rfl,o,rfl⟩))
 exact⟨rfl,q.out _ ((qaa _ _).alloc (by simp) _)⟩
theorem qmg(xb mb:Nat)(j:Int)(d:Bool)(c:BA)(i:Int)(k:OA)(a b:Nat)(z:OA)(A B:Nat)(w:Wd)(Q:En->Wd->Prop)(c0:w.cell? ⟨xb,0,none⟩=some (bp mb))
  (C:∀w0,Lk (w.alloc (.cells (Dl.cells ⟨3,j,d,c,i,k,a,b⟩) 134)) w0->∀w2,Below w0.heap.size w0 w2->∀w3,Lk (w2.alloc (.cells #[.string c,.int .i64 i] 382)) w3->Calls prog 324 #[bp xb,.slice z A B,.slice (some ⟨w2.heap.size,0,none⟩) 1 1] w3 (RetP (λv w4=>∃kc cc,v=.func (.func kc) #[] cc/\w4.cell? ⟨xb,0,none⟩=some (bp mb)/\w4.heap[w.heap.size]? =some (.cells (Dl.cells ⟨3,j,d,c,i,k,a,b⟩) 134 (0,0))/\
   ∀D,Lk w4 D->Calls prog 323 #[bp mb,.func (.func kc) #[] cc] D (RetP (λv t=>t.cell? ⟨xb,0,none⟩=some (bp mb)/\t.heap[w.heap.size]? =some (.cells (Dl.cells ⟨3,j,d,c,i,k,a,b⟩) 134 (0,0))/\Q (.returned v) t) Q)) Q)):
  Calls prog 293 #[bp xb,.agg (Dl.cells ⟨3,j,d,c,i,k,a,b⟩),.slice z A B] w Q:=by
 have E:=hZ C;have P:=qae c0;have r:(w.alloc (.cells (Dl.cells ⟨3,j,d,c,i,k,a,b⟩) 134)).cell? ⟨xb,0,none⟩=some (bp mb):=qat c0;have g:Hid (∀w':Wd,w'.heap[w.heap.size]? =some (.cells (Dl.cells ⟨3,j,d,c,i,k,a,b⟩) 134 (0,0))->w'.cell? ⟨w.heap.size,0,none⟩=some (.int .i64 3)/\w'.cell? ⟨w.heap.size,1,none⟩=some (.int .i64 j)/\w'.cell? ⟨w.heap.size,2,none⟩=some (.bool d)/\w'.cell? ⟨w.heap.size,3,none⟩=some (.string c)/\w'.cell? ⟨w.heap.size,4,none⟩=some (.int .i64 i)/\w'.cell? ⟨w.heap.size,5,none⟩=some (.slice k a b)):=λw' h=>by
  refine⟨?_,?_,?_,?_,?_,?_⟩ <;> (simp only[World.cell?,h];rfl)
 have l:=eN w (.cells (Dl.cells ⟨3,j,d,c,i,k,a,b⟩) 134);obtain⟨F,b1,G,H,I,J⟩:=g.out _ l;have m:=hZ l;clear C l;go_enter func293,ntmps293
 go_wp2_with (fail)
 generalize L:w.alloc (.cells (Dl.cells ⟨3,j,d,c,i,k,a,b⟩) 134)=W at E r F b1 G H I J m|-;clear L;go_region_held2 (λw'=>w'.cell? ⟨xb,0,none⟩=some (bp mb)/\w'.cell? ⟨w.heap.size,0,none⟩=some (.int .i64 3)/\w'.cell? ⟨w.heap.size,1,none⟩=some (.int .i64 j)/\w'.cell? ⟨w.heap.size,2,none⟩=some (.bool d)/\w'.cell? ⟨w.heap.size,3,none⟩=some (.string c)/\w'.cell? ⟨w.heap.size,4,none⟩=some (.int .i64 i)/\w'.cell? ⟨w.heap.size,5,none⟩=some (.slice k a b))
  (first|(exact⟨r,F,b1,G,H,I,J⟩)|(exact f.out)|(exact⟨qat f.out.1,qat f.out.2.1,qat f.out.2.2.1,qat f.out.2.2.2.1,qat f.out.2.2.2.2.1,qat f.out.2.2.2.2.2.1,qat f.out.2.2.2.2.2.2⟩)|(exact u.out)|(exact x.out)|go_keep)
  (first
   |(go_at_call 296;refine(qa8 j d c i k a b _).mono ?_;rintro e w2 ⟨rfl,s⟩;have f:=hZ (And.intro ((s.cell (p:=⟨xb,0,none⟩) (qae r)).trans r) (g.out w2 ((s.block _ (eE.1 m.out).1).trans m.out)));have y:=hZ s;clear s)
   |(go_at_call 324;refine(E.out _ (by exact⟨rfl,rfl,rfl,rfl⟩) _ y.out _ (by exact⟨rfl,rfl,rfl,rfl⟩)).mono ?_;rintro e w3 (⟨M,rfl,n⟩|⟨v,rfl,kc,cc,rfl,o,q,K⟩);(exact⟨rfl,n⟩);have u:=hZ (And.intro o (g.out _ q));have N:=hZ K;clear o q K)
   |(go_at_call 323;refine(N.out _ (by exact⟨rfl,rfl,rfl,rfl⟩)).mono ?_;rintro e w4 (⟨M,rfl,n⟩|⟨v,rfl,o,q,n⟩);(exact⟨rfl,n⟩);have x:=hZ (And.intro o (g.out _ q));have O:=hZ n;clear o q n))
 all_goals go_wp2
 all_goals exact O.out
def IdRow(w:Wd)(na:OA)(ids:List (BA×Int)):Prop:=∀i p,ids[i]? =some p->∃g,na=some ⟨g,0,none⟩/\w.cell? ⟨g,i*2,none⟩=some (.string p.1)/\w.cell? ⟨g,i*2+1,none⟩=some (.int .i64 p.2)
abbrev idS(p:BA×Int):Sc.Id:=(p.1.data.toList,p.2)
def Has(ids:List (BA×Int))(t:BA)(m:Int):Bool:=(ids.map idS).contains (t.data.toList,m)
def qxm(r:Int)(b:Bool):Prop:=decide (0<=r)=b
theorem qbd{a b:BA}(h:a.data.toList=b.data.toList):a=b:=by
 cases a;cases b;simp only at h;exact congrArg ByteArray.mk (Array.toList_inj.1 h)
theorem qwl(ids:List (BA×Int))(H:OA)(N:Nat)(t:BA)(m:Int)(w:Wd)(I:IdRow w H ids)(O:ids.length<=1000000):
  Calls prog 386 #[.slice H ids.length N,idV t m] w λe w'=>∃r:Int,e=.returned (.int .i64 r)/\qxm r (Has ids t m)/\Below w.heap.size w w':=by
 have P:=hZ I;obtain⟨nn,l⟩:∃nn,nn=ids.length:=⟨_,rfl⟩;rw[<-l]at O|-;have J:=hZ l;clear I l;go_enter func386,ntmps386
 go_wp2;go_loopw [8] (λc wr=>∃(k:Nat),k<=nn/\c=.int .i64 (k:Int)/\((ids.take k).map idS).contains (t.data.toList,m)=false/\Lk (w.alloc (.cells #[.string t,.int .i64 m] 382)) wr) (λc _=>nn-(intOf c).toNat)
 case atStart=>exact⟨0,Nat.zero_le _,rfl,rfl,⟨rfl,rfl,rfl,rfl⟩⟩
 case round=>
  obtain⟨k,T,rfl,a,n⟩:=hrel;have o:=hZ a;have i:=hZ n;have q:=eN w (.cells #[.string t,.int .i64 m] 382);have U:wr.cell? ⟨w.heap.size,0,none⟩=some (.string t):=by simp only[World.cell?,n.heap,q];rfl
  have x1:wr.cell? ⟨w.heap.size,1,none⟩=some (.int .i64 m):=by simp only[World.cell?,n.heap,q];rfl
  clear a q;by_cases E:k<nn
  ·have F:k<ids.length:=by rw[<-J.out];exact E
   have x:ids[k]? =some ids[k]:=eG F;obtain⟨⟨j,v⟩,y⟩:∃p,p=ids[k]:=⟨_,rfl⟩;rw[<-y]at x;obtain⟨g,rfl,K,L⟩:=P.out k _ x;have Q:wr.cell? ⟨g,k*2,none⟩=some (.string j):=(qaw n _).trans (qat K);have R:wr.cell? ⟨g,k*2+1,none⟩=some (.int .i64 v):=(qaw n _).trans (qat L);have d:ids.take (k+1)=ids.take k++[(j,v)]:=by rw[List.take_add_one,x];rfl
   have z:=hZ d;have A:Hid ((j,v)∈ids):=List.mem_of_getElem? x;have M:(k:Int)<(nn:Int):=by omega
   clear x y K L n d;by_cases b:idS (j,v)=(t.data.toList,m)
   ·have s:=hZ b;simp only[idS,Prod.mk.injEq]at b;obtain⟨f,rfl⟩:=b;obtain rfl:=qbd f;clear f;go_wp2;go_region
    go_wp2;go_ret;refine⟨k,rfl,?_,bl1 ⟨i.out.heap,i.out.tape,i.out.os,i.out.output⟩⟩;have:Has ids j v=true:=by
     unfold Has;rw[List.contains_iff_mem];exact List.mem_map.2 ⟨_,A.out,rfl⟩
    rw[this];simp[qxm]
   ·have s:=hZ b;have u:(t=j/\¬m=v)\/¬t.toList=j.toList:=by
     by_cases f:t.toList=j.toList
     ·rw[ByteArray.toList_eq,ByteArray.toList_eq]at f;left;refine⟨qbd f,λG=>b ?_⟩;simp[idS,f,G]
     ·exact .inr f
    clear b;have fin:((ids.take (k+1)).map idS).contains (t.data.toList,m)=false:=by
     rw[z.out,List.map_append];have f:=o.out;have G:=s.out;simp only[List.contains_eq_mem,decide_eq_false_iff_not,List.mem_append,not_or]at f|-;exact⟨f,λh=>by simp only[List.map_cons,List.map_nil,List.mem_singleton]at h;exact G h.symm⟩
    have B:=hZ fin;clear fin z s o;rcases u with⟨rfl,V⟩|ht;all_goals
     go_wp2;go_region
     go_wp2;go_roundw
     case rel=>exact⟨k+1,by omega,by go_num,B.out,⟨i.out.heap,i.out.tape,i.out.os,i.out.output⟩⟩
     case measure=>simp[intOf];omega
  ·have C:k=nn:=by omega
   have d:ids.take k=ids:=by rw[C,J.out];simp
   have a:=o.out;rw[d]at a;have D:=hZ a;have S:¬(k:Int)<(nn:Int):=by omega
   clear C d a n;go_wp2;go_ret;exact⟨-1,rfl,by unfold Has;rw[D.out];rfl,bl1 i.out⟩
theorem qnj(ids:List (BA×Int))(b:OA)(c:Nat)(t:BA)(m:Int)(w:Wd)(d:IdRow w b ids)(j:ids.length<=1000000):
  Calls prog 362 #[.slice b ids.length c,idV t m] w λe w'=>e=.returned (.bool (Has ids t m))/\Below w.heap.size w w':=by
 have a:IdRow (w.alloc (.cells #[.string t,.int .i64 m] 382)) b ids:=λi p k=>by
  obtain⟨g,l,n,o⟩:=d i p k;exact⟨g,l,qat n,qat o⟩
 have q:=hZ (qwl ids b c t m _ a j);clear d a;go_enter func362,ntmps362
 go_wp2_with (first|(go_at_call 386;refine q.out.mono ?_;rintro e w2 ⟨r,rfl,f,h⟩;have s:=hZ f;have u:=hZ h;clear f h))
 go_ret;exact⟨by rw[<-(s.out:decide (0<=r)=_)];rfl,(qaa _ _).trans (u.out.mono (by simp))⟩
end Go.Proofs.YtldaocpojcfljaaGreatDoor
