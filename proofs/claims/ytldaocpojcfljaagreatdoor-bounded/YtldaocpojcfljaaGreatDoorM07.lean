import Derived.Test.YtldaocpojcfljaaGreatDoorM06
set_option maxRecDepth 100000
set_option maxHeartbeats 4000000
namespace Go.Proofs.YtldaocpojcfljaaGreatDoor
open Tryz hiding parts
open Go.Value renaming slice→Sl,string→Sg,iface→If,tuple→Tu,agg→Ag
open Go.Obj renaming cells→Cl
open Go.Ending renaming returned→Rt,panicked→Pk
open _root_.Option renaming some→sT,none→sV
open _root_.Bool renaming true→xA,false→xN
section
open Sc
open _root_.Array renaming getElem?_eq_getElem→ZM
open _root_.Bool renaming false_eq_true→XC
open Go.Instr renaming makeFunc→ZQ,mapUpdate→WW
open Go.IntKind renaming i64→UZ
open _root_.List renaming drop_eq_getElem_cons→WL,drop_succ_cons→WF,drop_zero→WG,getElem?_map→ZJ,length→WN,map_append→VK,mem_append→VS,mem_of_getElem?→YP,mem_singleton→YS,take_add_one→YO,take_succ_cons→WB,take_zero→WD
open _root_.Nat renaming zero_le→XG
open _root_.Option renaming none→US
open Go.World renaming cell?→UT,frozen?→UU,news_of_block→VI
variable {A C D E f g q:Int}{B d0 d1 j k lc n o p r rk sc:Nat}{G G0 H l5:Gh}{I J:Bool}{Q:En->Wd->Prop}{S:Sub}{U s:BA}{Y Z dr v1 v2 v3:Vu}{a0 w w' w0 w2 w4:Wd}{b m:Mc}{i5 rs:List Dt}{k0 k1:OA}{l:List Vl}{q5:List Bs}{sz:Nat->Nat}{t0:List Fr}{ts:List BA}{x6 x7:Dt}
section
open Go.RowKit Go.Shelf
open Sc
theorem BH:(prog.info? 406).map (λi=>(i.zero,i.size,i.bytes))=sT (sT (Ag #[Sl sV 0 0,Sl sV 0 0,.nilFunc,.nilFunc]),4,64):=Kr
theorem Ph{d:Dt}(h:∀a b,d≠.list [a,b]):iJ q5 d=sV:=by unfold iJ;split;exact absurd rfl (h _ _);rfl
theorem Pg(h:jJ q5 x6=sV):iJ q5 (.list [x6,x7])=sV:=by unfold iJ;split;rename_i t m p b a;simp only[Dt.list.injEq,List.cons.injEq]at a;obtain⟨rfl,_,_⟩:=a;rw[rR]at h;split;rfl;rename_i c;rw[if_neg c]at h;rw[h];rfl
theorem Pf{a:List Bs}{t:Bs}{m:Int}{p:List Dt}{b:List (Sc.Id×Nat)}(c:Dt)(h:jJ a (.list (.sym t m::p))=sT b):bY a 0 [] p=sT b/\iJ a (.list [.list (.sym t m::p),c])=match aY b 0 c with|none=>sV|some _=>sT (p,c):=by rw[rR]at h;cases hd:(t==cF)with|true=>rw[hd]at h;simp at h|false=>rw[hd]at h;simp only[XC,if_false]at h;refine⟨h,?_⟩;simp only[iJ,hd,XC,if_false,h,rH];cases aY b 0 c<;>rfl
structure Rq4 where
 l:Vu
 b:Vu
 f:Vu
 t:Vu
def Rq4.cs(q:Rq4):List Vu:=[q.l,q.b,q.f,q.t]
def eM(qs:List Rq4):List Vu:=qs.flatMap Rq4.cs
theorem Qx(a b:List Rq4):eM (a++b)=eM a++eM b:=by simp[eM]
theorem zK:∀(a:List Rq4) (i:Nat) (q:Rq4),a[i]? =sT q->∀j,j<4->(eM a)[i*4+j]? =q.cs[j]?
 |[],i,q,h,j,hj=>by simp at h
 |c::r,0,q,h,j,hj=>by (obtain rfl:c=q:=by simpa using h);show(c.cs++eM r)[0*4+j]? =_;rw[Nat.zero_mul,Nat.zero_add,eA (by simpa[Rq4.cs]using hj)]
 |c::r,i+1,q,h,j,hj=>by show(c.cs++eM r)[(i+1)*4+j]? =_;have b:c.cs.length=4:=rfl;rw[eB (by rw[b];omega),b,show(i+1)*4+j-4=i*4+j from by omega];exact zK r i q (by simpa using h) j hj
def RlsR(H:Gh)(lits:List Bs)(rules:List (List Dt×Dt))(qs:List Rq4):Prop:=qs.length=rules.length/\∀(i:Nat) (r:List Dt×Dt) (q:Rq4),rules[i]? =sT r->qs[i]? =sT q->∃la ll lc ba nb bc,q.l=Sl la ll lc/\q.b=Sl ba nb bc/\RuleC H lits r q.l ba nb bc q.f q.t
theorem RlsR.mo(h:G.le H){a:List (List Dt×Dt)}{qs:List Rq4}(r:RlsR G q5 a qs):RlsR H q5 a qs:=⟨r.1,λi x q b c=>by obtain⟨d,e,lc,f,g,j,k,l,m⟩:=r.2 i x q b c;exact⟨d,e,lc,f,g,j,k,l,m.mo h⟩⟩
theorem RlsR.snoc{a:List (List Dt×Dt)}{g:List Rq4}(c:RlsR H q5 a g){x:List Dt×Dt}{q:Rq4}(h:q.l=Sl k0 r lc)(j:q.b=Sl k1 d0 d1)(k:RuleC H q5 x q.l k1 d0 d1 q.f q.t):RlsR H q5 (a++[x]) (g++[q]):=by
 refine⟨by simp[c.1],λi y p d e=>?_⟩;rcases Nat.lt_or_ge i a.length with hl|hl;rw[eA hl]at d;rw[eA (by rw[c.1];exact hl)]at e;exact c.2 i y p d e;have m:i=a.length:=by have:=(eL.1 d).1;simp at this;omega
 subst m;simp at d;rw[<-c.1]at e;simp at e;subst d e;exact⟨k0,r,lc,k1,d0,d1,h,j,k⟩
def RuLR(G:Gh)(w:Wd)(la:OA)(ss:List BA)(rs:List Dt)(res:Option (List (List Dt×Dt)))(k:Nat)(s29 s4:Vu)(wr:Wd):Prop:=
 ∃(j:Nat) (H':Gh) (rules:List (List Dt×Dt)) (qs:List Rq4) (ra:OA) (rc:Nat),j+k=rs.length/\s29=Ii (j:Int)/\s4=Sl ra j rc/\res=(eU (aT ss) (rs.drop j)).map (rules++·)/\rules.length=j/\Wk G w H' wr/\StrI H' la ss/\RlsR H' (aT ss) rules qs/\wr.ownsRow w.heap.size 406 4 (Sl ra j rc) j (eM qs)/\∀g,(Value.slice ra j rc).ownBlock=sT g->H'.I g=sV
def RuLP(G:Gh)(w:Wd)(lits:List Bs)(res:Option (List (List Dt×Dt)))(e:En)(w':Wd):Prop:=
 (e=Pk (aB (aD 4))/\Below w.heap.size w w'/\res=sV)\/
 (∃H' rules v,e=Rt v/\res=sT rules/\Wk G w H' w'/\∀t,RulesR H' ⟨t,lits,rules⟩ v)
theorem RuLR.done{ss:List BA}{e:Option (List (List Dt×Dt))}{wr:Wd}(h:RuLR G w k0 ss rs e 0 Y Z wr)(T:rs.length<=1000000):RuLP G w (aT ss) e (Rt Z) wr:=by
 obtain⟨j,U,a,E,u,v,J,rfl,rfl,d,K,k,V,F,H,hI⟩:=h;have J:j=rs.length:=Om;rw[List.drop_eq_nil_of_le Om]at d;obtain⟨L,M,x,_,_,_,_,_,y,_⟩:=k.fixes (Value.slice u j v).ownBlock.toList λb m=>by (have m:(Value.slice u j v).ownBlock=sT b:=by simpa using m);have:=H.lt b m;exact⟨this.1,hI b m,this.2⟩
 have z:=F.mo x;refine .inr ⟨L,a,_,rfl,by rw[d];simp[eU],M,λt=>⟨by show a.length<=1000000;omega,u,v,by show _=Value.slice u a.length v;rw[K],λI=>?_⟩⟩;have I:0<a.length:=I;rcases H.2 with⟨n,W⟩|⟨g,cap,o,n,m,N,X,hm,O,A⟩;omega;cases n;refine⟨g,o,rfl,by rw[y g (by simp[Value.ownBlock])];exact N,λi r c=>?_⟩;have c:a[i]? =sT r:=c;have B:=(eL.1 c).1;obtain⟨q,p⟩:∃q,E[i]? =sT q:=⟨_,eG (by rw[F.1];exact B)⟩;obtain⟨C,P,lc,Q,R,S,e1,e2,e3⟩:=z.2 i r q c p;have cc:∀s,s<4->o[i*4+s]? =q.cs[s]?:=λs D=>by have n:=zK E i q p s D;rw[<-A,List.getElem?_take_of_lt Om]at n;rw[<-n];simp
 exact⟨q.l,Q,R,S,q.f,q.t,cc 0 Om,by rw[<-e2];exact cc 1 Om,cc 2 Om,cc 3 Om,⟨C,P,lc,e1⟩,e3⟩
end
section
open Go.RowKit Go.Shelf
open Sc
theorem RuLR.push{ss:List BA}{n:Option (List (List Dt×Dt))}{e:Gh}{a:List (List Dt×Dt)}{i:List Rq4}{x:List Dt×Dt}{q:Rq4}{N:OA}{kc:Nat}{J:OA}{K:Nat}(O:Wk G w e w4)(s:Sp (λ_=>False) l5 a0 e w4)(P:StrI l5 k0 ss)(Q:RlsR l5 (aT ss) a i)(A:a0.ownsRow w.heap.size 406 4 (Sl k1 j r) j (eM i))(hI:∀g,(Value.slice k1 j r).ownBlock=sT g->l5.I g=sV)(B:a.length=j)(S:j+(k+1)=rs.length)(p:n=(eU (aT ss) (rs.drop (j+1))).map ((a++[x])++·))(e1:q.l=Sl N d0 kc)(e2:q.b=Sl J d1 K)(C:RuleC e (aT ss) x q.l J d1 K q.f q.t)(o:Obj):w4.ownsRow w.heap.size 406 4 (Sl k1 j r) j (eM i)/\∀(m c:Nat) (w5:Wd),w5.ownsRow w.heap.size 406 4 (Sl (sT (Aa m)) (j+1) c) (j+1) (eM i++q.cs)->(w4.alloc o).grownBy w5 (Value.slice k1 j r).ownBlock->((Value.slice k1 j r).ownBlock=sT m\/m=(w4.alloc o).heap.size)->∀D,Lk w5 D->RuLR G w k0 ss rs n k (Ii ((j:Int)+1)) (Sl (sT (Aa m)) (j+1) c) D:=by
 have u:w4.ownsRow w.heap.size 406 4 (Sl k1 j r) j (eM i):=dR A λg d=>s.blk (A.lt g d).2 (λh=>h);refine⟨u,λm c w5 E F H D v=>?_⟩;have y:∀g,(Value.slice k1 j r).ownBlock=sT g->e.I g=sV:=λg d=>s.loose (A.lt g d).2 (hI g d);have M:=O.below (aA w4 o);have R:Wk G w e w5:=M.go (L:=λb=>(Value.slice k1 j r).ownBlock=sT b) (Sp.grown F λb z=>z) λb z=>⟨(u.lt b z).1,y b z⟩;refine⟨j+1,e,a++[x],i++[q],_,_,by omega,by push_cast;rfl,rfl,p,by simp[B],R.lk v,P.mo s.ext.le,(Q.mo s.ext.le).snoc e1 e2 C,?_,λg d=>?_⟩;rw[Qx];have:eM [q]=q.cs:=by simp[eM]
 rw[this];exact dR E λg d=>by rw[v.heap]
 obtain rfl:m=g:=by simpa[Value.ownBlock]using d
 rcases H with h|h;exact y _ h;exact M.fresh Om
structure N2 (G:Gh) (w:Wd) (la:OA) (ss:List BA) (rs:List Dt) (res:Option (List (List Dt×Dt))) (ra:OA) (j rc:Nat) (xs:List Vu) (k:Nat) (pq:Nat) (v1 v2 v3 v4:Vu) (w4:Wd):Prop where
 own:w4.ownsRow w.heap.size 406 4 (Sl ra j rc) j xs
 low:w.heap.size<=w4.heap.size
 pb:w4.heap[pq]? =sT (Cl #[v1,v2,v3] 402)
 ne:∀g,(Value.slice ra j rc).ownBlock=sT g->g≠pq
 fin:∀(g5 cap5:Nat) (w5:Wd),w5.ownsRow w.heap.size 406 4 (Sl (sT (Aa g5)) (j+1) cap5) (j+1) (xs++[v1,v2,v3,v4])->(w4.alloc (Cl #[v1,v2,v3,v4] 406)).grownBy w5 (Value.slice ra j rc).ownBlock->((Value.slice ra j rc).ownBlock=sT g5\/g5=(w4.alloc (Cl #[v1,v2,v3,v4] 406)).heap.size)->∀w6,Lk w5 w6->RuLR G w la ss rs res k (Ii ((j:Int)+1)) (Sl (sT (Aa g5)) (j+1) cap5) w6
theorem N2.kept{ss:List BA}{a:Option (List (List Dt×Dt))}{xs:List Vu}{v4:Vu}(h:N2 G w k0 ss rs a k1 j r xs k d0 v1 v2 v3 v4 w4)(b:Wd)(c:(w4.alloc (Cl #[v1,v2,v3,v4] 406)).grownBy b (Value.slice k1 j r).ownBlock):b.heap[d0]? =sT (Cl #[v1,v2,v3] 402):=by have d:=(eE.1 h.pb).1;rw[c.block _ So (λe=>h.ne d0 e.symm rfl),eH _ _ _ d];exact h.pb
structure N1 (G:Gh) (w:Wd) (la:OA) (ss:List BA) (rs:List Dt) (res:Option (List (List Dt×Dt))) (ra:OA) (j rc:Nat) (xs:List Vu) (k:Nat) (rb:Nat) (arr:Array Vu) (g3 o3:Nat) (e2:Dl) (v1:Vu) (ba:OA) (nb bc:Nat) (v3:Vu) (w2:Wd):Prop where
 box:w2.heap[rb]? =sT (Cl arr 134)
 s6:S6w g3 (o3+6) e2.k e2.n e2.tr e2.tx e2.m e2.a e2.len e2.cap w2
 call:∀w',Lk (w2.alloc (Cl #[v1,Sl ba nb bc,v3] 402)) w'->Cp 330 #[Ag e2.cells,Sl ba nb bc] w' λe w4=>((∃p,e=Pk p)/\RuLP G w (aT ss) res e w4)\/(∃f cp,e=Rt (.func (.func f) #[] cp)/\N2 G w la ss rs res ra j rc xs k w2.heap.size v1 (Sl ba nb bc) v3 (.func (.func f) #[] cp) w4)
theorem Vg{ss:List BA}{u:Option (List (List Dt×Dt))}{a1:Wd}{d:List (List Dt×Dt)}{Q:List Rq4}{l0:Array Vu}{e1 e2:Dl}{l1:Array Vu}(c:Wk G w l5 a0)(hs:StrI l5 k0 ss)(R:ss.length<=1000000)(hq:RlsR l5 (aT ss) d Q)(ho:a0.ownsRow w.heap.size 406 4 (Sl k1 j r) j (eM Q))(hI:∀g,(Value.slice k1 j r).ownBlock=sT g->l5.I g=sV)(T:d.length=j)(hj:j+(k+1)=rs.length)(U:DRep l5 x6 e1)(V:DRep l5 x7 e2)(X:l5.I d0=sT (Cl l0 134))(Y:∀W:Wd,W.heap[d0]? =sT (Cl l0 134)->S6w d0 (d1+6) e2.k e2.n e2.tr e2.tx e2.m e2.a e2.len e2.cap W)(Z:aH x6<=1000000000000)(a2:aH x7+1<=1000000000000)(H:iJ (aT ss) (.list [x6,x7])=sV->u=sV)(J:∀x,iJ (aT ss) (.list [x6,x7])=sT x->u=(eU (aT ss) (rs.drop (j+1))).map ((d++[x])++·))(y:Lk (a0.alloc (Cl l1 134)) a1):Cp 329 #[Ag e1.cells,Sl k0 ss.length lc] a1 λe w2=>((∃p,e=Pk p)/\RuLP G w (aT ss) u e w2)\/(∃z A kc B nb C f D,e=Rt (Ag #[Sl z A kc,Sl B nb C,Ha f D])/\N1 G w k0 ss rs u k1 j r (eM Q) k a0.heap.size l1 d0 d1 e2 (Sl z A kc) B nb C (Ha f D) w2):=by obtain⟨S,m0,i1⟩:=c.known;have i:=aS y;have iA:=i1.below i;refine Calls.mo (Sa iA e1 U hs R Z) ?_;rintro e w2 (⟨rfl,h1,M⟩|⟨H2,t,m,p,o,z,A,kc,B,C,fv,rfl,M,rfl,E,a3,K,a7⟩);refine .inl ⟨⟨_,rfl⟩,.inl ⟨rfl,c.bel.t ((i.t (h1.mo i.size)).mo c.bel.size),H (Pg M)⟩⟩;obtain⟨a4,L⟩:=Pf x7 M;obtain⟨f,D,rfl,_⟩:=id K;have k2:Wk G w H2 w2:=(c.below i).t E;have s2:Sp (λ_=>False) l5 a0 H2 w2:=(Sp.below i).then E.sp λ_ _ h=>h;refine .inr ⟨z,A,kc,B,o.length,C,f,D,rfl,?_,?_,λw' F=>?_⟩;rw[E.bel.block _ (by rw[y.heap];simp),y.heap];exact eN _ _;exact Y w2 (E.imm (E.ext.le.I X));have s:=aS F;have iB:=(E.inv iA).below s;refine Calls.mo (Js iB e2 (V.mo E.ext.le) o a3 Om a2) ?_;rintro e w4 (⟨rfl,h3,N⟩|⟨H4,O,v,new,mk,rfl,N,P,a5⟩);refine .inl ⟨⟨_,rfl⟩,.inl ⟨rfl,k2.bel.t ((s.t (h3.mo s.size)).mo k2.bel.size),H (by rw[L,N])⟩⟩;have k4:Wk G w H4 w4:=(k2.below s).t P;have s4:Sp (λ_=>False) l5 a0 H4 w4:=s2.then ((Sp.below s).then P.sp λ_ _ h=>h) λ_ _ h=>h;have a6:RuleC H4 (aT ss) (p,x7) (Sl z A kc) B o.length C (Ha f D) (Ha O v):=⟨by omega,K.mo P.ext.le,mk,a5,λsc l b mark hm=>Pe a4 N sc b mark hm⟩;obtain⟨q1,q2⟩:=RuLR.push (q:=⟨Sl z A kc,Sl B o.length C,Ha f D,Ha O v⟩) k4 s4 hs hq ho hI T hj (J (p,x7) (by rw[L,N])) rfl rfl a6 (Cl #[Sl z A kc,Sl B o.length C,Ha f D,Ha O v] 406);refine .inr ⟨O,v,rfl,q1,k4.bel.size,?_,λg hg e=>?_,q2⟩;rotate_left;have h1:=(ho.lt g hg).2;have M:=s2.size;omega;rw[P.bel.block _ (by rw[F.heap];simp),F.heap];exact eN _ _
end
section
open Go.RowKit Go.Shelf
open Sc
def fM:Dt->Option (List Bs)
 | .list l=>cA l
 |_=>sV
def jK(G:Gh)(w:Wd)(lo:Option (List Bs))(rs:List Dt)(e:En)(w':Wd):Prop:=
 (e=Pk (aB (aD 4))/\Below w.heap.size w w'/\∀lits,lo=sT lits->eU lits rs=sV)\/
 (∃H' lits rules v,e=Rt v/\lo=sT lits/\eU lits rs=sT rules/\Wk G w H' w'/\∀t,RulesR H' ⟨t,lits,rules⟩ v)
theorem RuLP.d{ss:List BA}{lo:Option (List Bs)}{b:Option (List (List Dt×Dt))}(g:lo=sT (aT ss))(i:b=eU (aT ss) rs){e:En}(h:RuLP G w (aT ss) b e w'):jK G w lo rs e w':=by rcases h with⟨rfl,c,f⟩|⟨l,a,v,rfl,c,f,m⟩;exact .inl ⟨rfl,c,λj k=>by rw[g]at k;cases k;rw[<-i];exact f⟩;exact .inr ⟨l,_,a,v,rfl,g,by rw[<-i];exact c,f,m⟩
theorem Xk{m0:Mc}{d:Dt}(i:Inv G S m0 w)(j:Bt w a0)(e:Dl)(F:DRep G d e)(rs:List Dt):Cp 328 #[Ag e.cells] a0 λe w2=>((∃p,e=Pk p)/\jK G w (fM d) rs e w2)\/(∃r lc ss k,e=Rt (Sl r ss.length lc)/\fM d=sT (aT ss)/\ss.length<=30000/\Bt a0 w2/\Wk G w k w2/\StrI k r ss):=by
 obtain⟨u,M,v,x,N,O,P,Q⟩:=e;have f:u≠4->fM d=sV->Cp 328 #[Ag (Dl.cells ⟨u,M,v,x,N,O,P,Q⟩)] a0 λe w2=>((∃p,e=Pk p)/\jK G w (fM d) rs e w2)\/(∃r lc ss k,e=Rt (Sl r ss.length lc)/\fM d=sT (aT ss)/\ss.length<=30000/\Bt a0 w2/\Wk G w k w2/\StrI k r ss):=λm y=>by refine Calls.mo (Xo m) ?_;rintro e w' ⟨rfl,a⟩;exact .inl ⟨⟨_,rfl⟩,.inl ⟨rfl,j.t (a.mo j.size),λlits h=>by rw[y]at h;cases h⟩⟩
 rcases F.kind with⟨z,rfl⟩|⟨m,l,rfl⟩|⟨z,m,hs,y⟩;have z:u=3:=z;exact f Om rfl;have m:=m;subst m;have c:=F.row;have H:=c.len;have R:l.length<=30000:=by obtain⟨_,_,_,_,_,h,_⟩:=c;omega
 have I:=i.below j;refine Calls.mo (Xp c λh=>I.imm h) ?_;rintro e w2 ⟨a,h⟩;cases hlo:cA l with|none=>rw[hlo]at h;subst h;exact .inl ⟨⟨_,rfl⟩,.inl ⟨rfl,j.t (a.mo j.size),λlits h=>by have h:cA l=sT lits:=h;rw[hlo]at h;cases h⟩⟩|some T=>rw[hlo]at h;obtain⟨A,B,ss,rfl,t,J⟩:=h;have U:=((Wk.start i).below j).below a;(obtain⟨k,V,W,_,_,_,_,_,hI,_⟩:=U.fixes (Value.slice A ss.length B).ownBlock.toList λb n=>by (have n:(Value.slice A ss.length B).ownBlock=sT b:=by simpa using n);have o:=J.lt b n;have K:=j.size;exact⟨by omega,I.fresh o.1,o.2⟩);(have C:ss.length<=30000:=by have o:=Xn hlo;(have K:ss.length=T.length:=by rw[<-t];simp[aT]);omega);refine .inr ⟨A,B,ss,k,rfl,by show cA l=_;rw[hlo,t],C,a,V,λq s L=>?_⟩;have X:=(eL.1 L).1;rcases J.2 with⟨o,K⟩|⟨g,cap,D,o,_,Y,hn,hm,Z,E⟩;omega;cases o;refine⟨g,D,9,rfl,by rw[hI g (by simp[Value.ownBlock])];exact Y,?_⟩;(have e1:(ss.map Value.string)[q]? =sT (Sg s):=by rw[ZJ,L];rfl);rw[<-E,List.getElem?_take_of_lt Om]at e1;simpa using e1
 refine f m ?_;cases d with|list l=>exact absurd rfl (y l)|_=>rfl
theorem Ay:∀{l:List Dt} {j:Nat} {d:Dt},l[j]? =sT d->aH d+1<=aJ l
 |[],j,d,h=>by simp at h
 |a::r,0,d,h=>by (obtain rfl:a=d:=by simpa using h);simp[aJ];omega
 |a::r,j+1,d,h=>by have:=Ay (l:=r) (j:=j) (d:=d) (by simpa using h);simp[aJ];omega
@[reducible] def S3(pb:Nat)(v1 v2 v3:Vu)(w:Wd):Prop:=w.cell? (Aa pb)=sT v1/\w.cell? (Ab pb 1)=sT v2/\w.cell? (Ab pb 2)=sT v3
theorem pW(h:w.heap[r]? =sT (Cl #[v1,v2,v3] 402)):S3 r v1 v2 v3 w:=by refine⟨?_,?_,?_⟩<;>simp[UT,h]
theorem Ut(v1 v2 v3 v4:Vu)(w2:Wd):∀j u,[v1,v2,v3,v4][j]? =sT u->(w2.alloc (Cl #[v1,v2,v3,v4] 406)).cell? ((Aa w2.heap.size).add j)=sT u:=VI (cs:=#[v1,v2,v3,v4]) (eN w2 (Cl #[v1,v2,v3,v4] 406))
theorem Tk(c:OA)(d kc:Nat)(e:OA)(g h f:Nat)(i:Array Vu)(j:Nat)(a:Array Vu):∀u∈[Value.slice c d kc,Sl e g h,Ha f i,Ha j a],u.oneCell'=xA:=λu b=>by simp at b;rcases b with rfl|rfl|rfl|rfl<;>rfl
theorem RK{c:Prop}(h:c:=by
  simp only[Nat.one_mul]at h;exact⟨h 0 Om,h 1 Om,h 2 Om,h 3 Om,h 4 Om,h 5 Om⟩):c:=h
theorem Pc{m0:Mc}{A C D E:Int}{g c:Nat}(i:Inv G S m0 w)(n:Nat)(F:DRow G (sT (Ab g o)) (n+2) c (.sym lQ E::x6::rs))(b7:aJ rs<=1000000000000):Cp 294 #[Ag #[Ii A,Ii C,.bool J,Sg U,Ii D,Sl (sT (Ab g o)) (n+2) c]] w (jK G w (fM x6) rs):=by
 obtain⟨i0,hi,f4,f5,f6⟩:=info_parts BH;have T:∀{b:Nat} {o:Obj},G.I b=sT o->w.heap[b]? =sT o:=λh=>i.imm h;have b9:n=rs.length:=by have:=F.len;simp at this;omega
 have f7:n+2<=30000:=by obtain⟨_,_,_,_,_,h,_⟩:=F;exact h
 have c6:n+2<=c:=by obtain⟨_,_,_,_,h,_⟩:=F;exact h
 have V:DRow G (bB g o c 2) n (c-2) rs:=by simpa using F.drop 2 Om
 obtain⟨g',o',i9,ha,d5,X⟩:=F.mem Om;cases ha;obtain⟨⟨yk,yn,P,M,ym,ya,yl,yc⟩,N,Y⟩:=X 0 _ rfl;obtain⟨e2,f8,c7⟩:=X 1 _ rfl;have f9:∀W:Wd,W.heap[g]? =sT (Cl i9 134)->S6w g (o+6) e2.k e2.n e2.tr e2.tx e2.m e2.a e2.len e2.cap W:=λW hW=>by have h:=c7 W hW;exact RK
 have g0:S6w g o yk yn P M ym ya yl yc w:=by have h:=Y w (T d5);exact RO
 obtain⟨y0,y1,y2,y3,y4,y5⟩:=g0.al (Cl #[Ii A,Ii C,.bool J,Sg U,Ii D,Sl (sT (Ab g o)) (n+2) c] 134);have g1:(yk==3&&decide (M=⟨#[115,121,110,116,97,120,45,114,117,108,101,115]⟩))=xA:=by rcases N.kind with⟨h3,h⟩|⟨h4,l',h⟩|⟨h3,h4,hs,_⟩;have h3:yk=3:=h3;simp only[Dt.sym.injEq]at h;have:M=⟨#[115,121,110,116,97,120,45,114,117,108,101,115]⟩:=fF (h.1.symm.t rfl);simp[h3,this];cases h;exact absurd rfl (hs _ _)
 have g4:Hid (∀w:Wd,Cp 327 #[Ag #[Ii yk,Ii yn,.bool P,Sg M,Ii ym,Sl ya yl yc],Sg ⟨#[115,121,110,116,97,120,45,114,117,108,101,115]⟩] w λe w'=>e=Rt (.bool xA)/\Bt w w'):=λw=>Calls.mo (mE yk yn P M ym ya yl yc _ w) λe w' ⟨h1,h2⟩=>⟨by rw[h1,g1],h2⟩;have g6:∀w,(Instr.slice 132 (Sl (sT (Ab g o)) (n+2) c) (sT (Ii 2)) sV sV).run prog w=.ok (Sl (bB g o c 2) n (c-2)) w:=λw=>oA g o n c c6 w;have m1:(2:Int)<=(n:Int)+2:=Om;have l4:(0:Int)<(n:Int)+2:=Om;have l5:(1:Int)<(n:Int)+2:=Om;obtain⟨HI,j0,j1,HG,Z,s,j2⟩:=gV i f8 f9 (T d5) V b9 b7;obtain⟨a2,g7⟩:∃a2,a2=bB g o c 2:=⟨_,rfl⟩;rw[<-g7]at Z g6;have d6:=hZ f7;have l6:n<=30000:=Om;clear F V X Y c7 N f8 f9 g0 g1 d5 T b9 b7 i g7 c6 f7;delta Cp;go_in;go_wp2_with (go_at_call 327;refine iF (g4.o _) λwb g8=>?_;have d7:=hZ g8;clear g8;refine hO ?_);have d8:Bt w (w.alloc (Cl #[Ii A,Ii C,.bool J,Sg U,Ii D,Sl (sT (Ab g o)) (n+2) c] 134)):=aA _ _;have hb:Bt w wb:=d8.t (d7.o.mo d8.size);have a0:wb.heap[w.heap.size]? =sT (Cl #[Ii A,Ii C,.bool J,Sg U,Ii D,Sl (sT (Ab g o)) (n+2) c] 134):=by rw[d7.o.block _ Sm];exact eN _ _
 have g9:=(eE.1 HG.o).1;obtain⟨z0,z1,z2,z3,z4,z5⟩:=j1.o wb (by rw[hb.block _ g9];exact HG.o);have b5:wb.cell? (Ab w.heap.size 5)=sT (Sl (sT (Ab g o)) (n+2) c):=Ce a0;obtain⟨c8,a1⟩:=aN (Xk HI.o hb e2 j0.o rs) a0;clear y0 y1 y2 y3 y4 y5 g4 hb d8 a0 g9 d7 HG;obtain⟨m2,m3,l7,l8,m4,m5,j3,j4⟩:=e2;simp only at z0 z1 z2 z3 z4 z5;refine hZ ?_;go_wp2_with (first|(go_at_call 290;refine Ds bD ?_)|(go_at_call 328;refine c8.o.mo ?_;rintro e w2 (⟨⟨p,rfl⟩,hq⟩|⟨la,lc,ss,H1,rfl,q1,q2,q3,q4,q5⟩);(exact⟨rfl,hq⟩);obtain⟨j5,j6,j7,j8,j9⟩:=fR q1 q2 q3 q4 q5;clear q1 q2 q3 q4 q5;refine hO ?_));have a3:w2.heap[w.heap.size]? =sT (Cl #[Ii A,Ii C,.bool J,Sg U,Ii D,Sl (sT (Ab g o)) (n+2) c] 134):=by rw[j7.o.block _ (eE.1 a1.o).1];exact a1.o
 have m6:w2.cell? (Ab w.heap.size 5)=sT (Sl (sT (Ab g o)) (n+2) c):=Ce a3;obtain⟨u,c9⟩:∃u,u=eU (aT ss) rs:=⟨_,rfl⟩;have d0:=hZ c9;have HD:Hid (∀{e:En} {w':Wd},RuLP G w (aT ss) u e w'->jK G w (fM x6) rs e w'):=λh=>RuLP.d j5.o d0.o h;clear c9 a3 c8 b5 z0 z1 z2 z3 z4 z5 a1;refine hZ ?_;go_wp2_with (fail);go_loopg [29,4] n (RuLR G w la ss rs u);case atStart=>exact⟨0,H1,[],[],sV,0,by rw[s.o];omega,rfl,rfl,by rw[d0.o];simp,rfl,j8.o,j9.o,⟨rfl,λi r q h=>by simp at h⟩,⟨rfl,.inl ⟨rfl,rfl⟩⟩,nofun⟩
 case round=>obtain⟨j,H',a4,qs,ra,rc,hj,rfl,rfl,Q,a5,k1,hs,hq,ho,hI⟩:=hrel;obtain⟨wo,rfl⟩:∃wo,wo=wr:=⟨_,rfl⟩;by_cases e0:j<n;(·obtain⟨r,hr⟩:∃r,rs[j]? =sT r:=⟨_,eG (by rw[<-s.o];exact e0)⟩;obtain⟨g2,o2,l9,rfl,a6,a7⟩:=Z.o.mem Om;have t:=k1.ext.le;obtain⟨⟨yk,yn,P,M,ym,ya,yl,yc⟩,N,Y⟩:=a7 j r hr;have cell:=Y wo (k1.imm (t.I a6));have c0:wo.cell? (Ab g2 (o2+j*6))=sT (Ii yk):=cell 0 Om;have c1:=cell 1 Om;have c2:=cell 2 Om;have c3:=cell 3 Om;have c4:=cell 4 Om;have c5:=cell 5 Om;have m7:(j:Int)<(n:Int):=Om;(have e3:rs.drop j=r::rs.drop (j+1):=by rw[WL (by rw[<-s.o];exact e0)];congr 1;have:=eG (l:=rs) (i:=j) (by rw[<-s.o];exact e0);rw[hr]at this;exact(Option.some.inj this).symm);rw[e3]at Q;(have b8:iJ (aT ss) r=sV->u=sV:=λh=>by rw[Q];simp only[eU,h];rfl);(have a8:∀x,iJ (aT ss) r=sT x->u=(eU (aT ss) (rs.drop (j+1))).map ((a4++[x])++·):=λx h=>by rw[Q];simp only[eU,h];cases eU (aT ss) (rs.drop (j+1))<;>simp);clear cell Y a7;by_cases e4:yl=2;(·subst e4;(obtain⟨pd,tm,rfl⟩:∃a b,r=.list [a,b]:=by cases r with|list l=>have h:=N.row.len;have h:=h;(match l,h with|[a,b],_=>exact⟨a,b,rfl⟩)|_=>have:=N.len0 nofun;cases this);have a9:=N.row;obtain⟨g3,o3,d1,e5,b0,R⟩:=a9.mem (by show 0<2;omega);have e5:=e5;subst e5;obtain⟨⟨pk,pn,ptr,e6,pm,pa,pl,pc⟩,h0,d2⟩:=R 0 pd rfl;obtain⟨⟨tk,tn,b1,b2,b3,ta,tl,tc⟩,h5,d3⟩:=R 1 tm rfl;(have h6:∀W:Wd,W.heap[g3]? =sT (Cl d1 134)->S6w g3 o3 pk pn ptr e6 pm pa pl pc W:=λW hW=>by have h:=d2 W hW;exact RO);(have h7:∀W:Wd,W.heap[g3]? =sT (Cl d1 134)->S6w g3 (o3+6) tk tn b1 b2 b3 ta tl tc W:=λW hW=>by have h:=d3 W hW;exact RK);have k0:=Ay hr;(have k2:aH (.list [pd,tm])=1+aH pd+(1+aH tm):=by simp[aH,aJ]);have b7:=j2.o;obtain⟨k,hk⟩:∃k,k=rs.length-(j+1):=⟨_,rfl⟩;have k3:=s.o;have hA:j+(k+1)=rs.length:=Om;have hB:aH pd<=1000000000000:=Om;have hC:aH tm+1<=1000000000000:=Om;(have b4:Hid (∀w',Lk (wo.alloc (Cl #[Ii yk,Ii yn,.bool P,Sg M,Ii ym,Sl (sT (Ab g3 o3)) 2 yc] 134)) w'->Cp 329 #[Ag #[Ii pk,Ii pn,.bool ptr,Sg e6,Ii pm,Sl pa pl pc],Sl la ss.length lc] w' λe w2=>((∃p,e=Pk p)/\jK G w (fM x6) rs e w2)\/(∃H K kc v y z f L,e=Rt (Ag #[Sl H K kc,Sl v y z,Ha f L])/\N1 G w la ss rs u ra j rc (eM qs) k wo.heap.size #[Ii yk,Ii yn,.bool P,Sg M,Ii ym,Sl (sT (Ab g3 o3)) 2 yc] g3 o3 ⟨tk,tn,b1,b2,b3,ta,tl,tc⟩ (Sl H K kc) v y z (Ha f L) w2)):=λw' e7=>by refine Calls.mo (Vg (e1:=⟨pk,pn,ptr,e6,pm,pa,pl,pc⟩) (e2:=⟨tk,tn,b1,b2,b3,ta,tl,tc⟩) (lc:=lc) k1 hs (by have:=j6.o;omega) hq ho hI a5 hA (h0.mo t) (h5.mo t) (t.I b0) h7 hB hC b8 a8 e7) ?_;rintro e w2 (⟨⟨p,rfl⟩,h⟩|h);exact .inl ⟨⟨_,rfl⟩,HD.o h⟩;exact .inr h);obtain⟨p0,p1,p2,p3,p4,p5⟩:=(h6 wo (k1.imm (t.I b0))).al (Cl #[Ii yk,Ii yn,.bool P,Sg M,Ii ym,Sl (sT (Ab g3 o3)) 2 yc] 134);(have k4:Hid (j+1<=maxLen):=by (have:j+1<=maxLen:=by have:=d6.o;unfold maxLen;omega);exact this);(have k5:Hid ((j+1)*64<=140737488355328):=by (have:(j+1)*64<=140737488355328:=by have:=d6.o;omega);exact this);have h8:k<n-j:=Om;obtain⟨k6,k7⟩:=aN h8 hj;clear hA hB hC h8 Q b8 a8 k1 hs hq ho hI a5 N a6 a9 R b0 d2 d3 h6 h7 k0 k2 b7 k3 hk hj hr e3 t h0 h5;go_wp2_with (first|(go_at_call 290;refine Ds bD ?_)|(go_at_call 329;refine(b4.o _ Lq).mo ?_;rintro e w2 (⟨⟨p,rfl⟩,hq⟩|⟨H,K,kc,v,y,z,f,L,rfl,hn⟩);(exact⟨rfl,hq⟩);have HN:=hZ hn;clear hn;refine hO ?_));have e8:=HN.o.box;have k8:=(eE.1 e8).1;have r5:(w2.alloc (Cl #[Sl H K kc,Sl v y z,Ha f L] 402)).cell? (Ab wo.heap.size 5)=sT (Sl (sT (Ab g3 o3)) 2 yc):=aP (by simp only[UT,e8];rfl);have h9:S6w g3 (o3+6) tk tn b1 b2 b3 ta tl tc w2:=HN.o.s6;obtain⟨t0,t1,t2,t3,t4,t5⟩:=h9.al (Cl #[Sl H K kc,Sl v y z,Ha f L] 402);have e9:S3 w2.heap.size (Sl H K kc) (Sl v y z) (Ha f L) (w2.alloc (Cl #[Sl H K kc,Sl v y z,Ha f L] 402)):=pW (eN _ _);have k9:=hZ e9;have i1:Hid (S3 w2.heap.size (Sl H K kc) (Sl v y z) (Ha f L) (w2.alloc (Cl #[Sl H K kc,Sl v y z,Ha f L] 402)).drew):=e9;obtain⟨m8,m9,n0⟩:=e9;(have l0:Hid (∀w',Lk (w2.alloc (Cl #[Sl H K kc,Sl v y z,Ha f L] 402)) w'->Cp 330 #[Ag #[Ii tk,Ii tn,.bool b1,Sg b2,Ii b3,Sl ta tl tc],Sl v y z] w' λe w4=>((∃p,e=Pk p)/\jK G w (fM x6) rs e w4)\/(∃f2 B,e=Rt (Ha f2 B)/\N2 G w la ss rs u ra j rc (eM qs) k w2.heap.size (Sl H K kc) (Sl v y z) (Ha f L) (Ha f2 B) w4)):=λw' e7=>by refine Calls.mo (HN.o.call w' e7) ?_;rintro e w4 (⟨⟨p,rfl⟩,h⟩|h);exact .inl ⟨⟨_,rfl⟩,HD.o h⟩;exact .inr h);clear c0 c1 c2 c3 c4 c5 p0 p1 p2 p3 p4 p5 e8 k8 h9 b4 HN;refine hZ ?_;go_wp2_with (fail);rw[show Op.load 132 (Operand.tmp 46)=jF 132 (Operand.tmp 46)from rfl,show Op.load 134 (Operand.tmp 48)=jF 134 (Operand.tmp 48)from rfl];go_region_held2 (λw'=>w'.cell? (Aa w2.heap.size)=sT (Sl H K kc)/\w'.cell? (Ab w2.heap.size 1)=sT (Sl v y z)/\w'.cell? (Ab w2.heap.size 2)=sT (Ha f L)) (first|(with_reducible exact i1.o)|(with_reducible exact k9.o)|(with_reducible exact l1.o)|(with_reducible exact i2.o)|(with_reducible exact l2.o)) (first|(go_at_call 330;refine(l0.o _ Lq).mo ?_;rintro e w4 (⟨⟨p,rfl⟩,hq⟩|⟨f2,B,rfl,hn⟩);(exact⟨rfl,hq⟩);obtain⟨HN,l1⟩:=aN hn (pW hn.pb);have i2:Hid (S3 w2.heap.size (Sl H K kc) (Sl v y z) (Ha f L) (w4.alloc (Cl #[Sl H K kc,Sl v y z,Ha f L,Ha f2 B] 406))):=(by have h:=pW hn.pb;exact⟨aP h.1,aP h.2.1,aP h.2.2⟩);obtain⟨f0,f1,i3,i4⟩:=dT (hn.own.alloc (Cl #[Sl H K kc,Sl v y z,Ha f L,Ha f2 B] 406)) (Ut (Sl H K kc) (Sl v y z) (Ha f L) (Ha f2 B) w4) (Tk H K kc v y z f L f2 B) (eT hn.low (aA w4 (Cl #[Sl H K kc,Sl v y z,Ha f L,Ha f2 B] 406)).size);clear hn)|(refine step_append_lies _ rfl _ _ 374 rfl w.heap.size 406 i0 (Ag #[Sl sV 0 0,Sl sV 0 0,.nilFunc,.nilFunc]) 4 64 underlying374 hi f4 f5 f6 rfl De _ _ _ rfl f0.o (Aa w4.heap.size) 1 1 [Sl H K kc,Sl v y z,Ha f L,Ha f2 B] rfl rfl f1.o i3.o De k4.o k5.o i4.o (w4.alloc (Cl #[Sl H K kc,Sl v y z,Ha f L,Ha f2 B] 406)).heap.size rfl ?_;intro g5 i5 w5 b6 O d4 i6;obtain⟨i7,l2⟩:=aN (HN.o.fin g5 i5 w5 b6 O d4) (pW (HN.o.kept w5 O));clear b6 O d4 i6));all_goals (go_wp2;go_roundg k;(case measure=>have:=k6.o;have:=k7.o;have:=s.o;omega);case rel=>exact i7.o _ (by first|with_reducible exact iR|with_reducible exact iS)));have l3:Hid (jK G w (fM x6) rs=jK G w (fM x6) rs/\u=sV):=⟨rfl,b8 (Ph λa b e=>by subst e;have h:=N.row.len;have h:yl=2:=h;exact e4 h)⟩;(have n1:((yl:Int)==2)=xN:=by have:¬(yl:Int)=2:=Om;simpa using this);have f3:=hZ k1.bel;clear Q b8 a8 k1 hs hq ho hI a5 N a6 hj hr e3 t e4;go_wp2_with (go_at_call 290;refine iC cC λoo=>?_);refine⟨rfl,HD.o (.inl ⟨rfl,?_,l3.o.2⟩)⟩;exact(f3.o.alloc f3.o.size _).alloc (eT f3.o.size (aA _ _).size) _);have n2:¬(j:Int)<(n:Int):=Om;(have i8:Hid (jK G w (fM x6) rs (Rt (Sl ra j rc)) wo):=by have hd:RuLR G w la ss rs u 0 (Ii (j:Int)) (Sl ra j rc) wo:=⟨j,H',a4,qs,ra,rc,by have:=s.o;omega,rfl,rfl,Q,a5,k1,hs,hq,ho,hI⟩;exact HD.o (RuLR.done hd (by have:=s.o;have:=d6.o;omega)));clear Q k1 hs hq ho hI a5 hj;go_wp2;go_ret;exact i8.o
end
section
open Go.RowKit Go.Shelf
open Sc
def fT:Dt->Option (List Bs×List (List Dt×Dt))
 | .list (.sym u _::.list ls::rs)=>if u==lQ then(cA ls).bind λlits=>(eU lits rs).map λrules=>(lits,rules)else sV
 |_=>sV
theorem zA(d:Int)(c:Dt)(rs:List Dt):fT (.list (.sym lQ d::c::rs))=(fM c).bind λa=>(eU a rs).map λb=>(a,b):=by cases c with|list e=>simp[fT,fM]|_=>rfl
theorem Pa(h:∀b,x6≠.sym lQ b):fT (.list (x6::i5))=sV:=by unfold fT;split;rename_i u m c rs a;simp only[Dt.list.injEq,List.cons.injEq]at a;obtain⟨rfl,_⟩:=a;rw[if_neg (λe=>h m (by rw[beq_iff_eq]at e;rw[e]))];rfl
theorem Oz{d:Dt}(h:∀a b r,d≠.list (a::b::r)):fT d=sV:=by unfold fT;split;exact absurd rfl (h _ _ _);rfl
theorem tC(d f:Int)(a:Bool)(b:BA)(g:Int)(h:OA)(c i:Nat)(w:Wd)(k:c<2):Cp 294 #[Ag #[Ii d,Ii f,.bool a,Sg b,Ii g,Sl h c i]] w λe w'=>e=Pk (aB (aD 4))/\Bt w w':=by have j:¬(2:Int)<=(c:Int):=Om;delta Cp;go_in;go_wp2_with (go_at_call 290;refine iC cC λl=>?_);exact⟨rfl,rfl,(aA _ _).alloc Sm _⟩
theorem Pb{F h:Int}{a:BA}{g c:Nat}(n:Nat)(k:S6w g o E F J a h k0 r d0 w)(b:(E==3&&decide (a=⟨#[115,121,110,116,97,120,45,114,117,108,101,115]⟩))=xN):Cp 294 #[Ag #[Ii A,Ii C,.bool I,Sg U,Ii D,Sl (sT (Ab g o)) (n+2) c]] w λe w'=>e=Pk (aB (aD 4))/\Bt w w':=by obtain⟨t,u,v,x,y,z⟩:=k.al (Cl #[Ii A,Ii C,.bool I,Sg U,Ii D,Sl (sT (Ab g o)) (n+2) c] 134);have i:Hid (∀w:Wd,Cp 327 #[Ag #[Ii E,Ii F,.bool J,Sg a,Ii h,Sl k0 r d0],Sg ⟨#[115,121,110,116,97,120,45,114,117,108,101,115]⟩] w λe w'=>e=Rt (.bool xN)/\Bt w w'):=λw=>Calls.mo (mE E F J a h k0 r d0 _ w) λe w' ⟨p,q⟩=>⟨by rw[p,b],q⟩;have s:(2:Int)<=(n:Int)+2:=Om;have l:(0:Int)<(n:Int)+2:=Om;clear k b;delta Cp;go_in;go_wp2_with (first|(go_at_call 327;refine iF (i.o _) λB d=>?_;have j:=hZ d;clear d)|(go_at_call 290;refine iC cC λG=>?_));have f:Bt w (w.alloc (Cl #[Ii A,Ii C,.bool I,Sg U,Ii D,Sl (sT (Ab g o)) (n+2) c] 134)):=aA _ _;have m:=f.t (j.o.mo f.size);exact⟨rfl,rfl,m.alloc m.size _⟩
def Gc(G:Gh)(w:Wd)(d:Dt)(e:En)(w':Wd):Prop:=
 (e=Pk (aB (aD 4))/\Below w.heap.size w w'/\fT d=sV)\/
 (∃H' lits rules a len cap,e=Rt (Sl a len cap)/\fT d=sT (lits,rules)/\Wk G w H' w'/\∀t,RulesR H' ⟨t,lits,rules⟩ (Sl a len cap))
theorem Oy{m0:Mc}{d:Dt}(i:Inv G S m0 w)(e:Dl)(u:DRep G d e)(k:aH d<=1000000000000):Cp 294 #[Ag e.cells] w (Gc G w d):=by obtain⟨D,E,n,p,F,C,x,H⟩:=e;have j:∀{e:En} {w':Wd},fT d=sV->(e=Pk (aB (aD 4))/\Bt w w')->Gc G w d e w':=λT h=>.inl ⟨h.1,h.2,T⟩;have z:∀{b:Nat} {o:Obj},G.I b=sT o->w.heap[b]? =sT o:=λh=>i.imm h;cases d with|list l=>have f:=u.row;have c:x=l.length:=f.len;(match l,c,f,u,k,@j with|[],c,f,u,k,j=>exact Calls.mo (tC D E n p F C x H w (by rw[c];simp)) λe w' h=>j rfl h|[a],c,f,u,k,j=>exact Calls.mo (tC D E n p F C x H w (by rw[c];simp)) λe w' h=>j (Oz nofun) h|d1::d2::rs,c,f,u,k,j=>have c:x=rs.length+2:=c;subst c;obtain⟨g,o,q,⟨J,yn,U,r,O,ya,yl,yc⟩,A,V⟩:=Fy f (w:=w) z rfl;have q:C=sT (Ab g o):=q;subst q;cases hsy:(J==3&&decide (r=⟨#[115,121,110,116,97,120,45,114,117,108,101,115]⟩))with|false=>refine Calls.mo (Pb rs.length V hsy) λe w' h=>j (Pa λum e=>?_) h;subst e;rcases A.kind with⟨y,h⟩|⟨B,W,h⟩|⟨y,B,P,_⟩;have y:J=3:=y;simp only[Dt.sym.injEq]at h;have:r=⟨#[115,121,110,116,97,120,45,114,117,108,101,115]⟩:=fF (h.1.symm.t rfl);simp[y,this]at hsy;cases h;exact absurd rfl (P _ _)|true=>(obtain⟨um,rfl⟩:∃um,d1=.sym lQ um:=by simp only[Bool.and_eq_true,beq_iff_eq,decide_eq_true_eq]at hsy;obtain⟨y,X⟩:=hsy;rcases A.kind with⟨_,h⟩|⟨B,W,h⟩|⟨K,B,P,_⟩;refine⟨O,h.t ?_⟩;show Dt.sym r.data.toList O=_;rw[X];rfl;have B:J=4:=B;omega;exact absurd y K);(have L:aJ rs<=1000000000000:=by simp only[aH,aJ]at k;omega);refine Calls.mo (Pc i rs.length f L) ?_;rintro e w' (⟨rfl,M,N⟩|⟨Y,m,s,v,rfl,M,N,Z,Q⟩);refine .inl ⟨rfl,M,?_⟩;rw[zA];(cases hl:fM d2 with|none=>rfl|some m=>simp[N m hl]);obtain⟨_,a,cap,R,_⟩:=Q [];exact .inr ⟨Y,m,s,a,_,cap,by rw[R],by rw[zA,M];simp[N],Z,λt=>by have:=Q t;rw[R]at this;exact this⟩)|_=>have h0:x=0:=u.len0 nofun;exact Calls.mo (tC D E n p F C x H w Om) λe w' h=>j rfl h
end
section
open Go.RowKit Go.Shelf
open Sc
theorem BC(es:Array MapEntry)(L:List (Bs×Vu))(t:BA)(a:Vu)(b:es.toList.map (λe=>(e.key,e.val))=L.map (λp=>(Value.string ⟨p.1.toArray⟩,p.2)))(d:∀p,p∈L->p.1≠t.data.toList)(w:Wd)(c:w.heap[r]? =sT (.map es d0)):(WW 325 (.map (sT r)) (Sg t) a).run prog w=.ok () (setB w r (.map (es.push ⟨Sg t,a,d0⟩) (d0+1)))/\(es.push ⟨Sg t,a,d0⟩).toList.map (λe=>(e.key,e.val))=(L++[(t.data.toList,a)]).map (λp=>(Value.string ⟨p.1.toArray⟩,p.2)):=by rcases vI t es.toList L 0 b with⟨e1,e2⟩|⟨j,v,e1,p,e2,e3⟩;refine⟨?_,by simp[b]⟩;simp[WW,run_underlying underlying325,go_sem,gG es w c,jI,Instr.findKey,run_underlying underlying9,e1,kU es w c,Result.andThen];exact absurd e3 (d p (YP e2))
theorem McRows.snoc{R:Gh->Macro->Vu->Prop}{G:Gh}{mc:Macro}{v:Vu}(b:R G mc v):∀{a:List Macro} {L:List (Bs×Vu)},McRows R G a L->(∀m,m∈a->m.name≠mc.name)->McRows R G (a++[mc]) (L++[(mc.name,v)])
 |_,_,.nil,_=>.cons mc v [] [] b (λm hm=>by simp at hm) .nil
 |_,_,.cons m0 v0 a L h n s,hn=>by refine .cons m0 v0 _ _ h (λm hm=>?_) (McRows.snoc b s λm hm=>hn m (by simp[hm]));rcases VS.1 hm with hm|hm;exact n m hm;simp only[YS]at hm;rw[hm];exact λe=>hn m0 Sm e.symm
theorem McRows.names{R:Gh->Macro->Vu->Prop}{G:Gh}:∀{a:List Macro} {L:List (Bs×Vu)},McRows R G a L->∀p,p∈L->∃m,m∈a/\m.name=p.1
 |_,_,.nil,p,hp=>by simp at hp
 |_,_,.cons m0 v0 a L h n s,p,hp=>by rcases List.mem_cons.1 hp with rfl|hp;exact⟨m0,by simp,rfl⟩;obtain⟨m,b,c⟩:=McRows.names s p hp;exact⟨m,by simp[b],c⟩
theorem Kg{len cap:Nat}{a:OA}(h:len≠3):Cp 234 #[bp r,Sl a len cap] w λe w'=>e=Pk (aB (aD 4))/\Bt w w':=by
 have b:((len:Int)==3)=xN:=by have:¬(len:Int)=3:=Om;simpa using this
 delta Cp;go_in;go_wp2_with (go_at_call 290;refine iC cC λc=>?_);exact⟨rfl,rfl,aA _ _⟩
abbrev Sy(xb mm g o:Nat)(zk zn:Int)(ztr:Bool)(ztx:BA)(zm:Int)(za:OA)(zl zc:Nat)(w':Wd):Prop:=w'.cell? (Ab xb 2)=sT (.map (sT mm))/\w'.cell? (Ab g (o+12))=sT (Ii zk)/\w'.cell? (Ab g (o+12+1))=sT (Ii zn)/\w'.cell? (Ab g (o+12+2))=sT (.bool ztr)/\w'.cell? (Ab g (o+12+3))=sT (Sg ztx)/\w'.cell? (Ab g (o+12+4))=sT (Ii zm)/\w'.cell? (Ab g (o+12+5))=sT (Sl za zl zc)
theorem Kh{g c:Nat}(f:Nat)(h i:Int)(a:Bool)(b:BA)(j:Int)(k:OA)(l m:Nat)(V:S6w g (o+6) A C I U D k0 d0 d1 w)(J:Cp 291 #[bp r,Ag #[Ii A,Ii C,.bool I,Sg U,Ii D,Sl k0 d0 d1]] w λe w2=>((∃p,e=Pk p)/\Q e w2)\/(∃t,e=Rt (Sg t)/\S6w g (o+12) h i a b j k l m w2/\w2.cell? (Ab r 2)=sT (.map (sT f))/\∀w',Lk w2 w'->Cp 294 #[Ag #[Ii h,Ii i,.bool a,Sg b,Ii j,Sl k l m]] w' λe w4=>((∃p,e=Pk p)/\Q e w4)\/(∃v x y u,e=Rt (Sl v x y)/\Sy r f g o h i a b j k l m w4/\Sy r f g o h i a b j k l m u/\(WW 325 (.map (sT f)) (Sg t) (Sl v x y)).run prog w4=.ok () u/\∀K,Lk u K->Q (Rt (Tu #[])) K))):Cp 234 #[bp r,Sl (sT (Ab g o)) 3 c] w Q:=by obtain⟨W,X,Y,Z,y4,y5⟩:=V;have L:=hZ J;clear J;delta Cp;go_in;go_wp2_with (first|(go_at_call 290;refine Ds bD ?_)|(go_at_call 291;refine L.o.mo ?_;rintro e w2 (⟨⟨p,rfl⟩,n⟩|⟨t,rfl,M,c2,n⟩);(exact⟨rfl,n⟩);obtain⟨N,HQ⟩:=aN M n;clear M n;refine hO ?_));obtain⟨z0,O,P,R,S,T⟩:=N.o;have B:Hid (Sy r f g o h i a b j k l m w2):=⟨c2,z0,O,P,R,S,T⟩;have q:Hid (Sy r f g o h i a b j k l m w2.drew):=⟨c2,z0,O,P,R,S,T⟩;clear W X Y Z y4 y5 L N;refine hZ ?_;go_wp2_with (fail);go_region_held2 (λw'=>Sy r f g o h i a b j k l m w') (first|(with_reducible exact q.o)|(with_reducible exact B.o)|(with_reducible exact E.o)|(with_reducible exact F.o)) (first|(go_at_call 294;refine(HQ.o _ Lq).mo ?_;rintro e w4 (⟨⟨p,rfl⟩,n⟩|⟨v,x,y,u,rfl,G,H,a0,d⟩);(exact⟨rfl,n⟩);obtain⟨E,F,s⟩:=cB G H d;clear d));all_goals (go_wp2;go_end0;exact s.o _ (by first|with_reducible exact iR|with_reducible exact iS))
end
section
open Go.RowKit Go.Shelf
open Sc
theorem yE(x:Xs)(t:Bs)(m:Int)(d:Dt):fS x [.sym t m,d]=if(Kw.of t).isSome then(.error 4,x)else match fT d with|none=>(.error 4,x)|some (a,rules)=>(.ok .skip,{x.drop t with macros:=(x.drop t).macros++[⟨t,a,rules⟩]}):=by
 by_cases h:∃u e c rs,d=.list (.sym u e::.list c::rs);obtain⟨u,e,c,rs,rfl⟩:=h;simp only[fS,fT];cases hk:(Kw.of t).isSome with|true=>simp|false=>cases hu:(u==lQ)with|false=>simp|true=>simp only[Bool.not_true,Bool.or_false,XC,if_false,if_true];cases cA c with|none=>rfl|some a=>simp only[Option.bind_some];cases eU a rs<;>rfl
 have e1:fT d=sV:=by unfold fT;split;exact absurd ⟨_,_,_,_,rfl⟩ h;rfl
 have e2:fS x [.sym t m,d]=(.error 4,x):=by unfold fS;split;rename_i b;simp only[List.cons.injEq]at b;exact absurd ⟨_,_,_,_,b.2.1⟩ h;rfl
 rw[e1,e2];split<;>rfl
theorem Ke{d1:Dt}(x:Xs)(d:Dt)(h:∀t k,d1=.sym t k->(Kw.of t).isSome):fS x [d1,d]=(.error 4,x):=by cases d1 with|sym t k=>rw[yE,if_pos (h t k rfl)]|_=>rfl
theorem Kf(x:Xs)(r:List Dt)(h:r.length≠2):fS x r=(.error 4,x):=by unfold fS;split;simp at h;rfl
theorem yQ(S:Sub):nM KM S:=by
 intro X G m x w t0 k r a len cap Z;obtain⟨g,i,v,a0⟩:=Z;have l:=v.len;simp only[List.length_cons]at l;by_cases hr:r.length=2;obtain⟨d1,n,rfl⟩:∃d1 n,r=[d1,n]:=by match r,hr with|[d1,n],_=>exact⟨d1,n,rfl⟩
 have l:len=3:=l;subst l;obtain⟨g0,o,a1,rfl,q,y⟩:=v.mem Om;obtain⟨⟨yk,yn,A,f,ym,ya,yl,yc⟩,a2,K⟩:=y 1 d1 rfl;obtain⟨⟨zk,zn,B,C,zm,za,zl,zc⟩,a3,M⟩:=y 2 n rfl;have a4:S6w g0 (o+6) yk yn A f ym ya yl yc w:=by have h:=K w (g.imm q);exact RK
 have D:∀W:Wd,W.heap[g0]? =sT (Cl a1 134)->S6w g0 (o+12) zk zn B C zm za zl zc W:=λW hW=>by have h:=M W hW;rw[show o+2*6=o+12 from rfl]at h;exact⟨h 0 Om,h 1 Om,h 2 Om,h 3 Om,h 4 Om,h 5 Om⟩
 have a5:aH n<=1000000000000:=by simp only[aJ]at a0;omega
 have z:=vW g i a2;rw[show Dl.cells ⟨yk,yn,A,f,ym,ya,yl,yc⟩=#[Ii yk,Ii yn,.bool A,Sg f,Ii ym,Sl ya yl yc]from rfl]at z;refine Kh X.mm zk zn B C zm za zl zc a4 ?_;refine Calls.mo z ?_;rintro e w2 (⟨t,tk,rfl,a6,V,rfl,g2,i2,a7⟩|⟨a8,rfl,s⟩);have V:t=f.data.toList:=V;have N:fS x [.sym t tk,n]=match fT n with|none=>(.error 4,x)|some (j,d)=>(.ok .skip,{x.drop t with macros:=(x.drop t).macros++[⟨t,j,d⟩]}):=by rw[yE,if_neg (by rw[a6];simp)]
 have c2:∀{H:Gh} {w':Wd},G.le H->(∀{b:Nat} {o:Obj},H.I b=sT o->w'.heap[b]? =sT o)->w'.cell? (Ab X.xb 2)=sT (.map (sT X.mm)):=λa9 O=>by have:=O (a9.I i.xe);simp only[UT,this];rfl
 refine .inr ⟨f,rfl,D w2 (g2.imm q),c2 (Gh.le.refl _) (λh=>g2.imm h),λw' E=>?_⟩;have g3:=Inv.lk E g2;have Y:=i2.below (bE E);have b0:=a7.lk E;refine Calls.mo (Oy g3 ⟨zk,zn,B,C,zm,za,zl,zc⟩ a3 a5) ?_;rintro e w4 (⟨rfl,s,F⟩|⟨H',j,d,P,Q,R,rfl,F,u,hR⟩);refine .inl ⟨⟨_,rfl⟩,.inl ⟨_,rfl,.inl ⟨4,x,by rw[N,F],rfl,g3.cntB (eR _) s,?_⟩⟩⟩;have b1:Mt X.rb x.count S.rewrites 12 w':=Y.mt;exact b1.keep (s.block _ (eW (Y.lo _ Sm).2.2.1 Y.sl));have g4:=u.inv g3;have i4:=Y.mv u.mv;obtain⟨es,c,L,m1,m2,m3⟩:=i4.mc;have T:∀mc,mc∈(x.drop t).macros->mc.name≠t:=λmc b2=>by have:=(List.mem_filter.1 b2).2;simpa using this
 obtain⟨b3,U⟩:=BC es L f (Sl P Q R) m2 (λp hp=>by obtain⟨mc,h1,h2⟩:=m3.names p hp;rw[<-h2,<-V];exact T mc h1) w4 m1;rw[<-V]at U;have g5:=g4.setB i4 (.map (es.push ⟨Sg f,Sl P Q R,c⟩) (c+1));have i5:XInv KM X H' S {x.drop t with macros:=(x.drop t).macros++[⟨t,j,d⟩]} [] (setB w4 X.mm (.map (es.push ⟨Sg f,Sl P Q R,c⟩) (c+1))):=i4.setMac (x':={x.drop t with macros:=(x.drop t).macros++[⟨t,j,d⟩]}) rfl U (McRows.snoc (mc:=⟨t,j,d⟩) (hR t) m3 T);have b4:Mx X G w X H' (setB w4 X.mm (.map (es.push ⟨Sg f,Sl P Q R,c⟩) (c+1))):=(b0.t (Mx.of u.mv)).setB _;refine .inr ⟨P,Q,R,_,rfl,⟨c2 u.ext.le (λh=>u.imm h),D _ (u.imm (u.ext.le.I q))⟩,⟨c2 u.ext.le (λh=>g5.imm h),D _ (g5.imm (u.ext.le.I q))⟩,b3,λw6 J=>.inr ⟨_,rfl,rfl,X,H',_,by rw[N,F],b4.lk J,Inv.lk J g5,i5.below (bE J)⟩⟩;exact .inl ⟨⟨_,rfl⟩,.inl ⟨_,rfl,TPost.bad g i (Ke x n a8) s⟩⟩;refine Calls.mo (Kg Om) ?_;rintro e w' ⟨rfl,hb⟩;exact .inl ⟨_,rfl,TPost.bad g i (Kf x r hr) hb⟩
end
section
open Go.RowKit Go.Shelf
open Sc
structure NoRead (rk mb rb:Nat) (c k:Int) (w1 w2:Wd):Prop where
 run:w2.heap[rk]? =sT (Cl (cP mb rb 0 c k ⟨#[]⟩) 112)
 else':∀b,b<w1.heap.size->b≠rk->w2.heap[b]? =w1.heap[b]?
 size:w1.heap.size<=w2.heap.size
 os:w2.os=w1.os
 tape:w2.tape=w1.tape
 output:w2.output=w1.output
theorem DJ(rk l rb:Nat)(t:BA)(w:Wd)(c k:Int)(Q:Wd->Prop)(d:Cp 58 #[Sg t] w λe a=>∃N,e=Rt (Tu #[Sl sV 0 0,bp N])/\N≠rk/\a.heap[N]? =sT (Cl #[Ii c,Ii k] 126)/\a.heap[rk]? =sT (Cl (cP l rb 0 0 0 ⟨#[]⟩) 112)/\∀w2,NoRead rk l rb c k a w2->Q w2):Cp 82 #[bp rk,Sg t] w λe w'=>e=Pk (aB (aD 3))/\Q w':=by
 have H:=hZ d;clear d;delta Cp;go_in;go_wp2_with (go_at_call 58;refine H.o.mo ?_;rintro e a ⟨N,rfl,hne,g,f,m⟩;have r:=hZ m;clear m;refine hO ?_);obtain⟨z,n⟩:=aN g f;have h:a.cell? (Aa N)=sT (Ii c):=Ce g;have i:a.cell? (Ab N 1)=sT (Ii k):=Ce g;have A:a.cell? (Ab rk 3)=sT (Ii 0):=Ce f;have B:a.cell? (Ab rk 4)=sT (Ii 0):=Ce f;have C:∀o,a.frozen? (Ab rk o)=xN:=λo=>by simp[UU,f]
 have p:rk≠N:=λe=>hne e.symm;clear g f;refine hZ ?_;go_wp2_with (fail);go_region_held3 (λw'=>w'.cell? (Aa N)=sT (Ii c)/\w'.cell? (Ab N 1)=sT (Ii k)) (first|(exact⟨h,i⟩)|(exact⟨aQ h hne,aQ i hne⟩)|(exact⟨aQ (aQ h hne) hne,aQ (aQ i hne) hne⟩)|go_keep) (fail);all_goals (go_wp2_with (go_at_call 131;refine iC fL λo=>?_))
 have s:=(eE.1 n.o).1;have u:=fN (o:=3) (v:=Ii c) n.o;have x:=fN (o:=4) (v:=Ii k) u;have j:((a.setCell (Ab rk 3) (Ii c)).setCell (Ab rk 4) (Ii k)).heap.size=a.heap.size:=by rw[aL,aL]
 refine⟨rfl,rfl,r.o _ ⟨?_,λb y q=>?_,?_,rfl,rfl,rfl⟩⟩;show(((a.setCell (Ab rk 3) (Ii c)).setCell (Ab rk 4) (Ii k)).alloc o).heap[rk]? =_;rw[eH _ _ _ (by rw[j];exact s)];exact x;show(((a.setCell (Ab rk 3) (Ii c)).setCell (Ab rk 4) (Ii k)).alloc o).heap[b]? =_;rw[eH _ _ _ (by rw[j];exact y),aG _ q,aG _ q];show _<=(((a.setCell (Ab rk 3) (Ii c)).setCell (Ab rk 4) (Ii k)).heap.push _).size;rw[Array.size_push,j];omega
end
section
open Go.RowKit Go.Shelf
open Sc
def dY(t:BA)(sa:OA)(sn sc:Nat)(li ti dr:Vu)(g f r q m:Int):Array Vu:=#[Sg t,Sl sa sn sc,li,ti,dr,Ii g,Ii f,Ii r,Ii q,Ii m]
theorem RN{c:Prop}(h:c:=by
  have H:=hZ h;clear h;go_enter func130,ntmps130
  go_wp2;go_ret;exact⟨by rw[H.o];rfl,rfl⟩):c:=h
theorem It(a b:Int)(w:Wd):Cp 130 #[Ii a,Ii b] w λe w'=>e=Rt (.bool (dG a b))/\w'=w:=by by_cases c:0<=a;by_cases d:a<=b;have h:dG a b=xA:=decide_eq_true ⟨c,d⟩;exact RN;have h:dG a b=xN:=decide_eq_false λh=>d h.2;exact RN;have h:dG a b=xN:=decide_eq_false λh=>c h.1;exact RN
theorem six(a b c d e f:Bool):a=xN\/(a=xA/\b=xN)\/(a=xA/\b=xA/\c=xN)\/(a=xA/\b=xA/\c=xA/\d=xN)\/(a=xA/\b=xA/\c=xA/\d=xA/\e=xN)\/(a=xA/\b=xA/\c=xA/\d=xA/\e=xA/\f=xN)\/(a=xA/\b=xA/\c=xA/\d=xA/\e=xA/\f=xA):=by cases a<;>cases b<;>cases c<;>cases d<;>cases e<;>cases f<;>simp
def eX(sn:Nat)(g f r q m:Int):Bool:=dG g 31&&dG f 20000&&dG r 500&&dG q 5000&&dG m 2000&&decide (sn<=8)
def lM(t:BA)(sa:OA)(sn sc:Nat)(li ti dr:Vu)(g f r q m:Int)(w:Wd)(e:En)(w':Wd):Prop:=
 if eX sn g f r q m then e=Rt (Tu #[])/\Lk (w.alloc (Cl (dY t sa sn sc li ti dr g f r q m) 34)) w' else e=Pk (aB (aD 2))/\Below w.heap.size w w'
theorem SA{c:Prop}(h:c:=by
  go_enter func80,ntmps80
  go_wp2_with (first|(go_at_call 130;refine(U.o _ _ _).mo ?_;rintro e w1 ⟨rfl,hww⟩;obtain rfl:=hww.symm)|(go_at_call 131;refine(fL).mo ?_;rintro e w2 ⟨rfl,o,rfl⟩))
  exact⟨rfl,hf.o _ ((aA _ _).alloc Sm _)⟩):c:=h
theorem wQ{t:BA}{sa:OA}{m:Int}:Cp 80 #[Ag (dY t sa r sc Y Z dr g f A q m)] w (lM t sa r sc Y Z dr g f A q m w):=by
 have U:=hZ It;have k:Hid (eX r g f A q m=xA->∀w',Lk (w.alloc (Cl (dY t sa r sc Y Z dr g f A q m) 34)) w'->lM t sa r sc Y Z dr g f A q m w (Rt (Tu #[])) w'):=λh w' n=>by unfold lM;rw[if_pos h];exact⟨rfl,n⟩
 have i:Hid (eX r g f A q m=xN->∀w',Bt w w'->lM t sa r sc Y Z dr g f A q m w (Pk (aB (aD 2))) w'):=λh w' n=>by unfold lM;rw[if_neg (by rw[h];simp)];exact⟨rfl,n⟩
 show Cp 80 #[Ag #[Sg t,Sl sa r sc,Y,Z,dr,Ii g,Ii f,Ii A,Ii q,Ii m]] w _;rcases six (dG g 31) (dG f 20000) (dG A 500) (dG q 5000) (dG m 2000) (decide (r<=8))with a|⟨a,b⟩|⟨a,b,d⟩|⟨a,b,d,j⟩|⟨a,b,d,j,l⟩|⟨a,b,d,j,l,c⟩|⟨a,b,d,j,l,c⟩;case' inr.inr.inr.inr.inr.inr=>have hf:=hZ (k.o (by simp[eX,a,b,d,j,l,c]));(have o:¬(8:Int)<(r:Int):=by have:=of_decide_eq_true c;omega);clear c k i;delta Cp;go_in;go_wp2_with (go_at_call 130;refine Ds (U.o _ _ _) ?_);go_end0;exact hf.o _ ⟨rfl,rfl,rfl,rfl⟩
 case' inr.inr.inr.inr.inr.inl=>have hf:=hZ (i.o (by simp[eX,a,b,d,j,l,c]));(have o:(8:Int)<(r:Int):=by have:=of_decide_eq_false c;omega);clear c k i;exact SA
 all_goals have hf:=hZ (i.o (by simp[eX, *]));clear k i;exact SA
end
section
open Go.RowKit Go.Shelf
open Sc
theorem yC(c:1200<s.size):Cp 58 #[Sg s] w λe w'=>Bt w w'/\∃N,e=Rt (Tu #[Sl sV 0 0,bp N])/\w.heap.size<=N/\w'.heap[N]? =sT (Cl #[Ii 1,Ii 0] 126):=by have a:decide (1200<(s.size:Int))=xA:=So;have b:=hZ (eN w (Cl #[Ii 1,Ii 0] 126));delta Cp;go_in;go_wp2;go_ret2;exact⟨aA _ _,_,rfl,eR _,b.o⟩
def gA(t:BA):Option (Nat×Nat):=if 1200<t.size then sT (1,0)else match Py.topP (2*t.size+2) (Rd.L t 0)with
 | .inl (c,k)=>sT (c,t.size-k)
 | .inr _=>sV
theorem yB{t:BA}{c:Nat}(w:Wd)(h:gA t=sT (c,k))(d:Rd.GV w)(f:6<=w.heap.size):Cp 58 #[Sg t] w λe w'=>Bt w w'/\∃N,e=Rt (Tu #[Sl sV 0 0,bp N])/\w.heap.size<=N/\w'.heap[N]? =sT (Cl #[Ii (c:Int),Ii (k:Int)] 126):=by
 unfold gA at h;by_cases b:1200<t.size;rw[if_pos b]at h;obtain⟨rfl,rfl⟩:c=1/\k=0:=by simpa[eq_comm]using h
 exact yC b;rw[if_neg b]at h;have a:=Rd.text_any t w Om d f;cases hp:Py.topP (2*t.size+2) (Rd.L t 0)with|inl r=>obtain⟨c',g⟩:=r;rw[hp]at h a;(obtain⟨rfl,rfl⟩:c'=c/\t.size-g=k:=by simpa using h);exact Calls.mo a λe w' h=>⟨h.1,h.2⟩|inr r=>rw[hp]at h;simp at h
theorem DH{rb c:Nat}{t:BA}(h:gA t=sT (c,k))(g:Rd.GV w)(i:6<=w.heap.size)(d:w.heap[r]? =sT (Cl (cP d0 rb 0 0 0 ⟨#[]⟩) 112)):Cp 82 #[bp r,Sg t] w λe w'=>e=Pk (aB (aD 3))/\w'.heap[r]? =sT (Cl (cP d0 rb 0 c k ⟨#[]⟩) 112)/\(∀b,b<w.heap.size->b≠r->w'.heap[b]? =w.heap[b]?)/\w.heap.size<=w'.heap.size/\w'.os=w.os/\w'.tape=w.tape/\w'.output=w.output:=by have j:=(eE.1 d).1;refine DJ r d0 rb t w c k (λw'=>w'.heap[r]? =sT (Cl (cP d0 rb 0 c k ⟨#[]⟩) 112)/\(∀b,b<w.heap.size->b≠r->w'.heap[b]? =w.heap[b]?)/\w.heap.size<=w'.heap.size/\w'.os=w.os/\w'.tape=w.tape/\w'.output=w.output) (Calls.mo (yB w h g i) ?_);rintro e n ⟨a,N,rfl,o,l⟩;refine⟨N,rfl,by omega,l,(a.block _ j).t d,λw2 q=>⟨q.run,λb f m=>(q.else' b (eW f a.size) m).t (a.block _ f),eT a.size q.size,q.os.t a.os,q.tape.t a.tape,q.output.t a.output⟩⟩
end
section
open Go.RowKit Go.Shelf
open Sc
def bI(t:BA):Option Dt:=if 1200<t.size then sV else match Py.topP (2*t.size+2) (Rd.L t 0)with
 | .inr ([f],_)=>sT f.1
 |_=>sV
def PQ(t:BA)(w:Wd)(e:En)(w1:Wd):Prop:=Below w.heap.size w w1/\
 ((bI t=sV/\∃N,e=Rt (Tu #[Sl sV 0 0,bp N]))\/
  (bI t=sV/\∃a n c,e=Rt (Tu #[Sl a n c,.pointer sV])/\n≠1)\/
  (∃d x g c,bI t=sT d/\e=Rt (Tu #[Sl (sT (Aa g)) 1 c,.pointer sV])/\(w1.cell? (Aa g)=sT (Ii x.k)/\w1.cell? (Ab g 1)=sT (Ii x.n)/\w1.cell? (Ab g 2)=sT (.bool x.tr)/\w1.cell? (Ab g 3)=sT (Sg x.tx)/\w1.cell? (Ab g 4)=sT (Ii x.m)/\w1.cell? (Ab g 5)=sT (Sl x.a x.len x.cap))/\Rd.Rep w.heap.size Rd.NoB w1 32 x d))
theorem Tj{t:BA}{w:Wd}(p:Rd.GV w)(q:6<=w.heap.size):Cp 58 #[Sg t] w (PQ t w):=by by_cases i:1200<t.size;refine Calls.mo (yC i) ?_;rintro e n ⟨k,N,rfl,-,-⟩;exact⟨k,.inl ⟨by rw[bI,if_pos i],N,rfl⟩⟩;have b:=Rd.text_any t w Om p q;cases hp:Py.topP (2*t.size+2) (Rd.L t 0)with|inl r=>rw[hp]at b;refine Calls.mo b ?_;rintro e n ⟨k,N,rfl,-,-⟩;exact⟨k,.inl ⟨by rw[bI,if_neg i,hp],N,rfl⟩⟩|inr r=>obtain⟨fs,y⟩:=r;rw[hp]at b;refine Calls.mo b ?_;rintro e n ⟨k,es,a,cap,rfl,l,m,o,-⟩;refine⟨k,?_⟩;(have d:es.length=fs.length:=by have:=congrArg WN o;simpa using this);match fs,d with|[f],d=>(match es,d with|[x],_=>obtain⟨g,s,rfl,-,u,v,-⟩:=zC l 0 x rfl;(have c:∀j,j<6->n.cell? (Ab g j)=(dJ x.1).cells[j]?:=λj h=>by have:=v j h;simp only[UT,u];simpa using this);exact .inr (.inr ⟨f.1,x.1,g,cap,by rw[bI,if_neg i,hp],rfl,⟨c 0 Om,c 1 Om,c 2 Om,c 3 Om,c 4 Om,c 5 Om⟩,m.all 0 _ _ rfl rfl⟩))|[],d=>exact .inr (.inl ⟨by rw[bI,if_neg i,hp],a,es.length,cap,rfl,λh=>by rw[d]at h;simp at h⟩)|f::g::r,d=>exact .inr (.inl ⟨by rw[bI,if_neg i,hp],a,es.length,cap,rfl,λh=>by rw[d]at h;simp at h⟩)
end
section
open Go.RowKit Go.Shelf
open Sc
theorem Qp{t:BA}(w:Wd)(b:gA t=sV)(i:bI t=sV)(o:Rd.GV w)(p:6<=w.heap.size):Cp 58 #[Sg t] w λe j=>Bt w j/\∃a n c,e=Rt (Tu #[Sl a n c,.pointer sV])/\n≠1:=by unfold gA at b;by_cases g:1200<t.size;rw[if_pos g]at b;cases b;rw[if_neg g]at b;have d:=Rd.text_any t w Om o p;cases hp:Py.topP (2*t.size+2) (Rd.L t 0)with|inl r=>rw[hp]at b;cases b|inr r=>obtain⟨fs,u⟩:=r;rw[hp]at d;refine Calls.mo d ?_;rintro e j ⟨q,es,a,cap,rfl,k,l,h,-⟩;(have s:es.length=fs.length:=by have:=congrArg WN h;simpa using this);refine⟨q,a,es.length,cap,rfl,λm=>?_⟩;rw[s]at m;match fs,m with|[f],_=>rw[bI,if_neg g,hp]at i;cases i
theorem Qo{t:BA}(w:Wd)(d:Dt)(f:bI t=sT d)(i:Rd.GV w)(j:6<=w.heap.size):Cp 58 #[Sg t] w λe b=>Bt w b/\∃(x:Rd.El) (g c:Nat),e=Rt (Tu #[Sl (sT (Aa g)) 1 c,.pointer sV])/\(b.cell? (Aa g)=sT (Ii x.k)/\b.cell? (Ab g 1)=sT (Ii x.n)/\b.cell? (Ab g 2)=sT (.bool x.tr)/\b.cell? (Ab g 3)=sT (Sg x.tx)/\b.cell? (Ab g 4)=sT (Ii x.m)/\b.cell? (Ab g 5)=sT (Sl x.a x.len x.cap))/\Rd.Rep w.heap.size Rd.NoB b 32 x d:=by refine Calls.mo (Tj i j) ?_;rintro e b ⟨l,⟨h,_⟩|⟨h,_⟩|⟨r,x,g,c,h,o,p,q⟩⟩;rw[f]at h;cases h;rw[f]at h;cases h;rw[f]at h;cases h;exact⟨l,x,g,c,o,p,q⟩
def StrsAt(w:Wd)(a:OA)(ts:List BA):Prop:=∀i,i<ts.length->∃b o,a=sT (Ab b o)/\b<w.heap.size/\w.cell? (Ab b (o+i))=sT (Sg (ts.getD i ⟨#[]⟩))
structure SecR (w:Wd) (ts:List BA) (ds:List Dt) (a:OA) (n c:Nat) (w':Wd):Prop where
 len:n=ds.length
 all:ts.map bI=ds.map sT
 bel:Below w.heap.size w w'
 row:∃es:List Rd.El,w'.ownsRow w.heap.size 134 6 (Sl a n c) n (es.flatMap Rd.El.cells)/\Rd.Mem w.heap.size 32 (Rd.Bl (Sl a n c)) w' es ds
def PK(w:Wd)(ts:List BA)(e:En)(w':Wd):Prop:=(e=Pk (aB (aD 2))/\(∃t,t∈ts/\bI t=sV)/\Below w.heap.size w w')\/(∃a n c ds,e=Rt (Sl a n c)/\SecR w ts ds a n c w')
theorem Kb{d:Dt}(h:(ts.take k).map bI=i5.map sT)(b:k<ts.length)(a:bI (ts.getD k ⟨#[]⟩)=sT d):(ts.take (k+1)).map bI=(i5++[d]).map sT:=by rw[YO,VK,h];simp only[eG b,List.getD_eq_getElem?_getD,Option.getD_some,Option.toList_some,List.map_cons,List.map_nil,VK]at a|-;rw[a]
theorem CL(c:Rd.GV w)(a:6<=w.heap.size)(b:Bt w w'):Rd.GV w'/\6<=w'.heap.size:=⟨GV.below c b a,eT a b.size⟩
theorem SB{c:Prop}(h:c:=by
  exact⟨rfl,.inl ⟨rfl,⟨t,HMt.o,HNo.o⟩,(HB.o.t (HB1.o.mo HB.o.size)).alloc (HB.o.t (HB1.o.mo HB.o.size)).size _⟩⟩):c:=h
theorem tA{sa:OA}{sn:Nat}(hn:sn=ts.length)(h8:sn<=8)(hT:StrsAt w sa ts)(hV:Rd.GV w)(h6:6<=w.heap.size):Cp 81 #[Sl sa sn sc] w (PK w ts):=by
 obtain⟨i0,R,a0,a1,a2⟩:=info_parts info134;obtain⟨HN,HT,HG⟩:=cB hn hT (λw' hb=>CL (w':=w') hV h6 hb);clear hT hV hn;delta Cp;go_in;go_wp2;go_loopw [10,3] (λc s wr=>∃(k:Nat) (ka:OA) (kc:Nat) (S:List Dt) (es:List Rd.El),k<=sn/\c=Ii (k:Int)/\s=Sl ka k kc/\k=S.length/\(ts.take k).map bI=S.map sT/\wr.ownsRow w.heap.size 134 6 (Sl ka k kc) k (es.flatMap Rd.El.cells)/\Rd.Mem w.heap.size 32 (Rd.Bl (Sl ka k kc)) wr es S/\Bt w wr) (λc _ _=>sn-(intOf c).toNat);case atStart=>exact⟨0,sV,0,[],[],XG _,rfl,rfl,rfl,rfl,World.ownsRow_nil _ _ _ _,Rd.Mem.nil _ _ _ _,Below.refl _ _⟩
 case round=>obtain⟨k,ka,kc,S,es,hk,rfl,rfl,a3,B,C,D,a4⟩:=hrel;obtain⟨a5,E,f,y,HB⟩:=fR a3 B C D a4;clear a3 B C D a4;by_cases J:k<sn;(·obtain⟨b,o,rfl,a6,K⟩:=HT.o k (by rw[<-HN.o];exact J);(have L:ts.getD k ⟨#[]⟩∈ts:=by simp only[List.getD_eq_getElem?_getD,eG (show k<ts.length by rw[<-HN.o];exact J),Option.getD_some];exact List.getElem_mem _);obtain⟨t,ht⟩:∃t,t=ts.getD k ⟨#[]⟩:=⟨_,rfl⟩;rw[<-ht]at K L;obtain⟨b1,HMt⟩:=aN ht L;have ct:=(HB.o.cell (p:=Ab b (o+k)) a6).t K;have b6:(0:Int)<=(k:Int):=Om;have b7:(k:Int)<(sn:Int):=Om;clear K a6 L ht;obtain⟨T,U⟩:=HG.o wr HB.o;cases ho:bI t with|none=>have HNo:=hZ ho;(cases M:gA t with|some ck=>obtain⟨c,j⟩:=ck;have n:=hZ (yB wr M T U);clear ho M T U;go_wp2_with (first|(go_at_call 58;refine n.o.mo ?_;rintro e F ⟨l,N,rfl,-,-⟩;have HB1:=hZ l;clear l)|(go_at_call 131;refine iC fL λoo=>?_));exact SB|none=>have n:=hZ (Qp wr M ho T U);clear ho M T U;go_wp2_with (first|(go_at_call 58;refine n.o.mo ?_;rintro e F ⟨l,fa,fn,fc,rfl,b2⟩;have HB1:=hZ l;have b8:((fn:Int)==1)=xN:=So;clear l b2)|(go_at_call 131;refine iC fL λoo=>?_));exact SB)|some d=>obtain⟨b3,n⟩:=aN ho (Qo wr d ho T U);clear ho T U;go_wp2_with (go_at_call 58;refine n.o.mo ?_;rintro e F ⟨l,⟨V,W,q,r,X,Y,Z,xc⟩,g,c,rfl,⟨x0,x1,x2,x3,x4,x5⟩,G⟩;obtain⟨HB1,HRep⟩:=aN l G;clear l G;refine hO ?_);obtain⟨a7,m⟩:=aN (HB.o.t (HB1.o.mo HB.o.size)) (dR f.o λg hg=>HB1.o.block _ (f.o.lt g hg).2);have HV:Hid (∀j,(Value.slice ka k kc).ownBlock=sT j->j<wr.heap.size):=λj hj=>(f.o.lt j hj).2;have a8:wr.grownBy F sV:=⟨HB1.o.os,HB1.o.tape,HB1.o.output,HB1.o.size,λi R _=>HB1.o.block i R⟩;have z:=hZ (y.o.kept a8 (λg h=>by cases h));have b4:=a7.o.size;clear a8 y f n;refine hZ ?_;go_wp2_with (at_builtin;refine wpList_append_lies _ rfl _ _ 132 rfl w.heap.size 134 i0 (Ag #[Ii 0,Ii 0,.bool xN,Sg ⟨#[]⟩,Ii 0,Sl sV 0 0]) 6 72 underlying132 R a0 a1 a2 rfl De _ _ _ rfl (m.o.alloc _) (Aa F.heap.size) 1 1 [Ii V,Ii W,.bool q,Sg r,Ii X,Sl Y Z xc] rfl rfl ?c1 ?c2 De ?c3 ?c4 ?c5 (F.heap.size+1) ?c6 ?_);(case c1=>exact VI (cs:=#[Ii V,Ii W,.bool q,Sg r,Ii X,Sl Y Z xc]) (eN F _));(case c2=>intro u M;simp at M;rcases M with rfl|rfl|rfl|rfl|rfl|rfl<;>rfl);(case c3=>unfold maxLen;omega);(case c4=>omega);(case c5=>simp;omega);(case c6=>simp);intro g3 H w3 A a I a9;refine hO ?_;have O:=World.grownBy_alloc F (Cl #[Ii V,Ii W,.bool q,Sg r,Ii X,Sl Y Z xc] 134) sV;have P:=hZ (Rd.Mem.grow (sl:=Sl (sT (Aa g3)) (k+1) H) (x:=⟨V,W,q,r,X,Y,Z,xc⟩) (lo2:=wr.heap.size) (z.o.kept O (λg h=>by cases h)) a I Sm rfl (Rd.Rep.kept O (λg h=>by cases h) HRep.o) HB.o.size HV.o);(have b0:Bt w w3:=by have v:Bt w (F.alloc (Cl #[Ii V,Ii W,.bool q,Sg r,Ii X,Sl Y Z xc] 134)):=a7.o.alloc b4 _;exact⟨a.os.t v.os,a.tape.t v.tape,a.output.t v.output,eT v.size a.size,λi R=>by rw[a.block i (eW R v.size) (λe=>by have:=(m.o.lt i e.symm).1;omega)];exact v.block i R⟩);obtain⟨b5,Q⟩:=aN b0 A;clear A a I a9 O b0 z m HRep HV x0 x1 x2 x3 x4 x5;refine hZ ?_;go_wp2;refine⟨⟨k+1,sT (Aa g3),H,S++[d],es++[⟨V,W,q,r,X,Y,Z,xc⟩],by omega,by push_cast;rfl,rfl,by rw[List.length_append,<-a5.o];rfl,Kb E.o (by rw[<-HN.o];exact J) (by rw[<-b1.o];exact b3.o),?_,P.o,b5.o⟩,?_⟩;have:=Q.o;rw[List.flatMap_append];simpa[Rd.El.cells]using this;simp[intOf];omega);obtain rfl:k=sn:=Om;have b9:¬(k:Int)<(k:Int):=Om;go_wp2;go_ret;refine .inr ⟨_,_,_,S,rfl,a5.o,?_,HB.o,es,f.o,y.o⟩;have:=E.o;rw[List.take_of_length_le (by rw[HN.o];omega)]at this;exact this
end
section
open Go.RowKit Go.Shelf
open Sc
theorem NK(g:Int)(c:0<=g)(d:g<=31)(p:Nat)(b:p∈[1,2,4,8,16]):(bits BinOp.and UZ g (p:Int)==0)=!decide (g.toNat / p % 2=1):=by have h:(List.range 32).all (λn=>[1,2,4,8,16].all λp=>(bits BinOp.and UZ (n:Int) ((p:Nat):Int)==0)==!decide (n / p % 2=1))=xA:=Kr;have a:=List.all_eq_true.1 (List.all_eq_true.1 h g.toNat (List.mem_range.2 Om)) p b;rw[show((g.toNat:Nat):Int)=g by omega]at a;exact eq_of_beq a
def nT(g:Int)(p:Nat)(w:Wd)(e:En)(w':Wd):Prop:=if g.toNat / p % 2=1 then e=Rt (If 322 (bp w.heap.size))/\Lk (w.alloc (Cl #[Ii (p:Int)] 324)) w' else e=Rt (If 181 (.bool xN))/\Lk w w'
theorem CN(b:0<=g)(c:g<=31)(d:p∈[1,2,4,8,16]):Cp 141 #[Ii g,Ii (p:Int)] w (nT g p w):=by
 have a:=NK g b c p d;by_cases h:g.toNat / p % 2=1;·rw[decide_eq_true h]at a;have a:(bits BinOp.and UZ g (p:Int)==0)=xN:=a;(have e:Hid (∀w',Lk (w.alloc (Cl #[Ii (p:Int)] 324)) w'->nT g p w (Rt (If 322 (bp w.heap.size))) w'):=λw' f=>by unfold nT;rw[if_pos h];exact⟨rfl,f⟩);clear h d b c;delta Cp;go_in;go_wp2;go_ret;exact e.o _ ⟨rfl,rfl,rfl,rfl⟩
 rw[decide_eq_false h]at a;have a:(bits BinOp.and UZ g (p:Int)==0)=xA:=a;have e:Hid (∀w',Lk w w'->nT g p w (Rt (If 181 (.bool xN))) w'):=λw' f=>by unfold nT;rw[if_neg h];exact⟨rfl,f⟩
 clear h d b c;delta Cp;go_in;go_wp2;go_ret;exact e.o _ ⟨rfl,rfl,rfl,rfl⟩
end
section
open Go.RowKit Go.Shelf
open Sc
def PL(q1 bx sb i:Nat)(St:Wd->Prop)(Q:En->Wd->Prop)(e:En)(w2:Wd):Prop:=((∃p,e=Pk p)/\Q e w2)\/(e=Rt (Tu #[])/\(∃v,(w2.alloc (Cl #[.func (.func 228) #[] #[bp q1,bp bx]] 316)).cell? (Ab sb i)=sT v)/\(∀j,(w2.alloc (Cl #[.func (.func 228) #[] #[bp q1,bp bx]] 316)).frozen? (Ab sb j)=xN)/\∀w3,Lk ((w2.alloc (Cl #[.func (.func 228) #[] #[bp q1,bp bx]] 316)).setCell (Ab sb i) (If 285 (bp w2.heap.size))) w3->St w3)
@[reducible] def rX(g o:Nat)(x:Dl)(w:Wd):Prop:=w.cell? (Ab g o)=sT (Ii x.k)/\w.cell? (Ab g (o+1))=sT (Ii x.n)/\w.cell? (Ab g (o+2))=sT (.bool x.tr)/\w.cell? (Ab g (o+3))=sT (Sg x.tx)/\w.cell? (Ab g (o+4))=sT (Ii x.m)/\w.cell? (Ab g (o+5))=sT (Sl x.a x.len x.cap)
theorem Oh{g c:Nat}{sa:OA}(y:Nat)(d:n≠0->sa=sT (Ab g o))(xs:Nat->Dl)(St:Nat->Wd->Prop)(V:n<=8)(A:∀w',Lk ((w.alloc (Cl #[bp r] 107)).alloc (Cl (madeCells #[.nilIface] n) 116)) w'->St 0 w')(B:∀i wr,i<n->St i wr->rX g (o+i*6) (xs i) wr/\(wr.alloc (Cl (xs i).cells 134)).cell? (Aa w.heap.size)=sT (bp r)/\(wr.alloc (Cl (xs i).cells 134)).cell? (Ab r 1)=sT (bp y))(C:∀i wr,i<n->St i wr->∀f,Lk (wr.alloc (Cl (xs i).cells 134)) f->Cp 200 #[bp y,Ii 2] f (PL w.heap.size wr.heap.size (w.heap.size+1) i (St (i+1)) Q))(D:∀wr,St n wr->∀f,Lk wr f->Cp 91 #[Sl (sT (Aa (w.heap.size+1))) n n,If 186 (Ag #[])] f λe w2=>∃t z,e=Rt (If t z)/\∀w3,Lk w2 w3->Q (Rt (If t z)) w3):Cp 140 #[bp r,Sl sa n c] w Q:=by
 obtain⟨G,H,I,J,K⟩:=fR d B C D A;clear d;have L:∀(E:Fn) (first cap:Array Vu) (w:Wd),(ZQ E first cap).run prog w=.ok (.func E first cap) w:=λ_ _ _ _=>rfl;have M:∀w:Wd,(Instr.makeSlice 184 (Ii (n:Int)) (Ii (n:Int))).run prog w=.ok (Sl (sT (Aa w.heap.size)) n n) (w.alloc (Cl (madeCells #[.nilIface] n) 116)):=λw=>run_make_row' 184 116 .nilIface 16 underlying184 oU rfl .i64 .i64 n Om Om w;clear B C D A;delta Cp;go_in;go_wp2;go_loopw [13] (λi wr=>∃k:Nat,k<=n/\i=Ii (k:Int)/\St k wr) (λi _=>n-(intOf i).toNat);case atStart=>exact⟨0,XG _,rfl,K.o _ ⟨rfl,rfl,rfl,rfl⟩⟩
 case round=>obtain⟨k,W,rfl,h⟩:=hrel;have a:=hZ h;clear h;by_cases b:k<n;(·obtain rfl:=G.o Om;have N:(0:Int)<=(k:Int):=Om;have O:(k:Int)<(n:Int):=Om;obtain⟨F,P,s⟩:=H.o k wr b a.o;have j:=hZ (I.o k wr b a.o);obtain⟨x,l⟩:∃x,x=xs k:=⟨_,rfl⟩;rw[<-l]at F P s j;obtain⟨X,Y,R,S,Z,xa,xl,xc⟩:=x;obtain⟨x0,x1,x2,x3,x4,x5⟩:=F;clear l;go_wp2_with (go_at_call 200;refine(j.o _ Lq).mo ?_;rintro e w2 (⟨⟨p,rfl⟩,q⟩|⟨rfl,⟨v,hv⟩,hf,m⟩);(exact⟨rfl,q⟩);have u:=hZ m;clear m);all_goals exact⟨⟨k+1,by omega,by push_cast;rfl,u.o _ ⟨rfl,rfl,rfl,rfl⟩⟩,by simp[intOf];omega⟩);obtain rfl:k=n:=Om;have T:¬(k:Int)<(k:Int):=Om;clear b;go_wp2_with (go_at_call 91;refine(J.o _ a.o _ Lq).mo ?_;rintro e w2 ⟨t,z,rfl,q⟩;have U:=hZ q;clear q);exact U.o _ ⟨rfl,rfl,rfl,rfl⟩
end
section
open Go.RowKit Go.Shelf
open Sc
structure SSt (G:Gh) (S:Sub) (m:Mc) (w:Wd) (n:Nat) (ds:List Dt) (k:Nat) (H:Gh) (wr:Wd):Prop where
 inv:Inv H S {m with cells:=m.cells+2*k,ids:=m.ids+k} wr
 mv:Mv G w H wr
 gb:H.B=G.B
 q1:H.mbox w.heap.size
 sz:wr.heap.size=w.heap.size+2+2*k
 lI:H.I (w.heap.size+1)=sV
 lm:w.heap.size+1∉H.mut
 lF:¬H.F (w.heap.size+1)
 row:∃arr:Array Vu,wr.heap[w.heap.size+1]? =sT (Cl arr 116)/\arr.size=n/\∀j,j<k->∃x,arr[j]? =sT x/\VRep H (.sealD (m.ids+j) (ds.getD j (.num 0))) x
theorem SSt.step{wr:Wd}(h:SSt G S m w n i5 k H wr)(u:k<n){e:Dl}(B:DRep H (i5.getD k (.num 0)) e)(C:((m.cells+2*k+2:Nat):Int)<=S.quota){w3:Wd}(i:Lk (wr.alloc (Cl e.cells 134)) a0)(l:Lk (a0.setCell (Aa H.cb) (Ii ((m.cells+2*k+2:Nat):Int))) w2)(d:Lk ((w2.alloc (Cl #[Ha 228 #[bp w.heap.size,bp wr.heap.size]] 316)).setCell (Ab (w.heap.size+1) k) (If 285 (bp w2.heap.size))) w3):∃L,SSt G S m w n i5 (k+1) L w3:=by
 have y:=Inv.lk i (h.inv.alloc (Cl e.cells 134));have z:=h.inv.x1 (Cl e.cells 134);have p:=Inv.lk l (y.cells (m.cells+2*k+2) C);have D:a0.heap.size=wr.heap.size+1:=by rw[i.heap];simp
 have U:w2.heap.size=wr.heap.size+1:=by rw[l.heap,aL,D]
 have E:=p.newObj (Cl #[Ha 228 #[bp w.heap.size,bp wr.heap.size]] 316);have q:=p.ext_newObj (Cl #[Ha 228 #[bp w.heap.size,bp wr.heap.size]] 316);have F:=p.at_newObj (Cl #[Ha 228 #[bp w.heap.size,bp wr.heap.size]] 316);have f:H.cb∈(H.add wr.heap.size (Cl e.cells 134)).mut:=y.m3;have a:H.le (((H.add wr.heap.size (Cl e.cells 134)).add w2.heap.size (Cl #[Ha 228 #[bp w.heap.size,bp wr.heap.size]] 316)).id w2.heap.size):=z.le.t q.le;have J:=h.sz;have r:w.heap.size+1≠H.cb:=λe=>h.lm (by rw[e];exact f);have A:(((H.add wr.heap.size (Cl e.cells 134)).add w2.heap.size (Cl #[Ha 228 #[bp w.heap.size,bp wr.heap.size]] 316)).id w2.heap.size).I (w.heap.size+1)=sV:=by show((H.add wr.heap.size (Cl e.cells 134)).add w2.heap.size (Cl #[Ha 228 #[bp w.heap.size,bp wr.heap.size]] 316)).I (w.heap.size+1)=sV;rw[aM Om,aM Om];exact h.lI
 have K:=Inv.lk d (E.loose (b:=w.heap.size+1) (o:=k) (v:=If 285 (bp w2.heap.size)) A h.lm h.lF);have M:Mv H wr (H.add wr.heap.size (Cl e.cells 134)) a0:=(Mv.ext z (aA _ _)).lk i;have N:Mv (H.add wr.heap.size (Cl e.cells 134)) a0 (H.add wr.heap.size (Cl e.cells 134)) w2:=⟨Gh.up.refl _,λ_=>rfl,.inl,fun {j} _ s=>by rw[l.heap,aG _ (λe=>s (by rw[e];exact f))],by omega⟩;have g:=h.mv.t (M.t (N.t (Mv.ext q (aA w2 (Cl #[Ha 228 #[bp w.heap.size,bp wr.heap.size]] 316)))));obtain⟨c,O,P,Q⟩:=h.row;have e2:w2.heap[w.heap.size+1]? =sT (Cl c 116):=by rw[l.heap,aG _ r,i.heap,eH _ _ _ Om];exact O
 have e3:(w2.alloc (Cl #[Ha 228 #[bp w.heap.size,bp wr.heap.size]] 316)).heap[w.heap.size+1]? =sT (Cl c 116):=by rw[eH _ _ _ Om];exact e2
 refine⟨_,⟨K,⟨g.up,g.I,g.mu,λu s=>?_,?_⟩,h.gb,a.mbox h.q1,?_,A,h.lm,h.lF,c.setIfInBounds k (If 285 (bp w2.heap.size)),?_,?_,λj V=>?_⟩⟩;rw[d.heap,aG _ (by show _≠w.heap.size+1;omega)];exact g.blk u s;rw[d.heap,aL];exact g.size;rw[d.heap,aL];simp;omega;rw[d.heap];exact fN e3;simp[P];by_cases t:j<k;obtain⟨x,R,T⟩:=Q j t;exact⟨x,by rw[Array.getElem?_setIfInBounds_ne Om];exact R,T.mo a⟩;obtain rfl:j=k:=Om;exact⟨_,Array.getElem?_setIfInBounds_self_of_lt Om,.sealD _ _ _ _ _ e F (Gh.add_at _ _ _) (a.mbox h.q1) (q.le.I (Gh.add_at _ _ _)) (B.mo a)⟩
theorem Xu(w:Wd)(a:OA)(cap:Nat)(vs:List Vl)(xs:List Vu)(rest:Vl)(r:Vu)(i:Inv G S m w)(J:VsRep G vs xs)(K:VRep G rest r)(d:xs=[]\/∃g o,a=sT (Ab g o)/\∀(j:Nat) (h:j<xs.length),w.cell? (Ab g (o+j))=sT xs[j])(hn:xs.length<=1000000):Cp 91 #[Sl a xs.length cap,r] w λe w'=>∃H x,e=Rt x/\G.ext H w.heap.size/\Inv H S (bK m vs rest).2 w'/\VRep H (bK m vs rest).1 x/\Bt w w'/\w'.heap.size=w.heap.size+xs.length/\H.B=G.B:=by
 obtain⟨D,U,q,V⟩:=dT J K d i;clear J K d i;delta Cp;go_in;go_wp2;go_loopw [5,1] (λc x wr=>∃(k:Nat) (H:Gh),k<=xs.length/\c=Ii ((k:Int)-1)/\G.ext H w.heap.size/\Inv H S (bK m (vs.drop k) rest).2 wr/\VRep H (bK m (vs.drop k) rest).1 x/\Bt w wr/\wr.heap.size+k=w.heap.size+xs.length/\H.B=G.B) (λc _ _=>(intOf c+1).toNat);case atStart=>(have L:vs.drop xs.length=[]:=by rw[<-D.o.1];simp);exact⟨xs.length,G,eR _,by first|rfl|go_num,Gh.ext.refl _ _,by rw[L];exact V.o,by rw[L];exact U.o,Below.refl _ _,rfl,rfl⟩
 case round=>obtain⟨k,H,hk,rfl,hle,M,N,s,t,u⟩:=hrel;obtain⟨O,v,HX,y,HLe,b⟩:=gT t u N s hle M;clear t u N s hle M;by_cases W:0<k;(·obtain⟨j,rfl⟩:∃j,k=j+1:=⟨k-1,by omega⟩;have z:j<xs.length:=Om;have E:=q.o;rcases E with X|⟨g,o,rfl,P⟩;rw[X]at z;simp at z;have f:=P j z;have A:wr.cell? (Ab g (o+j))=sT xs[j]:=(y.o.cell (p:=Ab g (o+j)) (aC f)).t f;(have hjv:j<vs.length:=by rw[D.o.1];exact z);have HE:=hZ (D.o.2 j vs[j] xs[j] (eG hjv) (eG z));obtain⟨F,p,l⟩:=HE.o.form;obtain⟨n,I,rfl⟩:=HX.o.form;have HVj:=hZ l;rw[l]at A;clear f P l;have Y:(j:Int)<(xs.length:Int):=Om;go_wp2;go_roundw;(case rel=>have Z:=b.o.newObj (Cl #[If F p,If n I] 252);have hle:=b.o.ext_newObj (Cl #[If F p,If n I] 252);have hat:=b.o.at_newObj (Cl #[If F p,If n I] 252);refine⟨j,_,by omega,by first|rfl|go_num,HLe.o.t hle y.o.size,?_,?_,y.o.alloc y.o.size _,by have:=O.o;simp;omega,v.o⟩;rw[WL hjv,qF];exact Z;exact TT);case measure=>simp[intOf]);have C:k=0:=Om;have Q:=hZ C;clear C;have hq:(k:Int)-1<0:=Om;go_wp2;go_ret;have R:=b.o;have T:=HX.o;rw[Q.o,WG]at R T;exact⟨H,_,rfl,HLe.o,R,T,y.o,by have:=O.o;have:=Q.o;omega,v.o⟩
end
section
open Go.RowKit Go.Shelf
open Sc
theorem SSt.first(i:Inv G S m w)(n:Nat)(b:List Dt)(a:Lk ((w.alloc (Cl #[bp G.mb] 107)).alloc (Cl (madeCells #[.nilIface] n) 116)) w'):SSt G S m w n b 0 (G.add w.heap.size (Cl #[bp G.mb] 107)) w':=by have c:=i.alloc (Cl #[bp G.mb] 107);have x1:=i.x1 (Cl #[bp G.mb] 107);have l:=i.looses (w.heap.size+1) Om;refine⟨Inv.lk a (c.below (aA _ _)),((Mv.ext x1 ((aA _ _).alloc Sm _)).lk a),rfl,Gh.add_at _ _ _,?_,?_,l.2.1,l.2.2,madeCells #[.nilIface] n,?_,?_,λj d=>by omega⟩;rw[a.heap];simp;rw[aM Om];exact l.1;rw[a.heap];have:=eN (w.alloc (Cl #[bp G.mb] 107)) (Cl (madeCells #[.nilIface] n) 116);simpa using this;simp[madeCells]
def gM(m:Mc)(ds:List Dt):List Vl:=(List.range ds.length).map λj=>.sealD (m.ids+j) (ds.getD j (.num 0))
def pO(G:Gh)(S:Sub)(m:Mc)(w:Wd)(ds:List Dt)(e:En)(w':Wd):Prop:=
 if((m.cells+2*ds.length:Nat):Int)<=S.quota then∃H x,e=Rt x/\Mv G w H w'/\Inv H S (bK {m with cells:=m.cells+2*ds.length,ids:=m.ids+ds.length} (gM m ds) .nil).2 w'/\VRep H (bK {m with cells:=m.cells+2*ds.length,ids:=m.ids+ds.length} (gM m ds) .nil).1 x/\w'.heap.size=w.heap.size+2+3*ds.length/\H.B=G.B
 else e=Pk (aB (aD 11))/\Cnt G S {m with cells:=S.quota.toNat} w'
theorem yX{g c:Nat}{sa:OA}(i:Inv G S m w)(K:i5.length≠0->sa=sT (Ab g o))(xs:Nat->Dl)(Y:i5.length<=8)(Z:∀j,j<i5.length->DRep G (i5.getD j (.num 0)) (xs j))(hg:∀wr:Wd,(∀b M,G.I b=sT M->wr.heap[b]? =sT M)->∀j,j<i5.length->rX g (o+j*6) (xs j) wr):Cp 140 #[bp G.mb,Sl sa i5.length c] w (pO G S m w i5):=by
 refine Oh G.cb K xs (λk wr=>k<=i5.length/\∃H,SSt G S m w i5.length i5 k H wr) Y (λw' hw=>⟨XG _,_,SSt.first i _ i5 hw⟩) ?_ ?_ ?_;rintro k wr q ⟨-,H,h⟩;have r:H.mb=G.mb:=h.mv.up.le.mb;have s:=h.inv.alloc (Cl (xs k).cells 134);refine⟨hg wr (λb M u=>h.inv.imm (h.mv.up.le.I u)) k q,?_,?_⟩;rw[aE (by have:=h.sz;omega),h.inv.cell h.q1,<-r];rfl;have:=s.mb1;have f:H.cb=G.cb:=h.mv.up.le.cb;rw[<-r,<-f];exact this;rintro k wr q ⟨-,H,h⟩ p a;have f:H.cb=G.cb:=h.mv.up.le.cb;have s:=Inv.lk a (h.inv.alloc (Cl (xs k).cells 134));have N:(m.cells+2*k:Nat)<=S.quota:=h.inv.cl.1;have A:S.quota<=1000000:=by have:=h.inv.cl.2;omega
 rw[<-f];by_cases D:((m.cells+2*k+2:Nat):Int)<=S.quota;refine Calls.mo (cZ ((m.cells+2*k:Nat):Int) S.quota 11 2 p s.ce Om (by push_cast at D|-;omega) Om A) ?_;rintro e w2 ⟨rfl,j,l⟩;have e:((m.cells+2*k:Nat):Int)+2=((m.cells+2*k+2:Nat):Int):=by push_cast;omega
 rw[e]at l;have O:Lk (p.setCell (Aa H.cb) (Ii ((m.cells+2*k+2:Nat):Int))) w2:=by subst l;exact⟨rfl,rfl,rfl,rfl⟩
 clear l;obtain⟨d,P,E,-⟩:=h.row;have a0:=h.sz;have Q:w.heap.size+1≠H.cb:=λe=>h.lm (by rw[e];exact h.inv.m3);have z1:p.heap.size=wr.heap.size+1:=by rw[a.heap];simp
 have z2:w2.heap.size=wr.heap.size+1:=by rw[O.heap,aL,z1]
 have e3:(w2.alloc (Cl #[Ha 228 #[bp w.heap.size,bp wr.heap.size]] 316)).heap[w.heap.size+1]? =sT (Cl d 116):=by rw[eH _ _ _ Om,O.heap,aG _ Q,a.heap,eH _ _ _ Om];exact P
 refine .inr ⟨rfl,⟨d[k]' Om,?_⟩,λj=>by simp[UU,e3],λw3 h3=>⟨q,h.step q ((Z k q).mo h.mv.up.le) D a O h3⟩⟩;simp only[UT,e3];simp[ZM (show k<d.size by omega)];refine Calls.mo (dH ((m.cells+2*k:Nat):Int) 2 p s.ce Om (by push_cast at D|-;omega) Om N A) ?_;rintro e w2 ⟨rfl,u⟩;refine .inl ⟨⟨_,rfl⟩,?_⟩;unfold pO;rw[if_neg (by push_cast at D|-;omega)];have R:((S.quota.toNat:Nat):Int)=S.quota:=Om;have F:=s.cells S.quota.toNat Om;rw[R]at F;obtain⟨a1,a2,a3,a4,a5⟩:=(F.cntB (by rw[aL];exact eR _) u).up (h.mv.up.t (h.inv.x1 (Cl (xs k).cells 134)).up);exact⟨rfl,a1,a2,a3,a4,a5⟩;rintro wr ⟨-,H,h⟩ p a;have F:=Inv.lk a h.inv;obtain⟨d,P,E,r3⟩:=h.row;have hl:(gM m i5).length=d.toList.length:=by simp[gM,E]
 have B:=Xu p (sT (Aa (w.heap.size+1))) i5.length (gM m i5) d.toList .nil (If 186 (Ag #[])) F ⟨hl,λj v x T J=>?_⟩ .nil (.inr ⟨_,_,rfl,λj C=>?_⟩) (by simp[E];omega);rw[show d.toList.length=i5.length by simp[E]]at B;refine Calls.mo B ?_;rintro e w2 ⟨L,x,rfl,J,iL,X,u,U,V⟩;obtain⟨t,z,rfl⟩:=X.form;refine⟨t,z,rfl,λw3 n=>?_⟩;unfold pO;rw[if_pos h.inv.cl.1];exact⟨L,_,rfl,(h.mv.t ((Mv.lkl a (Mv.ext J u)))).lk n,Inv.lk n iL,X,by have:=h.sz;rw[n.heap,U,a.heap];omega,V.t h.gb⟩;have C:j<i5.length:=by have:=(eL.1 T).1;simpa[gM]using this
 obtain⟨y,hy,W⟩:=r3 j C;rw[Array.getElem?_toList,hy]at J;cases J;have e:(gM m i5)[j]? =sT (.sealD (m.ids+j) (i5.getD j (.num 0))):=by simp[gM,C]
 rw[e]at T;cases T;exact W;simp only[UT,a.heap,P];simp at C;simp[ZM C]
end
section
open Go.RowKit Go.Shelf
open Sc
def WK(mb:Nat)(g:Int)(St:Nat->Wd->Prop)(k p:Nat)(nm:Bs):Prop:=∀w1,St k w1->Cp 141 #[Ii g,Ii (p:Int)] w1 λe w3=>∃t z,e=Rt (If t z)/\∀w4,Lk w3 w4->Cp 139 #[bp mb,Sg ⟨nm.toArray⟩,If t z] w4 λe w5=>e=Rt (Tu #[])/\St (k+1) w5
theorem xP{sa:OA}(St:Nat->Wd->Prop)(c:Cp 140 #[bp r,Sl sa d0 sc] w λe b=>((∃p,e=Pk p)/\Q e b)\/(∃t z,e=Rt (If t z)/\∀w2,Lk b w2->Cp 139 #[bp r,Sg ⟨#[115,101,99,114,101,116,115]⟩,If t z] w2 λe w3=>e=Rt (Tu #[])/\St 1 w3))(s:WK r g St 1 1 [111,117,116]/\WK r g St 2 2 [105,110]/\WK r g St 3 4 [99,108,111,99,107]/\WK r g St 4 8 [100,105,99,101]/\WK r g St 5 16 [107,101,121]/\True)(d:∀w',St 6 w'->Q (Rt (Tu #[])) w'):Cp 84 #[bp r,Ii g,Sl sa d0 sc] w Q:=by
 obtain⟨f,h,S⟩:=cB d c s;clear d c s;delta Cp;go_in;go_wp2_with (first|(go_at_call 140;refine h.o.mo ?_;rintro e b (⟨⟨p,rfl⟩,i⟩|⟨t,z,rfl,a⟩);(exact⟨rfl,i⟩);have K:=hZ a;clear a)|((first|go_at_fn 139|go_at_call 139);refine(K.o _ Lq).mo ?_;clear K;rintro e v1 ⟨rfl,a⟩;have X:=hZ a;clear a;refine hO ?_));refine hZ ?_;iterate 5 (have s:=hZ S.o.1;replace S:=hZ S.o.2;go_wp2_with (first|(go_at_call 141;refine(s.o _ X.o).mo ?_;clear s X;rintro e b ⟨t,z,rfl,a⟩;have K:=hZ a;clear a)|((first|go_at_fn 139|go_at_call 139);refine(K.o _ Lq).mo ?_;clear K;rintro e v1 ⟨rfl,a⟩;have X:=hZ a;clear a;refine hO ?_));refine hZ ?_)
 go_wp2;go_end0;exact f.o _ X.o
end
section
open Go.RowKit Go.Shelf
open Sc
def WStL(G0:Gh)(w0:Wd)(S:Sub)(m:Mc)(L:List (Bs×Vl))(sz:Nat->Nat)(k:Nat)(w:Wd):Prop:=∃G,Inv G S {m with glob:=mW (L.take k) m.glob} w/\G.B.map (·.1)=G0.B.map (·.1)++(L.take k).map (·.1)/\Mv G0 w0 G w/\w.heap.size=sz k
theorem WStL.step{L:List (Bs×Vl)}{v:Vl}{x:Vu}(n:Inv H S {m with glob:=mW (L.take k) m.glob} w2)(i:H.B.map (·.1)=G0.B.map (·.1)++(L.take k).map (·.1))(l:Mv G0 w0 H w2)(z:w2.heap.size+1=sz (k+1))(d:L[k]? =sT (s.data.toList,v))(f:(L.map (·.1)).Nodup)(o:∀p,p∈L->p.1∉G0.B.map (·.1))(q:VRep H v x):Cp 139 #[bp G0.mb,Sg s,x] w2 λe w3=>e=Rt (Tu #[])/\WStL G0 w0 S m L sz (k+1) w3:=by
 have r:k<L.length:=(eL.1 d).1;have a:L.take (k+1)=L.take k++[(s.data.toList,v)]:=by rw[YO,d];rfl
 have b:s.data.toList∉H.B.map (·.1):=by rw[i,VS];rintro(h|h);exact o _ (YP d) h;rw[List.map_take]at h;obtain⟨j,t,u⟩:=List.mem_take_iff_getElem.1 h;(have e2:(L.map (·.1))[k]? =sT s.data.toList:=by rw[ZJ,d];rfl);(have e3:(L.map (·.1))[j]? =sT s.data.toList:=by rw[<-u];exact eG _);have:=(List.getElem?_inj (by simp at t|-;omega) f).1 (e3.t e2.symm);omega
 have c:=Ej w2 s x n (uE b) q;have g:H.mb=G0.mb:=l.up.le.mb;rw[g]at c;refine Calls.mo c ?_;rintro e w3 ⟨rfl,w,y,A⟩;refine⟨rfl,_,?_,?_,l.t w,by omega⟩;have:mW (L.take (k+1)) m.glob=put s.data.toList v (mW (L.take k) m.glob):=by rw[a];simp[mW]
 rw[this];exact y;show(H.B++[(s.data.toList,w2.heap.size)]).map (·.1)=_;rw[a];simp[i]
def iV(g:Int)(p:Nat):Vl:=if g.toNat / p % 2=1 then .grant p else .bool xN
theorem WStL.grant{L:List (Bs×Vl)}{nm:Bs}(u:0<=g)(v:g<=31)(w:p∈[1,2,4,8,16])(n:L[k]? =sT (nm,iV g p))(f:(L.map (·.1)).Nodup)(o:∀q,q∈L->q.1∉G0.B.map (·.1))(b:sz (k+1)=sz k+(if g.toNat / p % 2=1 then 2 else 1))(x:g.toNat / p % 2=1->G0.K p=sz k):WK G0.mb g (WStL G0 w0 S m L sz) k p nm:=by
 rintro c ⟨G,l,r,s,y⟩;refine Calls.mo (CN u v w) ?_;intro e w3 h;unfold nT at h;have t:(⟨nm.toArray⟩:BA).data.toList=nm:=Sm;by_cases i:g.toNat / p % 2=1;rw[if_pos i]at h b;obtain⟨rfl,d⟩:=h;have z:=Inv.lk d (l.alloc (Cl #[Ii (p:Int)] 324));have A:=l.x1 (Cl #[Ii (p:Int)] 324);refine⟨322,bp c.heap.size,rfl,λw4 a=>?_⟩;have m4:Mv G0 w0 (G.add c.heap.size (Cl #[Ii (p:Int)] 324)) w4:=(s.t ((Mv.ext A (aA _ _)).lk d)).lk a;have j:(G.add c.heap.size (Cl #[Ii (p:Int)] 324)).K p=c.heap.size:=by rw[m4.up.le.K,x i,y]
 have C:VRep (G.add c.heap.size (Cl #[Ii (p:Int)] 324)) (.grant p) (If 322 (bp c.heap.size)):=by have:=VRep.grant (G:=G.add c.heap.size (Cl #[Ii (p:Int)] 324)) p (by rw[j];exact Gh.add_at _ _ _);rw[j]at this;exact this
 exact WStL.step (Inv.lk a z) r m4 (by rw[a.heap,d.heap,b];simp;omega) (by rw[t,n,iV,if_pos i]) f o C;rw[if_neg i]at h b;obtain⟨rfl,d⟩:=h;refine⟨181,.bool xN,rfl,λw4 a=>?_⟩;exact WStL.step (Inv.lk a (Inv.lk d l)) r ((s.lk d).lk a) (by rw[a.heap,d.heap,b];omega) (by rw[t,n,iV,if_neg i]) f o (.bool _)
end
section
open Go.RowKit Go.Shelf
open Sc
def jN(g:Int)(v:Vl):List (Bs×Vl):=[([115,101,99,114,101,116,115],v),([111,117,116],iV g 1),([105,110],iV g 2),([99,108,111,99,107],iV g 4),([100,105,99,101],iV g 8),([107,101,121],iV g 16)]
def fP(g:Int)(p:Nat):Nat:=if g.toNat / p % 2=1 then 2 else 1
def kR(B n:Nat)(g:Int):Nat->Nat
 |0=>B+2+3*n
 |1=>B+2+3*n+1
 |2=>B+2+3*n+1+fP g 1
 |3=>B+2+3*n+1+fP g 1+fP g 2
 |4=>B+2+3*n+1+fP g 1+fP g 2+fP g 4
 |5=>B+2+3*n+1+fP g 1+fP g 2+fP g 4+fP g 8
 |_=>B+2+3*n+1+fP g 1+fP g 2+fP g 4+fP g 8+fP g 16
def gN(m:Mc)(ds:List Dt):Vl×Mc:=bK {m with cells:=m.cells+2*ds.length,ids:=m.ids+ds.length} (gM m ds) .nil
def nK(G:Gh)(S:Sub)(m:Mc)(w:Wd)(g:Int)(ds:List Dt)(e:En)(w':Wd):Prop:=
 if((m.cells+2*ds.length:Nat):Int)<=S.quota then e=Rt (Tu #[])/\WStL G w S (gN m ds).2 (jN g (gN m ds).1) (kR w.heap.size ds.length g) 6 w'
 else e=Pk (aB (aD 11))/\Cnt G S {m with cells:=S.quota.toNat} w'
theorem Hl{g:Nat}{sa:OA}(i:Inv G S m w)(d:Int)(F:0<=d)(J:d<=31)(c:Nat)(a:List Dt)(l:a.length≠0->sa=sT (Ab g o))(xs:Nat->Dl)(y:a.length<=8)(A:∀j,j<a.length->DRep G (a.getD j (.num 0)) (xs j))(C:∀wr:Wd,(∀b D,G.I b=sT D->wr.heap[b]? =sT D)->∀j,j<a.length->rX g (o+j*6) (xs j) wr)(n:∀p,p∈jN d (gN m a).1->p.1∉G.B.map (·.1))(L:∀k p,(k,p)∈[(1,1),(2,2),(3,4),(4,8),(5,16)]->d.toNat / p % 2=1->G.K p=kR w.heap.size a.length d k):Cp 84 #[bp G.mb,Ii d,Sl sa a.length c] w (nK G S m w d a):=by
 have q:((jN d (gN m a).1).map (·.1)).Nodup:=by show([[115,101,99,114,101,116,115],[111,117,116],[105,110],[99,108,111,99,107],[100,105,99,101],[107,101,121]]:List Bs).Nodup;decide
 have r:=λk p M (N:p∈[1,2,4,8,16]) (O:(jN d (gN m a).1)[k]? =sT (M,iV d p)) (P:kR w.heap.size a.length d (k+1)=kR w.heap.size a.length d k+(if d.toNat / p % 2=1 then 2 else 1)) (u:(k,p)∈[(1,1),(2,2),(3,4),(4,8),(5,16)])=>WStL.grant (G0:=G) (w0:=w) (S:=S) (m:=(gN m a).2) (sz:=kR w.heap.size a.length d) F J N O q n P (L k p u);by_cases s:((m.cells+2*a.length:Nat):Int)<=S.quota;refine xP (WStL G w S (gN m a).2 (jN d (gN m a).1) (kR w.heap.size a.length d)) ?_ ⟨r 1 1 _ Sm rfl rfl Sm,r 2 2 _ Sm rfl rfl Sm,r 3 4 _ Sm rfl rfl Sm,r 4 8 _ Sm rfl rfl Sm,r 5 16 _ Sm rfl rfl Sm,trivial⟩ (λw' h=>by unfold nK;rw[if_pos s];exact⟨rfl,h⟩);refine Calls.mo (yX i l xs y A C) ?_;intro e Q h;unfold pO at h;rw[if_pos s]at h;obtain⟨H,x,rfl,mv,R,E,T,v⟩:=h;obtain⟨t,z,rfl⟩:=E.form;refine .inr ⟨t,z,rfl,λw2 f=>?_⟩;refine WStL.step (k:=0) (Inv.lk f R) ?_ (mv.lk f) (by rw[f.heap,T];rfl) rfl q n E;rw[v];simp;refine xP (λ_ _=>False) ?_ ⟨λ_ h=>h.elim,λ_ h=>h.elim,λ_ h=>h.elim,λ_ h=>h.elim,λ_ h=>h.elim,trivial⟩ (λw' h=>h.elim);refine Calls.mo (yX i l xs y A C) ?_;intro e Q h;unfold pO at h;rw[if_neg s]at h;obtain⟨rfl,h⟩:=h;refine .inl ⟨⟨_,rfl⟩,?_⟩;unfold nK;rw[if_neg s];exact⟨rfl,h⟩
end
section
open Go.RowKit Go.Shelf
open Sc
def nP(n rk mb rb:Nat)(Q:Wd->Prop)(e:En)(w8:Wd):Prop:=∃vd s re pl va,e=Pk (aB (If 166 (Ag #[Ii vd,Sg s])))/\w8.cell? (Aa n)=sT (bp rk)/\w8.heap[rk]? =sT (Cl (cP mb rb 0 re pl va) 112)/\∀w9,Lk (((w8.alloc (Cl #[Ii vd,Sg s] 166)).setCell (Ab rk 2) (Ii vd)).setCell (Ab rk 5) (Sg s)) w9->Q w9
theorem QL{c:Prop}(h:c:=by
  have nq:w.heap.size≠rk:=Om
  refine leaves_cons (f:=79) (args:=#[bp w.heap.size]) Sm (by simp[go_sem]) ?_;refine(pF nq q0 hr).mo ?_;rintro e u' w9 ⟨rfl,rfl,hl⟩;exact⟨_,results_none Kr _ _ _,rfl,hK _ hl⟩):c:=h
theorem Kn{t:BA}{sa:OA}{m:Int}(c rb:Nat)(Q:Wd->Prop)(d:rk<w.heap.size)(a:∀w',Lk ((w.alloc (Cl #[bp rk] 106)).alloc (Cl (dY t sa r sc Y Z dr g f A q m) 34)) w'->Cp 80 #[Ag (dY t sa r sc Y Z dr g f A q m)] w' (nP w.heap.size rk c rb Q)):Cp 56 #[bp rk,Ag (dY t sa r sc Y Z dr g f A q m)] w λe w'=>e=Rt (Tu #[])/\Q w':=by have h:∀(b:Fn) (first cap:Array Vu) (w:Wd),(ZQ b first cap).run prog w=.ok (.func b first cap) w:=λ_ _ _ _=>rfl;have i:=hZ a;clear a;show Cp 56 #[bp rk,Ag #[Sg t,Sl sa r sc,Y,Z,dr,Ii g,Ii f,Ii A,Ii q,Ii m]] w λe w'=>e=Rt (Tu #[])/\Q w';go_enter_defers func56,ntmps56;go_wp2_with (go_at_call 80;refine(i.o _ Lq).mo ?_;rintro e j ⟨k,l,n,o,p,rfl,q0,hr,hK⟩);exact QL
def xG(n rk:Nat)(t:BA)(sa:OA)(sn sc:Nat)(g:Int)(w:Wd):Prop:=w.cell? (Aa n)=sT (bp rk)/\w.cell? (Aa (n+1))=sT (Sg t)/\w.cell? (Ab (n+1) 1)=sT (Sl sa sn sc)/\w.cell? (Ab (n+1) 5)=sT (Ii g)
theorem Km{t:BA}{sa:OA}{m:Int}(d rb:Nat)(Q:Wd->Prop)(h:rk<w.heap.size)(b:∀w',Lk ((w.alloc (Cl #[bp rk] 106)).alloc (Cl (dY t sa r sc Y Z dr g f A q m) 34)) w'->Cp 80 #[Ag (dY t sa r sc Y Z dr g f A q m)] w' λe a=>e=Rt (Tu #[])/\xG w.heap.size rk t sa r sc g a/\∀w2,Lk a w2->Cp 81 #[Sl sa r sc] w2 (nP w.heap.size rk d rb Q)):Cp 56 #[bp rk,Ag (dY t sa r sc Y Z dr g f A q m)] w λe w'=>e=Rt (Tu #[])/\Q w':=by have i:∀(c:Fn) (first cap:Array Vu) (w:Wd),(ZQ c first cap).run prog w=.ok (.func c first cap) w:=λ_ _ _ _=>rfl;have j:=hZ b;clear b;show Cp 56 #[bp rk,Ag #[Sg t,Sl sa r sc,Y,Z,dr,Ii g,Ii f,Ii A,Ii q,Ii m]] w λe w'=>e=Rt (Tu #[])/\Q w';go_enter_defers func56,ntmps56;go_wp2_with (go_at_call 80;refine(j.o _ Lq).mo ?_;rintro e a ⟨rfl,⟨k0,k1,l,n⟩,hK⟩;have k:=hZ hK;clear hK;refine hO ?_);refine hZ ?_;go_wp2_with (go_at_call 81;refine(k.o _ Lq).mo ?_;rintro e o ⟨p,s,u,v,x,rfl,q0,hr,hK⟩);exact QL
theorem Kl{t:BA}{sa:OA}{m:Int}(j rb:Nat)(Q:Wd->Prop)(k:rk<w.heap.size)(h:∀w',Lk ((w.alloc (Cl #[bp rk] 106)).alloc (Cl (dY t sa r sc Y Z dr g f A q m) 34)) w'->Cp 80 #[Ag (dY t sa r sc Y Z dr g f A q m)] w' λe b=>e=Rt (Tu #[])/\xG w.heap.size rk t sa r sc g b/\∀w2,Lk b w2->Cp 81 #[Sl sa r sc] w2 λe w3=>∃a n c,e=Rt (Sl a n c)/\xG w.heap.size rk t sa r sc g w3/\∀w4,Lk w3 w4->Cp 82 #[bp rk,Sg t] w4 (nP w.heap.size rk j rb Q)):Cp 56 #[bp rk,Ag (dY t sa r sc Y Z dr g f A q m)] w λe w'=>e=Rt (Tu #[])/\Q w':=by have l:∀(i:Fn) (first cap:Array Vu) (w:Wd),(ZQ i first cap).run prog w=.ok (.func i first cap) w:=λ_ _ _ _=>rfl;have o:=hZ h;clear h;show Cp 56 #[bp rk,Ag #[Sg t,Sl sa r sc,Y,Z,dr,Ii g,Ii f,Ii A,Ii q,Ii m]] w λe w'=>e=Rt (Tu #[])/\Q w';go_enter_defers func56,ntmps56;go_wp2_with (go_at_call 80;refine(o.o _ Lq).mo ?_;rintro e b ⟨rfl,⟨k0,k1,p,s⟩,hK⟩;have u:=hZ hK;clear hK;refine hO ?_);refine hZ ?_;go_wp2_with (go_at_call 81;refine(u.o _ Lq).mo ?_;rintro e w3 ⟨a,n,c,rfl,⟨v,x,y,z⟩,hK⟩;have d:=hZ hK;clear hK;refine hO ?_);clear k0 k1 p s;refine hZ ?_;go_wp2_with (go_at_call 82;refine(d.o _ Lq).mo ?_;rintro e B ⟨C,D,E,F,G,rfl,q0,hr,hK⟩);exact QL
end
section
open Go.RowKit Go.Shelf
open Sc
def fJ(n rk mb:Nat)(t:BA)(sa:OA)(sn sc:Nat)(g:Int)(w:Wd):Prop:=w.cell? (Aa n)=sT (bp rk)/\w.cell? (Aa (n+1))=sT (Sg t)/\w.cell? (Ab (n+1) 1)=sT (Sl sa sn sc)/\w.cell? (Ab (n+1) 5)=sT (Ii g)/\w.cell? (Aa rk)=sT (bp mb)
theorem Kp{t:BA}{sa:OA}{m:Int}(d rb:Nat)(Q:Wd->Prop)(I:rk<w.heap.size)(y:∀w',Lk ((w.alloc (Cl #[bp rk] 106)).alloc (Cl (dY t sa r sc Y Z dr g f A q m) 34)) w'->Cp 80 #[Ag (dY t sa r sc Y Z dr g f A q m)] w' λe i=>e=Rt (Tu #[])/\fJ w.heap.size rk d t sa r sc g i/\∀w2,Lk i w2->Cp 81 #[Sl sa r sc] w2 λe w3=>∃a n c,e=Rt (Sl a n c)/\fJ w.heap.size rk d t sa r sc g w3/\∀w4,Lk w3 w4->Cp 82 #[bp rk,Sg t] w4 λe j=>∃z h B,e=Rt (Sl z h B)/\fJ w.heap.size rk d t sa r sc g j/\∀C,Lk j C->Cp 83 #[bp d] C λe k=>e=Rt (Tu #[])/\fJ w.heap.size rk d t sa r sc g k/\∀l,Lk k l->Cp 84 #[bp d,Ii g,Sl a n c] l (nP w.heap.size rk d rb Q)):Cp 56 #[bp rk,Ag (dY t sa r sc Y Z dr g f A q m)] w λe w'=>e=Rt (Tu #[])/\Q w':=by
 have J:∀(h:Fn) (first cap:Array Vu) (w:Wd),(ZQ h first cap).run prog w=.ok (.func h first cap) w:=λ_ _ _ _=>rfl;have K:=hZ y;clear y;show Cp 56 #[bp rk,Ag #[Sg t,Sl sa r sc,Y,Z,dr,Ii g,Ii f,Ii A,Ii q,Ii m]] w λe w'=>e=Rt (Tu #[])/\Q w';go_enter_defers func56,ntmps56;go_wp2_with (go_at_call 80;refine(K.o _ Lq).mo ?_;rintro e i ⟨rfl,⟨k0,k1,o,p,s⟩,b⟩;have L:=hZ b;clear b;refine hO ?_);refine hZ ?_;go_wp2_with (go_at_call 81;refine(L.o _ Lq).mo ?_;rintro e w3 ⟨a,n,c,rfl,⟨D,E,F,G,H⟩,b⟩;have u:=hZ b;clear b;refine hO ?_);clear k0 k1 o p s;refine hZ ?_;go_wp2_with (go_at_call 82;refine(u.o _ Lq).mo ?_;rintro e j ⟨z,h,B,rfl,⟨k0,k1,o,p,s⟩,b⟩;have v:=hZ b;clear b;refine hO ?_);clear D E F G H;refine hZ ?_;go_wp2_with (go_at_call 83;refine(v.o _ Lq).mo ?_;rintro e k ⟨rfl,⟨D,E,F,G,H⟩,b⟩;have x:=hZ b;clear b;refine hO ?_);clear k0 k1 o p s;refine hZ ?_;go_wp2_with (fail);refine dE 7 Kr Kr ?_;simp only[WB,WD,WF,WG];repeat still_step
 refine wpStill_nil ?_;go_wp2_with (go_at_call 84;refine(x.o _ Lq).mo ?_;rintro e l ⟨P,R,S,T,U,rfl,M,N,b⟩);have nq:w.heap.size≠rk:=Om;refine leaves_cons (f:=79) (args:=#[bp w.heap.size]) Sm (by simp[go_sem]) ?_;refine(pF nq M N).mo ?_;rintro e V W ⟨rfl,rfl,O⟩;exact⟨_,results_none Kr _ _ _,rfl,b _ O⟩
theorem Ko{t:BA}{sa:OA}{m:Int}(d rb:Nat)(Q:Wd->Prop)(S:rk<w.heap.size)(P:∀w',Lk ((w.alloc (Cl #[bp rk] 106)).alloc (Cl (dY t sa r sc Y Z dr g f A q m) 34)) w'->Cp 80 #[Ag (dY t sa r sc Y Z dr g f A q m)] w' λe s=>e=Rt (Tu #[])/\fJ w.heap.size rk d t sa r sc g s/\∀w2,Lk s w2->Cp 81 #[Sl sa r sc] w2 λe w3=>∃a n c,e=Rt (Sl a n c)/\fJ w.heap.size rk d t sa r sc g w3/\∀w4,Lk w3 w4->Cp 82 #[bp rk,Sg t] w4 λe u=>∃v h x,e=Rt (Sl v h x)/\fJ w.heap.size rk d t sa r sc g u/\∀y,Lk u y->Cp 83 #[bp d] y λe z=>e=Rt (Tu #[])/\fJ w.heap.size rk d t sa r sc g z/\∀i,Lk z i->Cp 84 #[bp d,Ii g,Sl a n c] i λe p=>e=Rt (Tu #[])/\fJ w.heap.size rk d t sa r sc g p/\∀k,Lk p k->Cp 85 #[bp rk,Sl v h x] k (wW w.heap.size rk d rb Q)):Cp 56 #[bp rk,Ag (dY t sa r sc Y Z dr g f A q m)] w λe w'=>e=Rt (Tu #[])/\Q w':=by
 have T:∀(h:Fn) (first cap:Array Vu) (w:Wd),(ZQ h first cap).run prog w=.ok (.func h first cap) w:=λ_ _ _ _=>rfl;have U:=hZ P;clear P;show Cp 56 #[bp rk,Ag #[Sg t,Sl sa r sc,Y,Z,dr,Ii g,Ii f,Ii A,Ii q,Ii m]] w λe w'=>e=Rt (Tu #[])/\Q w';go_enter_defers func56,ntmps56;go_wp2_with (go_at_call 80;refine(U.o _ Lq).mo ?_;rintro e s ⟨rfl,⟨k0,k1,B,C,D⟩,b⟩;have V:=hZ b;clear b;refine hO ?_);refine hZ ?_;go_wp2_with (go_at_call 81;refine(V.o _ Lq).mo ?_;rintro e w3 ⟨a,n,c,rfl,⟨E,F,G,H,I⟩,b⟩;have J:=hZ b;clear b;refine hO ?_);clear k0 k1 B C D;refine hZ ?_;go_wp2_with (go_at_call 82;refine(J.o _ Lq).mo ?_;rintro e u ⟨v,h,x,rfl,⟨k0,k1,B,C,D⟩,b⟩;have K:=hZ b;clear b;refine hO ?_);clear E F G H I;refine hZ ?_;go_wp2_with (go_at_call 83;refine(K.o _ Lq).mo ?_;rintro e z ⟨rfl,⟨E,F,G,H,I⟩,b⟩;have L:=hZ b;clear b;refine hO ?_);clear k0 k1 B C D;refine hZ ?_;go_wp2_with (fail);refine dE 7 Kr Kr ?_;simp only[WB,WD,WF,WG];repeat still_step
 refine wpStill_nil ?_;go_wp2_with (go_at_call 84;refine(L.o _ Lq).mo ?_;rintro e y ⟨rfl,⟨W,X,i2,i3,i4⟩,b⟩;have M:=hZ b;clear b;refine hO ?_);clear E F G H I;refine hZ ?_;go_wp2_with (go_at_call 85;refine(M.o _ Lq).mo ?_;rintro e i (⟨vd,sv,R,va,rfl,l,j,b⟩|⟨R,va,rfl,l,j,b⟩));have nq:w.heap.size≠rk:=Om;refine leaves_cons (f:=79) (args:=#[bp w.heap.size]) Sm (by simp[go_sem]) ?_;refine(pF nq l j).mo ?_;rintro e u' p ⟨rfl,rfl,N⟩;exact⟨_,results_none Kr _ _ _,rfl,b _ N⟩;have O:=hZ b;have r2:i.cell? (Ab rk 2)=sT (Ii 0):=Ce j;have r4:i.cell? (Ab rk 4)=sT (Ii R):=Ce j;have rf:∀o,i.frozen? (Ab rk o)=xN:=λo=>by simp[UU,j]
 have nq:w.heap.size≠rk:=Om;clear b j W X i2 i3 i4;go_wp2_with (fail);go_region_held3 (λw'=>w'.cell? (Aa w.heap.size)=sT (bp rk)) (first|(exact l)|(exact aQ l nq)|(exact aQ (aQ l nq) nq)|go_keep) (fail);all_goals (try go_wp2)
 refine leaves_cons (f:=79) (args:=#[bp w.heap.size]) Sm (by simp[go_sem]) ?_;refine(BW).mo ?_;rintro e u' p ⟨rfl,rfl,N⟩;exact⟨_,results_none Kr _ _ _,rfl,O.o _ (jE Lq N)⟩
end
section
namespace Sc
open Go
mutual
def Fr.len:Fr->Option Nat
 | .back _ _ k=>sT (bV k)
 | .into _ _ _ k=>sT (bV k)
 | .ite ..=>US| .set ..=>US| .body ..=>US| .app ..=>US| .wind1 ..=>US| .wind2 ..=>US| .wind3 ..=>US
def bV:List Fr->Nat
 | []=>0
 |f::r=>match f.len with|some n=>n+1|US=>bV r+1
end
mutual
def Vl.ok(B:Nat):Vl->Prop
 | .pair _ a b=>a.ok B/\b.ok B
 | .cont _ k w=>bV k<=B/\bO B k/\cS B w
 | .seal _ v=>v.ok B
 | .prim p=>p.grant=0
 | .num _=>True| .bool _=>True| .str _=>True| .sym _=>True| .nil=>True| .none=>True| .lam ..=>True| .grant ..=>True| .sealD ..=>True
def Fr.ok(B:Nat):Fr->Prop
 | .app vs _ _=>bC B vs
 | .wind1 a b c=>a.ok B/\b.ok B/\c.ok B
 | .wind2 c w=>c.ok B/\cS B w
 | .wind3 v=>v.ok B
 | .back to v k=>cS B to/\v.ok B/\bO B k
 | .into now to v k=>cS B now/\cS B to/\v.ok B/\bO B k
 | .ite ..=>True| .set ..=>True| .body ..=>True
def Wn.ok(B:Nat):Wn->Prop
 | .mk _ a c=>a.ok B/\c.ok B
def bC(B:Nat):List Vl->Prop
 | []=>True
 |v::r=>v.ok B/\bC B r
def bO(B:Nat):List Fr->Prop
 | []=>True
 |v::r=>v.ok B/\bO B r
def cS(B:Nat):List Wn->Prop
 | []=>True
 |v::r=>v.ok B/\cS B r
end
mutual
theorem Vl.mo{B C:Nat}(c:B<=C):∀v:Vl,v.ok B->v.ok C
 |.pair _ a b,h=>by simp only[Vl.ok]at h|-;exact⟨Vl.mo c a h.1,Vl.mo c b h.2⟩
 |.cont _ k w,h=>by simp only[Vl.ok]at h|-;exact⟨eT h.1 c,oO c k h.2.1,kZ c w h.2.2⟩
 |.seal _ v,h=>by simp only[Vl.ok]at h|-;exact Vl.mo c v h
 |.prim ..,h=>by simp only[Vl.ok]at h|-;exact h
 |.num _,_=>by simp only[Vl.ok]| .bool _,_=>by simp only[Vl.ok]| .str _,_=>by simp only[Vl.ok]| .sym _,_=>by simp only[Vl.ok]| .nil,_=>by simp only[Vl.ok]| .none,_=>by simp only[Vl.ok]| .lam ..,_=>by simp only[Vl.ok]| .grant ..,_=>by simp only[Vl.ok]| .sealD ..,_=>by simp only[Vl.ok]
theorem Fr.mo{B C:Nat}(d:B<=C):∀v:Fr,v.ok B->v.ok C
 |.app vs _ _,h=>by simp only[Fr.ok]at h|-;exact qA d vs h
 |.wind1 a b c,h=>by simp only[Fr.ok]at h|-;exact⟨Vl.mo d a h.1,Vl.mo d b h.2.1,Vl.mo d c h.2.2⟩
 |.wind2 c w,h=>by simp only[Fr.ok]at h|-;exact⟨Vl.mo d c h.1,kZ d w h.2⟩
 |.wind3 v,h=>by simp only[Fr.ok]at h|-;exact Vl.mo d v h
 |.back to v k,h=>by simp only[Fr.ok]at h|-;exact⟨kZ d to h.1,Vl.mo d v h.2.1,oO d k h.2.2⟩
 |.into now to v k,h=>by simp only[Fr.ok]at h|-;exact⟨kZ d now h.1,kZ d to h.2.1,Vl.mo d v h.2.2.1,oO d k h.2.2.2⟩
 |.ite ..,_=>by simp only[Fr.ok]| .set ..,_=>by simp only[Fr.ok]| .body ..,_=>by simp only[Fr.ok]
theorem Wn.mo{B C:Nat}(b:B<=C):∀v:Wn,v.ok B->v.ok C
 |.mk _ a c,h=>by simp only[Wn.ok]at h|-;exact⟨Vl.mo b a h.1,Vl.mo b c h.2⟩
theorem qA{B C:Nat}(a:B<=C):∀v:List Vl,bC B v->bC C v
 |[],_=>by simp only[bC]
 |v::r,h=>by simp only[bC]at h|-;exact⟨Vl.mo a v h.1,qA a r h.2⟩
theorem oO{B C:Nat}(a:B<=C):∀v:List Fr,bO B v->bO C v
 |[],_=>by simp only[bO]
 |v::r,h=>by simp only[bO]at h|-;exact⟨Fr.mo a v h.1,oO a r h.2⟩
theorem kZ{B C:Nat}(a:B<=C):∀v:List Wn,cS B v->cS C v
 |[],_=>by simp only[cS]
 |v::r,h=>by simp only[cS]at h|-;exact⟨Wn.mo a v h.1,kZ a r h.2⟩
end
theorem qB{B:Nat}:∀{l:List Vl},bC B l↔∀v∈l,v.ok B
 |[]=>by simp[bC]
 |v::r=>by simp[bC,qB (l:=r)]
theorem Ad{B:Nat}:∀{l:List Wn},cS B l↔∀v∈l,v.ok B
 |[]=>by simp[cS]
 |v::r=>by simp[cS,Ad (l:=r)]
theorem oksV_append{a b:List Vl}:bC B (a++b)↔bC B a/\bC B b:=by simp only[qB,VS];exact⟨λh=>⟨λv c=>h v (.inl c),λv c=>h v (.inr c)⟩,λh v c=>c.elim (h.1 v) (h.2 v)⟩
structure Low (S:Sub) (m:Mc):Prop where
 st:(m.steps:Int)<=S.fuel
 ce:(m.cells:Int)<=S.quota
 ra:m.raised.length<=1200
 out:m.out=[]
structure Mok (S:Sub) (m:Mc):Prop where
 low:Low S m
 glob:∀p∈m.glob,p.2.ok (2*m.steps)
 envs:∀e∈m.envs,bC (2*m.steps) e.1
 wnd:cS (2*m.steps) m.wnd
structure Ended (S:Sub) (e:Nat) (m:Mc):Prop where
 low:Low S m
 is:5<=e/\e<=14/\e≠12/\e≠13
 fuel:e=10->(m.steps:Int)=S.fuel
 quota:e=11->(m.cells:Int)=S.quota
theorem Mok.stop(h:Mok S m){e:Nat}(a:5<=e/\e<=14/\e≠12/\e≠13)(b:e≠10:=by decide)(c:e≠11:=by decide):Ended S e m:=⟨h.low,a,λx=>absurd x b,λx=>absurd x c⟩
structure Up (S:Sub) (m m':Mc):Prop where
 ok:Mok S m'
 le:m.steps<=m'.steps
theorem Up.refl(h:Mok S m):Up S m m:=⟨h,eR _⟩
theorem Up.t{a c:Mc}(h:Up S a b)(k:Up S b c):Up S a c:=⟨k.ok,eT h.le k.le⟩
theorem Up.v{a:Mc}(h:Up S a b){v:Vl}(c:v.ok (2*a.steps)):v.ok (2*b.steps):=Vl.mo (by have:=h.le;omega) v c
theorem Up.vs{a:Mc}(h:Up S a b){v:List Vl}(c:bC (2*a.steps) v):bC (2*b.steps) v:=qA (by have:=h.le;omega) v c
theorem Up.fs{a:Mc}(h:Up S a b){v:List Fr}(c:bO (2*a.steps) v):bO (2*b.steps) v:=oO (by have:=h.le;omega) v c
theorem Up.ws{a:Mc}(h:Up S a b){v:List Wn}(c:cS (2*a.steps) v):cS (2*b.steps) v:=kZ (by have:=h.le;omega) v c
def Res{α:Type}(S:Sub)(m:Mc)(P:α->Mc->Prop)(r:Except Nat α×Mc):Prop:=match r.1 with
 | .ok a=>Up S m r.2/\P a r.2
 | .error e=>Ended S e r.2
theorem nZ(h:Mok S m):Res S m (λ_ a=>a.steps=m.steps+1) (step S m):=by
 unfold step;split;·rename_i b;refine⟨⟨⟨⟨?_,h.low.ce,h.low.ra,h.low.out⟩,λp c=>Vl.mo ?_ _ (h.glob p c),λe d=>qA ?_ _ (h.envs e d),kZ ?_ _ h.wnd⟩,?_⟩,rfl⟩;show((m.steps+1:Nat):Int)<=S.fuel;omega;all_goals (show _<=_;simp only[];omega)
 rename_i b;have:=h.low.st;exact⟨h.low,by decide,λ_=>by show(m.steps:Int)=S.fuel;omega,λx=>absurd x De⟩
theorem pE(h:Mok S m):Res S m (λ_ a=>a.steps=m.steps) (cell S m):=by unfold cell;split;rename_i b;refine⟨⟨⟨⟨h.low.st,?_,h.low.ra,h.low.out⟩,h.glob,h.envs,h.wnd⟩,eR _⟩,rfl⟩;show((m.cells+1:Nat):Int)<=S.quota;omega;rename_i b;have:=h.low.ce;exact⟨h.low,by decide,λx=>absurd x De,λ_=>by show(m.cells:Int)=S.quota;omega⟩
theorem Res.weaken{α:Type}{a:Mc}{P Q:α->Mc->Prop}{r:Except Nat α×Mc}(h:Res S b P r)(d:Up S a b)(f:∀x c,Up S b c->P x c->Q x c):Res S a Q r:=by rcases r with⟨e|x,c⟩;exact h;exact⟨d.t h.1,f x c h.1 h.2⟩
theorem oZ:∀(n:Nat) {m:Mc},Mok S m->Res S m (λ_ b=>b.steps=m.steps) (eQ S n m)
 |0,m,h=>⟨Up.refl h,rfl⟩
 |n+1,m,h=>by have a:=pE h;simp only[eQ];rcases hs:cell S m with⟨e|u,m1⟩<;>rw[hs]at a;exact a;exact(oZ n a.1.ok).weaken a.1 (λ_ b _ c=>c.t a.2)
theorem mX{S:Sub}{m:Mc}{rest:Vl}(h:Mok S m)(d:rest.ok (2*m.steps)):∀(l:List Vl),bC (2*m.steps) l->Up S m (bK m l rest).2/\(bK m l rest).2.steps=m.steps/\(bK m l rest).1.ok (2*m.steps)
 |[],_=>⟨Up.refl h,rfl,d⟩
 |v::l,hl=>by simp only[bC]at hl;obtain⟨a,b,c⟩:=mX h d l hl.2;have e:bK m (v::l) rest=(.pair (bK m l rest).2.ids v (bK m l rest).1,{(bK m l rest).2 with ids:=(bK m l rest).2.ids+1}):=rfl;rw[e];refine⟨⟨⟨⟨a.ok.low.st,a.ok.low.ce,a.ok.low.ra,a.ok.low.out⟩,a.ok.glob,a.ok.envs,a.ok.wnd⟩,a.le⟩,b,?_⟩;simp only[Vl.ok];exact⟨hl.1,c⟩
mutual
theorem Aj{S:Sub}:∀(d:Dt) {m:Mc},Mok S m->Up S m (bW m d).2/\(bW m d).2.steps=m.steps/\(bW m d).1.ok (2*m.steps)
 |.num v,m,h=>⟨Up.refl h,rfl,by simp only[bW,Vl.ok]⟩
 |.bool v,m,h=>⟨Up.refl h,rfl,by simp only[bW,Vl.ok]⟩
 |.str v,m,h=>⟨Up.refl h,rfl,by simp only[bW,Vl.ok]⟩
 |.sym v _,m,h=>⟨Up.refl h,rfl,by simp only[bW,Vl.ok]⟩
 |.list l,m,h=>by obtain⟨a,b,c⟩:=Ai l h;have e:bW m (.list l)=bK (cT m l).2 (cT m l).1 .nil:=rfl;rw[e];obtain⟨x,y,z⟩:=mX (rest:=.nil) a.ok (by simp only[Vl.ok]) (cT m l).1 (by rw[b];exact c);exact⟨a.t x,y.t b,by rw[<-b];exact z⟩
theorem Ai{S:Sub}:∀(l:List Dt) {m:Mc},Mok S m->Up S m (cT m l).2/\(cT m l).2.steps=m.steps/\bC (2*m.steps) (cT m l).1
 |[],m,h=>⟨Up.refl h,rfl,by simp only[cT,bC]⟩
 |d::r,m,h=>by obtain⟨a,b,c⟩:=Aj d h;obtain⟨x,y,z⟩:=Ai r a.ok;have e:cT m (d::r)=((bW m d).1::(cT (bW m d).2 r).1,(cT (bW m d).2 r).2):=rfl;rw[e];refine⟨a.t x,y.t b,?_⟩;simp only[bC];exact⟨c,by rw[<-b];exact z⟩
end
theorem vQ:∀(a b:Vl) {m:Mc},Mok S m->Res S m (λ_ _=>True) (equal S a b m)
 |.pair i a b,q,m,h=>by cases q with|pair j c d=>have f:=nZ h;simp only[equal];rcases hs:step S m with⟨e|u,m1⟩<;>rw[hs]at f;exact f;have g:=vQ a c f.1.ok;simp only[];rcases hq:equal S a c m1 with⟨e|u,m2⟩<;>rw[hq]at g;exact g;cases u;exact⟨f.1.t g.1,trivial⟩;exact(vQ b d g.1.ok).weaken (f.1.t g.1) (λ_ _ _ h=>h)|_=>simp only[equal];exact⟨Up.refl h,trivial⟩
 |.num _,_,m,h=>by simp only[equal];exact⟨Up.refl h,trivial⟩
 |.bool _,_,m,h=>by simp only[equal];exact⟨Up.refl h,trivial⟩
 |.str _,_,m,h=>by simp only[equal];exact⟨Up.refl h,trivial⟩
 |.sym _,_,m,h=>by simp only[equal];exact⟨Up.refl h,trivial⟩
 |.nil,_,m,h=>by simp only[equal];exact⟨Up.refl h,trivial⟩
 |.none,_,m,h=>by simp only[equal];exact⟨Up.refl h,trivial⟩
 |.lam ..,_,m,h=>by simp only[equal];exact⟨Up.refl h,trivial⟩
 |.prim ..,_,m,h=>by simp only[equal];exact⟨Up.refl h,trivial⟩
 |.cont ..,_,m,h=>by simp only[equal];exact⟨Up.refl h,trivial⟩
 |.seal ..,_,m,h=>by simp only[equal];exact⟨Up.refl h,trivial⟩
 |.sealD ..,_,m,h=>by simp only[equal];exact⟨Up.refl h,trivial⟩
 |.grant ..,_,m,h=>by simp only[equal];exact⟨Up.refl h,trivial⟩
theorem qJ(cells:Bool):∀(a:Vl) {m:Mc},Mok S m->a.ok (2*m.steps)->Res S m (λl g=>bC (2*g.steps) l) (bJ S cells a m)
 |.pair i a b,m,h,ha=>by simp only[Vl.ok]at ha;have c:=nZ h;simp only[bJ];rcases hs:step S m with⟨e|u,m1⟩<;>rw[hs]at c;exact c;simp only[];(have d:Res S m1 (λ_ _=>True) (if cells=xA then cell S m1 else(.ok (),m1)):=by split;exact(pE c.1.ok).weaken (Up.refl c.1.ok) (λ_ _ _ _=>trivial);exact⟨Up.refl c.1.ok,trivial⟩);rcases hq:(if cells=xA then cell S m1 else(.ok (),m1))with⟨e|u,m2⟩<;>rw[hq]at d;exact d;have f:=qJ cells b d.1.ok ((c.1.t d.1).v ha.2);simp only[];rcases hw:bJ S cells b m2 with⟨e|l,m3⟩<;>rw[hw]at f;exact f;refine⟨(c.1.t d.1).t f.1,?_⟩;simp only[bC];exact⟨((c.1.t d.1).t f.1).v ha.1,f.2⟩
 |.nil,m,h,_=>by simp only[bJ];exact⟨Up.refl h,by simp only[bC]⟩
 |.num _,m,h,_=>by simp only[bJ];exact h.stop De
 |.bool _,m,h,_=>by simp only[bJ];exact h.stop De
 |.str _,m,h,_=>by simp only[bJ];exact h.stop De
 |.sym _,m,h,_=>by simp only[bJ];exact h.stop De
 |.none,m,h,_=>by simp only[bJ];exact h.stop De
 |.lam ..,m,h,_=>by simp only[bJ];exact h.stop De
 |.prim ..,m,h,_=>by simp only[bJ];exact h.stop De
 |.cont ..,m,h,_=>by simp only[bJ];exact h.stop De
 |.seal ..,m,h,_=>by simp only[bJ];exact h.stop De
 |.sealD ..,m,h,_=>by simp only[bJ];exact h.stop De
 |.grant ..,m,h,_=>by simp only[bJ];exact h.stop De
end Sc
end
section
namespace Sc
open Go
theorem qC{n:Int}(h:Mok S m):Res S m (λv a=>v.ok (2*a.steps)) (num n,m):=by unfold num;split;exact⟨Up.refl h,by simp only[Vl.ok]⟩;exact h.stop De
theorem oP(h:Mok S m)(f:Mc->Vl×Mc)(g:∀c,Mok S c->c.steps=m.steps->Up S c (f c).2/\(f c).1.ok (2*(f c).2.steps)):Res S m (λv c=>v.ok (2*c.steps)) (new S m f):=by have d:=pE h;unfold new;rcases hs:cell S m with⟨e|u,m1⟩<;>rw[hs]at d;exact d;obtain⟨a,b⟩:=g m1 d.1.ok d.2;exact⟨d.1.t a,b⟩
theorem qU(h:Mok S m)(k:Nat):Up S m {m with ids:=k}:=⟨⟨⟨h.low.st,h.low.ce,h.low.ra,h.low.out⟩,h.glob,h.envs,h.wnd⟩,eR _⟩
theorem iD{b:Bool}(h:Mok S m):Res S m (λv a=>v.ok (2*a.steps)) ((.ok (.bool b),m):Except Nat Vl×Mc):=⟨Up.refl h,by simp only[Vl.ok]⟩
theorem Io(h:Mok S m)(p:Pm)(l:List Vl)(f:bC (2*m.steps) l)(k:p.grant=0):Res S m (λv j=>v.ok (2*j.steps)) (aI S m p l):=by
 unfold aI;split;exact qC h;exact qC h;exact qC h;split;exact h.stop De;exact qC h;split;exact h.stop De;exact⟨Up.refl h,by simp only[Vl.ok]⟩;exact iD h;exact iD h;simp only[bC]at f;exact oP h _ (λj i g=>⟨qU i _,by simp only[Vl.ok,g];exact⟨f.1,f.2.1⟩⟩);simp only[bC,Vl.ok]at f;exact⟨Up.refl h,f.1.1⟩;simp only[bC,Vl.ok]at f;exact⟨Up.refl h,f.1.2⟩;exact iD h;rename_i a b;have d:=vQ a b h;rcases g:equal S a b m with⟨e|u,m1⟩<;>rw[g]at d;exact d;exact⟨d.1,by simp only[Vl.ok]⟩;have d:=oZ (S:=S) (m:=m) l.length h;rcases g:eQ S l.length m with⟨e|u,m1⟩<;>rw[g]at d;exact d;obtain⟨a,b,c⟩:=mX (rest:=.nil) d.1.ok (by simp only[Vl.ok]) l (d.1.vs f);exact⟨d.1.t a,by simp only[b];exact c⟩;rename_i a;simp only[bC]at f;have d:=qJ (S:=S) (m:=m) xN a h f.1;rcases g:bJ S xN a m with⟨e|u,m1⟩<;>rw[g]at d;exact d;exact⟨d.1,by simp only[Vl.ok]⟩;rename_i a b;simp only[bC]at f;have d:=qJ (S:=S) (m:=m) xA a h f.1;rcases g:bJ S xA a m with⟨e|l1,m1⟩<;>rw[g]at d;exact d;obtain⟨x,y,z⟩:=mX (rest:=b) d.1.ok (d.1.v f.2.1) l1 d.2;exact⟨d.1.t x,by simp only[y];exact z⟩;rename_i a;refine⟨⟨h.low.st,h.low.ce,?_,h.low.out⟩,by decide,λx=>absurd x De,λx=>absurd x De⟩;show((wr a).take 1200).length<=1200;rw[List.length_take];omega;simp only[bC]at f;exact oP h _ (λj i g=>⟨qU i _,by simp only[Vl.ok,g];exact f.1⟩);split;exact oP h _ (λj i g=>⟨Up.refl i,by simp only[Vl.ok]⟩);exact h.stop De;exact⟨Up.refl h,by simp only[Vl.ok]⟩;exact oP h _ (λj i g=>⟨Up.refl i,by simp only[Vl.ok]⟩);exact oP h _ (λj i g=>⟨Up.refl i,by simp only[Vl.ok]⟩);exact iD h;exact iD h;exact iD h;exact iD h;exact iD h;exact iD h;exact iD h;exact iD h;exact iD h;iterate 6 exact absurd k De
 exact h.stop De
end Sc
end
section
namespace Sc
open Go
def ph(S:Sub):Ct->Nat
 | .ev .skip _ []=>2
 | .ev ..=>0
 | .ret _ []=>1
 | .ret _ (f::k)=>2+bV (f::k)
 | .ap ..=>2*S.fuel.toNat+4
 |_=>0
def nU(c:Ct)(m:Mc):Prop:=match c with
 | .ev _ _ k=>bV k<=2*m.steps/\bO (2*m.steps) k
 | .ret v k=>v.ok (2*m.steps)/\bV k<=2*m.steps/\bO (2*m.steps) k
 | .ap f l k=>f.ok (2*m.steps)/\bC (2*m.steps) l/\bV k+1<=2*m.steps/\bO (2*m.steps) k
 | .done v=>v.ok (2*m.steps)
 | .stop _=>True
def lL(S:Sub)(c:Ct)(m:Mc)(r:Ct×Mc):Prop:=match r.1 with
 | .stop e=>Ended S e r.2
 | .done v=>Mok S r.2/\v.ok (2*r.2.steps)
 |c'=>Mok S r.2/\nU c' r.2/\(m.steps<r.2.steps\/(r.2.steps=m.steps/\ph S c'<ph S c))
theorem iM(S:Sub)(v:Vl)(k:List Fr):ph S (.ret v k)<=2+bV k:=by cases k with|nil=>show 1<=_;omega|cons f k=>exact eR _
theorem oK(S:Sub)(x:Ex)(env:Option Nat)(k:List Fr):ph S (.ev x env k)<=2:=by cases x<;>cases k<;>first|exact XG _|exact eR _
theorem zR(S:Sub)(x:Ex)(env:Option Nat)(f:Fr)(k:List Fr):ph S (.ev x env (f::k))=0:=by cases x<;>rfl
theorem dO{f:Fr}{k:List Fr}(h:f.len=US):bV (f::k)=bV k+1:=by simp only[bV,h]
theorem vF{to:List Wn}{v:Vl}{k:List Fr}:bV (.back to v k::t0)=bV k+1:=by simp only[bV,Fr.len]
theorem vE{now to:List Wn}{v:Vl}{k:List Fr}:bV (.into now to v k::t0)=bV k+1:=by simp only[bV,Fr.len]
theorem nH{m0:Mc}{c:Ct}(h:Mok S m)(i:m0.steps=m.steps){f:Vl}{k:List Fr}(b:f.ok (2*m.steps))(d:bC (2*m.steps) l)(j:bV k<=2*m.steps+1)(g:bO (2*m.steps) k):lL S c m0 (bT S f l k m):=by have a:=nZ h;unfold bT;rcases hs:step S m with⟨e|u,m1⟩<;>rw[hs]at a;exact a;simp only[];split;exact⟨a.1.ok,⟨a.1.v b,a.1.vs d,by have:=a.2;show _<=2*m1.steps;simp only[]at this;omega,a.1.fs g⟩,.inl (by have:=a.2;simp only[]at this;show _<m1.steps;omega)⟩;exact a.1.ok.stop De
theorem Fp{m0:Mc}{c:Ct}(h:Mok S m)(i:m0.steps<=m.steps){f:Vl}{k:List Fr}(b:f.ok (2*m.steps))(d:bC (2*m.steps) l)(j:bV k<=2*m.steps+1)(g:bO (2*m.steps) k):lL S c m0 (bT S f l k m):=by have a:=nZ h;unfold bT;rcases hs:step S m with⟨e|u,m1⟩<;>rw[hs]at a;exact a;simp only[];split;exact⟨a.1.ok,⟨a.1.v b,a.1.vs d,by have:=a.2;show _<=2*m1.steps;simp only[]at this;omega,a.1.fs g⟩,.inl (by have:=a.2;simp only[]at this;show _<m1.steps;omega)⟩;exact a.1.ok.stop De
theorem nW(h:Mok S m){w:List Wn}(a:cS (2*m.steps) w)(k:Nat):Mok S {m with wnd:=w,ids:=k}:=⟨⟨h.low.st,h.low.ce,h.low.ra,h.low.out⟩,h.glob,h.envs,a⟩
theorem Ub{l:List Wn}(h:cS B l)(n:Nat):cS B (l.drop n):=by rw[Ad]at*;exact λv a=>h v (List.mem_of_mem_drop a)
theorem Dx{c:Ct}(h:Mok S m){to:List Wn}{v:Vl}{k:List Fr}(j:cS (2*m.steps) to)(e:v.ok (2*m.steps))(l:bV k<=2*m.steps)(f:bO (2*m.steps) k)(n:ph S (.ret v k)<ph S c):lL S c m (rewind.enter S to v k m):=by unfold rewind.enter;split;exact⟨h,⟨e,l,f⟩,.inr ⟨rfl,n⟩⟩;split;rename_i w ws o;have g:=Ub j (to.length-m.wnd.length-1);rw[o]at g;have b:=g;simp only[cS]at b;rcases w with⟨i,a,d⟩;simp only[Wn.ok]at b;refine nH h rfl b.1.1 (by simp only[bC]) (by rw[vE];omega) ?_;simp only[bO,Fr.ok];exact⟨⟨g,j,e,f⟩,trivial⟩;exact⟨h,⟨e,l,f⟩,.inr ⟨rfl,n⟩⟩
theorem tF{c:Ct}(h:Mok S m){to:List Wn}{v:Vl}{k:List Fr}(e:cS (2*m.steps) to)(f:v.ok (2*m.steps))(j:bV k<=2*m.steps)(g:bO (2*m.steps) k)(l:ph S (.ret v k)<ph S c):lL S c m (rewind S to v k m):=by unfold rewind;split;rename_i w ws n;split;exact Dx h e f j g l;have b:=h.wnd;rw[n]at b;simp only[cS]at b;rcases w with⟨i,a,d⟩;simp only[Wn.ok]at b;have o:Mok S {m with wnd:=ws}:=nW h b.2 m.ids;refine nH o rfl b.1.2 (by simp only[bC]) (by rw[vF];show _<=2*m.steps+1;omega) ?_;simp only[bO,Fr.ok];exact⟨⟨e,f,g⟩,trivial⟩;exact Dx h e f j g l
theorem rS{S:Sub}{m m0:Mc}{c:Ct}(h:Mok S m){l:List Ex}{env:Option Nat}{k:List Fr}(a:m0.steps<m.steps\/m.steps=m0.steps/\2+bV k<ph S c)(d:bV k+1<=2*m.steps)(b:bO (2*m.steps) k):lL S c m0 (iE l env k,m):=by match l with|[]=>exact⟨h,⟨by simp only[Vl.ok],(by show _<=2*m.steps;omega),b⟩,a.imp id (λx=>⟨x.1,Nat.lt_of_le_of_lt (iM S _ k) x.2⟩)⟩|[x]=>exact⟨h,⟨(by show _<=2*m.steps;omega),b⟩,a.imp id (λy=>⟨y.1,Nat.lt_of_le_of_lt (oK S x env k) (by have:=y.2;omega)⟩)⟩|x::y::r=>refine⟨h,⟨?_,?_⟩,a.imp id (λz=>⟨z.1,?_⟩)⟩;rw[dO rfl];exact d;simp only[bO,Fr.ok];exact⟨trivial,b⟩;show ph S (.ev x env (.body (y::r) env::k))<_;rw[zR];have:=z.2;omega
theorem Bj{P:Vl->Prop}{s:Bs}{v:Vl}:∀{g:List (Bs×Vl)},(∀p∈g,P p.2)->lookup s g=sT v->P v
 |[],_,h=>by simp[lookup]at h
 |(t,u)::r,hg,h=>by simp only[lookup]at h;split at h;cases h;exact hg (t,_) (List.mem_cons_self ..);exact Bj (λp a=>hg p (List.mem_cons_of_mem _ a)) h
theorem tJ{P:Vl->Prop}{s:Bs}{v:Vl}(a:P v):∀{g:List (Bs×Vl)},(∀p∈g,P p.2)->∀p∈put s v g,P p.2
 |[],_,p,hp=>by simp only[put,YS]at hp;subst hp;exact a
 |(t,u)::r,hg,p,hp=>by simp only[put]at hp;split at hp;rcases List.mem_cons.mp hp with rfl|hp;exact a;exact hg p (List.mem_cons_of_mem _ hp);rcases List.mem_cons.mp hp with rfl|hp;exact hg (t,u) (List.mem_cons_self ..);exact tJ a (λq b=>hg q (List.mem_cons_of_mem _ b)) p hp
theorem Xg{S:Sub}{m:Mc}{up n:Nat}(h:Mok S m)(env:Option Nat):(lY m env up n).ok (2*m.steps):=by
 unfold lY;split;rename_i i _;cases he:m.envs[i]? with|none=>simp only[Option.map,Option.bind,Option.getD,Vl.ok]|some e=>simp only[Option.map,Option.bind];cases hn:e.1[n]? with|none=>simp only[Option.getD,Vl.ok]|some v=>simp only[Option.getD];have:=h.envs e (YP he);rw[qB]at this;exact this v (YP hn)
 simp only[Vl.ok]
theorem Au{α:Type}{f:α->α}{x:α}:∀{l:List α} {i:Nat},x∈l.modify i f->x∈l\/∃y∈l,x=f y
 |[],i,h=>by simp at h
 |a::l,0,h=>by simp only[List.modify_zero_cons]at h;rcases List.mem_cons.mp h with rfl|h;exact .inr ⟨a,List.mem_cons_self ..,rfl⟩;exact .inl (List.mem_cons_of_mem _ h)
 |a::l,i+1,h=>by simp only[List.modify_succ_cons]at h;rcases List.mem_cons.mp h with rfl|h;exact .inl (List.mem_cons_self ..);rcases Au h with h|⟨y,b,rfl⟩;exact .inl (List.mem_cons_of_mem _ h);exact .inr ⟨y,List.mem_cons_of_mem _ b,rfl⟩
theorem Nq(h:Mok S m)(env:Option Nat)(up n:Nat){v:Vl}(c:v.ok (2*m.steps)):Mok S (lS m env up n v)/\(lS m env up n v).steps=m.steps:=by unfold lS;split;refine⟨⟨⟨h.low.st,h.low.ce,h.low.ra,h.low.out⟩,h.glob,?_,h.wnd⟩,rfl⟩;intro e a;rcases Au a with a|⟨y,d,rfl⟩;exact h.envs e a;have:=h.envs y d;show bC _ (y.1.set n v);rw[qB]at*;intro u b;rcases List.mem_or_eq_of_mem_set b with b|rfl;exact this u b;exact c;exact⟨h,rfl⟩
theorem Cz{s:Bs}(h:Mok S m){v:Vl}(a:v.ok (2*m.steps)):Mok S {m with glob:=put s v m.glob}:=⟨⟨h.low.st,h.low.ce,h.low.ra,h.low.out⟩,tJ (P:=λu=>u.ok (2*m.steps)) a h.glob,h.envs,h.wnd⟩
theorem Dw(h:Mok S m)(a:bC (2*m.steps) l)(u:Option Nat):Mok S {m with envs:=m.envs++[(l,u)]}:=by refine⟨⟨h.low.st,h.low.ce,h.low.ra,h.low.out⟩,h.glob,?_,h.wnd⟩;intro e he;rcases List.mem_append.mp he with he|he;exact h.envs e he;rw[List.mem_singleton.mp he];exact a
theorem nY(h:Mok S m):m.steps<=S.fuel.toNat:=by have:=h.low.st;omega
theorem MX{S:Sub}{m:Mc}(h:Mok S m){f:Vl}{l:List Vl}{k:List Fr}(d:nU (.ap f l k) m):lL S (.ap f l k) m (aW S f l k m):=by obtain⟨t,j,C,o⟩:=d;have hF:=nY h;have q:ph S (.ap f l k)=2*S.fuel.toNat+4:=rfl;cases f with|lam i n rest body env=>simp only[aW];split;have d:=oZ (S:=S) (m:=m) (1+l.length) h;rcases hs:eQ S (1+l.length) m with⟨e|u,m1⟩<;>rw[hs]at d;exact d;obtain⟨x,y,z⟩:=mX (rest:=.nil) d.1.ok (by simp only[Vl.ok]) l (d.1.vs j);have e1:m1.steps=m.steps:=d.2;have r:(bK m1 l Vl.nil).2.steps=m.steps:=y.t e1;simp only[];have D:=Dw (l:=[(bK m1 l Vl.nil).1]) x.ok (by simp only[bC];exact⟨by rw[y];exact z,trivial⟩) env;refine rS D (.inr ⟨r,by rw[q];omega⟩) ?_ ?_;show _<=2*(bK m1 l Vl.nil).2.steps;rw[r];exact C;show bO (2*(bK m1 l Vl.nil).2.steps) k;rw[r];exact o;split;exact h.stop De;have d:=oZ (S:=S) (m:=m) n h;rcases hs:eQ S n m with⟨e|u,m1⟩<;>rw[hs]at d;exact d;have e1:m1.steps=m.steps:=d.2;refine rS (Dw d.1.ok (d.1.vs j) env) (.inr ⟨e1,by rw[q];omega⟩) ?_ ?_;show _<=2*m1.steps;rw[e1];exact C;exact d.1.fs o|cont i A w=>simp only[Vl.ok]at t;simp only[aW];split;simp only[bC]at j;exact tF h t.2.2 j.1 t.1 t.2.1 (Nat.lt_of_le_of_lt (iM S _ A) (by have:=t.1;show _<2*S.fuel.toNat+4;omega));exact h.stop De|prim p=>simp only[aW];split;exact h.stop De;split;exact h.stop De;rename_i E;split;exact h.stop De;rename_i F G;split;rename_i g x;simp only[bC]at j;have d:=qJ (S:=S) (m:=m) xN x h j.2.1;rcases hs:bJ S xN x m with⟨e|a,m1⟩<;>rw[hs]at d;exact d;exact Fp d.1.ok d.1.le (d.1.v j.1) d.2 (by have:=d.1.le;show _<=2*m1.steps+1;simp only[]at this;omega) (d.1.fs o);rename_i g;simp only[bC]at j;have d:=pE h;rcases hs:cell S m with⟨e|a,m1⟩<;>rw[hs]at d;exact d;have e1:m1.steps=m.steps:=d.2;show lL S _ m (bT S g [.cont m1.ids k m1.wnd] k {m1 with ids:=m1.ids+1});refine Fp (qU d.1.ok (m1.ids+1)).ok d.1.le (d.1.v j.1) ?_ (by show _<=2*m1.steps+1;omega) (d.1.fs o);simp only[bC,Vl.ok];exact⟨⟨by show _<=2*m1.steps;omega,d.1.fs o,d.1.ok.wnd⟩,trivial⟩;rename_i a b c;simp only[bC]at j;refine nH h rfl j.1 (by simp only[bC]) (by rw[dO rfl];omega) ?_;simp only[bO,Fr.ok];exact⟨⟨j.1,j.2.1,j.2.2.1⟩,o⟩;have s:=Io h p l j (by simpa only[Vl.ok]using t);rcases hs:aI S m p l with⟨e|v,m1⟩<;>rw[hs]at s;exact s;refine⟨s.1.ok,⟨s.2,by have:=s.1.le;show _<=2*m1.steps;simp only[]at this;omega,s.1.fs o⟩,?_⟩;have B:=s.1.le;simp only[]at B;by_cases H:m.steps<m1.steps;exact .inl H;refine .inr ⟨by show m1.steps=m.steps;omega,?_⟩;rw[q];exact Nat.lt_of_le_of_lt (iM S v k) Om|_=>exact h.stop De
def rB(S:Sub)(x:Ex)(env:Option Nat)(k:List Fr)(m:Mc):Ct×Mc:=match x with
 | .quo d=>match eQ S (aH d) m with
  |(.error e,m)=>(.stop e,m)
  |(.ok _,m)=>(.ret (bW m d).1 k,(bW m d).2)
 | .loc up n=>(.ret (lY m env up n) k,m)
 | .glo s=>match lookup s m.glob with
  |some v=>(.ret v k,m)
  |US=>(.stop 5,m)
 | .ite c t e=>(.ev c env (.ite t e env::k),m)
 | .setL up n x=>(.ev x env (.set (.loc up n) env::k),m)
 | .setG s x=>(.ev x env (.set (.glo s) env::k),m)
 | .defG s x=>(.ev x env (.set (.def' s) env::k),m)
 | .lam n rest body=>match cell S m with
  |(.error e,m)=>(.stop e,m)
  |(.ok _,m)=>(.ret (.lam m.ids n rest body env) k,{m with ids:=m.ids+1})
 | .app f l=>(.ev f env (.app [] l env::k),m)
 | .seq x l=>(iE (x::l) env k,m)
 | .skip=>(.ret .none k,m)
theorem Ur{S:Sub}{m:Mc}{x:Ex}{env:Option Nat}{k:List Fr}(a:¬(x=.skip/\k=[])):next S (.ev x env k) m=match step S m with|(.error e,m)=>(.stop e,m)|(.ok _,m)=>rB S x env k m:=by cases x<;>first|rfl|(cases k<;>first|exact absurd ⟨rfl,rfl⟩ a|rfl)
theorem Uq{S:Sub}{m:Mc}(h:Mok S m){c:Ct}(i:nU c m)(D:∀e,c≠.stop e):lL S c m (next S c m):=by have hF:=nY h;match c,i with|.done v,i=>exact⟨h,i⟩|.stop e,_=>exact absurd rfl (D e)|.ap f l k,i=>exact MX h i|.ret v [],i=>exact⟨h,i.1⟩|.ret v (.ite t e env::k),i=>obtain⟨p,o,g⟩:=i;simp only[bO]at g;rw[dO rfl]at o;(have z:ph S (.ret v (.ite t e env::k))=2+(bV k+1):=by show 2+bV _=_;rw[dO rfl]);simp only[next];split;split;exact⟨h,⟨by show _<=2*m.steps;omega,g.2⟩,.inr ⟨rfl,by rw[z];exact Nat.lt_of_le_of_lt (oK S _ env k) Om⟩⟩;exact⟨h,⟨by simp only[Vl.ok],by show _<=2*m.steps;omega,g.2⟩,.inr ⟨rfl,by rw[z];exact Nat.lt_of_le_of_lt (iM S _ k) Om⟩⟩;exact⟨h,⟨by show _<=2*m.steps;omega,g.2⟩,.inr ⟨rfl,by rw[z];exact Nat.lt_of_le_of_lt (oK S _ env k) Om⟩⟩|.ret v (.set t env::k),i=>obtain⟨p,o,g⟩:=i;simp only[bO]at g;rw[dO rfl]at o;(have z:ph S (.ret v (.set t env::k))=2+(bV k+1):=by show 2+bV _=_;rw[dO rfl]);simp only[next];split;rename_i up n;obtain⟨a,b⟩:=Nq h env up n p;exact⟨a,⟨by simp only[Vl.ok],by show _<=2*(lS m env up n v).steps;rw[b];omega,by show bO (2*(lS m env up n v).steps) k;rw[b];exact g.2⟩,.inr ⟨b,by rw[z];exact Nat.lt_of_le_of_lt (iM S _ k) Om⟩⟩;rename_i s;exact⟨Cz h p,⟨by simp only[Vl.ok],by show _<=2*m.steps;omega,g.2⟩,.inr ⟨rfl,by rw[z];exact Nat.lt_of_le_of_lt (iM S _ k) Om⟩⟩;rename_i s;split;exact⟨Cz h p,⟨by simp only[Vl.ok],by show _<=2*m.steps;omega,g.2⟩,.inr ⟨rfl,by rw[z];exact Nat.lt_of_le_of_lt (iM S _ k) Om⟩⟩;exact h.stop De|.ret v (.body l env::k),i=>obtain⟨p,o,g⟩:=i;simp only[bO]at g;rw[dO rfl]at o;(have z:ph S (.ret v (.body l env::k))=2+(bV k+1):=by show 2+bV _=_;rw[dO rfl]);simp only[next];exact rS h (.inr ⟨rfl,by rw[z];omega⟩) o g.2|.ret v (.app vs [] env::k),i=>obtain⟨p,o,g⟩:=i;simp only[bO,Fr.ok]at g;rw[dO rfl]at o;have A:bC (2*m.steps) (vs++[v]):=oksV_append.mpr ⟨g.1,by simp only[bC];exact⟨p,trivial⟩⟩;simp only[next];split;rename_i f l B;rw[B]at A;simp only[bC]at A;exact nH h rfl A.1 A.2 Om g.2;exact h.stop De|.ret v (.app vs (x::r) env::k),i=>obtain⟨p,o,g⟩:=i;simp only[bO,Fr.ok]at g;have A:bC (2*m.steps) (vs++[v]):=oksV_append.mpr ⟨g.1,by simp only[bC];exact⟨p,trivial⟩⟩;simp only[next];refine⟨h,⟨?_,?_⟩,.inr ⟨rfl,?_⟩⟩;rw[dO rfl]at o|-;exact o;simp only[bO,Fr.ok];exact⟨A,g.2⟩;show ph S (.ev x env (.app (vs++[v]) r env::k))<_;rw[zR];show 0<2+bV _;omega|.ret v (.wind1 a b d::k),i=>obtain⟨p,o,g⟩:=i;simp only[bO,Fr.ok]at g;rw[dO rfl]at o;simp only[next];(have E:cS (2*m.steps) (.mk m.ids a d::m.wnd):=by simp only[cS,Wn.ok];exact⟨⟨g.1.1,g.1.2.2⟩,h.wnd⟩);refine nH (nW h E (m.ids+1)) rfl g.1.2.1 (by simp only[bC]) (by rw[dO rfl];show _<=2*m.steps+1;omega) ?_;simp only[bO,Fr.ok];exact⟨⟨g.1.2.2,h.wnd⟩,g.2⟩|.ret v (.wind2 d w::k),i=>obtain⟨p,o,g⟩:=i;simp only[bO,Fr.ok]at g;rw[dO rfl]at o;simp only[next];have:=nW h g.1.2 m.ids;refine nH (nW h g.1.2 m.ids) rfl g.1.1 (by simp only[bC]) (by rw[dO rfl];show _<=2*m.steps+1;omega) ?_;simp only[bO,Fr.ok];exact⟨p,g.2⟩|.ret _ (.wind3 v::k),i=>obtain⟨p,o,g⟩:=i;simp only[bO,Fr.ok]at g;rw[dO rfl]at o;simp only[next];exact⟨h,⟨g.1,by show _<=2*m.steps;omega,g.2⟩,.inr ⟨rfl,Nat.lt_of_le_of_lt (iM S v k) (by show _<2+bV _;rw[dO rfl];omega)⟩⟩|.ret _ (.back to v k::r),i=>obtain⟨p,o,g⟩:=i;simp only[bO,Fr.ok]at g;rw[vF]at o;simp only[next];exact tF h g.1.1 g.1.2.1 Om g.1.2.2 (Nat.lt_of_le_of_lt (iM S v k) (by show _<2+bV _;rw[vF];omega))|.ret _ (.into now to v k::r),i=>obtain⟨p,o,g⟩:=i;simp only[bO,Fr.ok]at g;rw[vE]at o;simp only[next];exact tF (m:={m with wnd:=now}) (nW h g.1.1 m.ids) g.1.2.1 g.1.2.2.1 (by show _<=2*m.steps;omega) g.1.2.2.2 (Nat.lt_of_le_of_lt (iM S v k) (by show _<2+bV _;rw[vE];omega))|.ev .skip env [],i=>exact⟨h,⟨by simp only[Vl.ok],i.1,i.2⟩,.inr ⟨rfl,by show 1<2;decide⟩⟩|.ev x env k,i=>by_cases C:x=.skip/\k=[];obtain⟨rfl,rfl⟩:=C;exact⟨h,⟨by simp only[Vl.ok],i.1,i.2⟩,.inr ⟨rfl,by show 1<2;decide⟩⟩;obtain⟨o,g⟩:=i;have y:=nZ h;have B:=Ur (S:=S) (m:=m) (env:=env) C;rw[B];rcases hs:step S m with⟨e|u,m1⟩<;>rw[hs]at y;exact y;have e1:m1.steps=m.steps+1:=y.2;have j:=y.1.fs g;have q:=y.1.ok;have lt:m.steps<m1.steps:=Om;simp only[];cases x with|quo d=>simp only[rB];have i:=oZ (S:=S) (m:=m1) (aH d) q;rcases hs:eQ S (aH d) m1 with⟨e|u,m2⟩<;>rw[hs]at i;exact i;obtain⟨a,b,c⟩:=Aj d i.1.ok;have e2:m2.steps=m1.steps:=i.2;refine⟨a.ok,⟨by show Vl.ok (2*(bW m2 d).2.steps) _;rw[b];exact c,?_,?_⟩,.inl (by show _<(bW m2 d).2.steps;rw[b];show _<m2.steps;omega)⟩;show _<=2*(bW m2 d).2.steps;rw[b];show _<=2*m2.steps;omega;exact a.fs (i.1.fs j)|loc up n=>exact⟨q,⟨Xg q env,by show _<=2*m1.steps;omega,j⟩,.inl lt⟩|glo s=>simp only[rB];split;rename_i A;exact⟨q,⟨Bj (P:=λu=>u.ok (2*m1.steps)) q.glob A,by show _<=2*m1.steps;omega,j⟩,.inl lt⟩;exact q.stop De|ite c t e=>exact⟨q,⟨by rw[dO rfl];show _<=2*m1.steps;omega,by simp only[bO,Fr.ok];exact⟨trivial,j⟩⟩,.inl lt⟩|setL up n x=>exact⟨q,⟨by rw[dO rfl];show _<=2*m1.steps;omega,by simp only[bO,Fr.ok];exact⟨trivial,j⟩⟩,.inl lt⟩|setG s x=>exact⟨q,⟨by rw[dO rfl];show _<=2*m1.steps;omega,by simp only[bO,Fr.ok];exact⟨trivial,j⟩⟩,.inl lt⟩|defG s x=>exact⟨q,⟨by rw[dO rfl];show _<=2*m1.steps;omega,by simp only[bO,Fr.ok];exact⟨trivial,j⟩⟩,.inl lt⟩|lam n rest body=>simp only[rB];have i:=pE q;rcases hs:cell S m1 with⟨e|u,m2⟩<;>rw[hs]at i;exact i;have e2:m2.steps=m1.steps:=i.2;exact⟨(qU i.1.ok _).ok,⟨by simp only[Vl.ok],by show _<=2*m2.steps;omega,i.1.fs j⟩,.inl (by show _<m2.steps;omega)⟩|app f l=>exact⟨q,⟨by rw[dO rfl];show _<=2*m1.steps;omega,by simp only[bO,Fr.ok];exact⟨by simp only[bC],j⟩⟩,.inl lt⟩|seq x l=>exact rS q (.inl lt) (by show _<=2*m1.steps;omega) j|skip=>exact⟨q,⟨by simp only[Vl.ok],by show _<=2*m1.steps;omega,j⟩,.inl lt⟩
def mu(S:Sub)(c:Ct)(m:Mc):Nat:=(S.fuel.toNat-m.steps)*(2*S.fuel.toNat+5)+ph S c
theorem UL{S:Sub}{m:Mc}(h:Mok S m){c:Ct}(a:nU c m):ph S c<=2*S.fuel.toNat+4:=by have hF:=nY h;cases c with|ev x env k=>exact eT (oK S x env k) Om|ret v k=>exact eT (iM S v k) (by have:=a.2.1;omega)|ap f l k=>exact eR _|done v=>exact XG _|stop v=>exact XG _
def QA(S:Sub)(r:Ct×Mc):Prop:=match r.1 with
 | .done v=>Mok S r.2/\v.ok (2*r.2.steps)
 | .stop e=>Ended S e r.2
 |_=>False
theorem tW{c c':Ct}{M:Mc}(d:Mok S M)(b:nU c' M)(e:m.steps<M.steps\/(M.steps=m.steps/\ph S c'<ph S c)):mu S c' M<mu S c m:=by have hF:=nY d;unfold mu;rcases e with e|⟨f,h⟩;have i:=UL d b;obtain⟨a,g⟩:∃a,S.fuel.toNat-m.steps=(S.fuel.toNat-M.steps)+1+a:=⟨M.steps-m.steps-1,by omega⟩;rw[g,Nat.add_mul,Nat.add_mul];omega;rw[f];omega
theorem qY{S:Sub}:∀(n:Nat) {c:Ct} {m:Mc},Mok S m->nU c m->(∀e,c≠.stop e)->mu S c m<n->QA S (go S n c m)
 |0,c,m,_,_,_,hn=>absurd hn (Nat.not_lt_zero _)
 |n+1,c,m,h,hc,he,hn=>by rw[CS];have a:=Uq h hc he;rcases hr:next S c m with⟨c',b⟩;rw[hr]at a;cases c' with|stop e=>rw[vA];exact a|done v=>rw[vB];exact a|ev x env k=>exact qY n a.1 a.2.1 (λe=>by simp) (by have:=tW a.1 a.2.1 a.2.2;simp only[]at this|-;omega)|ret v k=>exact qY n a.1 a.2.1 (λe=>by simp) (by have:=tW a.1 a.2.1 a.2.2;simp only[]at this|-;omega)|ap f l k=>exact qY n a.1 a.2.1 (λe=>by simp) (by have:=tW a.1 a.2.1 a.2.2;simp only[]at this|-;omega)
end Sc
end
end
section
open Sc
open _root_.Bool renaming and_eq_true→YT
open _root_.List renaming getElem?_map→ZJ,length_cons→XP,length→WN,map_cons→WT,map_nil→YR,mem_cons→VR,mem_map→VT,not_mem_nil→YH
open _root_.Nat renaming le_succ→VL,zero_add→ZO,zero_le→XG
open _root_.Option renaming none→US
open Go.World renaming cell?→UT,frozen?→UU
variable {A C rw:Int}{G:Gh}{Q:En->Wd->Prop}{S:Sub}{T b n:Nat}{W W' a0 w w':Wd}{Y Z x7 x8 x9:Vu}{g0 l:List UInt8}{ts:List BA}{x y:Xs}{α β:Type}
section
namespace Sc
open Go
structure FOk {α:Type} (S:Sub) (x:Xs) (r:Except Nat α×Xs):Prop where
 up:x.count<=r.2.count
 le:(r.2.count:Int)<=S.rewrites
 er:∀e,r.1=.error e->e=4\/(e=12/\(r.2.count:Int)=S.rewrites)
def eO(S:Sub)(x:Xs):Nat:=(S.rewrites.toNat-x.count)*2400
theorem Aq(h:x.count<=y.count):eO S y<=eO S x:=by unfold eO;exact Nat.mul_le_mul_right _ Om
theorem FOk.refl(h:(x.count:Int)<=S.rewrites){r:Except Nat α}(a:∀e,r=.error e->e=4):FOk S x (r,x):=⟨eR _,h,λe b=>.inl (a e b)⟩
theorem FOk.ok(h:(x.count:Int)<=S.rewrites)(a:α):FOk S x ((.ok a,x):Except Nat α×Xs):=⟨eR _,h,λe b=>by cases b⟩
theorem FOk.bad(h:(x.count:Int)<=S.rewrites):FOk S x ((.error 4,x):Except Nat α×Xs):=⟨eR _,h,λe a=>by cases a;exact .inl rfl⟩
theorem FOk.after{r:Except Nat α×Xs}{a:β}(h:FOk S x ((.ok a,y):Except Nat β×Xs))(k:FOk S y r):FOk S x r:=⟨eT h.up k.up,k.le,k.er⟩
theorem FOk.err{e:Nat}(h:FOk S x ((.error e,y):Except Nat β×Xs)):FOk S x ((.error e,y):Except Nat α×Xs):=⟨h.up,h.le,λa b=>h.er a (by cases b;rfl)⟩
theorem xT(h:(x.count:Int)<=S.rewrites)(mc:Macro)(args:List Dt)(sc:aF):(∀e y,eI S x mc args sc=(.error e,y)->FOk S x ((.error e,y):Except Nat Unit×Xs))/\(∀d y z,eI S x mc args sc=(.ok (d,y),z)->(y.count=x.count+1)/\((y.count:Int)<=S.rewrites)/\aX d<=600):=by unfold eI;by_cases c:S.rewrites<=(x.count:Int);rw[if_pos c];refine⟨λe y a=>?_,λd y z a=>by simp at a⟩;cases a;exact⟨eR _,h,λe a=>by cases a;exact .inr ⟨rfl,by show(x.count:Int)=S.rewrites;omega⟩⟩;rw[if_neg c];have b:FOk S x ((.error 4,{x with count:=x.count+1}):Except Nat Unit×Xs):=⟨VL _,by show((x.count+1:Nat):Int)<=_;omega,λe a=>by cases a;exact .inl rfl⟩;simp only[];split;exact⟨λe y a=>by cases a;exact b,λd y z a=>by simp at a⟩;split;exact⟨λe y a=>by cases a;exact b,λd y z a=>by simp at a⟩;split;refine⟨λe y a=>by simp at a,λd y z a=>?_⟩;cases a;exact⟨rfl,by show((x.count+1:Nat):Int)<=_;omega,by assumption⟩;exact⟨λe y a=>by cases a;exact b,λd y z a=>by simp at a⟩
theorem Fl:∀{l ns vs:List Dt},iG l=sT (ns,vs)->aO vs<=aO l
 |[],ns,vs,h=>by simp[iG]at h;rw[<-h.2];exact eR _
 |d::r,ns,vs,h=>by unfold iG at h;split at h;simp at*;rename_i n v r' a;(obtain⟨rfl,rfl⟩:d=.list [n,v]/\r=r':=by simpa using a);(cases hb:iG r with|none=>rw[hb]at h;simp at h|some p=>rw[hb]at h;simp at h;have:=Fl (l:=r) (ns:=p.1) (vs:=p.2) hb;rw[<-h.2];simp only[aO,aX];omega);simp at h
theorem parts_pos(d:Dt):1<=aX d:=by cases d<;>simp only[aX]<;>omega
def QD(S:Sub)(f:Nat):Prop:=
 (∀x sc d,(x.count:Int)<=S.rewrites->eO S x+4*aX d<=f->FOk S x (form S f x sc d))/\
 (∀x sc l,(x.count:Int)<=S.rewrites->eO S x+4*aO l+2<=f->FOk S x (app S f x sc l))/\
 (∀x sc l,(x.count:Int)<=S.rewrites->eO S x+4*aO l+1<=f->FOk S x (bG S f x sc l))/\
 (∀x sc p l,(x.count:Int)<=S.rewrites->eO S x+4*aO l+2<=f->FOk S x (cK S f x sc p l))/\
 (∀x sc k l,(x.count:Int)<=S.rewrites->eO S x+4*aO l+3<=f->FOk S x (bP S f x sc k l))
theorem Ap(h:y.count=x.count+1)(c:(y.count:Int)<=S.rewrites):eO S y+2400<=eO S x:=by unfold eO;obtain⟨a,b⟩:∃a,S.rewrites.toNat-x.count=(S.rewrites.toNat-y.count)+1+a:=⟨0,by omega⟩;rw[b,Nat.add_mul,Nat.add_mul];omega
theorem wR(S:Sub):∀f,QD S f
 |0=>by refine⟨λx sc d h n=>?_,λx sc d h n=>?_,λx sc d h n=>?_,λx sc p d h n=>?_,λx sc p d h n=>?_⟩;have:=parts_pos d;omega;all_goals omega
 |f+1=>by obtain⟨q,o,i,w,A⟩:=wR S f;(have B:∀(x:Xs) (sc:aF) (l:List Dt) (g:List Ex->Except Nat Ex),(∀r e,g r=.error e->e=4)->(x.count:Int)<=S.rewrites->eO S x+4*aO l+1<=f->FOk S x (match bG S f x sc l with|(.ok r,x)=>(g r,x)|(.error e,x)=>(.error e,x)):=by intro x sc l g E h n;have:=i x sc l h n;rcases j:bG S f x sc l with⟨e|r,y⟩<;>rw[j]at this;exact this.err;exact this.after (FOk.refl this.le (E r)));refine⟨λx sc d h n=>?_,λx sc l h n=>?_,λx sc l h n=>?_,λx sc p l h n=>?_,λx sc k l h n=>?_⟩;(cases d with|num v=>exact FOk.ok h _|bool v=>exact FOk.ok h _|str v=>exact FOk.ok h _|sym t m=>simp only[form];split;exact FOk.ok h _;exact FOk.bad h|list l=>simp only[aX]at n;cases l with|nil=>exact FOk.bad h|cons d r=>cases d with|sym t m=>simp only[aO,aX]at n;simp only[form];split;exact o x sc _ h (by simp only[aO,aX];omega);rename_i mc _;obtain⟨F,G⟩:=xT h mc r sc;rcases hu:eI S x mc r sc with⟨e|⟨d,y⟩,z⟩;exact(F e z hu).err;obtain⟨c1,c2,c3⟩:=G d y z hu;have:=Ap c1 c2;exact FOk.after (a:=()) ⟨by show x.count<=y.count;omega,c2,λe H=>by cases H⟩ (q y sc d c2 Om);exact A x sc _ _ h Om|num v=>exact o x sc _ h Om|bool v=>exact o x sc _ h Om|str v=>exact o x sc _ h Om|list v=>exact o x sc _ h Om);simp only[app];have:=i x sc l h Om;rcases j:bG S f x sc l with⟨e|r,y⟩<;>rw[j]at this;exact this.err;(cases r with|nil=>exact this.after (FOk.bad this.le)|cons a r=>exact this.after (FOk.ok this.le _));(cases l with|nil=>exact FOk.ok h _|cons d r=>simp only[aO]at n;have K:=parts_pos d;simp only[bG];have s:=q x sc d h Om;rcases j:form S f x sc d with⟨e|a,y⟩<;>rw[j]at s;exact s.err;have C:=Aq (S:=S) s.up;simp only[]at C;have u:=i y sc r s.le Om;simp only[];rcases hq:bG S f y sc r with⟨e|a,z⟩<;>rw[hq]at u;exact s.after u.err;exact s.after (u.after (FOk.ok u.le _)));simp only[cK];split;exact FOk.bad h;rename_i D rest _;have:=i x (D::sc) l h Om;rcases j:bG S f x (D::sc) l with⟨e|r,y⟩<;>rw[j]at this;exact this.err;exact this.after (FOk.ok this.le _);unfold bP;split;exact FOk.ok h _;rename_i a b;have:=i x sc [a,b] h Om;split;rename_i j;rw[j]at this;exact this.after (FOk.ok this.le _);rename_i j;rw[j]at this;exact this.after (FOk.bad this.le);rename_i j;rw[j]at this;exact this.err;rename_i a b c;have:=i x sc [a,b,c] h Om;split;rename_i j;rw[j]at this;exact this.after (FOk.ok this.le _);rename_i j;rw[j]at this;exact this.after (FOk.bad this.le);rename_i j;rw[j]at this;exact this.err;rename_i b r;have:=i x sc (b::r) h Om;split;rename_i j;rw[j]at this;exact this.after (FOk.ok this.le _);rename_i j;rw[j]at this;exact this.after (FOk.bad this.le);rename_i j;rw[j]at this;exact this.err;rename_i v a;split;exact FOk.bad h;simp only[aO]at n;have:=q x sc a h Om;rcases j:form S f x sc a with⟨e|r,y⟩<;>rw[j]at this;exact this.err;simp only[];split;exact this.after (FOk.ok this.le _);exact this.after (FOk.ok this.le _);exact this.after (FOk.bad this.le);rename_i p b r;simp only[aO]at n;exact w x sc p (b::r) h (by simp only[aO];omega);rename_i bs b r;split;exact FOk.bad h;rename_i ns vs I;have J:=Fl I;simp only[aO,aX]at n;have s:=w x sc (.list ns) (b::r) h (by simp only[aO];omega);rcases j:cK S f x sc (.list ns) (b::r)with⟨e|g,y⟩<;>rw[j]at s;exact s.err;have C:=Aq (S:=S) s.up;simp only[]at C;have u:=i y sc vs s.le Om;simp only[];rcases hq:bG S f y sc vs with⟨e|a,z⟩<;>rw[hq]at u;exact s.after u.err;exact s.after (u.after (FOk.ok u.le _));exact FOk.bad h
theorem KI{f:Nat}{l:List Dt}(h:(x.count:Int)<=S.rewrites)(n:eO S x+4*aO l+2<=f):FOk S x (dK S f x l):=by obtain⟨c,_,_,i,_⟩:=wR S f;unfold dK;split;rename_i t _ a;simp only[aO,aX]at n;split;exact FOk.bad h;have:=c (x.drop t) [] a h (by show eO S x+_<=_;omega);rcases hr:form S f (x.drop t) [] a with⟨e|g,y⟩<;>rw[hr]at this;exact⟨this.up,this.le,λj d=>this.er j (by cases d;rfl)⟩;exact⟨this.up,this.le,λj d=>by cases d⟩;rename_i t _ k b r;simp only[aO,aX]at n;split;exact FOk.bad h;have:=i (x.drop t) [] (.list k) (b::r) h (by show eO S x+_+2<=_;simp only[aO];omega);rcases hr:cK S f (x.drop t) [] (.list k) (b::r)with⟨e|g,y⟩<;>rw[hr]at this;exact⟨this.up,this.le,λj d=>this.er j (by cases d;rfl)⟩;exact⟨this.up,this.le,λj d=>by cases d⟩;exact FOk.bad h
theorem Kc{l:List Dt}(h:(x.count:Int)<=S.rewrites):FOk S x (fS x l):=by unfold fS;split;split;exact FOk.bad h;split;exact FOk.bad h;split;exact FOk.bad h;exact⟨eR _,h,λe a=>by cases a⟩;exact FOk.bad h
theorem xX(S:Sub)(f:Nat):∀(x:Xs) (d:Dt),(x.count:Int)<=S.rewrites->eO S x+4*aX d<=f->FOk S x (top S f x d):=by induction f with|zero=>intro x d h n;have:=parts_pos d;omega|succ f c=>intro x d h n;have b:=(wR S (f+1)).1 x [] d h n;unfold top;split;rename_i t m r;simp only[aX,aO]at n;split;exact KI h Om;exact Kc h;rename_i mc _;obtain⟨g,i⟩:=xT h mc r [];rcases hu:eI S x mc r []with⟨e|⟨d,y⟩,z⟩;exact(g e z hu).err;obtain⟨c1,c2,c3⟩:=i d y z hu;have:=Ap c1 c2;exact FOk.after (a:=()) ⟨by show x.count<=y.count;omega,c2,λe j=>by cases j⟩ (c y d c2 Om);exact b;exact b
end Sc
end
section
namespace Sc
open Go
open Py rd
open Px (skip skip_suf)
theorem zV:∀(a b:List Dt),aO (a++b)=aO a+aO b
 |[],b=>by simp[aO]
 |d::r,b=>by simp only[List.cons_append,aO,zV r b];omega
def sF(r:Py.R):Prop:=∀xs rr,r=.inr (xs,rr)->aO xs=1
theorem rM{t:Dt}(h:aX t=1):sF (Py.closed t g0):=by intro xs b a;unfold Py.closed at a;split at a;cases a;simp only[aO,h];split at a;cases a;simp only[aO,h];cases a
theorem Hp:sF (Py.word l):=by unfold Py.word Py.wordOf;split;split;exact rM (by simp only[aX]);intro xs b a;cases a;split;intro xs b a;cases a;exact rM (by simp only[aX])
theorem Lj:sF (Py.str l):=by unfold Py.str;split;intro xs b a;cases a;split;intro xs b a;cases a;simp only[aO,aX];intro xs b a;cases a
theorem Jl:sF (Py.truth l):=by unfold Py.truth;split;intro xs b a;cases a;split;exact rM (by simp only[aX]);split;exact rM (by simp only[aX]);intro xs b a;cases a
theorem oH:∀(f:Nat) (b:Bool) (d:Nat) (l:List UInt8) (xs:List Dt) (g:List UInt8),rd f b d l=.inr (xs,g)->aO xs+2*g.length<=2*l.length
 |0,b,d,l,xs,g,h=>by simp[rd]at h
 |f+1,xA,d,l,xs,g,h=>by have j:=(skip_suf l xN).length_le;unfold rd at h;cases hk:skip xN l with|nil=>rw[hk]at h;simp at h|cons c r=>rw[hk]at h j;simp only[XP]at j;simp only at h;split at h;cases h;simp only[aO];omega;rcases h1:rd f xN d (c::r)with e|⟨x,i⟩;rw[h1]at h;simp at h;rw[h1]at h;simp only at h;rcases h2:rd f xA d i with e|⟨x2,m⟩;rw[h2]at h;simp at h;rw[h2]at h;simp at h;obtain⟨rfl,rfl⟩:=h;have a:=oH f xN d (c::r) x i h1;have b:=oH f xA d i x2 m h2;rw[zV];simp only[XP]at a;omega
 |f+1,xN,d,l,xs,g,h=>by have k:=Py.rd_short (f+1) xN d l xs g h;have j:=(skip_suf l xN).length_le;unfold rd at h;cases hk:skip xN l with|nil=>rw[hk]at h;simp at h|cons c r=>rw[hk]at h j;simp only[XP]at j;simp only at h;split at h;split at h;simp at h;rcases h1:rd f xA (d+1) r with e|⟨x,i⟩;rw[h1]at h;simp at h;rw[h1]at h;simp at h;obtain⟨rfl,rfl⟩:=h;have a:=oH f xA (d+1) r x i h1;simp only[aO,aX];omega;split at h;split at h;simp at h;rcases h1:rd f xN (d+1) r with e|⟨x,i⟩;rw[h1]at h;simp at h;rw[h1]at h;simp at h;obtain⟨rfl,rfl⟩:=h;have a:=oH f xN (d+1) r x i h1;simp only[aO,aX];omega;(have one:aO xs=1:=by split at h;exact Lj xs g h;split at h;exact Jl xs g h;split at h;exact Hp xs g h;simp at h);have:=k.2.1;omega
theorem xZ:∀(f:Nat) (l:List UInt8) (xs:List (Dt×Nat)) (d:List UInt8),Py.topP f l=.inr (xs,d)->∀p∈xs,aX p.1<=2*l.length
 |0,l,xs,d,h=>by simp[Py.topP]at h
 |f+1,l,xs,d,h=>by have g:=(skip_suf l xN).length_le;unfold Py.topP at h;cases hk:skip xN l with|nil=>rw[hk]at h;simp at h;obtain⟨rfl,rfl⟩:=h;simp|cons c r=>rw[hk]at h g;simp only[XP]at g;simp only at h;rcases h1:rd f xN 0 (c::r)with e|⟨x,b⟩;rw[h1]at h;simp at h;rw[h1]at h;simp only at h;rcases h2:Py.topP f b with e|⟨x2,i⟩;rw[h2]at h;simp at h;rw[h2]at h;simp only[Sum.inr.injEq,Prod.mk.injEq]at h;obtain⟨rfl,rfl⟩:=h;have a:=oH f xN 0 (c::r) x b h1;have sh:=Py.rd_short f xN 0 (c::r) x b h1;simp only[XP]at a;obtain⟨t,rfl⟩:=sh.2.2 rfl;simp only[aO]at a;intro p hp;rcases List.mem_append.mp hp with hp|hp;simp only[WT,YR,List.mem_singleton]at hp;subst hp;show aX t<=_;omega;have:=xZ f b x2 i h2 p hp;have:=sh.2.1;simp only[XP]at this;omega
theorem vC{P:Vl->Prop}(k:α->Bs)(v:α->Vl):∀(l:List α) (g:List (Bs×Vl)),(∀a∈l,P (v a))->(∀p∈g,P p.2)->∀p∈l.foldl (λg a=>put (k a) (v a) g) g,P p.2
 |[],_,_,hg=>hg
 |a::l,_,hl,hg=>vC k v l _ (λb c=>hl b (List.mem_cons_of_mem _ c)) (tJ (hl a (List.mem_cons_self ..)) hg)
def Gv(S:Sub)(L:Nat)(r:(Option Nat×Nat)×Option Vl×Xs×Mc):Prop:=
 (r.2.2.1.count:Int)<=S.rewrites/\r.1.2<=L/\match r.1.1 with
  |US=>Mok S r.2.2.2
  |some e=>Ended S e r.2.2.2\/((e=4\/(e=12/\(r.2.2.1.count:Int)=S.rewrites))/\Mok S r.2.2.2)
theorem Er{S:Sub}(j:S.fuel<=20000)(l:S.rewrites<=500)(L:Nat):∀(fs:List (Dt×Nat)) (v:Option Vl) (x:Xs) (m:Mc),Mok S m->(x.count:Int)<=S.rewrites->(∀p∈fs,aX p.1<=2400/\p.2<=L)->Gv S L (dV S fs v x m)
 |[],v,x,m,h,hx,_=>⟨hx,XG _,h⟩
 |(d,p)::r,v,x,m,h,hx,hp=>by have i:=hp (d,p) (List.mem_cons_self ..);have g:=xX S fV x d hx (by have:eO S x<=500*2400:=Nat.mul_le_mul_right _ Om;have:=i.1;show _<=1000000000;simp only[]at this;omega);simp only[dV];rcases htt:top S fV x d with⟨e|e,y⟩<;>rw[htt]at g;exact⟨g.le,i.2,.inr ⟨g.er e rfl,h⟩⟩;simp only[];have hF:=nY h;have n:S.fuel.toNat<=20000:=Om;have f:=qY (S:=S) fV (c:=.ev e US []) h ⟨XG _,by simp only[bO]⟩ (λe=>by simp) (by show _<1000000000;unfold mu;have t:=oK S e US [];have w:(S.fuel.toNat-m.steps)*(2*S.fuel.toNat+5)<=20000*40005:=Nat.mul_le_mul Om Om;omega);rcases hgg:go S fV (.ev e US []) m with⟨c',o⟩;rw[hgg]at f;cases c' with|done u=>exact Er j l L r (sT u) y o f.1 g.le (λq s=>hp q (List.mem_cons_of_mem _ s))|stop k=>exact⟨g.le,i.2,.inl f⟩|ev a b c=>exact f.elim|ret a b=>exact f.elim|ap a b c=>exact f.elim
end Sc
end
section
open Go.RowKit Go.Shelf
open Sc
structure SubV where
 t:BA
 sa:OA
 sn:Nat
 sc:Nat
 li:Vu
 ti:Vu
 dr:Vu
 g:Int
 f:Int
 r:Int
 q:Int
 m:Int
def SubV.c(z:SubV):Array Vu:=dY z.t z.sa z.sn z.sc z.li z.ti z.dr z.g z.f z.r z.q z.m
theorem c9{x1 x2 x3 x4 x5:Vu}(h:w.heap[b]? =sT (Cl #[Y,x1,x2,x3,x4,x5,Z,x7,x8] T (0,0))):w.cell? (Aa b)=sT Y/\w.cell? (Ab b 1)=sT x1/\w.cell? (Ab b 2)=sT x2/\w.cell? (Ab b 3)=sT x3/\w.cell? (Ab b 4)=sT x4/\w.cell? (Ab b 5)=sT x5/\w.cell? (Ab b 6)=sT Z/\w.cell? (Ab b 7)=sT x7/\w.cell? (Ab b 8)=sT x8/\∀o,w.frozen? (Ab b o)=xN:=by refine⟨?_,?_,?_,?_,?_,?_,?_,?_,?_,λo=>by simp[UU,h]⟩<;>simp only[UT,h]<;>rfl
theorem lJ{x1 x2 x3 x4 x5:Vu}(h:w.heap[b]? =sT (Cl #[Y,x1,x2,x3,x4,x5,Z,x7,x8,x9] T (0,0))):w.cell? (Aa b)=sT Y/\w.cell? (Ab b 1)=sT x1/\w.cell? (Ab b 2)=sT x2/\w.cell? (Ab b 3)=sT x3/\w.cell? (Ab b 4)=sT x4/\w.cell? (Ab b 5)=sT x5/\w.cell? (Ab b 6)=sT Z/\w.cell? (Ab b 7)=sT x7/\w.cell? (Ab b 8)=sT x8/\w.cell? (Ab b 9)=sT x9:=by refine⟨?_,?_,?_,?_,?_,?_,?_,?_,?_,?_⟩<;>simp only[UT,h]<;>rfl
theorem mL{x1 x2 x3 x4 x5 a:Vu}(h:w.heap[b]? =sT (Cl #[Y,x1,x2,x3,x4,x5,Z,x7,x8,x9,a] T (0,0))):w.cell? (Aa b)=sT Y/\w.cell? (Ab b 1)=sT x1/\w.cell? (Ab b 2)=sT x2/\w.cell? (Ab b 3)=sT x3/\w.cell? (Ab b 4)=sT x4/\w.cell? (Ab b 5)=sT x5/\w.cell? (Ab b 6)=sT Z/\w.cell? (Ab b 7)=sT x7/\w.cell? (Ab b 8)=sT x8/\w.cell? (Ab b 9)=sT x9/\w.cell? (Ab b 10)=sT a/\∀o,w.frozen? (Ab b o)=xN:=by refine⟨?_,?_,?_,?_,?_,?_,?_,?_,?_,?_,?_,λo=>by simp[UU,h]⟩<;>simp only[UT,h]<;>rfl
def gR(z:SubV)(w:Wd):Wd:=(w.alloc (Cl z.c 34)).alloc (Cl (eC 0 0 0 ⟨#[]⟩ 0 0 0) 29)
def iU(z:SubV)(w:Wd):Wd:=((((gR z w).alloc (Cl #[Ii 0,Ii z.f,Ii 10] 164)).alloc (Cl #[Ii 0,Ii z.q,Ii 11] 164)).alloc (.map #[] 0)).alloc (Cl #[bp (w.heap.size+2),bp (w.heap.size+3),.map (sT (w.heap.size+4)),.nilIface,.pointer sV] 119)
def lC(z:SubV)(w:Wd):Wd:=(iU z w).alloc (Cl #[Ii 0,Ii z.r,Ii 12] 164)
def lD(z:SubV)(w:Wd):Wd:=(lC z w).alloc (Cl (cP (w.heap.size+5) (w.heap.size+6) 0 0 0 ⟨#[]⟩) 112)
theorem qX(z:SubV)(w:Wd):(gR z w).heap[w.heap.size]? =sT (Cl z.c 34)/\(iU z w).heap[w.heap.size]? =sT (Cl z.c 34)/\(lC z w).heap[w.heap.size]? =sT (Cl z.c 34)/\(lD z w).heap[w.heap.size]? =sT (Cl z.c 34):=by
 have a:(gR z w).heap[w.heap.size]? =sT (Cl z.c 34):=by unfold gR;rw[eH _ _ _ Sm];exact eN _ _
 have b:(iU z w).heap[w.heap.size]? =sT (Cl z.c 34):=by unfold iU;(iterate 4 rw[eH _ _ _ (by simp[gR];omega)]);exact a
 have d:(lC z w).heap[w.heap.size]? =sT (Cl z.c 34):=by unfold lC;rw[eH _ _ _ (by simp[iU,gR];omega)];exact b
 exact⟨a,b,d,by unfold lD;rw[eH _ _ _ (by simp[lC,iU,gR];omega)];exact d⟩
def GSV(z:SubV)(n:Nat)(w:Wd):Prop:=w.cell? (Ab n 6)=sT (Ii z.f)/\w.cell? (Ab n 8)=sT (Ii z.q)/\w.cell? (Ab n 7)=sT (Ii z.r)
theorem GSV.of{z:SubV}(h:w.heap[n]? =sT (Cl z.c 34)):GSV z n w:=by refine⟨?_,?_,?_⟩<;>simp only[UT,h]<;>rfl
theorem CQ(z:SubV)(w w':Wd)(h:Lk (gR z w) w'):Cp 54 #[Ii z.f,Ii z.q] w' λe b=>e=Rt (bp (w.heap.size+5))/\GSV z w.heap.size b/\Lk (iU z w) b:=by
 have c:w'.heap.size=w.heap.size+2:=by rw[h.heap];simp[gR]
 refine Calls.mo Ws ?_;rintro e b ⟨rfl,d⟩;rw[c]at d;have a:Lk (iU z w) b:=jE ((((h.lkA' _).lkA' _).lkA' _).lkA' _) d;exact⟨by rw[c],GSV.of (by rw[a.heap];exact(qX z w).2.1),a⟩
theorem CP(z:SubV)(w w':Wd)(h:Lk (iU z w) w'):Cp 55 #[Ii z.r,Ii 12] w' λe a=>e=Rt (bp (w.heap.size+6))/\GSV z w.heap.size a/\a.heap.size=w.heap.size+7/\Lk (lC z w) a:=by
 have c:w'.heap.size=w.heap.size+6:=by rw[h.heap];simp[iU,gR]
 refine Calls.mo (qH z.r 12 w') ?_;rintro e a ⟨rfl,d⟩;have b:Lk (lC z w) a:=jE (h.lkA' _) d;exact⟨by rw[c],GSV.of (by rw[b.heap];exact(qX z w).2.2.1),by rw[d.heap];simp[c],b⟩
structure GEndV (z:SubV) (n:Nat) (c:Array Vu) (st ce rw:Int) (w:Wd):Prop where
 rk:w.heap[n+7]? =sT (Cl c 112)
 st:Mt (n+2) st z.f 10 w
 ce:Mt (n+3) ce z.q 11 w
 rw:Mt (n+6) rw z.r 12 w
 mb:∃a b d,w.heap[n+5]? =sT (Cl #[bp (n+2),bp (n+3),a,b,d] 119)
 rs:w.heap[n+1]? =sT (Cl (eC 0 0 0 ⟨#[]⟩ 0 0 0) 29)
theorem GEndV.keep{z:SubV}{c c':Array Vu}(g:GEndV z n c A C rw w)(a:w'.heap[n+7]? =sT (Cl c' 112))(k:∀b,b<n+7->w'.heap[b]? =w.heap[b]?):GEndV z n c' A C rw w':=by obtain⟨_,d,e,f,⟨x,y,u,h⟩,i⟩:=g;exact⟨a,d.keep (k _ Om),e.keep (k _ Om),f.keep (k _ Om),⟨x,y,u,(k _ Om).t h⟩,(k _ Om).t i⟩
theorem GEndV.lk{z:SubV}{c:Array Vu}(g:GEndV z n c A C rw w)(h:Lk w w'):GEndV z n c A C rw w':=g.keep (by rw[h.heap];exact g.rk) λb _=>by rw[h.heap]
theorem GEndV.set{z:SubV}{o:Nat}{v:Vu}{c:Array Vu}(g:GEndV z n c A C rw w):GEndV z n (c.setIfInBounds o v) A C rw (w.setCell (Ab (n+7) o) v):=g.keep (fN g.rk) λb a=>aG _ (by show b≠n+7;omega)
theorem GEndV.alloc{z:SubV}{c:Array Vu}(g:GEndV z n c A C rw w)(o:Obj):GEndV z n c A C rw (w.alloc o):=by have h:=(eE.1 g.rk).1;exact g.keep ((eH _ _ _ h).t g.rk) λb a=>eH _ _ _ Om
theorem CR(z:SubV)(P:∀w',Lk (lD z w) w'->Cp 56 #[bp (w.heap.size+7),Ag z.c] w' λe w2=>e=Rt (Tu #[])/\∃L M N O u x rw,GEndV z w.heap.size (cP (w.heap.size+5) (w.heap.size+6) L M N O) u x rw w2/\Bt w w2/\∀w3,Bt w w3->Q (Rt (Ag (eC L M N O u x rw))) w3):Cp 37 #[Ag z.c] w Q:=by obtain⟨R,S,T⟩:=cB P (CQ z w) (CP z w);obtain⟨c6,c8,c7⟩:=GSV.of (qX z w).1;have HV:=hZ (qX z w).2.2.2;unfold gR at c6 c7 c8;clear P;show Cp 37 #[Ag #[Sg z.t,Sl z.sa z.sn z.sc,z.li,z.ti,z.dr,Ii z.g,Ii z.f,Ii z.r,Ii z.q,Ii z.m]] w Q;delta Cp;go_in;go_wp2_with (fail);go_region_held2 (λw'=>w'.cell? (Ab w.heap.size 6)=sT (Ii z.f)/\w'.cell? (Ab w.heap.size 8)=sT (Ii z.q)/\w'.cell? (Ab w.heap.size 7)=sT (Ii z.r)) (first|(exact⟨c6,c8,c7⟩)|(exact a9.o)|(exact b9.o)|go_keep) (first|(go_at_call 54;refine(S.o _ Lq).mo ?_;rintro e w1 ⟨rfl,U,a⟩;obtain⟨a9,c0⟩:=aN U a;clear U a)|(go_at_call 55;refine(T.o _ (jE c0.o Lq)).mo ?_;rintro e w2 ⟨rfl,U,hz,a⟩;obtain⟨b9,c1⟩:=aN U a;clear U a));have y:Lk (lD z w) (w2.alloc (Cl #[bp (w.heap.size+5),bp (w.heap.size+6),Ii 0,Ii 0,Ii 0,Sg ⟨#[]⟩,Sg ⟨#[]⟩,Ii 0,Ii 0,Ii 0,Sl sV 0 0] 112)):=c1.o.lkA' _;generalize (w2.alloc (Cl #[bp (w.heap.size+5),bp (w.heap.size+6),Ii 0,Ii 0,Ii 0,Sg ⟨#[]⟩,Sg ⟨#[]⟩,Ii 0,Ii 0,Ii 0,Sl sV 0 0] 112))=V at y|-;obtain⟨v0,v1,v2,v3,v4,v5,v6,v7,v8,v9⟩:=lJ (w:=V) (by rw[y.heap];exact HV.o);have X:=hZ y;clear y c6 c7 c8 S T;go_wp2_with (go_at_call 56;refine(R.o _ (jE X.o Lq)).mo ?_;rintro e w3 ⟨rfl,L,M,N,O,u,x,rw,hG,hB,hK⟩;refine hO ?_);obtain⟨r0,r1,-⟩:=mL hG.rk;obtain⟨ma,c2,md,s⟩:=hG.mb;have m0:w3.cell? (Aa (w.heap.size+5))=sT (bp (w.heap.size+2)):=Ce s;obtain⟨HG,HB,HK⟩:=cB hG hB hK;clear hG hB hK s v0 v1 v2 v3 v4 v5 v6 v7 v8 v9 X R HV;refine hZ ?_;go_wp2_with (go_at_call 57;refine iF (sJ HG.o.st) λw4 a=>?_;refine hO ?_);have G:=HG.o.lk a;have A:=hZ (HB.o.t (dW a HB.o.size));obtain⟨-,-,-,-,-,-,-,z7,-,-,-,f4⟩:=mL G.rk;have d:=G.set (o:=7) (v:=Ii u);have i:=hZ (fH A.o (b:=w.heap.size+7) (k:=7) (v:=Ii u) Om);clear A G a r0 r1 m0 HG HB;refine hZ ?_;obtain⟨W4,j⟩:∃W,W=w4.setCell (Ab (w.heap.size+7) 7) (Ii u):=⟨_,rfl⟩;rw[<-j]at d i;obtain⟨r0,-⟩:=mL d.rk;obtain⟨ma,c2,md,s⟩:=d.mb;have m1:W4.cell? (Ab (w.heap.size+5) 1)=sT (bp (w.heap.size+3)):=Ce s;have H:=hZ d;clear d s;rw[j]at r0 m1;have Y:=hZ j;clear j;go_wp2_with (go_at_call 57;rw[<-Y.o];refine iF (sJ H.o.ce) λw5 a=>?_;refine hO ?_);have I:=H.o.lk a;have B:=hZ (i.o.t (dW a i.o.size));obtain⟨-,-,-,-,-,-,-,-,z8,-,-,f5⟩:=mL I.rk;have l:=I.set (o:=8) (v:=Ii x);have n:=hZ (fH B.o (b:=w.heap.size+7) (k:=8) (v:=Ii x) Om);clear B I a r0 m1 H i z7 f4 Y;refine hZ ?_;obtain⟨W5,j⟩:∃W,W=w5.setCell (Ab (w.heap.size+7) 8) (Ii x):=⟨_,rfl⟩;rw[<-j]at l n;obtain⟨-,r1,-⟩:=mL l.rk;have J:=hZ l;clear l;rw[j]at r1;have Z:=hZ j;clear j;go_wp2_with (go_at_call 57;rw[<-Z.o];refine iF (sJ J.o.rw) λw6 a=>?_;refine hO ?_);have K:=J.o.lk a;have C:=hZ (n.o.t (dW a n.o.size));obtain⟨-,-,-,-,-,-,-,-,-,z9,-,f6⟩:=mL K.rk;have h:=K.set (o:=9) (v:=Ii rw);have D:=hZ (fH C.o (b:=w.heap.size+7) (k:=9) (v:=Ii rw) Om);clear C K a r1 J n z8 f5 Z;refine hZ ?_;obtain⟨W6,j⟩:∃W,W=w6.setCell (Ab (w.heap.size+7) 9) (Ii rw):=⟨_,rfl⟩;rw[<-j]at h D;obtain⟨-,-,a0,a1,a2,a3,a4,a5,a6,a7,a8,-⟩:=mL h.rk;obtain⟨b0,b1,b2,b3,b4,b5,b6,b7,b8,c3⟩:=c9 h.rs;have c4:=hZ h.rs;clear h;rw[j]at a0 a1 a2 a3 a4 a5 a6 a7 a8 b0 b1 b2 b3 b4 b5 b6 b7 b8 c3;have c5:=hZ j;clear j;go_wp2;rw[<-c5.o];have E:=sQ (v0:=Ii L) (v1:=Ii M) (v2:=Ii N) (v3:=Sg O) (v4:=Sg ⟨#[]⟩) (v5:=Ii u) (v6:=Ii x) (v7:=Ii rw) (v8:=Sl sV 0 0) c4.o;have F:=wJ (v0:=Ii L) (v1:=Ii M) (v2:=Ii N) (v3:=Sg O) (v4:=Sg ⟨#[]⟩) (v5:=Ii u) (v6:=Ii x) (v7:=Ii rw) (v8:=Sl sV 0 0) D.o (VL w.heap.size);unfold oC at E F;refine bodyPost_ret (results_cell_row (p:=2) (ty:=29) Kr _ _ (w.heap.size+1) 29 (eC L M N O u x rw) (0,0) _ rfl E underlying29 rfl Kr) rfl ?_;exact HK.o _ F
end
section
open Go.RowKit Go.Shelf
open Sc
@[reducible] def wY(w:Wd)(b:Nat):Prop:=w.heap[b]? =sT (Cl (eC 0 0 0 ⟨#[]⟩ 0 0 0) 29)
def Gj(w:Wd)(Q:En->Wd->Prop)(f:Vu->Vu)(e:En)(w2:Wd):Prop:=∃ve re pl va st ce rw,e=Rt (Ag (eC ve re pl va st ce rw))/\wY w2 (w.heap.size+1)/\Below w.heap.size w w2/\∀w3,Below w.heap.size w w3->Q (Rt (f (Ag (eC ve re pl va st ce rw)))) w3
theorem Ov(z:SubV)(h:∀w',Bt w w'->w'.heap.size=w.heap.size+2->wY w' (w.heap.size+1)->Cp 37 #[Ag z.c] w' (Gj w Q id)):Cp 25 #[bp b,Ag z.c] w Q:=by have H:=hZ h;clear h;show Cp 25 #[bp b,Ag #[Sg z.t,Sl z.sa z.sn z.sc,z.li,z.ti,z.dr,Ii z.g,Ii z.f,Ii z.r,Ii z.q,Ii z.m]] w Q;delta Cp;go_in;go_wp2_with (go_at_call 37;refine(H.o _ (by exact(aA _ _).alloc Sm _) Sm (by exact heap_alloc2_new _ _ _)).mo ?_;rintro e w2 ⟨k,l,n,o,s,u,rw,rfl,a,d,v⟩;refine hO ?_);obtain⟨A,b1,B,C,D,E,F,G,I,x⟩:=c9 a;obtain⟨i,j,y⟩:=cB (sQ (v0:=Ii k) (v1:=Ii l) (v2:=Ii n) (v3:=Sg o) (v4:=Sg ⟨#[]⟩) (v5:=Ii s) (v6:=Ii u) (v7:=Ii rw) (v8:=Sl sV 0 0) a) (wJ (v0:=Ii k) (v1:=Ii l) (v2:=Ii n) (v3:=Sg o) (v4:=Sg ⟨#[]⟩) (v5:=Ii s) (v6:=Ii u) (v7:=Ii rw) (v8:=Sl sV 0 0) d (VL w.heap.size)) v;clear v a d H;refine hZ ?_;unfold eC;go_wp2;exact bodyPost_ret (results_cell_row (p:=4) (ty:=29) Kr _ _ (w.heap.size+1) 29 (eC k l n o s u rw) (0,0) _ rfl i.o underlying29 rfl Kr) rfl (y.o _ j.o)
theorem Ow(z:SubV)(h:∀b w',Below (w.heap.size+2) ((w.alloc (Cl z.c 34)).alloc (Cl (eC 0 0 0 ⟨#[]⟩ 0 0 0) 29)) w'->Cp 25 #[bp b,Ag z.c] w' (Gj w Q λr=>Tu #[r,.bool xA])):Cp 14 #[Ag z.c] w Q:=by
 have H:=hZ h;clear h;show Cp 14 #[Ag #[Sg z.t,Sl z.sa z.sn z.sc,z.li,z.ti,z.dr,Ii z.g,Ii z.f,Ii z.r,Ii z.q,Ii z.m]] w Q;delta Cp;go_in;go_wp2_with (go_at_call 22;refine iF Ao λC D=>?_;refine hO ?_);have a:Below (w.heap.size+2) ((w.alloc (Cl z.c 34)).alloc (Cl (eC 0 0 0 ⟨#[]⟩ 0 0 0) 29)) C:=by rw[show w.heap.size+2=((w.alloc (Cl z.c 34)).alloc (Cl (eC 0 0 0 ⟨#[]⟩ 0 0 0) 29)).heap.size by simp];exact D
 obtain⟨v0,v1,v2,v3,v4,v5,v6,v7,v8,I⟩:=lJ (w:=C) (b:=w.heap.size) (T:=34) (by rw[a.block _ Om,eH _ _ _ Sm];exact eN _ _);have B:=hZ a;clear D a;refine hZ ?_;go_wp2_with (go_at_call 25;refine(H.o _ _ B.o).mo ?_;rintro e w3 ⟨n,o,s,x,y,A,rw,rfl,d,i,E⟩;refine hO ?_);obtain⟨J,b1,K,L,M,N,O,P,R,F⟩:=c9 d;obtain⟨j,k,G⟩:=cB (sQ (v0:=Ii n) (v1:=Ii o) (v2:=Ii s) (v3:=Sg x) (v4:=Sg ⟨#[]⟩) (v5:=Ii y) (v6:=Ii A) (v7:=Ii rw) (v8:=Sl sV 0 0) d) (wJ (v0:=Ii n) (v1:=Ii o) (v2:=Ii s) (v3:=Sg x) (v4:=Sg ⟨#[]⟩) (v5:=Ii y) (v6:=Ii A) (v7:=Ii rw) (v8:=Sl sV 0 0) i (VL w.heap.size)) E;clear E d i H;refine hZ ?_;unfold eC;go_wp2;have l:=run_loadVar_row _ (w.heap.size+1) 29 29 (eC n o s x y A rw) (0,0) _ j.o underlying29 rfl Kr;unfold oC at l;exact bodyPost_ret (v:=Tu #[Ag (eC n o s x y A rw),.bool xA]) (by rw[results_cell_tmp (p:=2) (u:=3) (ty:=29) Kr];simp[asAddr,l]) rfl (G.o _ k.o)
end
section
open Go.RowKit Go.Shelf
open Sc
structure Rp where
 ve:Int
 re:Int
 pl:Int
 va:BA
 st:Int
 ce:Int
 rw:Int
def pP(z:SubV)(w:Wd)(a:Rp)(W:Wd):Prop:=GEndV z w.heap.size (cP (w.heap.size+5) (w.heap.size+6) a.ve a.re a.pl a.va) a.st a.ce a.rw W/\Below w.heap.size w W
structure LayV (z:SubV) (w W:Wd):Prop where
 g:GEndV z w.heap.size (cP (w.heap.size+5) (w.heap.size+6) 0 0 0 ⟨#[]⟩) 0 0 0 W
 lo:Below w.heap.size w W
 mp:W.heap[w.heap.size+4]? =sT (.map #[] 0)
 mb:W.heap[w.heap.size+5]? =sT (Cl #[bp (w.heap.size+2),bp (w.heap.size+3),.map (sT (w.heap.size+4)),.nilIface,.pointer sV] 119)
 bx:W.heap[w.heap.size+8]? =sT (Cl #[bp (w.heap.size+7)] 106)
 sub:W.heap[w.heap.size+9]? =sT (Cl z.c 34)
 sz:w.heap.size+10<=W.heap.size
theorem LayV.below{z:SubV}(l:LayV z w W)(h:Below (w.heap.size+10) W W'):LayV z w W':=by have k:∀b,b<w.heap.size+10->W'.heap[b]? =W.heap[b]?:=λb a=>h.block b a;exact⟨l.g.keep ((k _ Om).t l.g.rk) λb a=>k b Om,l.lo.t (h.mo Om),(k _ Om).t l.mp,(k _ Om).t l.mb,(k _ Om).t l.bx,(k _ Om).t l.sub,eT l.sz h.size⟩
theorem uK{z:SubV}{w2:Wd}(a:Lk (lD z w) a0)(b:Lk ((a0.alloc (Cl #[bp (w.heap.size+7)] 106)).alloc (Cl z.c 34)) w2):LayV z w w2/\w2.heap.size=w.heap.size+10:=by
 have d:w2.heap=((((((((((w.heap.push (Cl z.c 34)).push (Cl (eC 0 0 0 ⟨#[]⟩ 0 0 0) 29)).push (Cl #[Ii 0,Ii z.f,Ii 10] 164)).push (Cl #[Ii 0,Ii z.q,Ii 11] 164)).push (.map #[] 0)).push (Cl #[bp (w.heap.size+2),bp (w.heap.size+3),.map (sT (w.heap.size+4)),.nilIface,.pointer sV] 119)).push (Cl #[Ii 0,Ii z.r,Ii 12] 164)).push (Cl (cP (w.heap.size+5) (w.heap.size+6) 0 0 0 ⟨#[]⟩) 112)).push (Cl #[bp (w.heap.size+7)] 106)).push (Cl z.c 34)):=by rw[b.heap];show(a0.heap.push _).push _=_;rw[a.heap];rfl
 have sz:w2.heap.size=w.heap.size+10:=by rw[d];simp
 have e:w2.heap[w.heap.size+5]? =sT (Cl #[bp (w.heap.size+2),bp (w.heap.size+3),.map (sT (w.heap.size+4)),.nilIface,.pointer sV] 119):=by rw[d];simp only[Array.getElem?_push,Array.size_push];repeat (first|rw[if_neg Om]|(rw[if_pos (by first|trivial|omega)];done))
 refine⟨⟨⟨?_,?_,?_,?_,⟨_,_,_,e⟩,?_⟩,⟨b.os.t a.os,b.tape.t a.tape,b.output.t a.output,by omega,λk g=>?_⟩,?_,e,?_,?_,by omega⟩,sz⟩;all_goals (try unfold Mt);rw[d];simp only[Array.getElem?_push,Array.size_push];repeat (first|rw[if_neg Om]|(rw[if_pos (by first|trivial|omega)];done))
theorem oM{z:SubV}{D E:Int}{U:BA}(c:Int)(s:BA)(g:GEndV z w.heap.size (cP (w.heap.size+5) (w.heap.size+6) 0 A C U) D E rw W)(b:Bt w W)(e:W.heap[w.heap.size+8]? =sT (Cl #[bp (w.heap.size+7)] 106)){a:Rp}(f:a=⟨c,A,C,s,D,E,rw⟩):nP (w.heap.size+8) (w.heap.size+7) (w.heap.size+5) (w.heap.size+6) (pP z w a) (Pk (aB (If 166 (Ag #[Ii c,Sg s])))) W:=by subst f;refine⟨c,s,A,C,U,rfl,by simp only[UT,e];rfl,g.rk,λh d=>⟨(((g.alloc _).set (o:=2) (v:=Ii c)).set (o:=5) (v:=Sg s)).lk d,?_⟩⟩;have b1:=fH (fH (b.alloc b.size (Cl #[Ii c,Sg s] 166)) (b:=w.heap.size+7) (k:=2) (v:=Ii c) Om) (b:=w.heap.size+7) (k:=5) (v:=Sg s) Om;exact b1.t (dW d b1.size)
theorem LayV.ksF{z:SubV}(l:LayV z w W)(a:∀b,b<w.heap.size+2\/w.heap.size+6<=b/\b<w.heap.size+10->W'.heap[b]? =W.heap[b]?):fJ (w.heap.size+8) (w.heap.size+7) (w.heap.size+5) z.t z.sa z.sn z.sc z.g W':=by have c:=(a (w.heap.size+8) (.inr ⟨by omega,by omega⟩)).t l.bx;have d:=(a (w.heap.size+9) (.inr ⟨by omega,by omega⟩)).t l.sub;have e:=(a (w.heap.size+7) (.inr ⟨by omega,by omega⟩)).t l.g.rk;refine⟨?_,?_,?_,?_,?_⟩<;>simp only[UT,c,d,e]<;>rfl
theorem LayV.ks{z:SubV}(l:LayV z w W):fJ (w.heap.size+8) (w.heap.size+7) (w.heap.size+5) z.t z.sa z.sn z.sc z.g W:=l.ksF λ_ _=>rfl
def kW(p:Nat):Nat:=if p=1 then 1 else if p=2 then 2 else if p=4 then 3 else if p=8 then 4 else 5
def fX(n k:Nat)(g:Int)(w:Wd):Gh:={I:=λb=>if n+11<=b then w.heap[b]? else sV,J:=[],E:=[],B:=[],P:=λp=>w.heap.size+p.off,K:=λp=>kR (w.heap.size+103) k g (kW p),mb:=n+5,sb:=n+2,cb:=n+3,mp:=n+4,W:=w,F:=λb=>b<n+2\/n+6<=b/\b<n+10}
theorem DO{z:SubV}{k:Nat}(d:S.fuel=z.f/\S.quota=z.q)(m:0<=z.f/\z.f<=20000)(n:0<=z.q/\z.q<=5000)(l:LayV z w W)(p:w.heap.size+11<=W.heap.size):Inv (fX w.heap.size k z.g W) S {} W:=by
 have j:∀{b:Nat},b∈(fX w.heap.size k z.g W).mut->w.heap.size+2<=b/\b<=w.heap.size+5:=fun {b} a=>by have a:b∈[w.heap.size+5,w.heap.size+2,w.heap.size+3,w.heap.size+4]:=a;simp only[VR,YH,or_false]at a;omega
 have hF:∀{b:Nat},(fX w.heap.size k z.g W).F b->b<w.heap.size+2\/w.heap.size+6<=b/\b<w.heap.size+10:=λh=>h;have c:∀{b:Nat},b<w.heap.size+11->(fX w.heap.size k z.g W).I b=sV:=fun {b} a=>if_neg Om;refine⟨fun {b o} a=>?_,?_,fun {b} a=>c (by have:=j a;omega),fun {b} a=>by have:=j a;omega,?_,?_,?_,?_,⟨_,_,l.mb,.nil⟩,⟨#[],0,l.mp,rfl⟩,fun {s b} a=>(by cases a),fun {s v} r=>(by cases r),List.nodup_nil,fun {i vs e} t=>(by simp at t),rfl,rfl,List.nodup_nil,fun {b} a=>(by cases a),⟨rfl,rfl,rfl⟩,fun {b} a=>⟨rfl,by have:=hF a;omega⟩,fun {b} a h=>by have:=j a;have:=hF h;omega,fun {b} a=>c (by have:=hF a;omega)⟩;have a:(if w.heap.size+11<=b then W.heap[b]? else sV)=sT o:=a;by_cases h:w.heap.size+11<=b;rw[if_pos h]at a;exact a;rw[if_neg h]at a;cases a;show([w.heap.size+5,w.heap.size+2,w.heap.size+3,w.heap.size+4]:List Nat).Nodup;simp;rw[d.1];exact l.g.st;rw[d.2];exact l.g.ce;rw[d.1];exact m;rw[d.2];exact n
theorem Po{lo:Nat}{a:OA}{cap:Nat}{es:List Rd.El}(h:w.ownsRow lo 134 6 (Sl a n cap) n (es.flatMap Rd.El.cells))(r:es.length=n)(s:n≠0):∃g b,a=sT (Aa g)/\lo<=g/\w.heap[g]? =sT (Cl b 134)/\∀k x,es[k]? =sT x->∀j,j<6->b[0+k*6+j]? =(dJ x).cells[j]?:=by rcases h.2 with⟨_,f⟩|⟨g,t,c,i,l,m,o,u,p,d⟩;omega;refine⟨g,c,by injection i,l,m,λk x e j q=>?_⟩;have:=Dy es j x e q;have v:=(eL.1 e).1;rw[<-d,List.getElem?_take]at this;rw[ZO];split at this;simpa using this;omega
end
section
open Go.RowKit Go.Shelf
open Sc
theorem Ti{t:BA}{d:Dt}(h:bI t=sT d):wt d<=12000:=by unfold bI at h;by_cases a:1200<t.size;rw[if_pos a]at h;cases h;rw[if_neg a]at h;cases hp:Py.topP (2*t.size+2) (Rd.L t 0)with|inl r=>rw[hp]at h;cases h|inr r=>obtain⟨fs,c⟩:=r;rw[hp]at h;have b:=xY _ _ _ _ hp;(have e:(Rd.L t 0).length=t.size:=by show(t.data.toList.drop 0).length=_;simp);match fs,h with|[f],h=>cases h;simp only[WT,YR,cU]at b;omega
theorem StrsAt.below{a:OA}(h:StrsAt w a ts)(c:Bt w w'):StrsAt w' a ts:=λi e=>by obtain⟨b,o,f,d,g⟩:=h i e;exact⟨b,o,f,eW d c.size,(c.cell (p:=Ab b (o+i)) d).t g⟩
def vT:Dl:=⟨0,0,xN,⟨#[]⟩,0,sV,0,0⟩
def iQ:Mc:={({}:Mc)with glob:=kI Pm.most}
structure At84 (S:Sub) (z:SubV) (w:Wd) (ds:List Dt) (fs:List (Dt×Nat)) (G:Gh) (w4 w8:Wd) (a fa:OA) (dk:Nat->Dl):Prop where
 inv:Inv G S iQ w8
 B:G.B.map (·.1)=Pm.most.map Pm.name
 mv:Mv (fX w.heap.size ds.length z.g w4) w4 G w8
 lay:LayV z w w4
 n11:w.heap.size+11<=w4.heap.size
 sz:w8.heap.size=w4.heap.size+103
 sec:∃(g:Nat) (xs:Nat->Dl),(ds.length≠0->a=sT (Aa g))/\(∀j,j<ds.length->DRep (fX w.heap.size ds.length z.g w4) (ds.getD j (.num 0)) (xs j))/\∀wr:Wd,(∀b ob,(fX w.heap.size ds.length z.g w4).I b=sT ob->wr.heap[b]? =sT ob)->∀j,j<ds.length->rX g (0+j*6) (xs j) wr
 row:∀k,k<fs.length->∃gg o arr,fa=sT (Ab gg o)/\(fX w.heap.size ds.length z.g w4).I gg=sT (Cl arr 136)/\(∀j,j<6->arr[o+k*7+j]? =(dk k).cells[j]?)/\arr[o+k*7+6]? =sT (Ii ((fs[k]?.map (·.2)).getD 0:Nat))
 dd:∀k f,fs[k]? =sT f->DRep (fX w.heap.size ds.length z.g w4) f.1 (dk k)/\aH f.1<=1000000000000
 len:fs.length<=1000000
def iX(t:BA)(fs:List (Dt×Nat)):List (Dt×Nat):=fs.map λf=>(f.1,t.size-f.2)
theorem Ez{z:SubV}{ds:List Dt}{fs:List (Dt×Nat)}(hS:S.fuel=z.f/\S.quota=z.q)(hV:Rd.GV w)(h6:6<=w.heap.size)(hl:eX z.sn z.g z.f z.r z.q z.m=xA)(hn:z.sn=ts.length)(a8:StrsAt w z.sa ts)(H:ts.map bI=ds.map sT)(hs:z.t.size<=1200)(B:Py.topP (2*z.t.size+2) (Rd.L z.t 0)=.inr (fs,g0))(hw:Lk (lD z w) a0)(P:OA->Nat->Nat->En->Wd->Prop)(a9:∀a c C J dk G w4 Q,At84 S z w ds (iX z.t fs) G w4 Q a C dk->Cp 84 #[bp (w.heap.size+5),Ii z.g,Sl a ds.length c] Q (P C fs.length J))(b0:Lk ((a0.alloc (Cl #[bp (w.heap.size+7)] 106)).alloc (Cl z.c 34)) w'):Cp 80 #[Ag z.c] w' λe a0=>e=Rt (Tu #[])/\fJ (w.heap.size+8) (w.heap.size+7) (w.heap.size+5) z.t z.sa z.sn z.sc z.g a0/\∀w2,Lk a0 w2->Cp 81 #[Sl z.sa z.sn z.sc] w2 λe w3=>∃a n c,e=Rt (Sl a n c)/\fJ (w.heap.size+8) (w.heap.size+7) (w.heap.size+5) z.t z.sa z.sn z.sc z.g w3/\∀w4,Lk w3 w4->Cp 82 #[bp (w.heap.size+7),Sg z.t] w4 λe w5=>∃C fn J,e=Rt (Sl C fn J)/\fJ (w.heap.size+8) (w.heap.size+7) (w.heap.size+5) z.t z.sa z.sn z.sc z.g w5/\∀w6,Lk w5 w6->Cp 83 #[bp (w.heap.size+5)] w6 λe w7=>e=Rt (Tu #[])/\fJ (w.heap.size+8) (w.heap.size+7) (w.heap.size+5) z.t z.sa z.sn z.sc z.g w7/\∀Q,Lk w7 Q->Cp 84 #[bp (w.heap.size+5),Ii z.g,Sl a n c] Q (P C fn J):=by
 obtain⟨b1,hz⟩:=uK hw b0;obtain⟨l1,l2,l3,l4,l5,l6⟩:dG z.g 31=xA/\dG z.f 20000=xA/\dG z.r 500=xA/\dG z.q 5000=xA/\dG z.m 2000=xA/\z.sn<=8:=by have:=hl;simp only[eX,YT,decide_eq_true_eq]at this;obtain⟨⟨⟨⟨⟨a,b⟩,c⟩,d⟩,e⟩,f⟩:=this;exact⟨a,b,c,d,e,f⟩
 have b2:=of_decide_eq_true l2;have b3:=of_decide_eq_true l4;refine Calls.mo wQ λe wa h=>?_;unfold lM at h;rw[if_pos hl]at h;obtain⟨rfl,R⟩:=h;have za:wa.heap.size=w.heap.size+11:=by rw[R.heap];simp[hz]
 have la:=b1.below (by rw[<-hz];exact aS R);refine⟨rfl,la.ks,λwb T=>?_⟩;have zb:wb.heap.size=w.heap.size+11:=by rw[T.heap];exact za
 have lb:=la.below (dW T la.sz);refine Calls.mo (tA hn l6 (a8.below lb.lo) (GV.below hV lb.lo h6) Om) ?_;rintro e wc (⟨-,⟨t,ht,ho⟩,-⟩|⟨a,n,c,p,rfl,s⟩);have:bI t∈ds.map sT:=H▸VT.2 ⟨t,ht,rfl⟩;rw[ho]at this;obtain⟨d,-,h⟩:=VT.1 this;cases h;obtain rfl:p=ds:=by have:=s.all.symm.t H;exact(List.map_inj_right λ_ _ h=>Option.some.inj h).1 this
 obtain rfl:=s.len;have lc:=lb.below (s.bel.mo Om);refine⟨a,_,c,rfl,lc.ks,λwd U=>?_⟩;have bd:=bE U;have ld:=lc.below (dW U lc.sz);have zd:w.heap.size+11<=wd.heap.size:=by have:=s.bel.size;have:=bd.size;omega
 have u:=Rd.text_any z.t wd hs (GV.below hV ld.lo h6) Om;rw[B]at u;refine DI _ (Calls.mo u ?_);rintro e we ⟨be,es,C,J,rfl,V,X,Y,c2⟩;have le:=ld.below (be.mo Om);have b4:es.length=fs.length:=by have:=congrArg WN Y;simpa using this
 refine⟨C,_,J,rfl,le.ks,λwf Z=>?_⟩;have bf:=bE Z;have lf:=le.below (dW Z le.sz);have zf:w.heap.size+11<=wf.heap.size:=by have:=be.size;have:=bf.size;omega
 have gI:∀(W:Wd),Bt W wf->∀b,w.heap.size+11<=b->∀o,W.heap[b]? =sT o->(fX w.heap.size p.length z.g wf).I b=sT o:=λW hb b b5 o ho=>by show(if w.heap.size+11<=b then wf.heap[b]? else sV)=sT o;rw[if_pos b5,hb.block _ (eE.1 ho).1];exact ho
 have a1:=gI wc ((bd.t (be.mo bd.size)).t (bf.mo (eT bd.size be.size)));have a2:=gI we bf;have i0:Inv (fX w.heap.size p.length z.g wf) S {} wf:=DO hS b2 b3 lf zf;refine Calls.mo (Rs (fX w.heap.size p.length z.g wf) wf S (λ_=>rfl) ⟨_,i0,rfl,rfl,Mv.refl _ _,nofun⟩) ?_;rintro e wg ⟨rfl,G,ig,zg,hB,mv,-⟩;refine⟨rfl,lf.ksF λb hb=>?_,λwh K=>?_⟩;have:=(ig.ff (b:=b) (by rw[mv.up.F];exact hb)).1;rw[mv.up.W]at this;exact this;rw[b4];have b6:cU (fs.map (·.1))<=12000:=by have h1:=xY _ _ _ _ B;(have h2:(Rd.L z.t 0).length=z.t.size:=by show(z.t.data.toList.drop 0).length=_;simp);omega
 have b7:∀f,f∈fs->wt f.1<=12000:=λf M=>eT (xL (VT.2 ⟨f,M,rfl⟩)) b6;have D:∀k,k<es.length->∃x f,es[k]? =sT x/\fs[k]? =sT f/\x.2=((z.t.size-f.2:Nat):Int):=λk E=>by have a3:k<fs.length:=Om;refine⟨es[k],fs[k],eG E,eG a3,?_⟩;have:=congrArg (λl=>l[k]?) Y;simp only[ZJ,eG E,eG a3,Option.map_some]at this;injection this
 refine a9 a c C J (λk=>match es[k]? with|some x=>dJ x.1|none=>vT) G wf wh ⟨Inv.lk K ig,hB,mv.lk K,lf,zf,by rw[K.heap];exact zg,?_,λk E=>?_,λk f M=>?_,by simp only[iX,List.length_map];omega⟩;obtain⟨xs,a4,a5⟩:=s.row;have b8:=a5.len;by_cases h0:p.length=0;exact⟨0,λ_=>vT,λh=>absurd h0 h,λj N=>by omega,λ_ _ j N=>by omega⟩;obtain⟨g,y,rfl,hg,b9,c0⟩:=Po a4 b8 h0;refine⟨g,λj=>match xs[j]? with|some x=>dJ x|none=>vT,λ_=>rfl,λj N=>?_,λwr c1 j N=>?_⟩;have v:xs[j]? =sT xs[j]:=eG Om;have a6:p[j]? =sT p[j]:=eG N;simp only[v,List.getD_eq_getElem?_getD,a6,Option.getD_some];refine tG (λg y h1 h2=>a1 g Om _ h2) ((a5.turn' (eR _)).all j _ _ v a6) ?_;have:sT p[j]∈ts.map bI:=H▸VT.2 ⟨_,List.getElem_mem _,rfl⟩;obtain⟨t,-,ht⟩:=VT.1 this;have:=Ti ht;omega;have v:xs[j]? =sT xs[j]:=eG Om;have O:∀i,i<6->wr.cell? (Ab g (0+j*6+i))=(dJ xs[j]).cells[i]?:=λi hi=>by rw[<-c0 j _ v i hi];simp only[UT,c1 g _ (a1 g Om _ b9)];rfl
 simp only[v];exact⟨O 0 Om,O 1 Om,O 2 Om,O 3 Om,O 4 Om,O 5 Om⟩;have E:k<es.length:=by simp only[iX,List.length_map]at E;omega
 obtain⟨x,f,v,M,hp⟩:=D k E;obtain⟨gg,y,q1,q2,q3,q4,q5⟩:=zC V k x v;refine⟨gg,0,y,q1,a2 gg Om _ q3,λj N=>?_,?_⟩;simp only[v];exact q4 j N;rw[q5,hp];simp[iX,ZJ,M];unfold iX at M;rw[ZJ]at M;obtain⟨f0,A,rfl⟩:=Option.map_eq_some_iff.1 M;have E:k<es.length:=by have:=(eL.1 A).1;omega
 obtain⟨x,f1,v,a7,_⟩:=D k E;rw[A]at a7;cases a7;have h1:=b7 f0 (List.mem_of_getElem? A);have h2:=Ax f0.1;simp only[v];exact⟨tG (λg y hg hq=>a2 g Om _ hq) (X.all k x.1 f0.1 (by simp[v]) (by simp[A])) Om,by omega⟩
end
section
open Go.RowKit Go.Shelf
open Sc
def jD(g:Int)(ds:List Dt):Mc:={(gN iQ ds).2 with glob:=mW (jN g (gN iQ ds).1) (gN iQ ds).2.glob}
def oF(r:(Option Nat×Nat)×Option Vl×Xs×Mc):Rp:=match r with
 |((sT vd,p),_,x,m)=>⟨vd,0,p,if vd=14 then⟨m.raised.toArray⟩else⟨#[]⟩,m.steps,m.cells,x.count⟩
 |((sV,_),v,x,m)=>⟨1,0,0,mZ v,m.steps,m.cells,x.count⟩
def gS(t:BA):List (Dt×Nat):=match Py.topP (2*t.size+2) (Rd.L t 0)with
 | .inr (fs,_)=>iX t fs
 | .inl _=>[]
def fB(S:Sub)(z:SubV)(ts:List BA):Rp:=
 if eX z.sn z.g z.f z.r z.q z.m&&ts.all (λt=>(bI t).isSome)then
  match gA z.t with
  |some (c,k)=>⟨3,c,k,⟨#[]⟩,0,0,0⟩
  |none=>if((2*(ts.filterMap bI).length:Nat):Int)<=z.q then oF (dV S (gS z.t) sV {} (jD z.g (ts.filterMap bI)))else⟨11,0,0,⟨#[]⟩,0,z.q,0⟩
 else⟨2,0,0,⟨#[]⟩,0,0,0⟩
theorem Fs:∀{ts:List BA},ts.all (λt=>(bI t).isSome)=xA->ts.map bI=(ts.filterMap bI).map sT
 |[],_=>rfl
 |t::r,h=>by simp only[List.all_cons,YT]at h;obtain⟨d,a⟩:=Option.isSome_iff_exists.1 h.1;rw[WT,Fs h.2,List.filterMap_cons_some a,WT,a]
theorem Og{z:SubV}{w8:Wd}{fs:List (Dt×Nat)}{r:(Option Nat×Nat)×Option Vl×Xs×Mc}{e:En}(R:S.fuel=z.f/\S.quota=z.q/\S.rewrites=z.r)(T:G.mb=w.heap.size+5/\G.sb=w.heap.size+2/\G.cb=w.heap.size+3)(hF:∀b,b<w.heap.size+2\/b=w.heap.size+8->G.F b)(c:Bt w a0)(t:a0.heap[w.heap.size+1]? =sT (Cl (eC 0 0 0 ⟨#[]⟩ 0 0 0) 29))(u:a0.heap[w.heap.size+8]? =sT (Cl #[bp (w.heap.size+7)] 106))(y:¬rW S fs)(h:Gx G S a0 (w.heap.size+7) (w.heap.size+6) fs r e w8):wW (w.heap.size+8) (w.heap.size+7) (w.heap.size+5) (w.heap.size+6) (pP z w (oF r)) e w8:=by
 obtain⟨I,J,K⟩:=T;obtain⟨s1,U,V⟩:=R;have j:∀{m:Mc} {x:Xs} {g:Int} {l:BA},DEnd G S a0 (w.heap.size+7) (w.heap.size+6) m x g l w8->GEndV z w.heap.size (cP (w.heap.size+5) (w.heap.size+6) 0 0 g l) m.steps m.cells x.count w8/\Bt w w8/\w8.heap[w.heap.size+8]? =sT (Cl #[bp (w.heap.size+7)] 106):=fun {m x g l} d=>by obtain⟨A,L,M,N,B,C,gv,wp,O⟩:=d;rw[I]at A;rw[J,s1]at L;rw[K,U]at M;rw[V]at N;rw[I,J,K]at O;have W:=(eE.1 A).1;exact⟨⟨A,L,M,N,⟨_,_,_,O⟩,by rw[B (hF _ Om) Om];exact t⟩,⟨C.1.t c.os,C.2.1.t c.tape,C.2.2.t c.output,by omega,λb X=>by rw[B (hF _ Om) Om];exact c.block b X⟩,by rw[B (hF _ Om) Om];exact u⟩
 match r,h with|((sT vd,p),_,x,m),⟨raised,l,he,a14,b14,d⟩=>obtain⟨i,n,D⟩:=j d;subst he;obtain⟨E,s,re,g,Y,P,Z,H,h4⟩:=oM vd raised i n D (a:=oF ((sT vd,p),_,x,m)) (by (have:raised=if vd=14 then⟨m.raised.toArray⟩else⟨#[]⟩:=by by_cases h:vd=14;rw[if_pos h];exact(b14 h).resolve_right λh=>y h.2;rw[if_neg h];exact a14 h);subst this;rfl);simp only[aB,Ending.panicked.injEq]at P;rw[i.rk]at H;simp[cP]at H;obtain⟨rfl,rfl,rfl⟩:=H;exact .inl ⟨E,s,_,_,by simp only[aB,P],Z,i.rk,h4⟩|((sV,_),v,x,m),⟨g,he,d⟩=>obtain⟨i,n,D⟩:=j d;refine .inr ⟨g,mZ v,he,by simp only[UT,D];rfl,i.rk,λw9 Q=>⟨(((i.set (o:=2) (v:=Ii 1)).set (o:=4) (v:=Ii 0)).alloc _).lk Q,?_⟩⟩;have b1:=(fH (fH n (b:=w.heap.size+7) (k:=2) (v:=Ii 1) Om) (b:=w.heap.size+7) (k:=4) (v:=Ii 0) Om).alloc (by have:=n.size;simp only[aL];omega) (Cl #[Ii 0,Sg ⟨#[]⟩] 166);exact b1.t (dW Q b1.size)
end
section
open Go.RowKit Go.Shelf
open Sc
theorem Vd{g:Int}{v:Vl}:∀p,p∈jN g v->p.1∉Pm.most.map Pm.name:=λp a=>by have h:∀n,n∈([[115,101,99,114,101,116,115],[111,117,116],[105,110],[99,108,111,99,107],[100,105,99,101],[107,101,121]]:List Bs)->n∉Pm.most.map Pm.name:=De;exact h _ (VT.2 ⟨p,a,rfl⟩)
theorem At84.world{z:SubV}{d:List Dt}{fs:List (Dt×Nat)}{w4:Wd}{a n:OA}{o:Nat->Dl}(A:At84 S z w d fs G w4 a0 a n o)(m:0<=z.g/\z.g<=31)(q:d.length<=8)(c:Nat):Cp 84 #[bp (w.heap.size+5),Ii z.g,Sl a d.length c] a0 (nK G S iQ a0 z.g d):=by obtain⟨g,xs,r,s,t⟩:=A.sec;have e:=Hl A.inv z.g m.1 m.2 c d r xs q (λj i=>(s j i).mo A.mv.up.le) (λwr l j i=>t wr (λb u h=>l b u (A.mv.up.le.I h)) j i) (λp v=>by rw[A.B];exact Vd p v) (λk p f _=>by rw[A.mv.up.le.K,A.sz];show kR _ _ _ (kW p)=_;simp only[VR,Prod.mk.injEq,YH,or_false]at f;rcases f with⟨rfl,rfl⟩|⟨rfl,rfl⟩|⟨rfl,rfl⟩|⟨rfl,rfl⟩|⟨rfl,rfl⟩<;>rfl);rw[show G.mb=w.heap.size+5 from A.mv.up.le.mb]at e;exact e
theorem Ks{z:SubV}(x:S.fuel=z.f/\S.quota=z.q/\S.rewrites=z.r)(hT:GT w)(hV:Rd.GV w)(h6:6<=w.heap.size)(hn:z.sn=ts.length)(M:StrsAt w z.sa ts)(hne:eX z.sn z.g z.f z.r z.q z.m=xA->z.t.size<=1200->((2*(ts.filterMap bI).length:Nat):Int)<=z.q->(dV S (gS z.t) sV {} (jD z.g (ts.filterMap bI))).1.1≠sT 0/\¬rW S (gS z.t))(hw:Lk (lD z w) a0):Cp 56 #[bp (w.heap.size+7),Ag z.c] a0 λe w2=>e=Rt (Tu #[])/\pP z w (fB S z ts) w2:=by
 have y:a0.heap.size=w.heap.size+8:=by rw[hw.heap];simp[lD,lC,iU,gR]
 by_cases N:eX z.sn z.g z.f z.r z.q z.m=xA;case neg=>(have v:fB S z ts=⟨2,0,0,⟨#[]⟩,0,0,0⟩:=by unfold fB;rw[if_neg (by simp[N])]);refine Kn (w.heap.size+5) (w.heap.size+6) _ Om λw' p=>?_;obtain⟨U,hz⟩:=uK hw p;refine Calls.mo wQ λe wa h=>?_;unfold lM at h;rw[if_neg N]at h;obtain⟨rfl,j⟩:=h;have B:=U.below (hz▸j);rw[y];exact oM 2 ⟨#[]⟩ B.g B.lo B.bx v
 have l:=N;simp only[eX,YT,decide_eq_true_eq]at l;obtain⟨⟨⟨⟨⟨l1,l2⟩,l3⟩,l4⟩,l5⟩,l6⟩:=l;have hg:=of_decide_eq_true l1;have hr:=of_decide_eq_true l3;have hA:∀{w'},Lk ((a0.alloc (Cl #[bp (w.heap.size+7)] 106)).alloc (Cl z.c 34)) w'->Cp 80 #[Ag z.c] w' λe wa=>e=Rt (Tu #[])/\LayV z w wa/\w.heap.size+11<=wa.heap.size:=fun {w'} p=>by obtain⟨U,hz⟩:=uK hw p;refine Calls.mo wQ λe wa h=>?_;unfold lM at h;rw[if_pos N]at h;obtain⟨rfl,a1⟩:=h;exact⟨rfl,U.below (by rw[<-hz];exact aS a1),by rw[a1.heap];simp[hz]⟩
 by_cases u:ts.all (λt=>(bI t).isSome)=xA;case neg=>(have v:fB S z ts=⟨2,0,0,⟨#[]⟩,0,0,0⟩:=by unfold fB;rw[if_neg (by simp only[N,Bool.true_and];exact u)]);refine Km (w.heap.size+5) (w.heap.size+6) _ Om λw' p=>Calls.mo (hA p) ?_;rintro e wa ⟨rfl,B,za⟩;rw[y];obtain⟨k0,k1,k2,k3,-⟩:=B.ks;refine⟨rfl,⟨k0,k1,k2,k3⟩,λwb C=>?_⟩;have lb:=B.below (dW C B.sz);(have zb:w.heap.size+11<=wb.heap.size:=by rw[C.heap];exact za);refine Calls.mo (tA hn l6 (M.below lb.lo) (GV.below hV lb.lo h6) Om) ?_;rintro e wc (⟨rfl,-,j⟩|⟨a,n,c,ds,rfl,V⟩);have lc:=lb.below (j.mo Om);exact oM 2 ⟨#[]⟩ lc.g lc.lo lc.bx v;refine absurd (List.all_eq_true.2 λt ht=>?_) u;have:bI t∈ds.map sT:=V.all▸VT.2 ⟨t,ht,rfl⟩;obtain⟨d,-,h⟩:=VT.1 this;rw[<-h];rfl
 have X:=Fs u;have b1:(ts.filterMap bI).length=ts.length:=by have:=congrArg WN X;simpa using this.symm
 have v:fB S z ts=match gA z.t with|some (c,k)=>⟨3,c,k,⟨#[]⟩,0,0,0⟩|none=>if((2*(ts.filterMap bI).length:Nat):Int)<=z.q then oF (dV S (gS z.t) sV {} (jD z.g (ts.filterMap bI)))else⟨11,0,0,⟨#[]⟩,0,z.q,0⟩:=by unfold fB;rw[if_pos (by rw[N,u];rfl)];try rfl
 cases hu:gA z.t with|some ck=>obtain⟨c,k⟩:=ck;simp only[hu]at v;refine Kl (w.heap.size+5) (w.heap.size+6) _ Om λw' p=>Calls.mo (hA p) ?_;rintro e wa ⟨rfl,B,za⟩;rw[y];obtain⟨k0,k1,k2,k3,-⟩:=B.ks;refine⟨rfl,⟨k0,k1,k2,k3⟩,λwb C=>?_⟩;have lb:=B.below (dW C B.sz);(have zb:w.heap.size+11<=wb.heap.size:=by rw[C.heap];exact za);refine Calls.mo (tA hn l6 (M.below lb.lo) (GV.below hV lb.lo h6) Om) ?_;rintro e wc (⟨-,⟨t,ht,ho⟩,-⟩|⟨a,n,c',ds,rfl,V⟩);have:=List.all_eq_true.1 u t ht;rw[ho]at this;cases this;have lc:=lb.below (V.bel.mo Om);obtain⟨k0,k1,k2,k3,-⟩:=lc.ks;refine⟨a,n,c',rfl,⟨k0,k1,k2,k3⟩,λwd a5=>?_⟩;have O:=lc.below (dW a5 lc.sz);have zd:=O.sz;refine Calls.mo (DH hu (GV.below hV O.lo h6) Om O.g.rk) ?_;rintro e we ⟨rfl,P,Y,a6,ho⟩;refine oM 3 ⟨#[]⟩ (O.g.keep P λb j=>Y b Om Om) ⟨ho.1.t O.lo.os,ho.2.1.t O.lo.tape,ho.2.2.t O.lo.output,by omega,λb j=>(Y b Om Om).t (O.lo.block b j)⟩ ((Y _ Om Om).t O.bx) v|none=>simp only[hu]at v;(obtain⟨hs,fs,rr,D⟩:z.t.size<=1200/\∃fs rr,Py.topP (2*z.t.size+2) (Rd.L z.t 0)=.inr (fs,rr):=by unfold gA at hu;by_cases hs:1200<z.t.size;rw[if_pos hs]at hu;cases hu;rw[if_neg hs]at hu;refine⟨by omega,?_⟩;cases hp:Py.topP (2*z.t.size+2) (Rd.L z.t 0)with|inl r=>rw[hp]at hu;cases hu|inr r=>exact⟨r.1,r.2,rfl⟩);(have a7:gS z.t=iX z.t fs:=by unfold gS;rw[D]);rw[a7]at v hne;(have F8:∀{G:Gh} {w4 w8 Q:Wd} {a fa:OA} {dk:Nat->Dl} {H:Gh} {m:Mc},At84 S z w (ts.filterMap bI) (iX z.t fs) G w4 w8 a fa dk->Mv G w8 H Q->Inv H S m Q->∀b,b<w.heap.size+2\/w.heap.size+6<=b/\b<w.heap.size+10->H.F b/\Q.heap[b]? =w4.heap[b]?:=λA mv i b j=>by have hF:=(mv.up.F.t A.mv.up.F).symm▸(show(fX w.heap.size (ts.filterMap bI).length z.g _).F b from j);have:=(i.ff hF).1;rw[mv.up.W.t A.mv.up.W]at this;exact⟨hF,this⟩);by_cases hq:((2*(ts.filterMap bI).length:Nat):Int)<=z.q;rw[if_pos hq]at v;obtain⟨hne,a8⟩:=hne N hs hq;refine Ko (w.heap.size+5) (w.heap.size+6) _ Om λw' p=>?_;rw[y];refine Ez ⟨x.1,x.2.1⟩ hV h6 N hn M X hs D hw (λfa fn fc e Q=>e=Rt (Tu #[])/\fJ (w.heap.size+8) (w.heap.size+7) (w.heap.size+5) z.t z.sa z.sn z.sc z.g Q/\∀w10,Lk Q w10->Cp 85 #[bp (w.heap.size+7),Sl fa fn fc] w10 (wW (w.heap.size+8) (w.heap.size+7) (w.heap.size+5) (w.heap.size+6) (pP z w (fB S z ts)))) (λa c fa fc dk G w4 w8 A=>?_) p;refine Calls.mo (A.world hg Om c) λe Q h=>?_;unfold nK at h;rw[if_pos (by rw[x.2.1];show((0+2*(ts.filterMap bI).length:Nat):Int)<=z.q;rw[ZO];exact hq)]at h;obtain⟨rfl,H,i,-,mv,-⟩:=h;have i:=i;have f9:=F8 A mv i;refine⟨rfl,A.lay.ksF λb j=>(f9 b j).2,λw10 R=>?_⟩;have s:=Inv.lk R i;(have E:∀b,b<w.heap.size+2\/w.heap.size+6<=b/\b<w.heap.size+10->w10.heap[b]? =w4.heap[b]?:=λb j=>by rw[R.heap];exact(f9 b j).2);have J:=A.mv.up.le.t mv.up.le;have Z:∀b,(b<w.heap.size+2\/w.heap.size+7<=b/\b<w.heap.size+10)->H.F b:=λb j=>(f9 b Om).1;have i7:=s.at ⟨rfl,rfl,rfl⟩ λb j=>⟨(s.ff (Z b j)).2,rfl,λh=>s.fm h (Z b j),s.fi (Z b j)⟩;have T:=J.t (H.le_at w10 λb=>b<w.heap.size+2\/w.heap.size+7<=b/\b<w.heap.size+10);have f6:=(f9 (w.heap.size+6) Om).1;have a2:Bt w w10:=⟨by rw[s.fo.1,mv.up.W,A.mv.up.W];exact A.lay.lo.os,by rw[s.fo.2.1,mv.up.W,A.mv.up.W];exact A.lay.lo.tape,by rw[s.fo.2.2,mv.up.W,A.mv.up.W];exact A.lay.lo.output,by have:=(s.ff f6).2;omega,λb j=>(E b Om).t (A.lay.lo.block b j)⟩;have a3:=KT (K:=KM) (Nl (Nk S)) (.inl (yQ S)) _ (jD z.g (ts.filterMap bI)) w10 (w.heap.size+7) (w.heap.size+6) fa fc (iX z.t fs) dk i7 (.inr ⟨by omega,by omega⟩) Om ⟨λb j=>.inl Om,hT.keep (a2.block 0 Om)⟩ (by rw[x.2.2];exact A.lay.g.rw.keep (E _ Om)) (by rw[x.2.2];exact⟨hr.1,by omega⟩) ⟨s.fi f6,λh=>s.fm h f6,λh=>by have h:w.heap.size+6<w.heap.size+2\/w.heap.size+7<=w.heap.size+6/\w.heap.size+6<w.heap.size+10:=h;omega⟩ (by rw[show(H.at w10 λb=>b<w.heap.size+2\/w.heap.size+7<=b/\b<w.heap.size+10).mb=w.heap.size+5 from J.mb,E _ Om];exact A.lay.g.rk) (λk hk=>by obtain⟨gg,o,a9,q1,q2,q3,q4⟩:=A.row k hk;exact⟨gg,o,a9,q1,T.I q2,q3,q4⟩) (λk f hf=>(A.dd k f hf).1.mo T) (λf hf=>by obtain⟨k,hk⟩:=List.getElem?_of_mem hf;exact(A.dd k f hk).2) (.inl (yQ S)) A.len hne;rw[show(iX z.t fs).length=fs.length by simp[iX]]at a3;refine Calls.mo a3 λe b2 hd=>?_;rw[v];exact Og (G:=H.at w10 λb=>b<w.heap.size+2\/w.heap.size+7<=b/\b<w.heap.size+10) x ⟨J.mb,J.sb,J.cb⟩ (λb j=>show b<w.heap.size+2\/w.heap.size+7<=b/\b<w.heap.size+10 by omega) a2 ((E _ Om).t A.lay.g.rs) ((E _ Om).t A.lay.bx) a8 hd;rw[if_neg hq]at v;refine Kp (w.heap.size+5) (w.heap.size+6) _ Om λw' p=>?_;rw[y];refine Ez ⟨x.1,x.2.1⟩ hV h6 N hn M X hs D hw (λ_ _ _=>nP (w.heap.size+8) (w.heap.size+7) (w.heap.size+5) (w.heap.size+6) (pP z w (fB S z ts))) (λa c fa fc dk G w4 w8 A=>?_) p;refine Calls.mo (A.world hg Om c) λe Q h=>?_;unfold nK at h;rw[if_neg (by rw[x.2.1];show ¬((0+2*(ts.filterMap bI).length:Nat):Int)<=z.q;rw[ZO];exact hq)]at h;obtain⟨rfl,c9⟩:=h;have b0:=of_decide_eq_true l4;(have k9:∀b,b<w.heap.size+2\/w.heap.size+6<=b/\b<w.heap.size+10->Q.heap[b]? =w4.heap[b]?:=λb j=>by have:=c9.ff (b:=b) (by rw[A.mv.up.F];exact j);rw[A.mv.up.W]at this;exact this);obtain⟨st,ce,fo,-,gv,wp,a4⟩:=c9;have L:=A.mv.up.le;rw[show G.sb=w.heap.size+2 from L.sb,x.1]at st;rw[show G.cb=w.heap.size+3 from L.cb,x.2.1,show(({iQ with cells:=z.q.toNat}:Mc).cells:Int)=z.q from Int.toNat_of_nonneg b0.1]at ce;rw[show G.mb=w.heap.size+5 from L.mb,show G.sb=w.heap.size+2 from L.sb,show G.cb=w.heap.size+3 from L.cb]at a4;have P:=(k9 (w.heap.size+7) Om).t A.lay.g.rk;have a6:=(eE.1 P).1;rw[A.mv.up.W]at fo;exact oM 11 ⟨#[]⟩ ⟨P,st,ce,A.lay.g.rw.keep (k9 _ Om),⟨_,_,_,a4⟩,(k9 _ Om).t A.lay.g.rs⟩ ⟨fo.1.t A.lay.lo.os,fo.2.1.t A.lay.lo.tape,fo.2.2.t A.lay.lo.output,by omega,λb j=>(k9 b Om).t (A.lay.lo.block b j)⟩ ((k9 _ Om).t A.lay.bx) v
end
section
open Go.RowKit Go.Shelf
open Sc
def dQ(z:SubV):Sub:={text:=z.t.data.toList,secrets:=[],lines:=[],ticks:=[],draws:=[],grants:=z.g,fuel:=z.f,rewrites:=z.r,quota:=z.q,room:=z.m}
theorem yW(a:List Dt)(m:Mc):∀l:List Nat,bC n (l.map λj=>.sealD (m.ids+j) (a.getD j (.num 0)))
 |[]=>by simp only[YR,bC]
 |j::l=>by simp only[WT,bC,Vl.ok];exact⟨trivial,yW a m l⟩
theorem Lv(h:0<=S.fuel)(a:List Dt)(i:((2*a.length:Nat):Int)<=S.quota)(g:Int):Mok S (jD g a):=by
 have d:∀L:List Pm,(∀p,p∈L->p.grant=0)->Mok S {({}:Mc)with glob:=kI L,cells:=0+2*a.length,ids:=0+a.length}:=λL j=>by refine⟨⟨h,(by show((0+2*a.length:Nat):Int)<=S.quota;rw[ZO];exact i),XG _,rfl⟩,?_,λe k=>by simp at k,by simp only[cS]⟩;exact vC (P:=λu=>u.ok (2*0)) (λp:Pm=>p.name) (λp=>.prim p) L _ (λp c=>by simp only[Vl.ok];exact j p c) (λp c=>by simp at c)
 replace d:=d Pm.most De;have f:gN iQ a=bK {({}:Mc)with glob:=kI Pm.most,cells:=0+2*a.length,ids:=0+a.length} (gM iQ a) .nil:=rfl;generalize kI Pm.most=gl at d f;unfold jD;rw[f];obtain⟨x,y,z⟩:=mX (rest:=.nil) d (by simp only[Vl.ok]) (gM iQ a) (yW a iQ _);generalize bK {({}:Mc)with glob:=gl,cells:=0+2*a.length,ids:=0+a.length} (gM iQ a) .nil=r at x y z;have b:=x.ok;have l:r.2.steps=0:=y;refine⟨⟨b.low.st,b.low.ce,b.low.ra,b.low.out⟩,?_,b.envs,b.wnd⟩;refine vC (P:=λu=>u.ok (2*r.2.steps)) (λp:Bs×Vl=>p.1) (λp=>p.2) (jN g r.1) _ (λp c=>?_) b.glob;rw[l];have m:∀p,Vl.ok (2*0) (iV g p):=λp=>by unfold iV;split<;>simp only[Vl.ok]
 simp only[jN,VR,YH,or_false]at c;rcases c with rfl|rfl|rfl|rfl|rfl|rfl;exact z;all_goals exact m _
theorem Dc{t:BA}(d:t.size<=1200):∀p∈gS t,aX p.1<=2400/\p.2<=t.size:=λp a=>by unfold gS at a;cases h:Py.topP (2*t.size+2) (Rd.L t 0)with|inl r=>rw[h]at a;simp at a|inr r=>obtain⟨fs,b⟩:=r;rw[h]at a;obtain⟨q,c,rfl⟩:=VT.1 a;(have e:(Rd.L t 0).length=t.size:=by show(t.data.toList.drop 0).length=_;simp);have:=xZ _ _ fs b h q c;exact⟨by show aX q.1<=2400;omega,Nat.sub_le _ _⟩
theorem Ep{z:SubV}(a:eX z.sn z.g z.f z.r z.q z.m=xA)(d:z.t.size<=1200)(e:((2*(ts.filterMap bI).length:Nat):Int)<=z.q):Gv (dQ z) z.t.size (dV (dQ z) (gS z.t) sV {} (jD z.g (ts.filterMap bI))):=by simp only[eX,YT,decide_eq_true_eq,dG]at a;obtain⟨⟨⟨⟨⟨h,b⟩,c⟩,i⟩,j⟩,k⟩:=a;exact Er (S:=dQ z) b.2 c.2 z.t.size (gS z.t) sV {} _ (Lv (S:=dQ z) b.1 _ e z.g) c.1 (Dc d)
theorem KU{z:SubV}(b:eX z.sn z.g z.f z.r z.q z.m=xA)(d:z.t.size<=1200)(e:((2*(ts.filterMap bI).length:Nat):Int)<=z.q):(dV (dQ z) (gS z.t) sV {} (jD z.g (ts.filterMap bI))).1.1≠sT 0/\¬rW (dQ z) (gS z.t):=by refine⟨λh=>?_,λ⟨f,x,x',i,c,j⟩=>?_⟩;have a:=(Ep (ts:=ts) b d e).2.2;rw[h]at a;rcases a with a|⟨a,-⟩;have:=a.is;omega;omega;simp only[eX,YT,decide_eq_true_eq,dG]at b;have k:z.r<=500:=b.1.1.1.2.2;have l:=(Dc d f i).1;have ok:=xX (dQ z) fV x f.1 c (by have c:(x.count:Int)<=z.r:=c;have:eO (dQ z) x<=500*2400:=Nat.mul_le_mul_right _ (by show z.r.toNat-x.count<=500;omega);show _<=1000000000;omega);rw[j]at ok;have:=ok.er 14 rfl;omega
end
section
open Go.RowKit Go.Shelf
open Sc
def Rp.c(a:Rp):Array Vu:=eC a.ve a.re a.pl a.va a.st a.ce a.rw
structure OkW (w:Wd):Prop where
 T:GT w
 V:Rd.GV w
 six:6<=w.heap.size
theorem OkW.below(h:OkW w)(a:Bt w w'):OkW w':=⟨h.T.keep (a.block 0 (by have:=h.six;omega)),GV.below h.V a h.six,eT h.six a.size⟩
structure SubAt (z:SubV) (ts:List BA) (w:Wd):Prop where
 n:z.sn=ts.length
 at':StrsAt w z.sa ts
theorem SubAt.below{z:SubV}(h:SubAt z ts w)(a:Bt w w'):SubAt z ts w':=⟨h.n,h.at'.below a⟩
theorem CO{z:SubV}(ok:OkW w)(h:SubAt z ts w):Cp 37 #[Ag z.c] w λe w'=>e=Rt (Ag (fB (dQ z) z ts).c)/\Bt w w':=by refine CR z λk a=>Calls.mo (Ks (S:=dQ z) ⟨rfl,rfl,rfl⟩ ok.T ok.V ok.six h.n h.at' (λd f g=>KU d f g) a) ?_;rintro e w2 ⟨rfl,i,j⟩;exact⟨rfl,_,_,_,_,_,_,_,i,j,λw3 b=>⟨rfl,b⟩⟩
theorem tB{z:SubV}(b:Nat)(ok:OkW w)(h:SubAt z ts w):Cp 25 #[bp b,Ag z.c] w λe w'=>e=Rt (Ag (fB (dQ z) z ts).c)/\Bt w w':=by refine Ov z λw2 a i f=>Calls.mo (CO (ok.below a) (h.below a)) ?_;rintro e w3 ⟨rfl,d⟩;exact⟨_,_,_,_,_,_,_,rfl,(d.block _ Om).t f,a.t (d.mo Om),λw4 g=>⟨rfl,g⟩⟩
theorem uM{z:SubV}(ok:OkW w)(h:SubAt z ts w):Cp 14 #[Ag z.c] w λe w'=>e=Rt (Tu #[Ag (fB (dQ z) z ts).c,.bool xA])/\Bt w w':=by
 refine Ow z λb w1 a=>?_;have g:Bt w ((w.alloc (Cl z.c 34)).alloc (Cl (eC 0 0 0 ⟨#[]⟩ 0 0 0) 29)):=(aA _ _).alloc Sm _;have d:Bt w w1:=g.t (a.mo Om);have k:w.heap.size+2<=w1.heap.size:=by have:=a.size;simp at this;omega
 have i:wY w1 (w.heap.size+1):=by show w1.heap[w.heap.size+1]? =_;rw[a.block _ Om];exact heap_alloc2_new _ _ _
 refine Calls.mo (tB b (ok.below d) (h.below d)) ?_;rintro e w3 ⟨rfl,f⟩;exact⟨_,_,_,_,_,_,_,rfl,(f.block _ Om).t i,d.t (f.mo Om),λw4 j=>⟨rfl,j⟩⟩
end
section
open Go.RowKit Go.Shelf
open Sc
def z0:SubV:=⟨⟨#[40,43,32,49,32,50,41]⟩,sV,0,0,Sl sV 0 0,Sl sV 0 0,Sl sV 0 0,0,100,0,100,0⟩
theorem Hm:fB (dQ z0) z0 []=⟨1,0,0,⟨#[51]⟩,5,0,0⟩:=Kr
theorem xQ(w:Wd)(ok:OkW w):Cp 27 #[] w λe w'=>e=Rt (.bool xA)/\Bt w w':=by
 have H:Hid (Cp 14 #[Ag #[Sg ⟨#[40,43,32,49,32,50,41]⟩,Sl sV 0 0,Sl sV 0 0,Sl sV 0 0,Sl sV 0 0,Ii 0,Ii 100,Ii 0,Ii 100,Ii 0]] w λe w'=>e=Rt (Tu #[Ag #[Ii 1,Ii 0,Ii 0,Sg ⟨#[51]⟩,Sg ⟨#[]⟩,Ii 5,Ii 0,Ii 0,Sl sV 0 0],.bool xA])/\Bt w w'):=by have:=uM (z:=z0) (ts:=[]) ok ⟨rfl,λi c=>by simp at c⟩;rw[Hm]at this;exact this
 clear ok;delta Cp;go_in;go_wp2_with (go_at_call 14;refine iF H.o λd a=>?_;have b:=hZ a;clear a);go_ret;exact⟨rfl,b.o.alloc b.o.size _⟩
theorem On:Cp 40 #[Sl sV 0 0,Sl sV 0 0] w λe w'=>e=Rt (.bool xA)/\w'=w:=by
 delta Cp;go_in;go_wp2;go_loopw [5] (λi wr=>i=Ii 0/\wr=w) (λ_ _=>0);case atStart=>exact⟨rfl,rfl⟩
 case round=>obtain⟨rfl,rfl⟩:=hrel;go_wp2;go_ret;exact⟨rfl,rfl⟩
theorem Oo(a:Rp):Cp 29 #[Ag a.c,Ag a.c] w λe w'=>e=Rt (.bool xA)/\Bt w w':=by obtain⟨d,f,g,h,i,j,rw⟩:=a;show Cp 29 #[Ag #[Ii d,Ii f,Ii g,Sg h,Sg ⟨#[]⟩,Ii i,Ii j,Ii rw,Sl sV 0 0],Ag #[Ii d,Ii f,Ii g,Sg h,Sg ⟨#[]⟩,Ii i,Ii j,Ii rw,Sl sV 0 0]] w _;delta Cp;go_in;go_wp2_with (go_at_call 40;refine Ds On ?_);go_ret;exact⟨rfl,(aA _ _).alloc Sm _⟩
end
end
end Go.Proofs.YtldaocpojcfljaaGreatDoor
