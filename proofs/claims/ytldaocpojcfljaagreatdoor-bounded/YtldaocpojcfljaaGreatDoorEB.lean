import Derived.Test.YtldaocpojcfljaaGreatDoorM07
set_option maxRecDepth 100000
set_option maxHeartbeats 4000000
namespace Go.Proofs.YtldaocpojcfljaaGreatDoor
open Tryz hiding parts
open Go.Value renaming slice→Sl,string→Sg,iface→If,tuple→Tu,agg→Ag
open Go.Obj renaming cells→Cl
open Go.Ending renaming returned→Rt,panicked→Pk
open _root_.Option renaming some→sT,none→sV
open _root_.Bool renaming true→xA,false→xN
section
open Go.RowKit Go.Shelf
open Sc
open _root_.Bool renaming and_eq_true→YT
open _root_.ByteArray renaming size→YE
open _root_.Int renaming natCast_nonneg→XE
open _root_.Nat renaming zero_le→XG
variable {z:SubV}
structure AnsOk (z:SubV) (a:Rp):Prop where
 ve:1<=a.ve/\a.ve<=14/\a.ve≠13
 no:a.ve=2->a.st=0/\a.ce=0/\a.rw=0/\a.va=⟨#[]⟩
 st:a.ve≠2->0<=a.st/\a.st<=z.f/\(a.ve=10->a.st=z.f)
 ce:a.ve≠2->0<=a.ce/\a.ce<=z.q/\(a.ve=11->a.ce=z.q)
 rw:a.ve≠2->0<=a.rw/\a.rw<=z.r/\(a.ve=12->a.rw=z.r)
 ro:a.ve≠2->0<=z.m
 pl:0<=a.pl/\a.pl<=z.t.size
 va:a.va.size<=1200
 re:a.re≠0↔a.ve=3
theorem pJ{A C D E F rw:Int}{U:BA}(a:1<=A/\A<=14/\A≠13)(b:A=2->E=0/\F=0/\rw=0/\U=⟨#[]⟩)(c:A≠2->0<=E/\E<=z.f/\(A=10->E=z.f))(d:A≠2->0<=F/\F<=z.q/\(A=11->F=z.q))(e:A≠2->0<=rw/\rw<=z.r/\(A=12->rw=z.r))(g:A≠2->0<=z.m)(h:0<=D/\D<=z.t.size)(i:U.size<=1200)(j:C≠0↔A=3):AnsOk z ⟨A,C,D,U,E,F,rw⟩:=⟨a,b,c,d,e,g,h,i,j⟩
theorem Iw{t:BA}{c k:Nat}(h:gA t=sT (c,k)):c≠0/\k<=t.size:=by unfold gA at h;by_cases a:1200<t.size;rw[if_pos a]at h;cases h;exact⟨by decide,XG _⟩;rw[if_neg a]at h;cases hp:Py.topP (2*t.size+2) (Rd.L t 0)with|inr r=>rw[hp]at h;cases h|inl r=>obtain⟨e,j⟩:=r;rw[hp]at h;cases h;refine⟨?_,Nat.sub_le _ _⟩;have b:=Py.topP_top (2*t.size+2) (Rd.L t 0);rw[hp]at b;have d:=Py.top_map (2*t.size+2) (Rd.L t 0);rw[b]at d;exact Px.top_code _ _ _ j (by have:(Rd.L t 0).length=t.size:=(by show(t.data.toList.drop 0).length=_;simp);omega) d
theorem OW(z:SubV)(ts:List BA):AnsOk z (fB (dQ z) z ts):=by
 unfold fB;split;case isFalse=>exact pJ De (λ_=>⟨rfl,rfl,rfl,rfl⟩) (λh=>absurd rfl h) (λh=>absurd rfl h) (λh=>absurd rfl h) (λh=>absurd rfl h) ⟨by decide,XE _⟩ (XG _) De
 case isTrue e=>rw[YT]at e;have e:=e.1;have l:=e;simp only[eX,YT,decide_eq_true_eq,dG]at l;obtain⟨⟨⟨⟨⟨D,u⟩,w⟩,y⟩,i⟩,E⟩:=l;split;rename_i c k g;obtain⟨d,j⟩:=Iw g;exact pJ De (λh=>absurd h De) (λ_=>⟨by decide,u.1,λh=>absurd h De⟩) (λ_=>⟨by decide,y.1,λh=>absurd h De⟩) (λ_=>⟨by decide,w.1,λh=>absurd h De⟩) (λ_=>i.1) ⟨XE _,by omega⟩ (XG _) ⟨λ_=>rfl,λ_=>by omega⟩;rename_i g;(have o:z.t.size<=1200:=by unfold gA at g;by_cases o:1200<z.t.size;rw[if_pos o]at g;cases g;omega);split;rename_i A;have n:=Ep (ts:=ts) e o A;unfold oF;split;rename_i b p _ x m s;rw[s]at n;obtain⟨d,j,h3⟩:=n;have d:(x.count:Int)<=z.r:=d;have j:p<=z.t.size:=j;have h3:Ended (dQ z) b m\/((b=4\/(b=12/\(x.count:Int)=z.r))/\Mok (dQ z) m):=h3;have a:Low (dQ z) m:=h3.elim (·.low) (·.2.low);(have F:4<=b/\b<=14/\b≠13:=by rcases h3 with h3|⟨h3,-⟩;have:=h3.is;omega;omega);have B:(m.steps:Int)<=z.f:=a.st;have C:(m.cells:Int)<=z.q:=a.ce;refine pJ Om (λh=>by omega) (λ_=>⟨XE _,B,λh=>?_⟩) (λ_=>⟨XE _,C,λh=>?_⟩) (λ_=>⟨XE _,d,λh=>?_⟩) (λ_=>i.1) ⟨XE _,by omega⟩ ?_ ⟨λh=>absurd rfl h,λh=>by omega⟩;rcases h3 with h3|⟨h3,-⟩;exact h3.fuel Om;omega;rcases h3 with h3|⟨h3,-⟩;exact h3.quota Om;omega;rcases h3 with h3|⟨h3,-⟩;have:=h3.is;omega;rcases h3 with h3|h3;omega;exact h3.2;show(if b=14 then(⟨m.raised.toArray⟩:BA)else⟨#[]⟩).size<=1200;split;have:=a.ra;simpa[YE]using this;exact XG _;rename_i _ v x m s;rw[s]at n;obtain⟨d,j,h3⟩:=n;have h3:Mok (dQ z) m:=h3;refine pJ De (λh=>absurd h De) (λ_=>⟨XE _,h3.low.st,λh=>absurd h De⟩) (λ_=>⟨XE _,h3.low.ce,λh=>absurd h De⟩) (λ_=>⟨XE _,d,λh=>absurd h De⟩) (λ_=>i.1) ⟨by decide,XE _⟩ ?_ De;show(mZ v).size<=1200;unfold mZ;split;simp[YE];omega;exact XG _;exact pJ De (λh=>absurd h De) (λ_=>⟨by decide,u.1,λh=>absurd h De⟩) (λ_=>⟨y.1,Int.le_refl _,λ_=>rfl⟩) (λ_=>⟨by decide,w.1,λh=>absurd h De⟩) (λ_=>i.1) ⟨by decide,XE _⟩ (XG _) De
theorem Yv(n m:Int)(o:Bool)(w:Wd)(b:0<=n)(c:n<=m)(a:o=xA->n=m):Cp 30 #[Ii n,Ii m,.bool o] w λe w'=>e=Rt (.bool xA)/\w'=w:=by
 cases o;·clear a;delta Cp;go_in;go_wp2;go_ret;exact⟨rfl,rfl⟩
 obtain rfl:=a rfl;clear a;delta Cp;go_in;go_wp2;go_ret;exact⟨rfl,rfl⟩
theorem bounded11{ts:List BA}{w:Wd}(ok:OkW w)(h:SubAt z ts w):Cp 11 #[Ag z.c] w λe w'=>e=Rt (.bool xA)/\Bt w w':=by
 obtain⟨ve,s,D,B,u,v,rw,E⟩:∃ve s D B u v rw,fB (dQ z) z ts=⟨ve,s,D,B,u,v,rw⟩:=⟨_,_,_,_,_,_,_,rfl⟩;have J:=OW z ts;have K:Hid (∀w',Bt w w'->Cp 14 #[Ag #[Sg z.t,Sl z.sa z.sn z.sc,z.li,z.ti,z.dr,Ii z.g,Ii z.f,Ii z.r,Ii z.q,Ii z.m]] w' λe w2=>e=Rt (Tu #[Ag #[Ii ve,Ii s,Ii D,Sg B,Sg ⟨#[]⟩,Ii u,Ii v,Ii rw,Sl sV 0 0],.bool xA])/\Bt w' w2):=λw' a=>by have:=uM (ok.below a) (h.below a);rw[E]at this;exact this
 have W:=hZ (λw' (a:Bt w w')=>xQ w' (ok.below a));rw[E]at J;clear ok h E;obtain⟨⟨v1,v2,v3⟩,i,j,k,l,n,⟨p1,p2⟩,G,d⟩:=J;simp only at v1 v2 v3 i j k l n p1 p2 G d;have q1:¬ve<1:=Om;have q2:¬(14:Int)<ve:=Om;have q3:(B.size:Int)<=1200:=Om;clear v1 v2;show Cp 11 #[Ag #[Sg z.t,Sl z.sa z.sn z.sc,z.li,z.ti,z.dr,Ii z.g,Ii z.f,Ii z.r,Ii z.q,Ii z.m]] w _;delta Cp;go_in;go_wp2_with (go_at_call 27;refine iF (W.o _ (aA _ _)) λM a=>?_;refine hO ?_);obtain⟨c0,c1,c2,c3,c4,c5,c6,N,O,c9⟩:=lJ (w:=M) (b:=w.heap.size) (T:=34) ((a.block _ Sm).t (eN _ _));have x:=hZ ((aA w _).t (a.mo Sm));have y:w.heap.size<M.heap.size:=by have:=a.size;simp at this;omega
 clear a;refine hZ ?_;go_wp2_with (go_at_call 14;refine iF (K.o _ x.o) λw2 a=>?_;refine hO ?_);have d0:=(a.cell (p:=Aa w.heap.size) y).t c0;have d6:=(a.cell (p:=Ab w.heap.size 6) y).t c6;have d7:=(a.cell (p:=Ab w.heap.size 7) y).t N;have d8:=(a.cell (p:=Ab w.heap.size 8) y).t O;have d9:=(a.cell (p:=Ab w.heap.size 9) y).t c9;have a0:w.heap.size<w2.heap.size:=eW y a.size;replace x:=hZ (x.o.t (a.mo Om));clear a c0 c1 c2 c3 c4 c5 c6 N O c9;refine hZ ?_;by_cases o:ve=2;·obtain⟨rfl,rfl,rfl,rfl⟩:=i o;subst o;clear j k l n d i;go_wp2;go_ret;exact⟨rfl,x.o.alloc x.o.size _⟩
 obtain⟨P,s1,Q⟩:=j o;obtain⟨R,e1,e2⟩:=k o;obtain⟨S,U,V⟩:=l o;have m0:=n o;have L:=hZ Yv;have X:(ve==10)=xA->u=z.f:=λh=>Q (by simpa using h);have Y:(ve==11)=xA->v=z.q:=λh=>e2 (by simpa using h);have Z:(ve==12)=xA->rw=z.r:=λh=>V (by simpa using h);have f4:(ve==13)=xA->(0:Int)=z.m:=λh=>absurd (by simpa using h) v3;have F:=hZ (⟨⟨P,s1,X⟩,⟨R,e1,Y⟩,⟨S,U,Z⟩,⟨Int.le_refl 0,m0,f4⟩⟩:(0<=u/\u<=z.f/\((ve==10)=xA->u=z.f))/\(0<=v/\v<=z.q/\((ve==11)=xA->v=z.q))/\(0<=rw/\rw<=z.r/\((ve==12)=xA->rw=z.r))/\((0:Int)<=0/\0<=z.m/\((ve==13)=xA->(0:Int)=z.m)));clear X Y Z f4;have a1:(ve==2)=xN:=by simpa using o
 have A:(s==0)=!(ve==3):=by by_cases C:ve=3;have:=d.2 C;subst C;simp[this];have:s=0:=Classical.byContradiction λh=>C (d.1 h);subst this;simp[C]
 have H:=hZ A;clear j k l n d i o P s1 Q R e1 e2 S U V m0 A v3;go_wp2_with (go_at_call 30;refine Ds (L.o _ _ _ _ (by with_reducible (first|exact F.o.1.1|exact F.o.2.1.1|exact F.o.2.2.1.1|exact F.o.2.2.2.1)) (by with_reducible (first|exact F.o.1.2.1|exact F.o.2.1.2.1|exact F.o.2.2.1.2.1|exact F.o.2.2.2.2.1)) (by with_reducible (first|exact F.o.1.2.2|exact F.o.2.1.2.2|exact F.o.2.2.1.2.2|exact F.o.2.2.2.2.2))) ?_);go_ret;have e3:((s !=0)==(ve==3))=xA:=by rw[bne,H.o];cases (ve==3)<;>rfl
 exact⟨by show Ending.returned (.bool ((s !=0)==(ve==3)))=_;rw[e3],x.o.alloc x.o.size _⟩
end
end Go.Proofs.YtldaocpojcfljaaGreatDoor
