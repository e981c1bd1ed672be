import Derived.Test.YtldaocpojcfljaaGreatDoorM08
set_option maxRecDepth 100000
set_option maxHeartbeats 4000000
namespace Go.Proofs.YtldaocpojcfljaaGreatDoor
open Tryz hiding parts
open Go.RowKit Go.Shelf
open Sc
variable {G H H':Gh}{N b c' fb g i lo n o pm rb t:Nat}{V2 W w w' w0 w3:Wd}{ds:List Dt}{e:Dl}{e':En}{es:List Dl}{fc rc:Array Vu}{v0 v1 v2 v3 v4 v5 v6:Vu}{xs:List Vu}
theorem qhc(b:List Bs)(sc:qaj)(p:Dt)(rest:List Dt)(h:∀q,rest=[q]->qam q=false)(ds:List Dt):qau b sc (p::rest) ds=match ds with
  | []=>none
  |d::l=>match qaq b sc p d with
   |none=>none
   |some a=>(qau b sc rest l).map (a++·):=by
 cases rest with
 |nil=>
  cases ds with
  |nil=>simp[qau]
  |cons d l=>
   cases l with
   |nil=>cases hm:qaq b sc p d <;> simp[qau,hm]
   |cons e f=>cases hm:qaq b sc p d <;> simp[qau,hm]
 |cons q r=>
  have c:(r.isEmpty&&qam q)=false:=by
   cases r with
   |nil=>simpa using h q rfl
   |cons _ _=>rfl
  cases ds with
  |nil=>simp[qau,c]
  |cons d l=>
   simp only[qau,c,Bool.false_eq_true,if_false];cases qaq b sc p d <;> rfl
theorem q2j(O:Gh)(c:List Bs)(n L n2 b1 C t1 t2:Nat)(p:Dt)(rest:List Dt)(v1 v2:Vu)(h:∀q,rest=[q]->qam q=false)(D:Mtc O n L DV (λsc d=>qaq c sc p d) v1)(E:Mtc O (n+L) n2 LV (λsc l=>qau c sc rest l) v2)
  (a1:O.I b1=some (.cells #[v1] t1 (0,0)))(a2:O.I C=some (.cells #[v2] t2 (0,0))):Mtc O n (L+n2) LV (λsc l=>qau c sc (p::rest) l) (.func (.func 390) #[] #[bp b1,bp C]):=by
 refine⟨390,#[bp b1,bp C],rfl,q5m,λG w0 H w ab sc l y fb N fc hG hF k hA f a9=>?_⟩;obtain⟨a,len,cap,rfl,hr,P⟩:=hA;obtain⟨f1,c1,rfl,a3,D⟩:=D;obtain⟨f2,c2,rfl,a4,E⟩:=E;have hl:=hr.len;simp only[qhc c sc p rest h];cases l with
 |nil=>
  simp only[List.length_nil]at hl;subst hl;refine Calls.mono (qqz a cap _ _ b1 C w) ?_;rintro e w' ⟨rfl,hw⟩;have hb:=bl0 hw;exact⟨H,fc,k.below hb,Sp.below hb,(f.below hb).row,rfl,rfl⟩
 |cons d r=>
  simp only[List.length_cons]at hl;subst hl;obtain⟨g,o,b0,rfl,hI,Q⟩:=hr.mem (by omega);obtain⟨⟨xk,xn,R,S,xm,xa,xl,xc⟩,hd,a5⟩:=Q 0 d (by simp);have T:r.length+1<=cap:=by obtain⟨_,_,_,_,h,_⟩:=hr;exact h
  have st:∀{H':Gh} {w':Wd},Wk G w0 H' w'->H.le H'->qup b1 C f1 f2 g o c1 c2 xk xn R S xm xa xl xc w':=fun {H' w'} k' a6=>by
   have F:=a5 w' (k'.imm (a6.I hI));simp only[Nat.zero_mul,Nat.add_zero]at F;exact⟨k'.box hG a1,k'.box hG a2,F 0 (by omega),F 1 (by omega),F 2 (by omega),F 3 (by omega),F 4 (by omega),F 5 (by omega)⟩
  refine q07 g o r.length cap b1 C f1 f2 c1 c2 xk xn R S xm xa xl xc (bp ab) (.slice (some ⟨fb,0,none⟩) N N) w (λw2=>∃A m b,Wk G w0 A w2/\Sp (·=fb) H w A w2/\w2.heap[fb]? =some (.cells m 477 (0,0))/\m.size=fc.size/\qaq c sc p d=some b/\q1m A n L fc m (.returned (.bool true)) (some b)) _ a3 a4 (st k (Gh.le.refl _)) T (λw1 a7=>?_) ?_
  ·have t:=bl0 a7;refine Calls.mono (D G w0 H w1 ab sc d _ fb N fc hG hF (k.below t) ⟨_,rfl,hd,by simp only[qad]at P;omega⟩ (f.below t) (by omega)) ?_;intro e w2 U;have s:e=.returned (.bool (qaq c sc p d).isSome):=U.ends;obtain⟨A,m,M,B,r2,V,m2⟩:=U.after (Sp.below t);have m2:q1m A n L fc m e (qaq c sc p d):=m2;cases u:qaq c sc p d with
   |none=>
    rw[u]at s m2;refine .inr ⟨s,st M B.ext.le,λw3 v=>?_⟩;exact⟨A,m,M.lk v,B.trans (Sp.lk v),by rw[v.heap];exact r2,V,by simp only[u];exact rfl⟩
   |some b=>
    rw[u]at s m2;subst s;exact .inl ⟨rfl,st M B.ext.le,A,m,b,M,B,r2,V,rfl,m2⟩
  ·rintro w2 ⟨A,m,b,M,B,r2,V,u,_,a8,W,X⟩ w3 v;have J:=bl0 v;have f2:=(f.step B r2 V).below J;refine Calls.mono (E G w0 A w3 ab sc r _ fb N m hG hF (M.below J) ⟨_,_,_,rfl,(by simpa using (hr.drop 1 (by omega)).mono B.ext.le),by simp only[qad]at P;omega⟩ f2 (by omega)) ?_;intro e w4 U;have s:e=.returned (.bool (qau c sc rest r).isSome):=U.ends;obtain⟨H4,Y,k4,s4,r4,z4,m4⟩:=U.after (Sp.below J);have m4:q1m H4 (n+L) n2 m Y e (qau c sc rest r):=m4;refine⟨_,s,st k4 (B.ext.le.trans s4.ext.le),λw5 K=>?_⟩;refine⟨H4,Y,k4.lk K,(B.trans s4).trans (Sp.lk K),by rw[K.heap];exact r4,z4.trans V,?_⟩;simp only[u];cases hm2:qau c sc rest r with
   |none=>exact rfl
   |some C=>
    rw[hm2]at m4;obtain⟨_,Z,z,a0⟩:=m4;refine⟨rfl,by simp[a8,Z],λq hq=>?_,λi x hx=>?_⟩
    ·rw[z q (by omega),W q (by omega)]
    ·rcases Nat.lt_or_ge i b.length with hi|hi
     ·rw[eA hi]at hx;obtain⟨xs,q1,q2⟩:=X i x hx;refine⟨xs,q1.mono s4.ext.le,λj hj=>?_⟩;rw[z _ (.inl (by omega))];exact q2 j hj
     ·rw[eB hi]at hx;obtain⟨xs,q1,q2⟩:=a0 _ x hx;refine⟨xs,q1,λj hj=>?_⟩;rw[<-q2 j hj];congr 2;omega
theorem Sp.set7{L:Nat->Prop}(h:L b):Sp L H w H (set7 w b o v0 v1 v2 v3 v4 v5 v6):=by
 have g:∀(W:Wd) (k:Nat) (v:Vu),Sp L H W H (W.setCell ⟨b,k,none⟩ v):=λW k v=>Sp.set (a:=⟨b,k,none⟩) h
 unfold Go.Proofs.YtldaocpojcfljaaGreatDoor.set7;exact((((((g _ _ _).trans (g _ _ _)).trans (g _ _ _)).trans (g _ _ _)).trans (g _ _ _)).trans (g _ _ _)).trans (g _ _ _)
def qgf(fc:Array Vu)(o:Nat)(v0 v1 v2 v3 v4 v5 v6:Vu):Array Vu:=((((((fc.setIfInBounds o v0).setIfInBounds (o+1) v1).setIfInBounds (o+2) v2).setIfInBounds (o+3) v3).setIfInBounds (o+4) v4).setIfInBounds (o+5) v5).setIfInBounds (o+6) v6
theorem qi8(h:w.heap[b]? =some (.cells fc t (0,0))):(set7 w b o v0 v1 v2 v3 v4 v5 v6).heap[b]? =some (.cells (qgf fc o v0 v1 v2 v3 v4 v5 v6) t (0,0)):=by
 have a:∀(W:Wd) (cs:Array Vu) (o:Nat) (v:Vu),W.heap[b]? =some (.cells cs t (0,0))->(W.setCell ⟨b,o,none⟩ v).heap[b]? =some (.cells (cs.setIfInBounds o v) t (0,0)):=λW cs o v h=>by
  simp[World.setCell,Array.getElem?_modify,h]
 exact a _ _ _ _ (a _ _ _ _ (a _ _ _ _ (a _ _ _ _ (a _ _ _ _ (a _ _ _ _ (a _ _ _ _ h))))))
theorem qrz:(set7 w b o v0 v1 v2 v3 v4 v5 v6).heap.size=w.heap.size:=by simp[set7]
theorem qfe:(qgf fc o v0 v1 v2 v3 v4 v5 v6).size=fc.size:=by simp[qgf]
theorem qff{k:Nat}(h:k<o\/o+7<=k):(qgf fc o v0 v1 v2 v3 v4 v5 v6)[k]? =fc[k]?:=by
 unfold qgf;rw[Array.getElem?_setIfInBounds_ne (by omega),Array.getElem?_setIfInBounds_ne (by omega),Array.getElem?_setIfInBounds_ne (by omega),Array.getElem?_setIfInBounds_ne (by omega),Array.getElem?_setIfInBounds_ne (by omega),Array.getElem?_setIfInBounds_ne (by omega),Array.getElem?_setIfInBounds_ne (by omega)]
theorem qi9{j:Nat}(h:o+7<=fc.size)(c:j<7):(qgf fc o v0 v1 v2 v3 v4 v5 v6)[o+j]? =[v0,v1,v2,v3,v4,v5,v6][j]?:=by
 unfold qgf;have ne:∀{a b:Nat},a≠b->(o+a=o+b)=False:=λh=>by simp;omega
 rcases j with _|_|_|_|_|_|_|j <;> first|omega|simp[show o<fc.size by omega,show o+1<fc.size by omega,show o+2<fc.size by omega,show o+3<fc.size by omega,show o+4<fc.size by omega,show o+5<fc.size by omega,show o+6<fc.size by omega]
theorem q4o(C:Gh)(c:List Bs)(a b:Nat)(s:Bs)(m:Int)(K:c.contains s=false)(M:(s== [95])=false)(t:Nat)(O:C.I b=some (.cells #[.int .i64 (a:Int)] t (0,0))):Mtc C a 1 DV (λsc d=>qaq c sc (.sym s m) d) (.func (.func 419) #[] #[bp b]):=by
 refine⟨419,#[bp b],rfl,q45,λG w0 H w P sc d y fb N fc Q hF k R f S=>?_⟩;obtain⟨⟨r,u,g,h,v,x,z,A⟩,rfl,T,B⟩:=R;have n:∀j,w.cell? ⟨fb,j,none⟩=fc[j]?:=λj=>by simp[World.cell?,f.row]
 have D:=f.max;refine Calls.mono (q15 r u g h v x z A (bp P) fb 0 N N b a w (k.box Q O) (by omega) f.max (λj E=>?_) (λj=>by simp[World.frozen?,f.row])) ?_
 ·rw[n];exact⟨_,Array.getElem?_eq_getElem (by rw[f.size];omega)⟩
 ·rintro e w' ⟨rfl,F⟩;have U:=qi8 (o:=0+a*7) (v0:=.int .i64 r) (v1:=.int .i64 u) (v2:=.bool g) (v3:=.string h) (v4:=.int .i64 v) (v5:=.slice x z A) (v6:=.slice none 0 0) f.row;have V:Sp (·=fb) H w H (set7 w fb (0+a*7) (.int .i64 r) (.int .i64 u) (.bool g) (.string h) (.int .i64 v) (.slice x z A) (.slice none 0 0)):=Sp.set7 rfl;have l:=(V.trans (Sp.below (qaa _ (.cells (Dl.cells ⟨r,u,g,h,v,x,z,A⟩) 134)))).trans (Sp.lk F);have W:qaq c sc (.sym s m) d=some [((s,m),.one d)]:=by unfold qaq;rw[K,M];simp
  have X:=f.size;simp only[W];refine⟨H,_,k.go l f.L,l,(by rw[F.heap,eH _ _ _ (by rw[qrz];exact f.lt)];exact U),qfe,rfl,rfl,λq Y=>qff (by omega),λi p J=>?_⟩;cases i with
  |succ i=>simp at J
  |zero=>
   obtain rfl:((s,m),Tr.one d)=p:=by simpa using J
   refine⟨_,.one d _ T B,λj E=>?_⟩;rw[show(a+0)*7+j=0+a*7+j by omega,qi9 (by omega) E];rfl
theorem qjs:(prog.info? 477).map (λi=>(i.zero,i.size,i.bytes))=some (some (.agg #[.int .i64 0,.int .i64 0,.bool false,.string ⟨#[]⟩,.int .i64 0,.slice none 0 0,.slice none 0 0]),7,96):=by kernel_rfl
theorem qv5(q:Vu)(s:OA)(a t f:Nat)(j:Array Vu)(u v:Int)(h:Bool)(i:BA)(x:Int)(g o n c:Nat)(y:Vu)(w:Wd)(Q:En->Wd->Prop)
  (Y:∀args w,(callFunc f args).run prog w=.ok (.enter f args) w)(L:a<=1000000000000)(M:n+1<=c)
  (H:∀w1 fb fc,Below w.heap.size w w1->w.heap.size<=fb->w1.heap[fb]? =some (.cells fc 477 (0,0))->fc.size=a*7->Calls prog f (#[.slice (tlD g o c 1) n (c-1),y,.slice (some ⟨fb,0,none⟩) a a]++j) w1 λe w2=>∃r,e=.returned (.bool r)/\∀w3,Lk w2 w3->Q (.returned (.tuple #[.slice (some ⟨fb,0,none⟩) a a,.bool r])) w3):
  Calls prog 319 #[.agg #[q,.slice s a t,.func (.func f) #[] j],.agg #[.int .i64 u,.int .i64 v,.bool h,.string i,.int .i64 x,.slice (some ⟨g,o,none⟩) (n+1) c],y] w Q:=by
 obtain⟨E,N,k,l,m⟩:=info_parts qjs;have O:∀w,(Instr.slice 132 (.slice (some ⟨g,o,none⟩) (n+1) c) (some (.int .i64 1)) none none).run prog w=.ok (.slice (tlD g o c 1) n (c-1)) w:=λw=>qbz g o n c M w
 have P:=hZ H;have z:E.bytes*a<=281474976710656:=by rw[m];omega
 have A:a<=maxLen:=by unfold maxLen;omega
 clear H;go_enter func319,ntmps319
 go_wp2_with (at_make;refine wpList_make_full _ rfl _ _ 407 rfl 0 477 E _ 7 underlying407 N k l .i64 .i64 (a:Int) (a:Int) a rfl rfl rfl rfl z A (Nat.zero_le _) ?_)
 intro w3 d b;have p:Below w.heap.size w w3:=(((qaa _ _).alloc (by simp) _).grown b (by simp;omega) nofun);have F:w3.heap[w.heap.size]? =some (.cells #[q,.slice s a t,.func (.func f) #[] j] 402 (0,0)):=by
  rw[b.block _ (by simp;omega) nofun,eH _ _ _ (by simp)];exact eN _ _
 have G:w3.heap[w.heap.size+1]? =some (.cells #[.int .i64 u,.int .i64 v,.bool h,.string i,.int .i64 x,.slice (some ⟨g,o,none⟩) (n+1) c] 134 (0,0)):=by
  rw[b.block _ (by simp) nofun];have:=eN (w.alloc (.cells #[q,.slice s a t,.func (.func f) #[] j] 402)) (.cells #[.int .i64 u,.int .i64 v,.bool h,.string i,.int .i64 x,.slice (some ⟨g,o,none⟩) (n+1) c] 134);simpa using this
 have c2:w3.cell? ⟨w.heap.size,2,none⟩=some (.func (.func f) #[] j):=by simp only[World.cell?,F];rfl
 have c5:w3.cell? ⟨w.heap.size+1,5,none⟩=some (.slice (some ⟨g,o,none⟩) (n+1) c):=by simp only[World.cell?,G];rfl
 have R:Hid (∃fc,w3.heap[w.heap.size+1+1]? =some (.cells fc 477 (0,0))/\fc.size=a*7):=by
  rcases d.2 with⟨S,_⟩|⟨Z,cap,B,T,_,U,_,_,V,_⟩
  ·cases S
  ·cases T;exact⟨B,U,V⟩
 have I:=hZ p;clear d b p F G;go_wp2_with (fail)
 have W:Hid (∀w',Lk w3 w'->Calls prog f (#[.slice (tlD g o c 1) n (c-1),y,.slice (some ⟨w.heap.size+1+1,0,none⟩) a a]++j) w' λe w2=>∃r,e=.returned (.bool r)/\∀w3,Lk w2 w3->Q (.returned (.tuple #[.slice (some ⟨w.heap.size+1+1,0,none⟩) a a,.bool r])) w3):=λw' J=>by
  obtain⟨fc,C,D⟩:=R.out;exact P.out w' _ fc (I.out.trans (qo6 J I.out.size)) (by omega) (by rw[J.heap];exact C) D
 rw[show Op.load 400 (Operand.tmp 14)=ldH 400 (Operand.tmp 14)from rfl,show Op.load 132 (Operand.tmp 16)=ldH 132 (Operand.tmp 16)from rfl];go_region_held2 (λ_=>True) (first|trivial)
  (first|(go_at_fn f;refine(W.out _ (by exact⟨rfl,rfl,rfl,rfl⟩)).mono ?_;rintro e w4 ⟨r,rfl,K⟩;have X:=hZ K;clear K))
 all_goals(go_wp2;exact X.out _ ⟨rfl,rfl,rfl,rfl⟩)
def qcd(es:List Dl):List Vu:=es.flatMap λe=>e.cells.toList
theorem qit(a b:List Dl):qcd (a++b)=qcd a++qcd b:=by simp[qcd]
theorem qlw:∀(es:List Dl) (i j:Nat) (x:Dl),es[i]? =some x->j<6->(qcd es)[i*6+j]? =x.cells[j]?
 | [],i,j,x,h,_=>by simp at h
 |e::r,0,j,x,h,hj=>by
  obtain rfl:e=x:=by simpa using h
  show(e.cells.toList++qcd r)[0*6+j]? =_;rw[eA (by simp;omega)];simp
 |e::r,i+1,j,x,h,hj=>by
  show(e.cells.toList++qcd r)[(i+1)*6+j]? =_;rw[eB (by simp;omega),<-qlw r i j x (by simpa using h) hj];congr 1;simp;omega
theorem DsRep.app{G:Gh}:∀{l k:List Dt} {es fs:List Dl},DsRep G l es->DsRep G k fs->DsRep G (l++k) (es++fs)
 |_,_,_,_,.nil,h=>h
 |_,_,_,_,.cons d r e es a b,h=>.cons d _ e _ a (DsRep.app b h)
structure Mde (H:Gh) (w:Wd) (lo:Nat) (mv:Vu) (ds:List Dt):Prop where
 own:∃es,w.ownsRow lo 134 6 mv ds.length (qcd es)/\DsRep H ds es
 loose:∀g,mv.ownBlock=some g->H.I g=none
 lo:lo<=w.heap.size
theorem Mde.nil(H:Gh)(w:Wd):Mde H w w.heap.size (.slice none 0 0) []:=⟨⟨[],⟨rfl,.inl ⟨rfl,rfl⟩⟩,.nil⟩,nofun,eR _⟩
theorem Mde.lt{mv:Vu}(h:Mde H w lo mv ds)(a:mv.ownBlock=some g):lo<=g/\g<w.heap.size:=by
 obtain⟨⟨es,b,_⟩,_,_⟩:=h;exact b.lt g a
theorem qb7{e s:Nat}{v:Vu}(h:w.ownsRow lo e s v n xs)(c:∀g,v.ownBlock=some g->w'.heap[g]? =w.heap[g]?):w'.ownsRow lo e s v n xs:=by
 refine⟨h.1,?_⟩;rcases h.2 with h|⟨g,cap,a,b,d,f,i⟩
 ·exact .inl h
 ·exact .inr ⟨g,cap,a,b,d,by rw[c g (by rw[b];rfl)];exact f,i⟩
theorem Mde.step{L:Nat->Prop}{mv:Vu}(h:Mde H w lo mv ds)(s:Sp L H w H' w')(c:∀g,mv.ownBlock=some g->¬L g):Mde H' w' lo mv ds:=by
 obtain⟨⟨es,b,d⟩,e,f⟩:=h;exact⟨⟨es,qb7 b λg a=>s.blk (b.lt g a).2 (c g a),d.mono s.ext.le⟩,λg a=>s.loose (b.lt g a).2 (e g a),eT f s.size⟩
def q66(fb N K:Nat)(mark:Int)(pm:Nat):Vu:=.agg #[.slice (some ⟨fb,0,none⟩) N K,.int .i64 mark,bp pm]
def FRow(H:Gh)(fc:Array Vu)(trs:List Tr):Prop:=∀(i:Nat) (t:Tr),trs[i]? =some t->∃c,TRp H t c/\∀j,j<7->fc[i*7+j]? =c[j]?
theorem FRow.mono(h:G.le H){trs:List Tr}(r:FRow G fc trs):FRow H fc trs:=λi t a=>by
 obtain⟨c,b,d⟩:=r i t a;exact⟨c,b.mono h,d⟩
structure Us (w0:Wd) (H:Gh) (w:Wd) (fb N:Nat) (trs:List Tr) (pm c:Nat) (mv:Vu):Prop where
 row:∃fc:Array Vu,w.heap[fb]? =some (.cells fc 477 (0,0))/\FRow H fc trs
 len:N=trs.length
 max:N<=1000000000000
 mt:Mt pm c 600 4 w
 pl:w0.heap.size<=pm/\H.I pm=none
 c:c<=600
 fp:fb≠pm
 mf:∀g,mv.ownBlock=some g->g≠fb/\g≠pm/\w0.heap.size<=g
theorem Us.lt{trs:List Tr}{c:Nat}{mv:Vu}(u:Us w0 H w fb N trs pm c mv):fb<w.heap.size/\pm<w.heap.size:=by
 obtain⟨fc,h,_⟩:=u.row;exact⟨(eE.1 h).1,by have:=u.mt;unfold Mt at this;exact(eE.1 this).1⟩
theorem Us.step{L:Nat->Prop}{trs:List Tr}{c:Nat}{mv mv':Vu}(u:Us w0 H w fb N trs pm c mv)(s:Sp L H w H' w')(a:¬L fb)(b:Mt pm c' 600 4 w')(d:c'<=600)(e:∀g,mv'.ownBlock=some g->g≠fb/\g≠pm/\w0.heap.size<=g):Us w0 H' w' fb N trs pm c' mv':=by
 obtain⟨fc,f,h⟩:=u.row;exact⟨⟨fc,by rw[s.blk u.lt.1 a];exact f,h.mono s.ext.le⟩,u.len,u.max,b,⟨u.pl.1,s.loose u.lt.2 u.pl.2⟩,d,u.fp,e⟩
def qux(G:Gh)(w0:Wd)(H:Gh)(w:Wd)(pm c lo:Nat)(mv:Vu)(ds:List Dt)(r:Option (List Dt))(e':En)(w':Wd):Prop:=
 (e'=.panicked (qan (qap 4))/\Below w0.heap.size w0 w'/\∀es,r=some es->600<c+qax es)\/
 (∃H' mv' es,r=some es/\c+qax es<=600/\e'=.returned mv'/\(∃a n cp,mv'=.slice a n cp)/\Wk G w0 H' w'/\Sp (λk=>k=pm\/mv.ownBlock=some k) H w H' w'/\Mt pm (c+qax es:Nat) 600 4 w'/\Mde H' w' lo mv' (ds++es)/\(∀g,mv'.ownBlock=some g->mv.ownBlock=some g\/w.heap.size<=g))
def Mks(G0:Gh)(ok:List Tr->Prop)(mk:Int->List Tr->Option (List Dt))(v:Vu):Prop:=∃f cp,v=.func (.func f) #[] cp/\Eg f/\
 ∀(G:Gh) (w0:Wd) (H:Gh) (w:Wd) (mark:Int) (trs:List Tr) (fb N K pm c lo:Nat) (mv:Vu) (ds:List Dt),G0.le G->Wk G w0 H w->Us w0 H w fb N trs pm c mv->Mde H w lo mv ds->ds.length<=c->ok trs->
  Calls prog f (#[mv,q66 fb N K mark pm]++cp) w (qux G w0 H w pm c lo mv ds (mk mark trs))
theorem Mks.mono{a b:Gh}{ok:List Tr->Prop}{d:Int->List Tr->Option (List Dt)}{v:Vu}(h:a.le b):Mks a ok d v->Mks b ok d v
 |⟨f,cp,h1,h2,h3⟩=>⟨f,cp,h1,h2,λG w0 H w mark trs fb N K pm c lo mv ds e=>h3 G w0 H w mark trs fb N K pm c lo mv ds (h.trans e)⟩
theorem qsh:∀d:Dt,1<=qbu d
 | .list l=>by simp[qbu]
 | .num _=>by simp[qbu]
 | .bool _=>by simp[qbu]
 | .str _=>by simp[qbu]
 | .sym _ _=>by simp[qbu]
theorem qd7:∀l:List Dt,l.length<=qax l
 | []=>by simp
 |d::r=>by have:=qsh d;have:=qd7 r;simp[qax];omega
theorem qb1(a b:List Dt):qax (a++b)=qax a+qax b:=by
 induction a with
 |nil=>simp[qax]
 |cons d r c=>simp[qax,c];omega
def Psh(H:Gh)(w:Wd)(pm c' lo:Nat)(mv:Vu)(n:Nat)(xs news:List Vu)(e:En)(w':Wd):Prop:=
 ∃g cap,e=.returned (.slice (some ⟨g,0,none⟩) (n+1) cap)/\w'.ownsRow lo 134 6 (.slice (some ⟨g,0,none⟩) (n+1) cap) (n+1) (xs++news)/\Sp (λk=>k=pm\/mv.ownBlock=some k) H w H w'/\Mt pm (c':Nat) 600 4 w'/\(mv.ownBlock=some g\/w.heap.size<=g)
theorem Mt.alloc{t c a:Int}(h:Mt b t c a w)(o:Obj):Mt b t c a (w.alloc o):=h.keep (eH _ _ _ (by unfold Mt at h;exact(eE.1 h).1))
theorem qo5(h:w.heap[b]? =some (.cells e.cells t (0,0))):w.cell? ⟨b,0,none⟩=some (.int .i64 e.k)/\w.cell? ⟨b,1,none⟩=some (.int .i64 e.n)/\w.cell? ⟨b,2,none⟩=some (.bool e.tr)/\w.cell? ⟨b,3,none⟩=some (.string e.tx)/\w.cell? ⟨b,4,none⟩=some (.int .i64 e.m)/\w.cell? ⟨b,5,none⟩=some (.slice e.a e.len e.cap):=by
 refine⟨?_,?_,?_,?_,?_,?_⟩ <;> (simp only[World.cell?,h];rfl)
theorem qzr{v:Vu}(h:w.ownsRow lo 134 6 v n xs):∃a cap,v=.slice a n cap:=by
 rcases h.2 with⟨b,c⟩|⟨g,cap,d,b,_⟩
 ·subst c;exact⟨_,_,b⟩
 ·exact⟨_,_,b⟩
theorem Psh.of{V:Wd}{pm c c' lo n g cap:Nat}{mv:Vu}{news:List Vu}(k:Mt pm c 600 4 w)(hne:∀g,mv.ownBlock=some g->g≠pm)(_:∀g,mv.ownBlock=some g->g<w.heap.size)(f:Below w.heap.size w W)(i:Lk (W.setCell ⟨pm,0,none⟩ (.int .i64 (c':Nat))) V)(d:Below V.heap.size V V2)
  (o:w3.ownsRow lo 134 6 (.slice (some ⟨g,0,none⟩) (n+1) cap) (n+1) (xs++news))(l:V2.grownBy w3 mv.ownBlock)(p:mv.ownBlock=some g\/g=V2.heap.size):Psh H w pm c' lo mv n xs news (.returned (.slice (some ⟨g,0,none⟩) (n+1) cap)) w3:=by
 have j:Mt pm c 600 4 W:=k.keep (f.block _ k.lt);have q:=f.size;have r:V.heap.size=W.heap.size:=by rw[i.heap,qag]
 have s:=d.size;refine⟨g,cap,rfl,o,?_,?_,?_⟩
 ·refine(((Sp.below f).trans (Sp.set (a:=⟨pm,0,none⟩) (.inl rfl))).trans (Sp.lk i)).trans ((Sp.below d).trans (Sp.grown l λb t=>.inr t))
 ·have m:Mt pm c' 600 4 V:=(j.set (c':Nat)).keep (by rw[i.heap]);refine m.keep ?_;have u:=m.lt;rw[l.block _ (by omega) (λe=>hne _ e.symm rfl),d.block _ u]
 ·rcases p with h|h
  ·exact .inl h
  ·exact .inr (by omega)
theorem q1c(H:Gh)(fb N K pm b lo n c t:Nat)(mark:Int)(mv:Vu)(xs:List Vu)(m o:Int)(f:Bool)(h:BA)(p:Int)(q:OA)(r s:Nat)(w:Wd)
  (F:Mt pm c 600 4 w)(hc:c+1<=600)(G:w.heap[b]? =some (.cells (Dl.cells ⟨m,o,f,h,p,q,r,s⟩) t (0,0)))(I:b≠pm)(d:w.ownsRow lo 134 6 mv n xs)(U:lo<=w.heap.size)(v:∀g,mv.ownBlock=some g->g≠pm)(hn:n<=1000000):
  Calls prog 394 #[mv,.agg #[.slice (some ⟨fb,0,none⟩) N K,.int .i64 mark,.pointer (some ⟨pm,0,none⟩)],bp b] w (Psh H w pm (c+1) lo mv n xs (Dl.cells ⟨m,o,f,h,p,q,r,s⟩).toList):=by
 obtain⟨W,X,y,z,A⟩:=info_parts info134;obtain⟨sa,sc,rfl⟩:=qzr d;have lb:=(eE.1 G).1;have Y:=hZ (λ(V V2 w3:Wd) (g cap:Nat) (D:Lk ((w.alloc (.cells #[.slice (some ⟨fb,0,none⟩) N K,.int .i64 mark,.pointer (some ⟨pm,0,none⟩)] 411)).setCell ⟨pm,0,none⟩ (.int .i64 ((c+1:Nat):Int))) V) (J:Below V.heap.size V V2)=>Psh.of (H:=H) (w:=w) (V:=V) (V2:=V2) (w3:=w3) (g:=g) (cap:=cap) (lo:=lo) (n:=n) (xs:=xs) (news:=(Dl.cells ⟨m,o,f,h,p,q,r,s⟩).toList) F v (λg E=>(d.lt g E).2) (qaa _ _) D J);have M:=hZ (qcl pm c 600 4 1 (w.alloc (.cells #[.slice (some ⟨fb,0,none⟩) N K,.int .i64 mark,.pointer (some ⟨pm,0,none⟩)] 411)) (F.alloc _) (by omega) (by omega) (by omega) (by omega));have O:Hid (∀V:Wd,Lk ((w.alloc (.cells #[.slice (some ⟨fb,0,none⟩) N K,.int .i64 mark,.pointer (some ⟨pm,0,none⟩)] 411)).setCell ⟨pm,0,none⟩ (.int .i64 ((c:Int)+1))) V->(V.cell? ⟨b,0,none⟩=some (.int .i64 m)/\V.cell? ⟨b,1,none⟩=some (.int .i64 o)/\V.cell? ⟨b,2,none⟩=some (.bool f)/\V.cell? ⟨b,3,none⟩=some (.string h)/\V.cell? ⟨b,4,none⟩=some (.int .i64 p)/\V.cell? ⟨b,5,none⟩=some (.slice q r s))/\V.ownsRow lo 134 6 (.slice sa n sc) n xs/\lo<=V.heap.size):=λV D=>by
  have P:∀k,k≠pm->k<w.heap.size->V.heap[k]? =w.heap[k]?:=λk Z h2=>by
   rw[D.heap,qab (a:=⟨pm,0,none⟩) _ Z,eH _ _ _ h2]
  refine⟨qo5 (e:=⟨m,o,f,h,p,q,r,s⟩) (t:=t) (by rw[P b I lb];exact G),qb7 d λg E=>P g (v g E) (d.lt g E).2,?_⟩;rw[D.heap];simp;omega
 clear d F G v;go_enter func394,ntmps394
 go_wp2_with (go_at_call 200;refine M.out.mono ?_;rintro e w2 ⟨rfl,k,rfl⟩;obtain⟨V,x⟩:∃V,V=(World.setCell (w.alloc (.cells #[.slice (some ⟨fb,0,none⟩) N K,.int .i64 mark,.pointer (some ⟨pm,0,none⟩)] 411)) ⟨pm,0,none⟩ (.int .i64 ((c:Int)+1))).drewN k:=⟨_,rfl⟩;rw[<-x];have Q:Hid (Lk ((w.alloc (.cells #[.slice (some ⟨fb,0,none⟩) N K,.int .i64 mark,.pointer (some ⟨pm,0,none⟩)] 411)).setCell ⟨pm,0,none⟩ (.int .i64 ((c:Int)+1))) V):=x▸⟨rfl,rfl,rfl,rfl⟩;obtain⟨⟨x0,x1,x2,x3,x4,x5⟩,R,S⟩:=O.out V Q.out;have B:=hZ R;have L:=hZ S;clear R S x O M;refine Hid.out ?_)
 refine hZ ?_;go_wp2_with (at_builtin;refine wpList_append_lies _ rfl _ _ 132 rfl lo 134 W (.agg #[.int .i64 0,.int .i64 0,.bool false,.string ⟨#[]⟩,.int .i64 0,.slice none 0 0]) 6 72 underlying132 X y z A rfl (by decide) _ _ _ rfl (B.out.alloc _) ⟨V.heap.size,0,none⟩ 1 1 [.int .i64 m,.int .i64 o,.bool f,.string h,.int .i64 p,.slice q r s] rfl rfl ?c1 ?c2 (by decide) ?c3 ?c4 ?c5 (V.heap.size+1) ?c6 ?_)
 case c1=>exact World.news_of_block (cs:=#[.int .i64 m,.int .i64 o,.bool f,.string h,.int .i64 p,.slice q r s]) (eN V _)
 case c2=>intro u T;simp at T;rcases T with rfl|rfl|rfl|rfl|rfl|rfl <;> rfl
 case c3=>unfold maxLen;omega
 case c4=>omega
 case c5=>have:=L.out;simp;omega
 case c6=>simp
 intro g cap w3 j i l C;have HF:=hZ (Y.out V _ w3 g cap (by simpa using Q.out) (qaa _ _) j i (by simpa using l));clear j i l C;go_wp2;go_ret;exact HF.out
theorem qz4(H:Gh)(fb N K pm b lo n c t:Nat)(mark:Int)(mv:Vu)(xs:List Vu)(l m:Int)(d:Bool)(f:BA)(F:Int)(o:OA)(p q:Nat)(w:Wd)
  (D:Mt pm c 600 4 w)(hc:c+1<=600)(G:w.heap[b]? =some (.cells (Dl.cells ⟨l,m,d,f,F,o,p,q⟩) t (0,0)))(I:b≠pm)(h:w.ownsRow lo 134 6 mv n xs)(W:lo<=w.heap.size)(s:∀g,mv.ownBlock=some g->g≠pm)(hn:n<=1000000):
  Calls prog 408 #[mv,.agg #[.slice (some ⟨fb,0,none⟩) N K,.int .i64 mark,.pointer (some ⟨pm,0,none⟩)],bp b] w (Psh H w pm (c+1) lo mv n xs (Dl.cells ⟨l,m,d,f,mark,o,p,q⟩).toList):=by
 obtain⟨X,Y,x,y,z⟩:=info_parts info134;obtain⟨sa,sc,rfl⟩:=qzr h;have lb:=(eE.1 G).1;have Z:=hZ (λ(V V2 w3:Wd) (g cap:Nat) (A:Lk ((w.alloc (.cells #[.slice (some ⟨fb,0,none⟩) N K,.int .i64 mark,.pointer (some ⟨pm,0,none⟩)] 411)).setCell ⟨pm,0,none⟩ (.int .i64 ((c+1:Nat):Int))) V) (J:Below V.heap.size V V2)=>Psh.of (H:=H) (w:=w) (V:=V) (V2:=V2) (w3:=w3) (g:=g) (cap:=cap) (lo:=lo) (n:=n) (xs:=xs) (news:=(Dl.cells ⟨l,m,d,f,mark,o,p,q⟩).toList) D s (λg E=>(h.lt g E).2) (qaa _ _) A J);have O:=hZ (qcl pm c 600 4 1 (w.alloc (.cells #[.slice (some ⟨fb,0,none⟩) N K,.int .i64 mark,.pointer (some ⟨pm,0,none⟩)] 411)) (D.alloc _) (by omega) (by omega) (by omega) (by omega));have P:Hid (∀V:Wd,Lk ((w.alloc (.cells #[.slice (some ⟨fb,0,none⟩) N K,.int .i64 mark,.pointer (some ⟨pm,0,none⟩)] 411)).setCell ⟨pm,0,none⟩ (.int .i64 ((c:Int)+1))) V->(V.cell? ⟨b,0,none⟩=some (.int .i64 l)/\V.cell? ⟨b,1,none⟩=some (.int .i64 m)/\V.cell? ⟨b,2,none⟩=some (.bool d)/\V.cell? ⟨b,3,none⟩=some (.string f)/\V.cell? ⟨b,4,none⟩=some (.int .i64 F)/\V.cell? ⟨b,5,none⟩=some (.slice o p q))/\V.ownsRow lo 134 6 (.slice sa n sc) n xs/\lo<=V.heap.size/\V.cell? ⟨w.heap.size,1,none⟩=some (.int .i64 mark)):=λV A=>by
  have Q:∀k,k≠pm->k<w.heap.size->V.heap[k]? =w.heap[k]?:=λk h1 h2=>by
   rw[A.heap,qab (a:=⟨pm,0,none⟩) _ h1,eH _ _ _ h2]
  refine⟨qo5 (e:=⟨l,m,d,f,F,o,p,q⟩) (t:=t) (by rw[Q b I lb];exact G),qb7 h λg E=>Q g (s g E) (h.lt g E).2,?_,?_⟩
  ·rw[A.heap];simp;omega
  ·have hp:=D.lt;have:V.heap[w.heap.size]? =some (.cells #[.slice (some ⟨fb,0,none⟩) N K,.int .i64 mark,.pointer (some ⟨pm,0,none⟩)] 411 (0,0)):=by
    rw[A.heap,qab (a:=⟨pm,0,none⟩) _ (by show w.heap.size≠pm;omega)];exact eN _ _
   simp only[World.cell?,this];rfl
 clear h D G s;go_enter func408,ntmps408
 go_wp2_with (go_at_call 200;refine O.out.mono ?_;rintro e w2 ⟨rfl,k,rfl⟩;obtain⟨V,v⟩:∃V,V=(World.setCell (w.alloc (.cells #[.slice (some ⟨fb,0,none⟩) N K,.int .i64 mark,.pointer (some ⟨pm,0,none⟩)] 411)) ⟨pm,0,none⟩ (.int .i64 ((c:Int)+1))).drewN k:=⟨_,rfl⟩;rw[<-v];have R:Hid (Lk ((w.alloc (.cells #[.slice (some ⟨fb,0,none⟩) N K,.int .i64 mark,.pointer (some ⟨pm,0,none⟩)] 411)).setCell ⟨pm,0,none⟩ (.int .i64 ((c:Int)+1))) V):=v▸⟨rfl,rfl,rfl,rfl⟩;obtain⟨⟨x0,x1,x2,x3,x4,x5⟩,S,T,L⟩:=P.out V R.out;have lw:=qae L;have B:=hZ S;have M:=hZ T;clear S T v P O;refine Hid.out ?_)
 refine hZ ?_;go_wp2_with (at_builtin;refine wpList_append_lies _ rfl _ _ 132 rfl lo 134 X (.agg #[.int .i64 0,.int .i64 0,.bool false,.string ⟨#[]⟩,.int .i64 0,.slice none 0 0]) 6 72 underlying132 Y x y z rfl (by decide) _ _ _ rfl ((B.out.alloc _).alloc _) ⟨V.heap.size+1,0,none⟩ 1 1 [.int .i64 l,.int .i64 m,.bool d,.string f,.int .i64 mark,.slice o p q] rfl rfl ?c1 ?c2 (by decide) ?c3 ?c4 ?c5 (V.heap.size+1+1) ?c6 ?_)
 case c1=>
  refine World.news_of_block (cs:=#[.int .i64 l,.int .i64 m,.bool d,.string f,.int .i64 mark,.slice o p q]) (t:=134) (fr:=(0,0)) ?_;have:=eN (V.alloc (.cells #[.int .i64 l,.int .i64 m,.bool d,.string f,.int .i64 mark,.slice o p q] 134)) (.cells #[.int .i64 l,.int .i64 m,.bool d,.string f,.int .i64 mark,.slice o p q] 134);simpa using this
 case c2=>intro u U;simp at U;rcases U with rfl|rfl|rfl|rfl|rfl|rfl <;> rfl
 case c3=>unfold maxLen;omega
 case c4=>omega
 case c5=>have:=M.out;simp;omega
 case c6=>simp
 intro g cap w3 j i r C;have HF:=hZ (Z.out V _ w3 g cap (by simpa using R.out) ((qaa _ _).alloc (by simp) _) j i (by simpa using r));clear j i r C;go_wp2;go_ret;exact HF.out
theorem qwt(H:Gh)(fb N K pm b lo n c A d:Nat)(mark:Int)(mv:Vu)(xs:List Vu)(q r:Int)(f:Bool)(h:BA)(s:Int)(t:OA)(v x:Nat)(w:Wd)
  (O:Mt pm c 600 4 w)(D:c+A<=600)(P:w.cell? ⟨b,0,none⟩=some (.int .i64 (d:Int)))(b4:d<N)(_:N<=1000000000000)(a6:b≠pm)(o:fb≠pm)
  (G:w.cell? ⟨fb,d*7,none⟩=some (.int .i64 q))(Q:w.cell? ⟨fb,d*7+1,none⟩=some (.int .i64 r))(R:w.cell? ⟨fb,d*7+2,none⟩=some (.bool f))(S:w.cell? ⟨fb,d*7+3,none⟩=some (.string h))(T:w.cell? ⟨fb,d*7+4,none⟩=some (.int .i64 s))(U:w.cell? ⟨fb,d*7+5,none⟩=some (.slice t v x))
  (i:w.ownsRow lo 134 6 mv n xs)(b5:lo<=w.heap.size)(I:∀g,mv.ownBlock=some g->g≠pm)(hn:n<=1000000)
  (E:∀w',Below w.heap.size w w'->Calls prog 410 #[.agg #[.int .i64 q,.int .i64 r,.bool f,.string h,.int .i64 s,.slice t v x]] w' λe w2=>e=.returned (.int .i64 (A:Int))/\Below w'.heap.size w' w2):
  Calls prog 409 #[mv,.agg #[.slice (some ⟨fb,0,none⟩) N K,.int .i64 mark,.pointer (some ⟨pm,0,none⟩)],bp b] w (Psh H w pm (c+A) lo mv n xs (Dl.cells ⟨q,r,f,h,s,t,v,x⟩).toList):=by
 obtain⟨i0,hi,Y,Z,a0⟩:=info_parts info134;obtain⟨sa,sc,rfl⟩:=qzr i;have lb:=qae P;have y:=qae G;have b2:(d:Int)<(N:Int):=by omega
 have b3:(0:Int)<=(d:Int):=by omega
 have HP:=hZ (λ(W V V2 w3:Wd) (g cap:Nat) (l:Below w.heap.size w W) (hV:Lk (W.setCell ⟨pm,0,none⟩ (.int .i64 ((c+A:Nat):Int))) V) (a7:Below V.heap.size V V2)=>Psh.of (H:=H) (w:=w) (V:=V) (V2:=V2) (w3:=w3) (g:=g) (cap:=cap) (lo:=lo) (n:=n) (xs:=xs) (news:=(Dl.cells ⟨q,r,f,h,s,t,v,x⟩).toList) O I (λg hg=>(i.lt g hg).2) l hV a7);have HT:Hid (∀W,Below w.heap.size w W->W.heap[w.heap.size]? =some (.cells #[.slice (some ⟨fb,0,none⟩) N K,.int .i64 mark,.pointer (some ⟨pm,0,none⟩)] 411 (0,0))->Calls prog 200 #[.pointer (some ⟨pm,0,none⟩),.int .i64 (A:Int)] W λe V=>e=.returned (.tuple #[])/\V.cell? ⟨w.heap.size,2,none⟩=some (.pointer (some ⟨pm,0,none⟩))/\Lk (W.setCell ⟨pm,0,none⟩ (.int .i64 ((c:Int)+(A:Int)))) V):=λW l X=>by
  have hp:=O.lt;refine Calls.mono (qcl pm c 600 4 A W (O.keep (l.block _ O.lt)) (by omega) (by omega) (by omega) (by omega)) ?_;rintro e V ⟨rfl,k,rfl⟩;refine⟨rfl,?_,rfl,rfl,rfl,rfl⟩;rw[qiu,qbk (by show w.heap.size≠pm;omega)];simp only[World.cell?,X];rfl
 have HC:=hZ E;have HW:Hid (∀W V:Wd,Below w.heap.size w W->W.heap[w.heap.size]? =some (.cells #[.slice (some ⟨fb,0,none⟩) N K,.int .i64 mark,.pointer (some ⟨pm,0,none⟩)] 411 (0,0))->Lk (W.setCell ⟨pm,0,none⟩ (.int .i64 ((c:Int)+(A:Int)))) V->(V.cell? ⟨b,0,none⟩=some (.int .i64 (d:Int))/\V.cell? ⟨fb,d*7,none⟩=some (.int .i64 q)/\V.cell? ⟨fb,d*7+1,none⟩=some (.int .i64 r)/\V.cell? ⟨fb,d*7+2,none⟩=some (.bool f)/\V.cell? ⟨fb,d*7+3,none⟩=some (.string h)/\V.cell? ⟨fb,d*7+4,none⟩=some (.int .i64 s)/\V.cell? ⟨fb,d*7+5,none⟩=some (.slice t v x))/\V.cell? ⟨w.heap.size,0,none⟩=some (.slice (some ⟨fb,0,none⟩) N K)/\V.ownsRow lo 134 6 (.slice sa n sc) n xs/\lo<=V.heap.size):=λW V l X hV=>by
  have hp:=O.lt;have hk:∀k,k≠pm->k<w.heap.size->V.heap[k]? =w.heap[k]?:=λk B h2=>by
   rw[hV.heap,qab (a:=⟨pm,0,none⟩) _ B,l.block _ h2]
  have D:∀k j,k≠pm->k<w.heap.size->V.cell? ⟨k,j,none⟩=w.cell? ⟨k,j,none⟩:=λk j B h2=>World.cell?_of_block (hk k B h2)
  refine⟨⟨(D b _ a6 lb).trans P,(D fb _ o y).trans G,(D fb _ o y).trans Q,(D fb _ o y).trans R,(D fb _ o y).trans S,(D fb _ o y).trans T,(D fb _ o y).trans U⟩,?_,qb7 i λg hg=>hk g (I g hg) (i.lt g hg).2,?_⟩
  ·have:V.heap[w.heap.size]? =some (.cells #[.slice (some ⟨fb,0,none⟩) N K,.int .i64 mark,.pointer (some ⟨pm,0,none⟩)] 411 (0,0)):=by
    rw[hV.heap,qab (a:=⟨pm,0,none⟩) _ (by show w.heap.size≠pm;omega)];exact X
   simp only[World.cell?,this];rfl
  ·rw[hV.heap];have:=l.size;simp;omega
 have cb:=(qac lb (.cells #[.slice (some ⟨fb,0,none⟩) N K,.int .i64 mark,.pointer (some ⟨pm,0,none⟩)] 411)).trans P;have z0:=(qac y (.cells #[.slice (some ⟨fb,0,none⟩) N K,.int .i64 mark,.pointer (some ⟨pm,0,none⟩)] 411)).trans G;have z1:=(qac y (.cells #[.slice (some ⟨fb,0,none⟩) N K,.int .i64 mark,.pointer (some ⟨pm,0,none⟩)] 411)).trans Q;have z2:=(qac y (.cells #[.slice (some ⟨fb,0,none⟩) N K,.int .i64 mark,.pointer (some ⟨pm,0,none⟩)] 411)).trans R;have z3:=(qac y (.cells #[.slice (some ⟨fb,0,none⟩) N K,.int .i64 mark,.pointer (some ⟨pm,0,none⟩)] 411)).trans S;have z4:=(qac y (.cells #[.slice (some ⟨fb,0,none⟩) N K,.int .i64 mark,.pointer (some ⟨pm,0,none⟩)] 411)).trans T;have z5:=(qac y (.cells #[.slice (some ⟨fb,0,none⟩) N K,.int .i64 mark,.pointer (some ⟨pm,0,none⟩)] 411)).trans U;clear i O P I E G Q R S T U;go_enter func409,ntmps409
 go_wp2_with (fail)
 have HU:Hid (∀W:Wd,Below (w.heap.size+1) (w.alloc (.cells #[.slice (some ⟨fb,0,none⟩) N K,.int .i64 mark,.pointer (some ⟨pm,0,none⟩)] 411)) W->Below w.heap.size w W/\W.heap[w.heap.size]? =some (.cells #[.slice (some ⟨fb,0,none⟩) N K,.int .i64 mark,.pointer (some ⟨pm,0,none⟩)] 411 (0,0))/\W.cell? ⟨w.heap.size,2,none⟩=some (.pointer (some ⟨pm,0,none⟩))/\W.cell? ⟨w.heap.size,0,none⟩=some (.slice (some ⟨fb,0,none⟩) N K)/\W.cell? ⟨b,0,none⟩=some (.int .i64 (d:Int))/\W.cell? ⟨fb,d*7,none⟩=some (.int .i64 q)/\W.cell? ⟨fb,d*7+1,none⟩=some (.int .i64 r)/\W.cell? ⟨fb,d*7+2,none⟩=some (.bool f)/\W.cell? ⟨fb,d*7+3,none⟩=some (.string h)/\W.cell? ⟨fb,d*7+4,none⟩=some (.int .i64 s)/\W.cell? ⟨fb,d*7+5,none⟩=some (.slice t v x)):=λW l=>by
  have B:W.heap[w.heap.size]? =some (.cells #[.slice (some ⟨fb,0,none⟩) N K,.int .i64 mark,.pointer (some ⟨pm,0,none⟩)] 411 (0,0)):=(l.block _ (by omega)).trans (eN _ _);exact⟨(qaa _ _).trans (l.mono (by omega)),B,by simp only[World.cell?,B];rfl,by simp only[World.cell?,B];rfl,(l.cell (p:=⟨b,0,none⟩) (by show b<_;omega)).trans cb,(l.cell (p:=⟨fb,_,none⟩) (by show fb<_;omega)).trans z0,(l.cell (p:=⟨fb,_,none⟩) (by show fb<_;omega)).trans z1,(l.cell (p:=⟨fb,_,none⟩) (by show fb<_;omega)).trans z2,(l.cell (p:=⟨fb,_,none⟩) (by show fb<_;omega)).trans z3,(l.cell (p:=⟨fb,_,none⟩) (by show fb<_;omega)).trans z4,(l.cell (p:=⟨fb,_,none⟩) (by show fb<_;omega)).trans z5⟩
 have u0:(w.alloc (.cells #[.slice (some ⟨fb,0,none⟩) N K,.int .i64 mark,.pointer (some ⟨pm,0,none⟩)] 411)).cell? ⟨w.heap.size,0,none⟩=some (.slice (some ⟨fb,0,none⟩) N K):=by simp only[World.cell?,eN];rfl
 have u2:(w.alloc (.cells #[.slice (some ⟨fb,0,none⟩) N K,.int .i64 mark,.pointer (some ⟨pm,0,none⟩)] 411)).cell? ⟨w.heap.size,2,none⟩=some (.pointer (some ⟨pm,0,none⟩)):=by simp only[World.cell?,eN];rfl
 have J:Hid (∀w',Lk (w.alloc (.cells #[.slice (some ⟨fb,0,none⟩) N K,.int .i64 mark,.pointer (some ⟨pm,0,none⟩)] 411)) w'->Calls prog 410 #[.agg #[.int .i64 q,.int .i64 r,.bool f,.string h,.int .i64 s,.slice t v x]] w' λe W=>e=.returned (.int .i64 (A:Int))/\Below w.heap.size w W/\W.heap[w.heap.size]? =some (.cells #[.slice (some ⟨fb,0,none⟩) N K,.int .i64 mark,.pointer (some ⟨pm,0,none⟩)] 411 (0,0))/\W.cell? ⟨w.heap.size,2,none⟩=some (.pointer (some ⟨pm,0,none⟩))/\W.cell? ⟨w.heap.size,0,none⟩=some (.slice (some ⟨fb,0,none⟩) N K)/\W.cell? ⟨b,0,none⟩=some (.int .i64 (d:Int))/\W.cell? ⟨fb,d*7,none⟩=some (.int .i64 q)/\W.cell? ⟨fb,d*7+1,none⟩=some (.int .i64 r)/\W.cell? ⟨fb,d*7+2,none⟩=some (.bool f)/\W.cell? ⟨fb,d*7+3,none⟩=some (.string h)/\W.cell? ⟨fb,d*7+4,none⟩=some (.int .i64 s)/\W.cell? ⟨fb,d*7+5,none⟩=some (.slice t v x)):=λw' hw=>by
  have hs:w'.heap.size=w.heap.size+1:=by rw[hw.heap];simp
  refine Calls.mono (HC.out w' (bl1 hw)) ?_;rintro e W ⟨rfl,P⟩;refine⟨rfl,HU.out W ?_⟩;have h0:=bl0 hw;rw[show(w.alloc (.cells #[.slice (some ⟨fb,0,none⟩) N K,.int .i64 mark,.pointer (some ⟨pm,0,none⟩)] 411)).heap.size=w.heap.size+1 by simp]at h0;exact h0.trans (P.mono (by omega))
 generalize a8:w.alloc (.cells #[.slice (some ⟨fb,0,none⟩) N K,.int .i64 mark,.pointer (some ⟨pm,0,none⟩)] 411)=WA at cb z0 z1 z2 z3 z4 z5 u0 u2 J HU|-;clear a8 HC;have a9:Hid (∀W V:Wd,Below w.heap.size w W->W.heap[w.heap.size]? =some (.cells #[.slice (some ⟨fb,0,none⟩) N K,.int .i64 mark,.pointer (some ⟨pm,0,none⟩)] 411 (0,0))->Lk (W.setCell ⟨pm,0,none⟩ (.int .i64 ((c:Int)+(A:Int)))) V->V.cell? ⟨w.heap.size,2,none⟩=some (.pointer (some ⟨pm,0,none⟩))->V.cell? ⟨w.heap.size,2,none⟩=some (.pointer (some ⟨pm,0,none⟩))/\V.cell? ⟨w.heap.size,0,none⟩=some (.slice (some ⟨fb,0,none⟩) N K)/\V.cell? ⟨b,0,none⟩=some (.int .i64 (d:Int))/\V.cell? ⟨fb,d*7,none⟩=some (.int .i64 q)/\V.cell? ⟨fb,d*7+1,none⟩=some (.int .i64 r)/\V.cell? ⟨fb,d*7+2,none⟩=some (.bool f)/\V.cell? ⟨fb,d*7+3,none⟩=some (.string h)/\V.cell? ⟨fb,d*7+4,none⟩=some (.int .i64 s)/\V.cell? ⟨fb,d*7+5,none⟩=some (.slice t v x)):=λW V B h2 h3 h4=>by
  obtain⟨⟨x0,G,Q,R,S,T,U⟩,v0,-,-⟩:=HW.out W V B h2 h3;exact⟨h4,v0,x0,G,Q,R,S,T,U⟩
 go_region_held2 (λw'=>w'.cell? ⟨w.heap.size,2,none⟩=some (.pointer (some ⟨pm,0,none⟩))/\w'.cell? ⟨w.heap.size,0,none⟩=some (.slice (some ⟨fb,0,none⟩) N K)/\w'.cell? ⟨b,0,none⟩=some (.int .i64 (d:Int))/\w'.cell? ⟨fb,d*7,none⟩=some (.int .i64 q)/\w'.cell? ⟨fb,d*7+1,none⟩=some (.int .i64 r)/\w'.cell? ⟨fb,d*7+2,none⟩=some (.bool f)/\w'.cell? ⟨fb,d*7+3,none⟩=some (.string h)/\w'.cell? ⟨fb,d*7+4,none⟩=some (.int .i64 s)/\w'.cell? ⟨fb,d*7+5,none⟩=some (.slice t v x)) (first|(exact b0.out)|(exact HS.out)|(exact⟨u2,u0,cb,z0,z1,z2,z3,z4,z5⟩)|go_keep)
  (first|(go_at_call 410;refine(J.out _ (by exact⟨rfl,rfl,rfl,rfl⟩)).mono ?_;rintro e W ⟨rfl,a1,a2,hs⟩;have C:=hZ a1;have L:=hZ a2;have HS:=hZ hs;clear a1 a2 hs)|(go_at_call 200;refine(HT.out _ (by exact C.out) (by exact L.out)).mono ?_;rintro e V ⟨rfl,a3,M⟩;have b0:=hZ (a9.out _ _ C.out L.out M a3);have HL:=hZ M;clear a3 M))
 all_goals(
  obtain⟨⟨x0,G,Q,R,S,T,U⟩,v0,ho,hl⟩:=HW.out W V C.out L.out HL.out;have a4:=hZ ho;have b1:=hZ hl;clear ho hl HW HT J HU cb z0 z1 z2 z3 z4 z5 u0 u2;go_wp2_with (at_builtin;refine wpList_append_lies _ rfl _ _ 132 rfl lo 134 i0 (.agg #[.int .i64 0,.int .i64 0,.bool false,.string ⟨#[]⟩,.int .i64 0,.slice none 0 0]) 6 72 underlying132 hi Y Z a0 rfl (by decide) _ _ _ rfl (a4.out.alloc _) ⟨V.heap.size,0,none⟩ 1 1 [.int .i64 q,.int .i64 r,.bool f,.string h,.int .i64 s,.slice t v x] rfl rfl ?c1 ?c2 (by decide) ?c3 ?c4 ?c5 (V.heap.size+1) ?c6 ?_)
  case c1=>exact World.news_of_block (cs:=#[.int .i64 q,.int .i64 r,.bool f,.string h,.int .i64 s,.slice t v x]) (eN V _)
  case c2=>intro u X;simp at X;rcases X with rfl|rfl|rfl|rfl|rfl|rfl <;> rfl
  case c3=>unfold maxLen;omega
  case c4=>omega
  case c5=>have:=b1.out;simp;omega
  case c6=>simp
  intro g cap w3 z m F a5;have HF:=hZ (HP.out W V _ w3 g cap C.out (by simpa using HL.out) (qaa _ _) z m (by simpa using F));clear z m F a5;go_wp2;go_ret;exact HF.out)
def Pou(w:Wd)(pm:Nat)(e:En)(w':Wd):Prop:=e=.panicked (qan (qap 4))/\∃W,Below w.heap.size w W/\Below W.heap.size (W.setCell ⟨pm,0,none⟩ (.int .i64 600)) w'
theorem q2a(fb N K pm b c:Nat)(mark:Int)(mv:Vu)(w:Wd)(a:Mt pm c 600 4 w)(i:c=600):
  Calls prog 393 #[mv,.agg #[.slice (some ⟨fb,0,none⟩) N K,.int .i64 mark,.pointer (some ⟨pm,0,none⟩)],bp b] w (Pou w pm):=by
 have f:Hid (∀w',Lk (w.alloc (.cells #[.slice (some ⟨fb,0,none⟩) N K,.int .i64 mark,.pointer (some ⟨pm,0,none⟩)] 411)) w'->Calls prog 200 #[.pointer (some ⟨pm,0,none⟩),.int .i64 1] w' (Pou w pm)):=λw' d=>by
  refine Calls.mono (qb3 pm c 600 4 1 w' (a.keep (by rw[d.heap];exact eH _ _ _ a.lt)) (by omega) (by omega) (by omega) (by omega) (by omega)) ?_;rintro e w2 ⟨rfl,g⟩;exact⟨rfl,w',bl1 d,g⟩
 clear a;go_enter func393,ntmps393
 go_wp2_with (go_at_call 200;refine(f.out _ (by exact⟨rfl,rfl,rfl,rfl⟩)).mono ?_;rintro e w2 ⟨rfl,h⟩;(exact⟨rfl,rfl,h⟩))
theorem q19(fb N K pm b c:Nat)(mark:Int)(mv:Vu)(w:Wd)(a:Mt pm c 600 4 w)(i:c=600):
  Calls prog 394 #[mv,.agg #[.slice (some ⟨fb,0,none⟩) N K,.int .i64 mark,.pointer (some ⟨pm,0,none⟩)],bp b] w (Pou w pm):=by
 have f:Hid (∀w',Lk (w.alloc (.cells #[.slice (some ⟨fb,0,none⟩) N K,.int .i64 mark,.pointer (some ⟨pm,0,none⟩)] 411)) w'->Calls prog 200 #[.pointer (some ⟨pm,0,none⟩),.int .i64 1] w' (Pou w pm)):=λw' d=>by
  refine Calls.mono (qb3 pm c 600 4 1 w' (a.keep (by rw[d.heap];exact eH _ _ _ a.lt)) (by omega) (by omega) (by omega) (by omega) (by omega)) ?_;rintro e w2 ⟨rfl,g⟩;exact⟨rfl,w',bl1 d,g⟩
 clear a;go_enter func394,ntmps394
 go_wp2_with (go_at_call 200;refine(f.out _ (by exact⟨rfl,rfl,rfl,rfl⟩)).mono ?_;rintro e w2 ⟨rfl,h⟩;(exact⟨rfl,rfl,h⟩))
theorem q18(fb N K pm b c:Nat)(mark:Int)(mv:Vu)(w:Wd)(a:Mt pm c 600 4 w)(i:c=600):
  Calls prog 408 #[mv,.agg #[.slice (some ⟨fb,0,none⟩) N K,.int .i64 mark,.pointer (some ⟨pm,0,none⟩)],bp b] w (Pou w pm):=by
 have f:Hid (∀w',Lk (w.alloc (.cells #[.slice (some ⟨fb,0,none⟩) N K,.int .i64 mark,.pointer (some ⟨pm,0,none⟩)] 411)) w'->Calls prog 200 #[.pointer (some ⟨pm,0,none⟩),.int .i64 1] w' (Pou w pm)):=λw' d=>by
  refine Calls.mono (qb3 pm c 600 4 1 w' (a.keep (by rw[d.heap];exact eH _ _ _ a.lt)) (by omega) (by omega) (by omega) (by omega) (by omega)) ?_;rintro e w2 ⟨rfl,g⟩;exact⟨rfl,w',bl1 d,g⟩
 clear a;go_enter func408,ntmps408
 go_wp2_with (go_at_call 200;refine(f.out _ (by exact⟨rfl,rfl,rfl,rfl⟩)).mono ?_;rintro e w2 ⟨rfl,h⟩;(exact⟨rfl,rfl,h⟩))
theorem q17(fb N K pm b c r a:Nat)(mark:Int)(mv:Vu)(k l:Int)(d:Bool)(f:BA)(m:Int)(n:OA)(o q:Nat)(w:Wd)
  (A:Mt pm c 600 4 w)(hc:600<c+r)(a0:c<=600)(h:w.cell? ⟨b,0,none⟩=some (.int .i64 (a:Int)))(a1:a<N)(_:N<=1000000000000)
  (y:w.cell? ⟨fb,a*7,none⟩=some (.int .i64 k))(B:w.cell? ⟨fb,a*7+1,none⟩=some (.int .i64 l))(C:w.cell? ⟨fb,a*7+2,none⟩=some (.bool d))(D:w.cell? ⟨fb,a*7+3,none⟩=some (.string f))(E:w.cell? ⟨fb,a*7+4,none⟩=some (.int .i64 m))(F:w.cell? ⟨fb,a*7+5,none⟩=some (.slice n o q))
  (i:∀w',Below w.heap.size w w'->Calls prog 410 #[.agg #[.int .i64 k,.int .i64 l,.bool d,.string f,.int .i64 m,.slice n o q]] w' λe w2=>e=.returned (.int .i64 (r:Int))/\Below w'.heap.size w' w2):
  Calls prog 409 #[mv,.agg #[.slice (some ⟨fb,0,none⟩) N K,.int .i64 mark,.pointer (some ⟨pm,0,none⟩)],bp b] w (Pou w pm):=by
 have lb:=qae h;have g:=qae y;have M:(a:Int)<(N:Int):=by omega
 have O:(0:Int)<=(a:Int):=by omega
 have HT:Hid (∀W,Below w.heap.size w W->Calls prog 200 #[.pointer (some ⟨pm,0,none⟩),.int .i64 (r:Int)] W λe V=>Pou w pm e V\/(e=.returned (.tuple #[])/\(V.cell? ⟨w.heap.size,2,none⟩=some (.pointer (some ⟨pm,0,none⟩))/\V.cell? ⟨w.heap.size,0,none⟩=some (.slice (some ⟨fb,0,none⟩) N K)/\V.cell? ⟨b,0,none⟩=some (.int .i64 (a:Int))/\V.cell? ⟨fb,a*7,none⟩=some (.int .i64 k)/\V.cell? ⟨fb,a*7+1,none⟩=some (.int .i64 l)/\V.cell? ⟨fb,a*7+2,none⟩=some (.bool d)/\V.cell? ⟨fb,a*7+3,none⟩=some (.string f)/\V.cell? ⟨fb,a*7+4,none⟩=some (.int .i64 m)/\V.cell? ⟨fb,a*7+5,none⟩=some (.slice n o q))/\False)):=λW P=>by
  refine Calls.mono (qb3 pm c 600 4 r W (A.keep (P.block _ A.lt)) (by omega) (by omega) (by omega) (by omega) (by omega)) ?_;rintro e w2 ⟨rfl,h⟩;exact .inl ⟨rfl,W,P,h⟩
 have Q:=(qac lb (.cells #[.slice (some ⟨fb,0,none⟩) N K,.int .i64 mark,.pointer (some ⟨pm,0,none⟩)] 411)).trans h;have R:=(qac g (.cells #[.slice (some ⟨fb,0,none⟩) N K,.int .i64 mark,.pointer (some ⟨pm,0,none⟩)] 411)).trans y;have S:=(qac g (.cells #[.slice (some ⟨fb,0,none⟩) N K,.int .i64 mark,.pointer (some ⟨pm,0,none⟩)] 411)).trans B;have T:=(qac g (.cells #[.slice (some ⟨fb,0,none⟩) N K,.int .i64 mark,.pointer (some ⟨pm,0,none⟩)] 411)).trans C;have U:=(qac g (.cells #[.slice (some ⟨fb,0,none⟩) N K,.int .i64 mark,.pointer (some ⟨pm,0,none⟩)] 411)).trans D;have X:=(qac g (.cells #[.slice (some ⟨fb,0,none⟩) N K,.int .i64 mark,.pointer (some ⟨pm,0,none⟩)] 411)).trans E;have Y:=(qac g (.cells #[.slice (some ⟨fb,0,none⟩) N K,.int .i64 mark,.pointer (some ⟨pm,0,none⟩)] 411)).trans F;have Z:(w.alloc (.cells #[.slice (some ⟨fb,0,none⟩) N K,.int .i64 mark,.pointer (some ⟨pm,0,none⟩)] 411)).cell? ⟨w.heap.size,0,none⟩=some (.slice (some ⟨fb,0,none⟩) N K):=by simp only[World.cell?,eN];rfl
 have u2:(w.alloc (.cells #[.slice (some ⟨fb,0,none⟩) N K,.int .i64 mark,.pointer (some ⟨pm,0,none⟩)] 411)).cell? ⟨w.heap.size,2,none⟩=some (.pointer (some ⟨pm,0,none⟩)):=by simp only[World.cell?,eN];rfl
 have s:=h;have t:Hid (∀w',Lk (w.alloc (.cells #[.slice (some ⟨fb,0,none⟩) N K,.int .i64 mark,.pointer (some ⟨pm,0,none⟩)] 411)) w'->Calls prog 410 #[.agg #[.int .i64 k,.int .i64 l,.bool d,.string f,.int .i64 m,.slice n o q]] w' λe W=>e=.returned (.int .i64 (r:Int))/\Below w.heap.size w W/\W.cell? ⟨w.heap.size,2,none⟩=some (.pointer (some ⟨pm,0,none⟩))/\W.cell? ⟨w.heap.size,0,none⟩=some (.slice (some ⟨fb,0,none⟩) N K)/\W.cell? ⟨b,0,none⟩=some (.int .i64 (a:Int))/\W.cell? ⟨fb,a*7,none⟩=some (.int .i64 k)/\W.cell? ⟨fb,a*7+1,none⟩=some (.int .i64 l)/\W.cell? ⟨fb,a*7+2,none⟩=some (.bool d)/\W.cell? ⟨fb,a*7+3,none⟩=some (.string f)/\W.cell? ⟨fb,a*7+4,none⟩=some (.int .i64 m)/\W.cell? ⟨fb,a*7+5,none⟩=some (.slice n o q)):=λw' z=>by
  have G:w'.heap.size=w.heap.size+1:=by rw[z.heap];simp
  refine Calls.mono (i w' (bl1 z)) ?_;rintro e W ⟨rfl,h⟩;have h1:W.heap[w.heap.size]? =some (.cells #[.slice (some ⟨fb,0,none⟩) N K,.int .i64 mark,.pointer (some ⟨pm,0,none⟩)] 411 (0,0)):=by rw[h.block _ (by omega),z.heap];exact eN _ _
  have j:=(bl1 z).trans (h.mono (by omega));exact⟨rfl,j,by simp only[World.cell?,h1];rfl,by simp only[World.cell?,h1];rfl,(j.cell (p:=⟨b,0,none⟩) lb).trans s,(j.cell (p:=⟨fb,_,none⟩) g).trans y,(j.cell (p:=⟨fb,_,none⟩) g).trans B,(j.cell (p:=⟨fb,_,none⟩) g).trans C,(j.cell (p:=⟨fb,_,none⟩) g).trans D,(j.cell (p:=⟨fb,_,none⟩) g).trans E,(j.cell (p:=⟨fb,_,none⟩) g).trans F⟩
 clear A h s i y B C D E F;go_enter func409,ntmps409
 go_wp2_with (fail)
 generalize H:w.alloc (.cells #[.slice (some ⟨fb,0,none⟩) N K,.int .i64 mark,.pointer (some ⟨pm,0,none⟩)] 411)=WA at Q R S T U X Y Z u2 t|-;clear H;go_region_held2 (λw'=>w'.cell? ⟨w.heap.size,2,none⟩=some (.pointer (some ⟨pm,0,none⟩))/\w'.cell? ⟨w.heap.size,0,none⟩=some (.slice (some ⟨fb,0,none⟩) N K)/\w'.cell? ⟨b,0,none⟩=some (.int .i64 (a:Int))/\w'.cell? ⟨fb,a*7,none⟩=some (.int .i64 k)/\w'.cell? ⟨fb,a*7+1,none⟩=some (.int .i64 l)/\w'.cell? ⟨fb,a*7+2,none⟩=some (.bool d)/\w'.cell? ⟨fb,a*7+3,none⟩=some (.string f)/\w'.cell? ⟨fb,a*7+4,none⟩=some (.int .i64 m)/\w'.cell? ⟨fb,a*7+5,none⟩=some (.slice n o q)) (first|(exact I.out)|(exact HS.out)|(exact⟨u2,Z,Q,R,S,T,U,X,Y⟩)|go_keep)
  (first|(go_at_call 410;refine(t.out _ (by exact⟨rfl,rfl,rfl,rfl⟩)).mono ?_;rintro e W ⟨rfl,u,G⟩;have J:=hZ u;have HS:=hZ G;clear u G)|(go_at_call 200;refine(HT.out _ (by exact J.out)).mono ?_;rintro e V (⟨rfl,hq⟩|⟨rfl,v,x⟩);(exact⟨rfl,rfl,hq⟩);have I:=hZ v;have L:=hZ x;clear v x))
 all_goals exact L.out.elim
theorem qpw(d f:Int)(a:Bool)(b:BA)(g:Int)(i:OA)(j k c:Nat)(w:Wd)(t:c<=2000000000000)
  (h:∀w',Below w.heap.size w w'->Calls prog 229 #[.agg #[.int .i64 d,.int .i64 f,.bool a,.string b,.int .i64 g,.slice i j k]] w' λe w2=>e=.returned (.int .i64 (c:Int))/\Below w'.heap.size w' w2):
  Calls prog 410 #[.agg #[.int .i64 d,.int .i64 f,.bool a,.string b,.int .i64 g,.slice i j k]] w λe w'=>e=.returned (.int .i64 ((c+1:Nat):Int))/\Below w.heap.size w w':=by
 have n:Hid (∀w',Below w.heap.size w w'->Calls prog 229 #[.agg #[.int .i64 d,.int .i64 f,.bool a,.string b,.int .i64 g,.slice i j k]] w' λe w2=>e=.returned (.int .i64 (c:Int))/\Below w.heap.size w w2):=λw' l=>Calls.mono (h w' l) λe w2 ⟨o,p⟩=>⟨o,l.trans (p.mono l.size)⟩
 clear h;have q:(c:Int)<=2000000000000:=by omega
 have r:(0:Int)<=(c:Int):=by omega
 go_enter func410,ntmps410
 go_wp2_with (go_at_call 229;refine(n.out _ (by first|exact Below.refl _ _|exact qaa _ _)).mono ?_;rintro e w2 ⟨rfl,m⟩;have s:=hZ m;clear m)
 go_ret;refine⟨?_,s.out⟩;have e1:(1:Int)+(c:Int)=((c+1:Nat):Int):=by push_cast;omega
 first|(rw[<-e1];done)|(simp only[<-e1];done)|(rw[<-e1];congr 2)
theorem qvx{d:Dt}(k:Wk G w0 H w)(h:DRep H d e)(o:qaf d<=1000000000000):
  Calls prog 410 #[.agg e.cells] w λe' w'=>e'=.returned (.int .i64 (qbu d:Int))/\Below w.heap.size w w':=by
 obtain⟨c,f,a,b,g,j,l,n⟩:=e;obtain⟨S,m,i⟩:=k.known;rw[qb6];refine qpw c f a b g j l n (qaf d) w (by omega) λw' p=>?_
 have q:=qgp (SizeOf.sizeOf d+1) H S m w' d ⟨c,f,a,b,g,j,l,n⟩ (Nat.lt_succ_self _) (i.below p) h o;exact q
theorem qjo{c:Nat}{trs:List Tr}{mv:Vu}{d:Dt}(k:Wk G w0 H w)(u:Us w0 H w fb N trs pm c mv)(a:Mde H w lo mv ds)(f:DsRep H ds es)(m:DRep H d e)(n:c+qbu d<=600)
  (o:Psh H w pm (c+qbu d) lo mv ds.length (qcd es) e.cells.toList e' w'):qux G w0 H w pm c lo mv ds (some [d]) e' w':=by
 obtain⟨g,cap,rfl,p,i,q,j⟩:=o;have l:qax [d]=qbu d:=by simp[qax]
 refine .inr ⟨H,_,[d],rfl,by rw[l];exact n,rfl,⟨_,_,_,rfl⟩,k.go i ?_,i,by rw[l];exact q,⟨⟨es++[e],?_,f.app (.cons _ _ _ _ m .nil)⟩,?_,eT a.lo i.size⟩,?_⟩
 ·rintro b (rfl|hb)
  ·exact u.pl
  ·exact⟨(u.mf b hb).2.2,a.loose b hb⟩
 ·rw[qit];simpa[qcd]using p
 ·intro b hb;obtain rfl:g=b:=by simpa[Value.ownBlock]using hb
  rcases j with h|h
  ·exact a.loose _ h
  ·exact k.fresh h
 ·intro b hb;obtain rfl:g=b:=by simpa[Value.ownBlock]using hb
  exact j
theorem qgl{c:Nat}{trs:List Tr}{mv:Vu}{r:Option (List Dt)}(k:Wk G w0 H w)(u:Us w0 H w fb N trs pm c mv)(d:∀es,r=some es->600<c+qax es)(e:Pou w pm e' w'):qux G w0 H w pm c lo mv ds r e' w':=by
 obtain⟨rfl,W,a,f⟩:=e;have b:=k.bel.size;refine .inl ⟨rfl,(k.bel.trans (a.mono b)).trans ((Below.setCell (Below.refl _ _) (p:=⟨pm,0,none⟩) u.pl.1 _).trans (f.mono (eT b a.size))),d⟩
theorem q5l:Eg 393:=qa0 func393 (by kernel_rfl) (by kernel_rfl)
theorem q5k:Eg 394:=qa0 func394 (by kernel_rfl) (by kernel_rfl)
theorem q5a:Eg 408:=qa0 func408 (by kernel_rfl) (by kernel_rfl)
theorem q49:Eg 409:=qa0 func409 (by kernel_rfl) (by kernel_rfl)
theorem q48:Eg 412:=qa0 func412 (by kernel_rfl) (by kernel_rfl)
theorem q44:Eg 420:=qa0 func420 (by kernel_rfl) (by kernel_rfl)
theorem Wk.nep{a:Gh}{o:Obj}(k:Wk G w0 H w)(c:a.le G)(d:a.I b=some o)(f:H.I pm=none):b≠pm:=λe=>by
 have:=k.ext.le.I (c.I d);rw[e,f]at this;cases this
theorem q2s(a:Gh)(p:Dt)(d:Dl)(b t:Nat)(q:DRep a p d)(e:qbu p=1)(n:a.I b=some (.cells d.cells t (0,0))):Mks a (λ_=>True) (λ_ _=>some [p]) (.func (.func 394) #[] #[bp b]):=by
 refine⟨394,#[bp b],rfl,q5k,λG w0 H w mark trs fb N K pm c lo mv ds f k u i E _=>?_⟩;obtain⟨es,r,j⟩:=i.own;obtain⟨s,v,l,m,x,y,z,A⟩:=d;have B:=u.c;by_cases o:c+1<=600
 ·refine Calls.mono (q1c H fb N K pm b lo ds.length c t mark mv (qcd es) s v l m x y z A w u.mt o (k.imm (k.ext.le.I (f.I n))) (k.nep f n u.pl.2) r i.lo (λg C=>(u.mf g C).2.1) (by omega)) λe' w' h=>?_
  exact qjo k u i j (q.mono (f.trans k.ext.le)) (by rw[e];exact o) (by rw[e];exact h)
 ·refine Calls.mono (q19 fb N K pm b c mark mv w u.mt (by omega)) λe' w' h=>qgl k u (λes D=>?_) h
  obtain rfl:[p]=es:=by simpa using D
  simp[qax,e];omega
theorem q2q(e:Gh)(s:Bs)(m:Int)(f:Dl)(b t:Nat)(A:DRep e (.sym s m) f)(x:e.I b=some (.cells f.cells t (0,0))):Mks e (λ_=>True) (λmark _=>some [.sym s mark]) (.func (.func 408) #[] #[bp b]):=by
 refine⟨408,#[bp b],rfl,q5a,λG w0 H w mark trs fb N K pm c lo mv ds y k u i P _=>?_⟩;obtain⟨es,B,j⟩:=i.own;obtain⟨l,n,a,d,C,o,p,r⟩:=f;have v:∀q,qbu (.sym s q)=1:=λq=>by simp[qbu]
 have D:=u.c;have E:DRep H (.sym s mark) ⟨l,n,a,d,mark,o,p,r⟩:=by
  cases A with
  |sym _ F J L=>exact .sym ⟨l,n,a,d,mark,o,p,r⟩ F J L
 by_cases z:c+1<=600
 ·refine Calls.mono (qz4 H fb N K pm b lo ds.length c t mark mv (qcd es) l n a d C o p r w u.mt z (k.imm (k.ext.le.I (y.I x))) (k.nep y x u.pl.2) B i.lo (λg M=>(u.mf g M).2.1) (by omega)) λe' w' h=>?_
  exact qjo k u i j E (by rw[v];exact z) (by rw[v];exact h)
 ·refine Calls.mono (q18 fb N K pm b c mark mv w u.mt (by omega)) λe' w' h=>qgl k u (λes O=>?_) h
  obtain rfl:[Dt.sym s mark]=es:=by simpa using O
  simp[qax,v];omega
def qg6(at':Nat)(trs:List Tr):Option (List Dt):=match trs[at']? with
 |some (.one d)=>some [d]
 |_=>none
theorem qs4(P:Gh)(a b t:Nat)(z:P.I b=some (.cells #[.int .i64 (a:Int)] t (0,0))):Mks P (λtrs=>∃d,trs[a]? =some (.one d)) (λ_ trs=>qg6 a trs) (.func (.func 409) #[] #[bp b]):=by
 refine⟨409,#[bp b],rfl,q49,λG w0 H w mark trs fb N K pm c lo mv ds A k u B Z C=>?_⟩;obtain⟨d,D⟩:=C;obtain⟨es,S,E⟩:=B.own;obtain⟨fc,F,J⟩:=u.row;have L:=u.c;obtain⟨xs,T,M⟩:=J a _ D;have Q:qg6 a trs=some [d]:=by simp[qg6,D]
 have n:a<N:=by rw[u.len];exact(eL.1 D).1
 cases T with
 |one _ e o O=>
  obtain⟨p,q,i,l,r,s,x,y⟩:=e;have f:∀j v,(Dl.cells ⟨p,q,i,l,r,s,x,y⟩)[j]? =some v->j<6->w.cell? ⟨fb,a*7+j,none⟩=some v:=λj v U hj=>by
   have:=M j (by omega);rw[eA (by simp;omega)]at this;simp only[World.cell?,F];rw[this];simpa using U
  have m:∀w',Below w.heap.size w w'->Calls prog 410 #[.agg #[.int .i64 p,.int .i64 q,.bool i,.string l,.int .i64 r,.slice s x y]] w' λe w2=>e=.returned (.int .i64 (qbu d:Int))/\Below w'.heap.size w' w2:=λw' V=>by
   have W:=qvx (e:=⟨p,q,i,l,r,s,x,y⟩) (k.below V) o O;exact W
  by_cases R:c+qbu d<=600
  ·refine Calls.mono (qwt H fb N K pm b lo ds.length c (qbu d) a mark mv (qcd es) p q i l r s x y w u.mt R (k.box A z) n u.max (k.nep A z u.pl.2) u.fp (f 0 _ rfl (by omega)) (f 1 _ rfl (by omega)) (f 2 _ rfl (by omega)) (f 3 _ rfl (by omega)) (f 4 _ rfl (by omega)) (f 5 _ rfl (by omega)) S B.lo (λg X=>(u.mf g X).2.1) (by omega) m) λe' w' h=>?_
   show qux G w0 H w pm c lo mv ds (qg6 a trs) e' w';rw[Q];exact qjo k u B E o R h
  ·refine Calls.mono (q17 fb N K pm b c (qbu d) a mark mv p q i l r s x y w u.mt (by omega) L (k.box A z) n u.max (f 0 _ rfl (by omega)) (f 1 _ rfl (by omega)) (f 2 _ rfl (by omega)) (f 3 _ rfl (by omega)) (f 4 _ rfl (by omega)) (f 5 _ rfl (by omega)) m) λe' w' h=>?_
   show qux G w0 H w pm c lo mv ds (qg6 a trs) e' w';rw[Q];refine qgl k u (λes Y=>?_) h;obtain rfl:[d]=es:=by simpa using Y
   simp[qax];omega
theorem qz9(fb N K pm b lo n c f:Nat)(B:Array Vu)(mark:Int)(sa:OA)(sc:Nat)(xs:List Vu)(w:Wd)(P:OA->Nat->Nat->Wd->Prop)(Q:En->Wd->Prop)
  (eg:∀args w,(callFunc f args).run prog w=.ok (.enter f args) w)(C:Mt pm c 600 4 w)(hc:c+1<=600)(D:w.cell? ⟨b,0,none⟩=some (.func (.func f) #[] B))(E:b≠pm)(hn:n<=1000000)
  (hF:∀V,Lk ((w.alloc (.cells #[.slice (some ⟨fb,0,none⟩) N K,.int .i64 mark,.pointer (some ⟨pm,0,none⟩)] 411)).setCell ⟨pm,0,none⟩ (.int .i64 ((c:Int)+1))) V->Calls prog f (#[.slice none 0 0,.agg #[.slice (some ⟨fb,0,none⟩) N K,.int .i64 mark,.pointer (some ⟨pm,0,none⟩)]]++B) V λe w2=>((∃p,e=.panicked p)/\Q e w2)\/∃a l k,e=.returned (.slice a l k)/\P a l k w2)
  (L:∀a l k w2,P a l k w2->w2.ownsRow lo 134 6 (.slice sa n sc) n xs/\lo<=w2.heap.size/\∀V2 w3 g cap,Below w2.heap.size w2 V2->w3.ownsRow lo 134 6 (.slice (some ⟨g,0,none⟩) (n+1) cap) (n+1) (xs++[.int .i64 4,.int .i64 0,.bool false,.string ⟨#[]⟩,.int .i64 0,.slice a l k])->V2.grownBy w3 (Value.slice sa n sc).ownBlock->((Value.slice sa n sc).ownBlock=some g\/g=V2.heap.size)->Q (.returned (.slice (some ⟨g,0,none⟩) (n+1) cap)) w3):
  Calls prog 393 #[.slice sa n sc,.agg #[.slice (some ⟨fb,0,none⟩) N K,.int .i64 mark,.pointer (some ⟨pm,0,none⟩)],bp b] w Q:=by
 obtain⟨Y,Z,q,r,s⟩:=info_parts info134;have lb:=qae D;have M:=hZ (qcl pm c 600 4 1 (w.alloc (.cells #[.slice (some ⟨fb,0,none⟩) N K,.int .i64 mark,.pointer (some ⟨pm,0,none⟩)] 411)) (C.alloc _) (by omega) (by omega) (by omega) (by omega));have O:Hid (∀V:Wd,Lk ((w.alloc (.cells #[.slice (some ⟨fb,0,none⟩) N K,.int .i64 mark,.pointer (some ⟨pm,0,none⟩)] 411)).setCell ⟨pm,0,none⟩ (.int .i64 ((c:Int)+1))) V->V.cell? ⟨b,0,none⟩=some (.func (.func f) #[] B)/\V.cell? ⟨w.heap.size,0,none⟩=some (.slice (some ⟨fb,0,none⟩) N K)/\V.cell? ⟨w.heap.size,1,none⟩=some (.int .i64 mark)/\V.cell? ⟨w.heap.size,2,none⟩=some (.pointer (some ⟨pm,0,none⟩))):=λV R=>by
  have F:=C.lt;have G:V.heap[w.heap.size]? =some (.cells #[.slice (some ⟨fb,0,none⟩) N K,.int .i64 mark,.pointer (some ⟨pm,0,none⟩)] 411 (0,0)):=by
   rw[R.heap,qab (a:=⟨pm,0,none⟩) _ (by show w.heap.size≠pm;omega)];exact eN _ _
  refine⟨?_,by simp only[World.cell?,G];rfl,by simp only[World.cell?,G];rfl,by simp only[World.cell?,G];rfl⟩;rw[<-D];refine World.cell?_of_block (a:=⟨b,0,none⟩) ?_;show V.heap[b]? =w.heap[b]?;rw[R.heap,qab (a:=⟨pm,0,none⟩) _ E,eH _ _ _ lb]
 have z:=hZ hF;have HP:=hZ L;clear C D hF L;go_enter func393,ntmps393
 go_wp2_with (go_at_call 200;refine M.out.mono ?_;rintro e w2 ⟨rfl,k,rfl⟩;obtain⟨V,m⟩:∃V,V=(World.setCell (w.alloc (.cells #[.slice (some ⟨fb,0,none⟩) N K,.int .i64 mark,.pointer (some ⟨pm,0,none⟩)] 411)) ⟨pm,0,none⟩ (.int .i64 ((c:Int)+1))).drewN k:=⟨_,rfl⟩;rw[<-m];have S:Hid (Lk ((w.alloc (.cells #[.slice (some ⟨fb,0,none⟩) N K,.int .i64 mark,.pointer (some ⟨pm,0,none⟩)] 411)).setCell ⟨pm,0,none⟩ (.int .i64 ((c:Int)+1))) V):=m▸⟨rfl,rfl,rfl,rfl⟩;obtain⟨v0,v1,v2,v3⟩:=O.out V S.out;clear m O M;refine Hid.out ?_)
 refine hZ ?_;have H:=hZ (z.out V S.out);clear z;go_wp2_with (first
  |(go_at_fn f;refine H.out.mono ?_;rintro e w2 (⟨⟨p,rfl⟩,hq⟩|⟨a,l,T,rfl,F⟩);(exact⟨rfl,hq⟩);have I:=hZ F;clear F)
  |(go_at_call 238;refine(qk7 _ _ _ _).mono ?_;rintro e w3 ⟨rfl,o,A⟩;obtain⟨U,t,i⟩:=HP.out _ _ _ _ I.out;have v:Hid (w3.ownsRow lo 134 6 (.slice sa n sc) n xs):=qk6 (U.alloc o) A;have J:Hid (lo<=w3.heap.size):=eT t (bl1 A).size;have x:=hZ i;have W:=hZ (bl1 A);clear U t i A;refine Hid.out ?_))
 refine hZ ?_;unfold Dl.cells;go_wp2_with (at_builtin;refine wpList_append_lies _ rfl _ _ 132 rfl lo 134 Y (.agg #[.int .i64 0,.int .i64 0,.bool false,.string ⟨#[]⟩,.int .i64 0,.slice none 0 0]) 6 72 underlying132 Z q r s rfl (by decide) _ _ _ rfl (v.out.alloc _) ⟨w3.heap.size,0,none⟩ 1 1 [.int .i64 4,.int .i64 0,.bool false,.string ⟨#[]⟩,.int .i64 0,.slice a l T] rfl rfl ?c1 ?c2 (by decide) ?c3 ?c4 ?c5 (w3.heap.size+1) ?c6 ?_)
 case c1=>exact World.news_of_block (cs:=#[.int .i64 4,.int .i64 0,.bool false,.string ⟨#[]⟩,.int .i64 0,.slice a l T]) (eN w3 _)
 case c2=>intro u X;simp at X;rcases X with rfl|rfl|rfl|rfl|rfl|rfl <;> rfl
 case c3=>unfold maxLen;omega
 case c4=>omega
 case c5=>have:=J.out;simp;omega
 case c6=>simp
 intro g cap w4 h d j y;have z:=hZ (x.out _ w4 g cap (W.out.alloc (by exact W.out.size) _) h d (by simpa using j));clear h d j y;go_wp2;exact z.out
theorem qwi{f:Gh}{w2:Wd}{fb N pm c c2 lo g cap:Nat}{trs:List Tr}{mv:Vu}{d:Dt}(u:Us w0 H w fb N trs pm c mv)(j:Mde H w lo mv ds)(o:Wk G w0 f w2)(s:Sp (λk=>k=pm\/mv.ownBlock=some k) H w f w2)(v:Mt pm (c2:Nat) 600 4 w2)(x:c+qbu d=c2)(y:c2<=600)
  (l:DsRep f ds es)(z:DRep f d e)(a:Below w2.heap.size w2 V2)(A:w3.ownsRow lo 134 6 (.slice (some ⟨g,0,none⟩) (ds.length+1) cap) (ds.length+1) (qcd es++e.cells.toList))(p:V2.grownBy w3 mv.ownBlock)(q:mv.ownBlock=some g\/g=V2.heap.size):
  qux G w0 H w pm c lo mv ds (some [d]) (.returned (.slice (some ⟨g,0,none⟩) (ds.length+1) cap)) w3:=by
 have r:qax [d]=qbu d:=by simp[qax]
 have m:Sp (λk=>k=pm\/mv.ownBlock=some k) f w2 f w3:=(Sp.below a).trans (Sp.grown p λb hb=>.inr hb);have n:∀b,(b=pm\/mv.ownBlock=some b)->b<w.heap.size:=by
  rintro b (rfl|hb)
  ·exact u.lt.2
  ·exact(j.lt hb).2
 have t:∀b,(b=pm\/mv.ownBlock=some b)->w0.heap.size<=b/\f.I b=none:=λb hb=>by
  refine⟨?_,s.loose (n b hb) ?_⟩
  ·rcases hb with rfl|hb
   ·exact u.pl.1
   ·exact(u.mf b hb).2.2
  ·rcases hb with rfl|hb
   ·exact u.pl.2
   ·exact j.loose b hb
 have i:pm<w2.heap.size:=eW u.lt.2 s.size;refine .inr ⟨f,_,[d],rfl,by rw[r];omega,rfl,⟨_,_,_,rfl⟩,o.go m t,s.trans m,?_,⟨⟨es++[e],?_,l.app (.cons _ _ _ _ z .nil)⟩,?_,eT j.lo (eT s.size m.size)⟩,?_⟩
 ·rw[r,x];refine v.keep ?_;rw[p.block pm (eW i a.size) (λh=>(u.mf pm h.symm).2.1 rfl),a.block _ i]
 ·rw[qit];simpa[qcd]using A
 ·intro b hb;obtain rfl:g=b:=by simpa[Value.ownBlock]using hb
  rcases q with h|h
  ·exact(t g (.inr h)).2
  ·exact o.fresh (by have:=a.size;omega)
 ·intro b hb;obtain rfl:g=b:=by simpa[Value.ownBlock]using hb
  rcases q with h|h
  ·exact .inl h
  ·exact .inr (by have:=a.size;have:=s.size;omega)
theorem Mde.list{cap:Nat}{a:OA}(k:Wk G w0 H w)(s:Mde H w lo (.slice a n cap) ds)(K:w0.heap.size<=lo)(p:n=ds.length)(l:n<=30000):
  ∃H',Wk G w0 H' w/\H.le H'/\H'.J=H.J/\(∀b,b<lo->H'.I b=H.I b)/\H'.E=H.E/\H'.B=H.B/\H'.W=H.W/\H'.F=H.F/\(∀b,(Value.slice a n cap).ownBlock≠some b->H'.I b=H.I b)/\DRep H' (.list ds) ⟨4,0,false,⟨#[]⟩,0,a,n,cap⟩:=by
 obtain⟨⟨es,t,d⟩,u,_⟩:=s;by_cases h:n=0
 ·subst h;obtain rfl:ds=[]:=List.eq_nil_of_length_eq_zero p.symm;exact⟨H,k,Gh.le.refl _,rfl,λ_ _=>rfl,rfl,rfl,rfl,rfl,λ_ _=>rfl,.nil _ rfl rfl⟩
 ·rcases t.2 with⟨L,m⟩|⟨g,q,c,v,y,z,M,_,_,A⟩
  ·omega
  ·cases v;have hI:=u g rfl;have f:=Gh.le_add (o:=.cells c 134 (0,0)) hI;refine⟨H.add g (.cells c 134 (0,0)),k.fix (by omega) hI z,f,rfl,λb l=>if_neg (by omega),rfl,rfl,rfl,rfl,λb l=>if_neg (λe=>l (by rw[e];rfl)),?_⟩;have C:=d.at.1;refine .list _ rfl ds es g 0 c (by simp only;omega) (by simp only;omega) l rfl (Gh.add_at _ _ _) (λi j x r D=>?_) (d.mono f);have N:=(eL.1 r).1;have m:=qlw es i j x r D;rw[<-A,List.getElem?_take_of_lt (by rw[<-p];omega)]at m;rw[Nat.zero_add,show c[i*6+j]? =c.toList[i*6+j]? by simp];exact m
theorem q2r(A:Gh)(ok:List Tr->Prop)(r:Int->List Tr->Option (List Dt))(v:Vu)(b t:Nat)(C:Mks A ok r v)(p:A.I b=some (.cells #[v] t (0,0))):Mks A ok (λmark trs=>(r mark trs).map λl=>[.list l]) (.func (.func 393) #[] #[bp b]):=by
 refine⟨393,#[bp b],rfl,q5l,λG w0 H w mark trs fb N K pm c lo mv ds D k u L hl M=>?_⟩;obtain⟨f,cp,rfl,O,C⟩:=C;have b0:=u.c;have i:∀es,qax [.list es]=1+qax es:=λes=>by simp[qax,qbu]
 by_cases hc:c+1<=600
 ·obtain⟨es,P,Q⟩:=L.own;obtain⟨sa,sc,rfl⟩:=qzr P;refine qz9 fb N K pm b lo ds.length c f cp mark sa sc (qcd es) w (λa l y w2=>∃q d,r mark trs=some d/\c+1+qax d<=600/\Wk G w0 q w2/\Sp (λk=>k=pm) H w q w2/\Mt pm (c+1+qax d:Nat) 600 4 w2/\Mde q w2 (w.heap.size+1) (.slice a l y) d) _ O u.mt hc (k.box D p) (k.nep D p u.pl.2) (by omega) (λV R=>?_) ?_
  ·have S:Sp (λk=>k=pm) H w H V:=by
    have q1:Sp (λk=>k=pm) H w H (w.alloc (.cells #[.slice (some ⟨fb,0,none⟩) N K,.int .i64 mark,.pointer (some ⟨pm,0,none⟩)] 411)):=Sp.below (qaa _ _);have q2:Sp (λk=>k=pm) H (w.alloc (.cells #[.slice (some ⟨fb,0,none⟩) N K,.int .i64 mark,.pointer (some ⟨pm,0,none⟩)] 411)) H ((w.alloc (.cells #[.slice (some ⟨fb,0,none⟩) N K,.int .i64 mark,.pointer (some ⟨pm,0,none⟩)] 411)).setCell ⟨pm,0,none⟩ (.int .i64 ((c:Int)+1))):=Sp.set (a:=⟨pm,0,none⟩) (show pm=pm from rfl);exact(q1.trans q2).trans (Sp.lk R)
   have kV:=k.go S (λb p=>p▸u.pl);have T:V.heap.size=w.heap.size+1:=by rw[R.heap];simp
   have U:Mt pm ((c+1:Nat):Int) 600 4 V:=by
    have h:=((u.mt.alloc (.cells #[.slice (some ⟨fb,0,none⟩) N K,.int .i64 mark,.pointer (some ⟨pm,0,none⟩)] 411)).set ((c:Int)+1)).keep (w':=V) (by rw[R.heap]);rw[show((c+1:Nat):Int)=(c:Int)+1 by push_cast;rfl];exact h
   have uV:=u.step (c':=c+1) (mv':=.slice none 0 0) S u.fp U hc nofun;have s:=Mde.nil H V;rw[T]at s;refine Calls.mono (C G w0 H V mark trs fb N K pm (c+1) (w.heap.size+1) (.slice none 0 0) [] D kV uV s (by simp) M) ?_;rintro e w2 (⟨rfl,X,x⟩|⟨q,b1,d,Y,Z,rfl,⟨a,l,y,rfl⟩,k2,j,m2,m,_⟩)
   ·refine .inl ⟨⟨_,rfl⟩,.inl ⟨rfl,X,λes3 n=>?_⟩⟩;cases hm:r mark trs with
    |none=>simp only[hm]at n;simp at n
    |some o=>
     simp only[hm]at n;obtain rfl:[Dt.list o]=es3:=by simpa using n
     have:=x o hm;rw[i];omega
   ·refine .inr ⟨a,l,y,rfl,q,d,Y,Z,k2,?_,m2,by simpa using m⟩;exact S.then j λk _ hk=>hk.elim (λh=>h) nofun
  ·rintro a l y w2 ⟨q,d,Y,Z,k2,j,m2,m⟩;have hne:∀g,(Value.slice sa ds.length sc).ownBlock=some g->¬g=pm:=λg z=>(u.mf g z).2.1
   have a0:=L.step j hne;refine⟨qb7 P λg z=>j.blk (P.lt g z).2 (hne g z),a0.lo,λV2 w3 g cap a1 a2 a3 a4=>?_⟩;have a5:l=d.length:=by
    obtain⟨b2,a6,_⟩:=m.own;obtain⟨_,_,e1⟩:=qzr a6;cases e1;rfl
   have b3:=qd7 d;obtain⟨H3,k3,a7,hJ,a8,hE,hB,hW,hF,b4,a9⟩:=m.list k2 (by have:=k.bel.size;omega) a5 (by omega);have s3:Sp (λk=>k=pm) H w H3 w2:=⟨⟨j.ext.le.trans a7,hE.trans j.ext.E,hB.trans j.ext.B,fun {b} p=>(a8 b (by omega)).trans (j.ext.I p),hW.trans j.ext.W,hF.trans j.ext.F⟩,hJ.trans j.J,j.blk,j.size,j.same⟩;simp only[Y];refine qwi u L k3 (s3.mono λ_ _ h=>.inl h) m2 (by simp[qbu];omega) Z (Q.mono s3.ext.le) a9 a1 a2 a3 a4
 ·refine Calls.mono (q2a fb N K pm b c mark mv w u.mt (by omega)) λe' w' h=>qgl k u (λes n=>?_) h
  cases hm:r mark trs with
  |none=>simp only[hm]at n;simp at n
  |some o=>
   simp only[hm]at n;obtain rfl:[Dt.list o]=es:=by simpa using n
   rw[i];omega
structure Mkr where
 ok:List Tr->Prop
 mks:Int->List Tr->Option (List Dt)
def qbp:List Mkr->Int->List Tr->Option (List Dt)
 | [],_,_=>some []
 |m::r,k,t=>match m.mks k t with
  |none=>none
  |some a=>(qbp r k t).map (a++·)
theorem qdy(k:Int)(t:List Tr):∀(A B:List Mkr),qbp (A++B) k t=match qbp A k t with
  |none=>none
  |some a=>(qbp B k t).map (a++·)
 | [],B=>by simp[qbp]
 |m::r,B=>by
  simp only[List.cons_append,qbp,qdy k t r B];cases m.mks k t with
  |none=>rfl
  |some a=>
   cases qbp r k t with
   |none=>rfl
   |some b=>cases qbp B k t <;> simp
structure MkRow (G0:Gh) (L:List Mkr) (vs:List Vu):Prop where
 len:vs.length=L.length
 at':∀(i:Nat) (m:Mkr) (v:Vu),L[i]? =some m->vs[i]? =some v->Mks G0 m.ok m.mks v
def qxl(G:Gh)(w0:Wd)(H:Gh)(w:Wd)(pm c lo:Nat)(mv:Vu)(ds:List Dt)(fb N K:Nat)(mark:Int)(trs:List Tr)(L:List Mkr)(k:Nat)(s0 s10:Vu)(wr:Wd):Prop:=
 ∃(j:Nat) (H':Gh) (dj:List Dt),j+k=L.length/\s10=.int .i64 (j:Int)/\qbp (L.take j) mark trs=some dj/\c+qax dj<=600/\Wk G w0 H' wr/\Sp (λk=>k=pm\/mv.ownBlock=some k) H w H' wr/\Mt pm (c+qax dj:Nat) 600 4 wr/\Mde H' wr lo s0 (ds++dj)/\
  (∀g,s0.ownBlock=some g->mv.ownBlock=some g\/w.heap.size<g)/\(∃a n cp,s0=.slice a n cp)/\wr.heap[w.heap.size]? =some (.cells #[.slice (some ⟨fb,0,none⟩) N K,.int .i64 mark,bp pm] 411 (0,0))
theorem qs3(G0:Gh)(L:List Mkr)(vs:List Vu)(F:MkRow G0 L vs)(b t n cap:Nat)(a:OA)(V:G0.I b=some (.cells #[.slice a n cap] t (0,0)))(hn:n=vs.length)(b6:n<=100000)(ha:0<n->∃g M t2,a=some ⟨g,0,none⟩/\G0.I g=some (.cells M t2 (0,0))/\∀(i:Nat) (v:Vu),vs[i]? =some v->M[i]? =some v):
  Mks G0 (λtrs=>∀m,m∈L->m.ok trs) (qbp L) (.func (.func 412) #[] #[bp b]):=by
 refine⟨412,#[bp b],rfl,q48,λG w0 H w mark trs fb N K pm c lo mv ds hG k u md hl Y=>?_⟩;have b7:=u.lt.2;have cb:(w.alloc (.cells #[.slice (some ⟨fb,0,none⟩) N K,.int .i64 mark,bp pm] 411)).cell? ⟨b,0,none⟩=some (.slice a n cap):=by
  have:=k.box hG V;exact(qac (qae this) _).trans this
 have HK:=hZ k;have O:=hZ u;have P:=hZ md;have HL:=hZ hl;have a8:=hZ Y;have Q:=hZ F;have R:=hZ hn;have HA:=hZ ha;have HG:=hZ hG;clear k u md hl Y F hn ha hG V;show Calls prog 412 #[mv,.agg #[.slice (some ⟨fb,0,none⟩) N K,.int .i64 mark,bp pm],bp b] w _;go_enter func412,ntmps412
 go_wp2;go_loopg [0,10] n (qxl G w0 H w pm c lo mv ds fb N K mark trs L)
 case atStart=>
  have V:=qaa w (.cells #[.slice (some ⟨fb,0,none⟩) N K,.int .i64 mark,bp pm] 411);refine⟨0,H,[],by rw[R.out,Q.out.len];omega,rfl,rfl,by simp[qax];exact O.out.c,HK.out.below V,Sp.below V,?_,?_,λg hg=>.inl hg,?_,eN _ _⟩
  ·simpa[qax]using O.out.mt.alloc _
  ·rw[List.append_nil];exact P.out.step (Sp.below (L:=λ_=>False) V) (λ_ _ h=>h)
  ·obtain⟨es,ho,_⟩:=P.out.own;obtain⟨x,y,h⟩:=qzr ho;exact⟨_,_,_,h⟩
 case round=>
  obtain⟨j,H',dj,hj,rfl,o,B,W,Z,mj,C,l,⟨sa,sn,sc,rfl⟩,d⟩:=hrel;by_cases a0:j<n
  ·have S:j<L.length:=by rw[<-Q.out.len,<-R.out];exact a0
   have a9:j<vs.length:=by rw[<-R.out];exact a0
   obtain⟨mm,r⟩:∃mm,L[j]? =some mm:=⟨_,eG S⟩;obtain⟨v,hv⟩:∃v,vs[j]? =some v:=⟨_,eG a9⟩;obtain⟨f,cp,rfl,a1,s⟩:=Q.out.at' j mm v r hv;obtain⟨g,M,t2,rfl,a3,J⟩:=HA.out (by omega);have cv:wr.cell? ⟨g,j,none⟩=some (.func (.func f) #[] cp):=by
    rw[W.cell (W.ext.le.I (HG.out.I a3))];exact J j _ hv
   have c0:wr.cell? ⟨w.heap.size,0,none⟩=some (.slice (some ⟨fb,0,none⟩) N K):=by simp only[World.cell?,d];rfl
   have c1:wr.cell? ⟨w.heap.size,1,none⟩=some (.int .i64 mark):=by simp only[World.cell?,d];rfl
   have c2:wr.cell? ⟨w.heap.size,2,none⟩=some (.pointer (some ⟨pm,0,none⟩)):=by simp only[World.cell?,d];rfl
   have b8:(j:Int)<(n:Int):=by omega
   have A:∀g',(Value.slice sa sn sc).ownBlock=some g'->g'≠fb/\g'≠pm/\w0.heap.size<=g':=λg' T=>by
    rcases l g' T with h|h
    ·exact O.out.mf g' h
    ·have:=O.out.lt;have:=HK.out.bel.size;omega
   have uj:=O.out.step (c':=c+qax dj) (mv':=.slice sa sn sc) Z (by rintro(h|h);exact O.out.fp h;exact(O.out.mf _ h).1 rfl) mj B A;have b0:=qd7 dj;have a4:(ds++dj).length<=c+qax dj:=by have:=HL.out;simp;omega
   have a5:L=L.take j++mm::L.drop (j+1):=by
    have e1:L.drop j=mm::L.drop (j+1):=by
     rw[List.drop_eq_getElem_cons S];congr 1;have:=eG S;rw[r]at this;exact(Option.some.inj this).symm
    rw[<-e1,List.take_append_drop]
   have D:L.take (j+1)=L.take j++[mm]:=by rw[List.take_add_one,r];rfl
   have U:Hid (Calls prog f (#[.slice sa sn sc,.agg #[.slice (some ⟨fb,0,none⟩) N K,.int .i64 mark,.pointer (some ⟨pm,0,none⟩)]]++cp) wr λe w'=>((∃p,e=.panicked p)/\qux G w0 H w pm c lo mv ds (qbp L mark trs) e w')\/(∃x y z,e=.returned (.slice x y z)/\qxl G w0 H w pm c lo mv ds fb N K mark trs L (n-(j+1)) (.slice x y z) (.int .i64 ((j+1:Nat):Int)) w')):=by
    refine Calls.mono (s G w0 H' wr mark trs fb N K pm (c+qax dj) lo (.slice sa sn sc) (ds++dj) HG.out W uj C a4 (a8.out mm (List.mem_of_getElem? r))) ?_;rintro e w' (⟨rfl,b1,b2⟩|⟨H2,b9,b3,h1,h2,rfl,⟨x,y,z,rfl⟩,k2,s2,m2,b4,b5⟩)
    ·refine .inl ⟨⟨_,rfl⟩,.inl ⟨rfl,b1,λes E=>?_⟩⟩;rw[a5,qdy,o]at E;simp only[qbp]at E;cases X:mm.mks mark trs with
     |none=>rw[X]at E;simp at E
     |some a=>
      rw[X]at E;have:=b2 a X;cases hq2:qbp (L.drop (j+1)) mark trs with
      |none=>rw[hq2]at E;simp at E
      |some a2=>
       rw[hq2]at E;obtain rfl:dj++(a++a2)=es:=by simpa using E
       rw[qb1,qb1];omega
    ·refine .inr ⟨x,y,z,rfl,j+1,H2,dj++b3,by have:=R.out;have:=Q.out.len;omega,rfl,?_,?_,k2,?_,?_,?_,?_,⟨_,_,_,rfl⟩,?_⟩
     ·rw[D,qdy,o];simp[qbp,h1]
     ·rw[qb1];omega
     ·refine Z.then s2 λq X h=>?_
      rcases h with h|h
      ·exact .inl h
      ·rcases l q h with h|h
       ·exact .inr h
       ·omega
     ·rw[qb1,<-Nat.add_assoc];exact m2
     ·rw[<-List.append_assoc];exact b4
     ·intro g' T;rcases b5 g' T with h|h
      ·exact l g' h
      ·exact .inr (eW (eE.1 d).1 h)
     ·rw[s2.blk (eE.1 d).1 ?_]
      ·exact d
      ·rintro(h|h)
       ·omega
       ·rcases l _ h with h|h
        ·have:=(P.out.lt h).2;omega
        ·omega
   have eg:∀args w,(callFunc f args).run prog w=.ok (.enter f args) w:=a1;clear a1 s W Z mj C l uj a5 D o A B a4 b0 d r hv J a3 HA;go_wp2_with (go_at_fn f;refine U.out.mono ?_;rintro e w2 (⟨⟨p,rfl⟩,X⟩|⟨x,y,z,rfl,hr⟩);(exact⟨rfl,X⟩);have a6:=hZ hr;clear hr)
   go_roundg (n-(j+1))
   case measure=>have:=R.out;have:=Q.out.len;omega
   case rel=>
    have h:=a6.out;first|exact h|simpa using h
  ·have a7:j=n:=by have:=Q.out.len;have:=R.out;omega
   have c3:¬(j:Int)<(n:Int):=by omega
   have HF:Hid (qux G w0 H w pm c lo mv ds (qbp L mark trs) (.returned (.slice sa sn sc)) wr):=by
    have D:L.take j=L:=by rw[a7,R.out,Q.out.len,List.take_length]
    rw[D]at o;exact .inr ⟨H',_,dj,o,B,rfl,⟨_,_,_,rfl⟩,W,Z,mj,C,λg hg=>(l g hg).imp (λh=>h) (λh=>Nat.le_of_lt h)⟩
   clear a7 W Z mj C l o B d;go_wp2;go_ret;exact HF.out
def RlP(w:Wd)(ns:List Nat)(n0:Nat)(e:En)(w':Wd):Prop:=Below w.heap.size w w'/\(((∀n,n∈ns->n=n0)/\e=.returned (.int .i64 (n0:Int)))\/((¬∀n,n∈ns->n=n0)/\e=.panicked (qan (qap 4))))
def RlR(w:Wd)(ns:List Nat)(n0 nn k:Nat)(s18:Vu)(wr:Wd):Prop:=∃j:Nat,j+k=nn/\s18=.int .i64 (j:Int)/\Below w.heap.size w wr/\∀n,n∈ns.take j->n=n0
theorem q2n(r s rc fb N K f:Nat)(d ns:List Nat)(w:Wd)(H:d.length=ns.length)(I:ns[0]? =some f)(_:N<=1000000000000)(U:d.length<=1000000000000)
  (v:∀j i:Nat,d[j]? =some i->w.cell? ⟨r,s+j,none⟩=some (.int .i64 (i:Int))/\i<N)(x:∀j i n:Nat,d[j]? =some i->ns[j]? =some n->∃a c,w.cell? ⟨fb,i*7+6,none⟩=some (.slice a n c)):
  Calls prog 421 #[.slice (some ⟨r,s,none⟩) d.length rc,.slice (some ⟨fb,0,none⟩) N K] w (RlP w ns f):=by
 obtain⟨i0,b⟩:∃i0,d[0]? =some i0:=⟨_,eG (by have:=(eL.1 I).1;omega)⟩;have hp:0<d.length:=(eL.1 b).1;have r0:w.cell? ⟨r,s,none⟩=some (.int .i64 (i0:Int)):=by have:=(v 0 i0 b).1;simpa using this
 have V:(i0:Int)<(N:Int):=by have:=(v 0 i0 b).2;omega
 have J:(0:Int)<=(i0:Int):=by omega
 obtain⟨a0,c0,f0⟩:=x 0 i0 f b I;have W:(0:Int)<(d.length:Int):=by omega
 have X:=hZ v;have Y:=hZ x;have L:=hZ H;generalize t:d.length=l at*;have y:=hZ t;clear v x H t b;go_enter func421,ntmps421
 go_wp2;go_loopg [18] l (RlR w ns f l)
 case atStart=>exact⟨0,by omega,rfl,Below.refl _ _,by simp⟩
 case round=>
  obtain⟨j,M,rfl,O,g⟩:=hrel;have P:=hZ M;clear M;have m:=hZ O;have k:=hZ g;clear O g;by_cases u:j<l
  ·obtain⟨i,z⟩:∃i,d[j]? =some i:=⟨_,eG (by rw[y.out];exact u)⟩;obtain⟨n,A⟩:∃n,ns[j]? =some n:=⟨_,eG (by rw[<-L.out];exact u)⟩;obtain⟨B,Z⟩:=X.out j i z;obtain⟨aj,cj,C⟩:=Y.out j i n z A;have a1:wr.cell? ⟨r,s+j,none⟩=some (.int .i64 (i:Int)):=(m.out.cell (p:=⟨r,s+j,none⟩) (qae B)).trans B;have a2:wr.cell? ⟨fb,i*7+6,none⟩=some (.slice aj n cj):=(m.out.cell (p:=⟨fb,i*7+6,none⟩) (qae C)).trans C;have a3:(j:Int)<(l:Int):=by omega
   have Q:(i:Int)<(N:Int):=by omega
   have R:(0:Int)<=(i:Int):=by omega
   have S:=hZ A;clear B C z A;by_cases T:n=f
   ·subst T;have D:((n:Int)==(n:Int))=true:=by simp
    go_wp2_with (go_at_call 290;refine(qak _).mono ?_;rintro e w4 ⟨rfl,E⟩;obtain rfl:=E.symm)
    go_roundg (l-(j+1))
    case measure=>have:=P.out;omega
    case rel=>
     refine⟨j+1,by omega,by first|rfl|go_num,m.out,λq F=>?_⟩;rw[List.take_add_one,S.out]at F;simp at F;rcases F with h|h
     ·exact k.out q h
     ·exact h
   ·have D:((n:Int)==(f:Int))=false:=by simp;omega
    have G:Hid (¬∀q,q∈ns->q=f):=λh=>T (h n (List.mem_of_getElem? S.out))
    go_wp2_with (go_at_call 290;refine(qav _).mono ?_;rintro e w4 ⟨rfl,o,rfl⟩;(exact⟨rfl,m.out.alloc m.out.size _,.inr ⟨G.out,rfl⟩⟩))
  ·have a4:¬(j:Int)<(l:Int):=by omega
   have G:Hid (∀q,q∈ns->q=f):=by
    have:=k.out;rw[List.take_of_length_le (by have:=P.out;rw[<-L.out];omega)]at this;exact this
   go_wp2;go_ret;exact⟨m.out,.inl ⟨G.out,rfl⟩⟩
theorem TRp.one1{H:Gh}{t:Tr}{c:List Vu}(h:TRp H t c):∀u,u∈c->u.oneCell'=true:=by
 cases h with
 |one d e h b=>intro u a;simp at a;rcases a with rfl|rfl|rfl|rfl|rfl|rfl|rfl <;> rfl
 |nil=>intro u a;simp[qet]at a;rcases a with rfl|rfl|rfl|rfl|rfl|rfl|rfl <;> rfl
 |row=>intro u a;simp[qet]at a;rcases a with rfl|rfl|rfl|rfl|rfl|rfl|rfl <;> rfl
theorem q22(d:Nat)(a:Addr)(N K:Nat)(w:Wd):(Op.equalIn (d+1) 407 (.slice (some a) N K) (.slice none 0 0)).run prog w=.ok false w:=by
 simp[Op.equalIn,run_underlying underlying407]
def ClP(w:Wd)(N:Nat)(xs:List Vu)(e:En)(w':Wd):Prop:=∃g cap,e=.returned (.slice (some ⟨g,0,none⟩) N cap)/\w'.ownsRow w.heap.size 477 7 (.slice (some ⟨g,0,none⟩) N cap) N xs/\Below w.heap.size w w'
theorem qxe(fb N K:Nat)(xs:List Vu)(w:Wd)(q:0<N)(r:N<=1000000000000)(m:xs.length=N*7)(n:∀(j:Nat) u,xs[j]? =some u->w.cell? ⟨fb,j,none⟩=some u)(o:∀u,u∈xs->u.oneCell'=true):
  Calls prog 422 #[.slice (some ⟨fb,0,none⟩) N K] w (ClP w N xs):=by
 obtain⟨s,t,c,d,e⟩:=info_parts qjs;have p:∀w',(binOp .eql 407 (.slice (some ⟨fb,0,none⟩) N K) (.slice none 0 0)).run prog w'=.ok (.bool false) w':=λw'=>by
  have e':(Op.equal 407 (.slice (some ⟨fb,0,none⟩) N K) (.slice none 0 0)).run prog w'=.ok false w':=q22 9999 _ N K w';simp[binOp,e']
 have v:=hZ m;have x:=hZ n;have y:=hZ o;clear m n o;go_enter func422,ntmps422
 go_wp2_with (at_builtin;refine wpList_append_lies _ rfl _ _ 407 rfl w.heap.size 477 s (.agg #[.int .i64 0,.int .i64 0,.bool false,.string ⟨#[]⟩,.int .i64 0,.slice none 0 0,.slice none 0 0]) 7 96 underlying407 t c d e rfl (by decide) _ 0 [] rfl ?c0 ⟨fb,0,none⟩ N K xs rfl v.out ?c1 y.out q ?c3 ?c4 ?c5 (w.heap.size+1) ?c6 ?_)
 case c0=>exact⟨rfl,.inr ⟨w.heap.size,0,#[],rfl,eR _,eN _ _,eR _,Nat.zero_le _,rfl,rfl⟩⟩
 case c1=>
  intro j u z;have:=x.out j u z;have f:(⟨fb,0,none⟩:Addr).add j=⟨fb,j,none⟩:=by unfold Addr.add;split <;> simp_all
  rw[f];exact(qac (qae this) _).trans this
 case c3=>unfold maxLen;omega
 case c4=>omega
 case c5=>simp
 case c6=>simp
 intro g cap w3 b a i l;have A:Hid (w3.ownsRow w.heap.size 477 7 (.slice (some ⟨g,0,none⟩) N cap) N xs):=by
  have h:=b
  try simp only[Nat.zero_add,List.nil_append]at h
  exact h
 have B:Hid (Below w.heap.size w w3):=(qaa _ _).grown a (by simp) (λk C=>by
  have:w.heap.size=k:=by simpa[Value.ownBlock]using C
  omega)
 clear b a i l
 try simp only[Nat.zero_add]
 go_wp2;go_ret;exact⟨g,cap,rfl,A.out,B.out⟩
def nth(k:Nat):Tr->Tr
 | .row l=>l[k]?.getD (.row [])
 | .one d=>.one d
def trN:Tr->Nat
 | .row l=>l.length
 | .one _=>0
def peel(k:Nat)(trs:List Tr)(is:List Nat):List Tr:=is.foldl (λacc i=>acc.set i (((trs[i]?).map (nth k)).getD (.row []))) trs
theorem qse(k:Nat)(trs:List Tr)(a:List Nat)(i:Nat):peel k trs (a++[i])=(peel k trs a).set i (((trs[i]?).map (nth k)).getD (.row [])):=by simp[peel]
theorem qjd(k:Nat)(trs:List Tr)(b:List Nat):(peel k trs b).length=trs.length:=by
 suffices h:∀(b:List Nat) (a:List Tr),(b.foldl (λa i=>a.set i (((trs[i]?).map (nth k)).getD (.row []))) a).length=a.length from h b trs
 intro b;induction b with
 |nil=>intro a;rfl
 |cons i r c=>intro a;simp only[List.foldl_cons];rw[c];simp
def qfn(is:List Nat)(trs:List Tr):List Nat:=is.map λi=>((trs[i]?).map trN).getD 0
def qkw(is:List Nat)(m:Mkr)(k:Nat):Mkr:=⟨λt=>m.ok (peel k t is),λq t=>m.mks q (peel k t is)⟩
def qgh(is:List Nat)(m:Mkr)(n:Nat):List Mkr:=(List.range n).map (qkw is m)
def rep(is:List Nat)(m:Mkr):Mkr where
 ok trs:=(∀i,i∈is->∃l,trs[i]? =some (.row l))/\∀n,(∀q,q∈qfn is trs->q=n)->∀k,k<n->m.ok (peel k trs is)
 mks mark trs:=match qfn is trs with
  | []=>none
  |n::r=>if r.all (·==n)then qbp (qgh is m n) mark trs else none
theorem qn9{b:List Nat}{m:Mkr}{trs:List Tr}{n:Nat}{mark:Int}(c:(qfn b trs)[0]? =some n)(h:∀q,q∈qfn b trs->q=n):(rep b m).mks mark trs=qbp (qgh b m n) mark trs:=by
 unfold rep;simp only;cases hl:qfn b trs with
 |nil=>rw[hl]at c;simp at c
 |cons a r=>
  rw[hl]at c h;obtain rfl:a=n:=by simpa using c
  simp only;rw[if_pos];simp only[List.all_eq_true,beq_iff_eq];exact λq d=>h q (by simp[d])
theorem qoa{b:List Nat}{m:Mkr}{trs:List Tr}{n:Nat}{mark:Int}(c:(qfn b trs)[0]? =some n)(h:¬∀q,q∈qfn b trs->q=n):(rep b m).mks mark trs=none:=by
 unfold rep;simp only;cases hl:qfn b trs with
 |nil=>rfl
 |cons a r=>
  rw[hl]at c h;obtain rfl:a=n:=by simpa using c
  simp only;rw[if_neg];simp only[List.all_eq_true,beq_iff_eq];intro d;exact h λq e=>by
   rcases List.mem_cons.1 e with h|h
   ·exact h
   ·exact d q h
theorem FRow.set{trs:List Tr}{t:Tr}(r:FRow H fc trs)(f:i*7+7<=fc.size)(g:TRp H t [v0,v1,v2,v3,v4,v5,v6]):FRow H (qgf fc (i*7) v0 v1 v2 v3 v4 v5 v6) (trs.set i t):=λk u a=>by
 by_cases e:i=k
 ·subst e;rw[List.getElem?_set]at a;by_cases d:i<trs.length
  ·simp[d]at a;subst a;exact⟨_,g,λj b=>qi9 f b⟩
  ·simp[d]at a
 ·rw[List.getElem?_set_ne e]at a;obtain⟨c,h,l⟩:=r k u a;exact⟨c,h,λj b=>by rw[qff (by omega)];exact l j b⟩
theorem FRow.size{trs:List Tr}(r:FRow H fc trs):trs.length*7<=fc.size:=by
 rcases Nat.eq_zero_or_pos trs.length with h|h
 ·omega
 ·obtain⟨c,a,b⟩:=r (trs.length-1) _ (eG (by omega));have:=b 6 (by omega);rw[eG (l:=c) (show 6<c.length by rw[a.len];omega)]at this;have:=(eE.1 this).1;omega
theorem FRow.one1{trs:List Tr}(r:FRow H fc trs):∀u,u∈fc.toList.take (trs.length*7)->u.oneCell'=true:=λu d=>by
 obtain⟨p,a⟩:=List.mem_iff_getElem?.1 d;have b:=(eL.1 a).1;have e:=r.size;simp only[List.length_take,Array.length_toList]at b;rw[List.getElem?_take_of_lt (by omega)]at a;have f:p / 7<trs.length:=by omega
 obtain⟨c,g,h⟩:=r (p / 7) _ (eG f);have:=h (p % 7) (by omega);rw[show p / 7*7+p % 7=p by omega]at this;rw[show fc.toList[p]? =fc[p]? by simp,this]at a;exact g.one1 u (List.mem_of_getElem? a)
theorem qct(W:Wd):Lk W W.drew:=⟨rfl,rfl,rfl,rfl⟩
def PlR(G:Gh)(w0:Wd)(H:Gh)(w:Wd)(g ib N cap pm j:Nat)(mark:Int)(trs:List Tr)(is:List Nat)(k:Nat)(s25:Vu)(wi:Wd):Prop:=
 ∃(q:Nat) (cc:Array Vu),q+k=is.length/\s25=.int .i64 (q:Int)/\Wk G w0 H wi/\Sp (λ_=>False) H w H wi/\wi.heap[g]? =some (.cells cc 477 (0,0))/\FRow H cc (peel j trs (is.take q))/\wi.heap[ib]? =some (.cells #[.slice (some ⟨g,0,none⟩) N cap,.int .i64 mark,bp pm] 411 (0,0))
theorem q4s(G0:Gh)(m:Mkr)(v:Vu)(is:List Nat)(br be tb te gr ro rc tr:Nat)(i2:Array Vu)(hv:Mks G0 m.ok m.mks v)(i3:G0.I be=some (.cells #[v] te (0,0)))(f9:G0.I br=some (.cells #[.slice (some ⟨gr,ro,none⟩) is.length rc] tb (0,0)))(i4:G0.I gr=some (.cells i2 tr (0,0)))(e9:∀(q i:Nat),is[q]? =some i->i2[ro+q]? =some (.int .i64 (i:Int)))(hp:0<is.length)(i5:is.length<=1000000000000):
  Mks G0 (rep is m).ok (rep is m).mks (.func (.func 420) #[] #[bp br,bp be]):=by
 refine⟨420,#[bp br,bp be],rfl,q44,λG w0 H w mark trs fb N K pm c lo mv ds hG k u md O l1=>?_⟩;obtain⟨f,cp,rfl,i6,a6⟩:=hv;obtain⟨Z,f0⟩:=l1;have i7:=u.lt.2;have i8:=u.lt.1;have g0:=u.len;obtain⟨i0,l2⟩:∃i0,is[0]? =some i0:=⟨_,eG hp⟩;obtain⟨n0,g1⟩:∃n0,(qfn is trs)[0]? =some n0:=⟨_,eG (by simpa[qfn]using hp)⟩;have T:∀{H':Gh} {w':Wd},Wk G w0 H' w'->∀q i:Nat,is[q]? =some i->w'.cell? ⟨gr,ro+q,none⟩=some (.int .i64 (i:Int)):=λk' q i E=>by
  rw[k'.cell (k'.ext.le.I (hG.I i4))];exact e9 q i E
 have a7:∀q i:Nat,is[q]? =some i->i<N:=λq i E=>by
  obtain⟨l,O⟩:=Z i (List.mem_of_getElem? E);rw[g0];exact(eL.1 O).1
 have P:Hid (∀w',Below w.heap.size w w'->Calls prog 421 #[.slice (some ⟨gr,ro,none⟩) is.length rc,.slice (some ⟨fb,0,none⟩) N K] w' (RlP w' (qfn is trs) n0)):=λw' hw=>by
  obtain⟨fc,a8,M⟩:=u.row;refine q2n gr ro rc fb N K n0 is (qfn is trs) w' (by simp[qfn]) g1 u.max i5 (λq i E=>⟨T (k.below hw) q i E,a7 q i E⟩) (λq i n E hn=>?_);obtain⟨l,O⟩:=Z i (List.mem_of_getElem? E);have l3:n=l.length:=by
   have:(qfn is trs)[q]? =some l.length:=by simp[qfn,E,O,trN]
   rw[this]at hn;exact(Option.some.inj hn).symm
  obtain⟨cs,F,h2⟩:=M i _ O;have h6:=h2 6 (by omega);have g3:w'.cell? ⟨fb,i*7+6,none⟩=fc[i*7+6]?:=by rw[hw.cell (p:=⟨fb,i*7+6,none⟩) i8];simp[World.cell?,a8]
  rw[g3,h6,l3];cases F with
  |nil=>exact⟨none,0,rfl⟩
  |row _ g n a9 b7 l4 a b=>rw[<-b];exact⟨_,_,rfl⟩
 have c7:=k.box hG f9;have i9:∀{H':Gh} {w':Wd},Wk G w0 H' w'->w'.cell? ⟨be,0,none⟩=some (.func (.func f) #[] cp):=λk'=>k'.box hG i3
 have f1:∀{H':Gh} {w':Wd},Wk G w0 H' w'->w'.cell? ⟨br,0,none⟩=some (.slice (some ⟨gr,ro,none⟩) is.length rc):=λk'=>k'.box hG f9
 have l5:=qae c7;have j0:=(qac l5 (.cells #[.slice (some ⟨fb,0,none⟩) N K,.int .i64 mark,bp pm] 411)).trans c7;have g4:=hZ a6;have f2:=hZ Z;have j1:=hZ f0;have HK:=hZ k;have HU:=hZ u;have g5:=hZ md;have HL:=hZ O;have HG:=hZ hG;have l6:Hid (∀{H':Gh} {w':Wd},Wk G w0 H' w'->∀q i:Nat,is[q]? =some i->w'.cell? ⟨gr,ro+q,none⟩=some (.int .i64 (i:Int))):=T;have j2:=hZ a7;have l7:Hid (∀{H':Gh} {w':Wd},Wk G w0 H' w'->w'.cell? ⟨be,0,none⟩=some (.func (.func f) #[] cp)):=i9;have j3:Hid (∀{H':Gh} {w':Wd},Wk G w0 H' w'->w'.cell? ⟨br,0,none⟩=some (.slice (some ⟨gr,ro,none⟩) is.length rc)):=f1;have g6:=hZ g1;have eg:∀args w,(callFunc f args).run prog w=.ok (.enter f args) w:=i6;obtain⟨nis,b8⟩:∃nis,nis=is.length:=⟨_,rfl⟩;rw[<-b8]at hp i5 c7 j0 P j3;have s:=hZ b8;have b9:=hZ g0;clear a6 Z f0 k u md O hG T a7 i9 f1 i3 f9 i4 e9 l2 g1 i6 c7 b8 g0;show Calls prog 420 #[mv,.agg #[.slice (some ⟨fb,0,none⟩) N K,.int .i64 mark,bp pm],bp br,bp be] w _;by_cases J:∀q,q∈qfn is trs->q=n0
 ·rw[qn9 g6.out J];have Q:=hZ J;have U:Hid (∀w',Below w.heap.size w w'->Calls prog 421 #[.slice (some ⟨gr,ro,none⟩) nis rc,.slice (some ⟨fb,0,none⟩) N K] w' λe w2=>e=.returned (.int .i64 (n0:Int))/\Below w'.heap.size w' w2):=λw' hw=>Calls.mono (P.out w' hw) λe w2 ⟨F,h2⟩=>by
   rcases h2 with⟨_,h⟩|⟨h,_⟩
   ·exact⟨h,F⟩
   ·exact absurd Q.out h
  clear J P;go_enter func420,ntmps420
  go_wp2_with (go_at_call 421;refine(U.out _ (qaa _ _)).mono ?_;rintro e w2 ⟨rfl,c8⟩;have j4:=hZ c8;clear c8;refine Hid.out ?_)
  refine hZ ?_;go_wp2;go_loopg [0,15] n0 (qxl G w0 H w pm c lo mv ds fb N K mark trs (qgh is m n0))
  case atStart=>
   have l8:=qaa w (.cells #[.slice (some ⟨fb,0,none⟩) N K,.int .i64 mark,bp pm] 411);have hb:=l8.trans (j4.out.mono (by simp));have l9:w2.heap[w.heap.size]? =some (.cells #[.slice (some ⟨fb,0,none⟩) N K,.int .i64 mark,bp pm] 411 (0,0)):=(j4.out.block _ (by simp)).trans (eN _ _);refine⟨0,H,[],by simp[qgh],rfl,rfl,by simp[qax];exact HU.out.c,HK.out.below hb,Sp.below hb,?_,?_,λg hg=>.inl hg,?_,l9⟩
   ·simpa[qax]using HU.out.mt.keep (hb.block _ i7)
   ·rw[List.append_nil];exact g5.out.step (Sp.below (L:=λ_=>False) hb) (λ_ _ h=>h)
   ·obtain⟨es,ho,_⟩:=g5.out.own;obtain⟨x,y,h⟩:=qzr ho;exact⟨_,_,_,h⟩
  case round=>
   obtain⟨j,H',dj,hj,rfl,c3,c4,kj,sj,mj,c9,c5,⟨sa,sn,sc,rfl⟩,B⟩:=hrel;obtain⟨r,rfl⟩:∃r,r=wr:=⟨_,rfl⟩;by_cases d7:j<n0
   ·have d8:=(eE.1 B).1;have c0:r.cell? ⟨w.heap.size,0,none⟩=some (.slice (some ⟨fb,0,none⟩) N K):=by simp only[World.cell?,B];rfl
    have c1:r.cell? ⟨w.heap.size,1,none⟩=some (.int .i64 mark):=by simp only[World.cell?,B];rfl
    have c2:r.cell? ⟨w.heap.size,2,none⟩=some (.pointer (some ⟨pm,0,none⟩)):=by simp only[World.cell?,B];rfl
    have o8:(j:Int)<(n0:Int):=by omega
    have o5:n0<=1000000:=by
     obtain⟨i,E⟩:∃i,is[0]? =some i:=⟨_,eG (by rw[<-s.out];exact hp)⟩;obtain⟨l,O⟩:=f2.out i (List.mem_of_getElem? E);obtain⟨fc,_,M⟩:=HU.out.row;obtain⟨cs,F,_⟩:=M i _ O;have h2:(qfn is trs)[0]? =some l.length:=by simp[qfn,E,O,trN]
     rw[g6.out]at h2;rw[Option.some.inj h2];exact F.rowLen
    have W:∀g',(Value.slice sa sn sc).ownBlock=some g'->g'≠fb/\g'≠pm/\w0.heap.size<=g':=λg' a0=>by
     rcases c5 g' a0 with h|h
     ·exact HU.out.mf g' h
     ·have:=HU.out.lt;have:=HK.out.bel.size;omega
    have uj:=HU.out.step (c':=c+qax dj) (mv':=.slice sa sn sc) sj (by rintro(h|h);exact HU.out.fp h;exact(HU.out.mf _ h).1 rfl) mj c4 W;obtain⟨fc,a8,M⟩:=uj.row;have m0:Hid (∀w',Lk (r.alloc (.cells #[.slice (some ⟨fb,0,none⟩) N K,.int .i64 mark,.pointer (some ⟨pm,0,none⟩)] 411)) w'->Calls prog 422 #[.slice (some ⟨fb,0,none⟩) N K] w' λe w3=>∃g cap cc,e=.returned (.slice (some ⟨g,0,none⟩) N cap)/\r.heap.size<g/\Below r.heap.size r w3/\w3.heap[r.heap.size]? =some (.cells #[.slice (some ⟨fb,0,none⟩) N K,.int .i64 mark,.pointer (some ⟨pm,0,none⟩)] 411 (0,0))/\w3.heap[g]? =some (.cells cc 477 (0,0))/\FRow H' cc trs):=λw' hw=>by
     have hs:w'.heap.size=r.heap.size+1:=by rw[hw.heap];simp
     have hb:=bl1 hw;have m1:0<N:=by
      obtain⟨i,E⟩:∃i,is[0]? =some i:=⟨_,eG (by rw[<-s.out];exact hp)⟩;have:=j2.out 0 i E;omega
     have j5:=M.size;rw[<-b9.out]at j5;have f3:=M.one1;rw[<-b9.out]at f3;refine Calls.mono (qxe fb N K (fc.toList.take (N*7)) w' m1 HU.out.max (by simp;omega) (λp x hx=>?_) f3) ?_
     ·have m3:p<N*7:=by have:=(eL.1 hx).1;simp at this;omega
      rw[List.getElem?_take_of_lt m3]at hx;rw[hb.cell (p:=⟨fb,p,none⟩) uj.lt.1];simp only[World.cell?,a8];simpa using hx
     ·rintro e w3 ⟨g,cap,rfl,ho,a1⟩;rcases ho.2 with⟨F,_⟩|⟨g',a9,j6,hv,a3,hg,hc,_,o9,ht⟩
      ·cases F
      ·cases hv;refine⟨g,cap,j6,rfl,by omega,hb.trans (a1.mono (by omega)),?_,hg,λi t j7=>?_⟩
       ·rw[a1.block _ (by omega),hw.heap];exact eN _ _
       ·obtain⟨cs,F,h2⟩:=M i t j7;have m4:i<N:=by rw[b9.out];exact(eL.1 j7).1
        refine⟨cs,F,λjj g7=>?_⟩;rw[<-h2 jj g7];have e1:(j6.toList.take (N*7))[i*7+jj]? =(fc.toList.take (N*7))[i*7+jj]?:=by rw[ht]
        rw[List.getElem?_take_of_lt (by omega),List.getElem?_take_of_lt (by omega)]at e1;simpa using e1
    have j8:Hid (∀i l,trs[i]? =some (.row l)->i∈is->∃g2 g8 zk zn C D zm za zl zc ya yl yc,fc[i*7+6]? =some (.slice (some ⟨g2,0,none⟩) n0 g8)/\TRp H' (nth j (.row l)) [.int .i64 zk,.int .i64 zn,.bool C,.string D,.int .i64 zm,.slice za zl zc,.slice ya yl yc]/\∃cs,H'.I g2=some (.cells cs 477 (0,0))/\cs[j*7]? =some (.int .i64 zk)/\cs[j*7+1]? =some (.int .i64 zn)/\cs[j*7+2]? =some (.bool C)/\cs[j*7+3]? =some (.string D)/\cs[j*7+4]? =some (.int .i64 zm)/\cs[j*7+5]? =some (.slice za zl zc)/\cs[j*7+6]? =some (.slice ya yl yc)):=λi l O R=>by
     have c6:l.length=n0:=by
      obtain⟨q,hq⟩:=List.mem_iff_getElem?.1 R;exact Q.out _ (List.mem_of_getElem? (i:=q) (by simp[qfn,hq,O,trN]))
     obtain⟨cs,F,h2⟩:=M i _ O;have h6:=h2 6 (by omega);cases F with
     |nil=>simp at c6;omega
     |row _ g2 n a9 b7 l4 a b hx d hm hs=>
      obtain⟨t,ht⟩:∃t,l[j]? =some t:=⟨_,eG (by omega)⟩;obtain⟨cc,j9,m5⟩:=hs.at j t ht;have p0:=hs.len;obtain⟨zk,zn,C,D,zm,za,zl,zc,ya,yl,yc,rfl⟩:=j9.form;have X:∀jj v,jj<7->[Value.int .i64 zk,.int .i64 zn,.bool C,.string D,.int .i64 zm,.slice za zl zc,.slice ya yl yc][jj]? =some v->b7[j*7+jj]? =some v:=λjj v g7 hv=>by
       have h3:=m5 jj g7;rw[<-hx,List.getElem?_take_of_lt (by omega)]at h3;rw[show b7[j*7+jj]? =b7.toList[j*7+jj]? by simp,h3];exact hv
      exact⟨g2,a9,zk,zn,C,D,zm,za,zl,zc,ya,yl,yc,by rw[h6,<-c6,<-b];rfl,by simpa[nth,ht]using j9,b7,a,X 0 _ (by omega) rfl,X 1 _ (by omega) rfl,X 2 _ (by omega) rfl,X 3 _ (by omega) rfl,X 4 _ (by omega) rfl,X 5 _ (by omega) rfl,X 6 _ (by omega) rfl⟩
    have m6:=hZ a8;have m7:=hZ uj;have g9:=hZ kj;have d9:=hZ sj;have m8:=hZ mj;have f4:=hZ c9;have h0:=hZ c5;have k0:=hZ c3;have m9:=hZ c4;have HJ:=hZ hj;have k1:=hZ B;have h4:=hZ W;have k3:Hid (∀(V:Wd) (g cap:Nat),Below r.heap.size r V->(V.setCell ⟨r.heap.size,0,none⟩ (.slice (some ⟨g,0,none⟩) N cap)).cell? ⟨br,0,none⟩=some (.slice (some ⟨gr,ro,none⟩) nis rc)):=λV g cap hV=>by
     have F:=j3.out (g9.out.below hV);have j5:=d9.out.size;rw[qbk (by show br≠r.heap.size;omega)];exact F
    clear a8 M uj kj sj mj c9 c5 c3 c4 hj B W;go_wp2_with (go_at_call 422;refine(m0.out _ (by exact⟨rfl,rfl,rfl,rfl⟩)).mono ?_;rintro e w3 ⟨g,cap,cc,rfl,a3,a1,e7,k4,f5⟩;refine Hid.out ?_)
    have i0:w3.cell? ⟨r.heap.size,0,none⟩=some (.slice (some ⟨fb,0,none⟩) N K):=by simp only[World.cell?,e7];rfl
    have p1:w3.frozen? ⟨r.heap.size,0,none⟩=false:=by simp[World.frozen?,e7]
    have p2:=k3.out w3 g cap a1;have h5:=hZ a3;have n1:=hZ a1;have n2:=hZ e7;have n3:=hZ k4;have k5:=hZ f5;clear a3 a1 e7 k4 f5;refine hZ ?_;go_wp2;go_loopg [25] nis (PlR G w0 H' r g r.heap.size N cap pm j mark trs is)
    case atStart=>
     have s3:Sp (λ_=>False) H' r H' w3:=Sp.below n1.out;have s4:Sp (λk=>k=r.heap.size) H' w3 H' (w3.setCell ⟨r.heap.size,0,none⟩ (.slice (some ⟨g,0,none⟩) N cap)):=Sp.set (a:=⟨r.heap.size,0,none⟩) rfl;have s5:=s3.then s4 (λk hk h=>by omega);have a3:=h5.out;refine⟨0,cc,by rw[<-s.out];omega,rfl,g9.out.go s5 nofun,s5,?_,by simpa[peel]using k5.out,?_⟩
     ·rw[qab (a:=⟨r.heap.size,0,none⟩) _ (by show g≠r.heap.size;omega)];exact n3.out
     ·simp[World.setCell,Array.getElem?_modify,n2.out]
    case round=>
     obtain⟨q,cq,hq,rfl,kq,sq,a4,a5,Y⟩:=hrel;obtain⟨A,rfl⟩:∃A,A=wr:=⟨_,rfl⟩;have p3:A.cell? ⟨r.heap.size,0,none⟩=some (.slice (some ⟨g,0,none⟩) N cap):=by simp only[World.cell?,Y];rfl
     have p4:A.cell? ⟨r.heap.size,1,none⟩=some (.int .i64 mark):=by simp only[World.cell?,Y];rfl
     have p5:A.cell? ⟨r.heap.size,2,none⟩=some (.pointer (some ⟨pm,0,none⟩)):=by simp only[World.cell?,Y];rfl
     by_cases n4:q<nis
     ·obtain⟨i,E⟩:∃i,is[q]? =some i:=⟨_,eG (by rw[<-s.out];exact n4)⟩;have R:=List.mem_of_getElem? E;have m4:=j2.out q i E;have rq:=l6.out kq q i E;obtain⟨l,O⟩:=f2.out i R;obtain⟨g2,g8,zk,zn,C,D,zm,za,zl,zc,ya,yl,yc,k6,hT,cs,S,b0,b1,b2,b3,b4,b5,b6⟩:=j8.out i l O R;have n5:fb<r.heap.size:=eW i8 d9.out.size;have h7:∀b o,b<r.heap.size->A.cell? ⟨b,o,none⟩=r.cell? ⟨b,o,none⟩:=λb o hb=>World.cell?_of_block (a:=⟨b,o,none⟩) (sq.blk hb (λh=>h))
      have p6:A.cell? ⟨w.heap.size,0,none⟩=some (.slice (some ⟨fb,0,none⟩) N K):=(h7 _ 0 d8).trans c0;have f6:A.cell? ⟨fb,i*7+6,none⟩=some (.slice (some ⟨g2,0,none⟩) n0 g8):=by
       rw[h7 _ _ n5];simp only[World.cell?,m6.out];exact k6
      have e0:A.cell? ⟨g2,j*7,none⟩=some (.int .i64 zk):=by rw[kq.cell S];exact b0
      have e1:A.cell? ⟨g2,j*7+1,none⟩=some (.int .i64 zn):=by rw[kq.cell S];exact b1
      have e2:A.cell? ⟨g2,j*7+2,none⟩=some (.bool C):=by rw[kq.cell S];exact b2
      have e3:A.cell? ⟨g2,j*7+3,none⟩=some (.string D):=by rw[kq.cell S];exact b3
      have e4:A.cell? ⟨g2,j*7+4,none⟩=some (.int .i64 zm):=by rw[kq.cell S];exact b4
      have e5:A.cell? ⟨g2,j*7+5,none⟩=some (.slice za zl zc):=by rw[kq.cell S];exact b5
      have e6:A.cell? ⟨g2,j*7+6,none⟩=some (.slice ya yl yc):=by rw[kq.cell S];exact b6
      have f7:=a5.size;rw[qjd,<-b9.out]at f7;have gc:∀o,o<N*7->A.cell? ⟨g,o,none⟩=some (cq[o]?.getD (.bool false)):=λo ho=>by
       simp only[World.cell?,a4];rw[Array.getElem?_eq_getElem (by omega)];rfl
      have d0:=gc (i*7) (by omega);have d1:=gc (i*7+1) (by omega);have d2:=gc (i*7+2) (by omega);have d3:=gc (i*7+3) (by omega);have d4:=gc (i*7+4) (by omega);have d5:=gc (i*7+5) (by omega);have d6:=gc (i*7+6) (by omega);have df:∀o,A.frozen? ⟨g,o,none⟩=false:=λo=>by simp[World.frozen?,a4]
      have p7:(q:Int)<(nis:Int):=by omega
      have o6:(i:Int)<(N:Int):=by omega
      have o7:(0:Int)<=(i:Int):=by omega
      have h8:Hid (∀w',Lk (set7 A g (i*7) (.int .i64 zk) (.int .i64 zn) (.bool C) (.string D) (.int .i64 zm) (.slice za zl zc) (.slice ya yl yc)) w'->PlR G w0 H' r g r.heap.size N cap pm j mark trs is (nis-(q+1)) (.int .i64 ((q:Int)+1)) w'):=λw' hw=>by
       have a3:=h5.out;have n6:Sp (λk=>k=g) H' A H' (set7 A g (i*7) (.int .i64 zk) (.int .i64 zn) (.bool C) (.string D) (.int .i64 zm) (.slice za zl zc) (.slice ya yl yc)):=Sp.set7 rfl;have s7:Sp (λk=>k=g) H' A H' w':=n6.trans (Sp.lk hw);have s8:=sq.then s7 (λk hk h=>by omega);refine⟨q+1,qgf cq (i*7) (.int .i64 zk) (.int .i64 zn) (.bool C) (.string D) (.int .i64 zm) (.slice za zl zc) (.slice ya yl yc),by rw[<-s.out];omega,by push_cast;rfl,g9.out.go s8 nofun,s8,by rw[hw.heap];exact qi8 a4,?_,?_⟩
       ·have e1:is.take (q+1)=is.take q++[i]:=by rw[List.take_add_one,E];rfl
        have e2:((trs[i]?).map (nth j)).getD (.row [])=nth j (.row l):=by rw[O];rfl
        rw[e1,qse,e2];exact a5.set (by omega) hT
       ·rw[s7.blk (eE.1 Y).1 (by omega)];exact Y
      have n7:=hZ hq;clear kq sq a4 a5 Y E R O hT S b0 b1 b2 b3 b4 b5 b6 k6 h7 gc f7 hq;go_wp2_with (fail)
      refine qal 12 (by kernel_rfl) (by kernel_rfl) ?_;simp only[List.take_succ_cons,List.take_zero,List.drop_succ_cons,List.drop_zero];repeat still_step
      refine wpStill_nil ?_;go_wp2;go_roundg (nis-(q+1))
      case measure=>have:=n7.out;have:=s.out;omega
      case rel=>
       refine h8.out _ ?_;unfold set7;exact qct _
     ·have k7:q=nis:=by have:=s.out;omega
      have p8:¬(q:Int)<(nis:Int):=by omega
      have e8:is.take q=is:=by rw[k7,s.out,List.take_length]
      rw[e8]at a5;have p9:=l7.out kq;have a3:=h5.out;have n8:pm<r.heap.size:=eW i7 d9.out.size;have h9:(qgh is m n0)[j]? =some (qkw is m j):=by simp[qgh,d7]
      have k8:(qgh is m n0).length=n0:=by simp[qgh]
      have ui:Us w0 H' A g N (peel j trs is) pm (c+qax dj) (.slice sa sn sc):=by
       refine⟨⟨cq,a4,a5⟩,by rw[qjd];exact b9.out,HU.out.max,m8.out.keep (sq.blk n8 (λh=>h)),m7.out.pl,m9.out,by omega,λg' a0=>?_⟩;have F:=h4.out g' a0;have h2:=(f4.out.lt a0).2;exact⟨by omega,F.2.1,F.2.2⟩
      have n9:=qd7 dj;have c6:(ds++dj).length<=c+qax dj:=by have:=HL.out;simp;omega
      have f8:(qgh is m n0).take (j+1)=(qgh is m n0).take j++[qkw is m j]:=by rw[List.take_add_one,h9];rfl
      have k9:qgh is m n0=(qgh is m n0).take j++qkw is m j::(qgh is m n0).drop (j+1):=by
       have e1:(qgh is m n0).drop j=qkw is m j::(qgh is m n0).drop (j+1):=by
        rw[List.drop_eq_getElem_cons (by rw[k8];exact d7)];congr 1;have:=eG (l:=qgh is m n0) (i:=j) (by rw[k8];exact d7);rw[h9]at this;exact(Option.some.inj this).symm
       rw[<-e1,List.take_append_drop]
      have i1:Hid (Calls prog f (#[.slice sa sn sc,.agg #[.slice (some ⟨g,0,none⟩) N cap,.int .i64 mark,.pointer (some ⟨pm,0,none⟩)]]++cp) A λe w'=>((∃p,e=.panicked p)/\qux G w0 H w pm c lo mv ds (qbp (qgh is m n0) mark trs) e w')\/(∃x y z,e=.returned (.slice x y z)/\qxl G w0 H w pm c lo mv ds fb N K mark trs (qgh is m n0) (n0-(j+1)) (.slice x y z) (.int .i64 ((j:Int)+1)) w')):=by
       refine Calls.mono (g4.out G w0 H' A mark (peel j trs is) g N cap pm (c+qax dj) lo (.slice sa sn sc) (ds++dj) HG.out kq ui (f4.out.step sq (λ_ _ h=>h)) c6 (j1.out n0 Q.out j d7)) ?_;rintro e w' (⟨rfl,o0,o1⟩|⟨H2,q0,o2,F,h2,rfl,⟨x,y,z,rfl⟩,k2,s2,m2,o3,o4⟩)
       ·refine .inl ⟨⟨_,rfl⟩,.inl ⟨rfl,o0,λes he=>?_⟩⟩;rw[k9,qdy,k0.out]at he;simp only[qbp,qkw]at he;cases hq:m.mks mark (peel j trs is)with
        |none=>rw[hq]at he;simp at he
        |some a=>
         rw[hq]at he;have:=o1 a hq;cases hq2:qbp ((qgh is m n0).drop (j+1)) mark trs with
         |none=>rw[hq2]at he;simp at he
         |some a2=>
          rw[hq2]at he;obtain rfl:dj++(a++a2)=es:=by simpa using he
          rw[qb1,qb1];omega
       ·refine .inr ⟨x,y,z,rfl,j+1,H2,dj++o2,by omega,by push_cast;rfl,?_,?_,k2,?_,?_,?_,?_,⟨_,_,_,rfl⟩,?_⟩
        ·rw[f8,qdy,k0.out];simp[qbp,qkw,F]
        ·rw[qb1];omega
        ·refine(d9.out.then sq (λ_ _ h=>h.elim)).then s2 λq' q1 h=>?_
         rcases h with h|h
         ·exact .inl h
         ·rcases h0.out q' h with h|h
          ·exact .inr h
          ·omega
        ·rw[qb1,<-Nat.add_assoc];exact m2
        ·rw[<-List.append_assoc];exact o3
        ·intro g' a0;rcases o4 g' a0 with h|h
         ·exact h0.out g' h
         ·exact .inr (eW (eW d8 sq.size) h)
        ·rw[s2.blk (eW d8 sq.size) ?_,sq.blk d8 (λh=>h)]
         ·exact k1.out
         ·rintro(h|h)
          ·omega
          ·rcases h0.out _ h with h|h
           ·have:=(g5.out.lt h).2;omega
           ·omega
      clear kq sq a4 a5 Y ui k9 f8 h9 k7 e8 hq c6 n9;go_wp2_with (go_at_fn f;refine i1.out.mono ?_;rintro e w4 (⟨⟨p,rfl⟩,hq⟩|⟨x,y,z,rfl,hr⟩);(exact⟨rfl,hq⟩);have l0:=hZ hr;clear hr)
      go_roundg (n0-(j+1))
      case measure=>have:=HJ.out;simp only[qgh,List.length_map,List.length_range]at this;omega
      case rel=>exact l0.out
   ·have q2:¬(j:Int)<(n0:Int):=by omega
    have HF:Hid (qux G w0 H w pm c lo mv ds (qbp (qgh is m n0) mark trs) (.returned (.slice sa sn sc)) r):=by
     have e8:(qgh is m n0).take j=qgh is m n0:=List.take_of_length_le (by simp[qgh];omega);rw[e8]at c3;exact .inr ⟨H',_,dj,c3,c4,rfl,⟨_,_,_,rfl⟩,kj,sj,mj,c9,λg hg=>(c5 g hg).imp (λh=>h) (λh=>Nat.le_of_lt h)⟩
    clear kj sj mj c9 c5 c3 c4 B hj;go_wp2;go_ret;exact HF.out
 ·rw[qoa g6.out J];have Q:=hZ J;have U:Hid (∀w',Below w.heap.size w w'->Calls prog 421 #[.slice (some ⟨gr,ro,none⟩) nis rc,.slice (some ⟨fb,0,none⟩) N K] w' λe w2=>e=.panicked (qan (qap 4))/\Below w0.heap.size w0 w2):=λw' hw=>Calls.mono (P.out w' hw) λe w2 ⟨F,h2⟩=>by
   rcases h2 with⟨h,_⟩|⟨_,h⟩
   ·exact absurd h Q.out
   ·exact⟨h,((HK.out.below hw).below F).bel⟩
  clear J P;go_enter func420,ntmps420
  go_wp2_with (go_at_call 421;refine(U.out _ (qaa _ _)).mono ?_;rintro e w2 ⟨rfl,c8⟩;(exact⟨rfl,.inl ⟨rfl,c8,nofun⟩⟩))
structure RowsI (H:Gh) (w:Wd) (rb n:Nat) (rc:Array Vu) (tss:Nat->List Tr):Prop where
 row:w.heap[rb]? =some (.cells rc 477 (0,0))
 loose:H.I rb=none
 size:rc.size=n*7
 zero:∀i,i<n->∀j,j<6->rc[i*7+j]? =qet[j]?
 own:∀i,i<n->∃v xs,rc[i*7+6]? =some v/\w.ownsRow (rb+1) 477 7 v (tss i).length xs/\TRps H (tss i) xs/\∀g,v.ownBlock=some g->H.I g=none
 dis:∀i k v u,i<n->k<n->i≠k->rc[i*7+6]? =some v->rc[k*7+6]? =some u->∀g,v.ownBlock=some g->u.ownBlock≠some g
theorem RowsI.step{L:Nat->Prop}{tss:Nat->List Tr}(r:RowsI H w rb n rc tss)(s:Sp L H w H' w')(d:∀b,rb<=b->¬L b):RowsI H' w' rb n rc tss:=by
 refine⟨by rw[s.blk (eE.1 r.row).1 (d _ (eR _))];exact r.row,s.loose (eE.1 r.row).1 r.loose,r.size,r.zero,λi e=>?_,r.dis⟩;obtain⟨v,xs,f,c,h,j⟩:=r.own i e;exact⟨v,xs,f,qb7 c λg a=>s.blk (c.lt g a).2 (d g (by have:=(c.lt g a).1;omega)),h.mono s.ext.le,λg a=>s.loose (c.lt g a).2 (j g a)⟩
theorem RowsI.push{w5:Wd}{len cap:Nat}{f:Nat->List Tr}{v:Vu}{t:Tr}{c0 c1 c2 c3 c4 c5 c6:Vu}(r:RowsI H w rb n rc f)(hi:i<n)(hv:rc[i*7+6]? =some v)(M:w.ownsRow (rb+1) 477 7 v len xs)(d:(f i).length=len)(hT:TRps H (f i) xs)(hI:∀g,v.ownBlock=some g->H.I g=none)(N:∀b,w.heap.size<=b->H.I b=none)
  (O:Below w.heap.size w W)(hg:W.grownBy w3 v.ownBlock)(P:w3.ownsRow (rb+1) 477 7 (.slice (some ⟨g,0,none⟩) (len+1) cap) (len+1) (xs++(qet++[.slice none 0 0])))(K:v.ownBlock=some g\/g=W.heap.size)(ht:TRp H t [c0,c1,c2,c3,c4,c5,c6])
  (Q:Lk ((set7 w3 g (len*7) c0 c1 c2 c3 c4 c5 c6).setCell ⟨rb,i*7+6,none⟩ (.slice (some ⟨g,0,none⟩) (len+1) cap)) w5):
  RowsI H w5 rb n (rc.setIfInBounds (i*7+6) (.slice (some ⟨g,0,none⟩) (len+1) cap)) (λq=>if q=i then f i++[t]else f q)/\Sp (λk=>k=rb\/v.ownBlock=some k) H w H w5:=by
 have R:=(eE.1 r.row).1;have a2:=O.size;have a0:rb<g:=by
  rcases K with h|h
  ·have:=(M.lt g h).1;omega
  ·omega
 have s7:Sp (λk=>k=g) H w3 H (set7 w3 g (len*7) c0 c1 c2 c3 c4 c5 c6):=Sp.set7 rfl;have s8:Sp (λk=>k=rb) H (set7 w3 g (len*7) c0 c1 c2 c3 c4 c5 c6) H ((set7 w3 g (len*7) c0 c1 c2 c3 c4 c5 c6).setCell ⟨rb,i*7+6,none⟩ (.slice (some ⟨g,0,none⟩) (len+1) cap)):=Sp.set (a:=⟨rb,i*7+6,none⟩) rfl;have s0:Sp (λk=>k=rb\/v.ownBlock=some k) H w H w3:=(Sp.below O).trans (Sp.grown hg λb hb=>.inr hb);have s1:Sp (λk=>k=rb\/v.ownBlock=some k) H w H w5:=by
  refine((s0.then s7 λk S h=>?_).then s8 λk _ h=>.inl h).trans (Sp.lk Q);rcases K with h'|h'
  ·exact .inr (by rw[h];exact h')
  ·omega
 have l:w3.heap[rb]? =some (.cells rc 477 (0,0)):=by
  rw[hg.block rb (by omega) (λe=>by have:=(M.lt rb e.symm).1;omega),O.block _ R];exact r.row
 refine⟨⟨?_,r.loose,by simp[r.size],λq o j hj=>?_,λq o=>?_,λq k u z o S hne y s gg c=>?_⟩,s1⟩
 ·rw[Q.heap];have:(set7 w3 g (len*7) c0 c1 c2 c3 c4 c5 c6).heap[rb]? =some (.cells rc 477 (0,0)):=by
   rw[s7.blk (eE.1 l).1 (by omega)];exact l
  simp[World.setCell,Array.getElem?_modify,this]
 ·rw[Array.getElem?_setIfInBounds_ne (by omega)];exact r.zero q o j hj
 ·by_cases e:q=i
  ·subst e;refine⟨_,xs++[c0,c1,c2,c3,c4,c5,c6],by rw[Array.getElem?_setIfInBounds_self_of_lt (by rw[r.size];omega)],?_,?_,λgg c=>?_⟩
   ·rw[if_pos rfl];rcases P.2 with⟨h,_⟩|⟨g',a1,m,T,hb,U,hc,hm,hs,V⟩
    ·cases h
    ·cases T;have A:=M.1;refine⟨by simp[d,A];omega,.inr ⟨g,cap,qgf m (len*7) c0 c1 c2 c3 c4 c5 c6,by simp[d],by omega,?_,by simpa[d]using hc,hm,by rw[qfe];exact hs,?_⟩⟩
     ·rw[Q.heap,qab (a:=⟨rb,q*7+6,none⟩) _ (by show g≠rb;omega)];exact qi8 U
     ·have a3:(len+1)*7<=m.size:=by rw[hs];exact Nat.mul_le_mul_right _ hc
      apply List.ext_getElem?;intro p;have X:(f q++[t]).length*7=(len+1)*7:=by simp[d]
      rw[X];by_cases hp:p<(len+1)*7
      ·rw[List.getElem?_take_of_lt hp,show(qgf m (len*7) c0 c1 c2 c3 c4 c5 c6).toList[p]? =(qgf m (len*7) c0 c1 c2 c3 c4 c5 c6)[p]? by simp];by_cases Y:p<len*7
       ·rw[qff (.inl Y),eA (by omega)];have e3:(m.toList.take ((len+1)*7))[p]? =(xs++(qet++[Value.slice none 0 0]))[p]?:=by rw[V]
        rw[List.getElem?_take_of_lt hp,eA (by omega)]at e3;rw[<-e3];simp
       ·rw[show p=len*7+(p-len*7) by omega,qi9 (by omega) (by omega),eB (by omega)];congr 1;omega
      ·rw[List.getElem?_eq_none (by simp[qfe];omega),List.getElem?_eq_none (by simp[A];omega)]
   ·rw[if_pos rfl];exact hT.snoc ht
   ·obtain rfl:g=gg:=by simpa[Value.ownBlock]using c
    rcases K with h|h
    ·exact hI _ h
    ·exact N _ (by omega)
  ·obtain⟨u,ys,B,C,h3,h4⟩:=r.own q o;refine⟨u,ys,by rw[Array.getElem?_setIfInBounds_ne (by omega)];exact B,?_,by rw[if_neg e];exact h3,h4⟩;rw[if_neg e];refine qb7 C λgg c=>s1.blk (C.lt gg c).2 ?_
   rintro(h|h)
   ·have:=(C.lt gg c).1;omega
   ·exact r.dis i q v u hi o (Ne.symm e) hv B gg h c
 ·have D:∀x,x<n->x≠i->∀L,rc[x*7+6]? =some L->L.ownBlock≠some g:=λx E F L G J=>by
   rcases K with h|h
   ·exact r.dis i x v L hi E (Ne.symm F) hv G g h J
   ·obtain⟨u',ys,B,C,_⟩:=r.own x E;rw[G]at B;cases B;have:=(C.lt g J).2;omega
  by_cases e:q=i
  ·subst e;rw[Array.getElem?_setIfInBounds_self_of_lt (by rw[r.size];omega)]at y;cases y;rw[Array.getElem?_setIfInBounds_ne (by omega)]at s;obtain rfl:g=gg:=by simpa[Value.ownBlock]using c
   exact D k S (Ne.symm hne) z s
  ·rw[Array.getElem?_setIfInBounds_ne (by omega)]at y;by_cases e2:k=i
   ·subst e2;rw[Array.getElem?_setIfInBounds_self_of_lt (by rw[r.size];omega)]at s;cases s;intro Z;obtain rfl:g=gg:=by simpa[Value.ownBlock]using Z
    exact D q o hne u y c
   ·rw[Array.getElem?_setIfInBounds_ne (by omega)]at s;exact r.dis q k u z o S hne y s gg c
theorem Wk.fixes{G H:Gh}{w0 w:Wd}(k:Wk G w0 H w):∀(bs:List Nat),(∀b,b∈bs->w0.heap.size<=b/\H.I b=none/\b<w.heap.size)->∃H',Wk G w0 H' w/\H.le H'/\H'.J=H.J/\H'.E=H.E/\H'.B=H.B/\H'.W=H.W/\H'.F=H.F/\(∀b,b∈bs->H'.I b=w.heap[b]?)/\∀b,b∉bs->H'.I b=H.I b
 | [],_=>⟨H,k,Gh.le.refl _,rfl,rfl,rfl,rfl,rfl,λb f=>by simp at f,λ_ _=>rfl⟩
 |b::r,h=>by
  obtain⟨g,l,d,m,n,p,q,hF,i,j⟩:=k.fixes r λc a=>h c (by simp[a])
  by_cases f:b∈r
  ·exact⟨g,l,d,m,n,p,q,hF,λc a=>(List.mem_cons.1 a).elim (λe=>e▸i b f) (λe=>i c e),λc a=>j c λe=>a (by simp[e])⟩
  ·obtain⟨t,u,v⟩:=h b (by simp);have hI:g.I b=none:=by rw[j b f];exact u
   obtain⟨o,s⟩:∃o,w.heap[b]? =some o:=⟨_,Array.getElem?_eq_getElem v⟩;refine⟨g.add b o,l.fix t hI s,d.trans (Gh.le_add hI),m,n,p,q,hF,λc a=>?_,λc a=>?_⟩
   ·by_cases e:c=b
    ·subst e;rw[s];exact if_pos rfl
    ·exact(if_neg e).trans (i c ((List.mem_cons.1 a).resolve_left e))
   ·exact(if_neg (λe=>a (by simp[e]))).trans (j c λe=>a (by simp[e]))
theorem RowsI.done{d:Nat->List Tr}(k:Wk G w0 H w)(r:RowsI H w rb n rc d)(R:w0.heap.size<=rb)(o:∀i,i<n->(d i).length<=1000000):
  ∃H',Wk G w0 H' w/\H.le H'/\H'.J=H.J/\H'.E=H.E/\H'.B=H.B/\H'.W=H.W/\H'.F=H.F/\(∀b,b<=rb->H'.I b=H.I b)/\∀i,i<n->∃xs,TRp H' (.row (d i)) xs/\∀j,j<7->rc[i*7+j]? =xs[j]?:=by
 obtain⟨H',y,l,z,A,C,D,hF,K,L⟩:=k.fixes ((List.range n).filterMap λi=>(rc[i*7+6]?).bind Value.ownBlock) λb p=>by
  obtain⟨i,a,c⟩:=List.mem_filterMap.1 p;have e:i<n:=List.mem_range.1 a;obtain⟨v,xs,f,m,q,s⟩:=r.own i e;rw[f]at c;have c:v.ownBlock=some b:=c;have:=m.lt b c;exact⟨by omega,s b c,this.2⟩
 refine⟨H',y,l,z,A,C,D,hF,λb p=>L b λo=>?_,λi a=>?_⟩
 ·obtain⟨i,a,c⟩:=List.mem_filterMap.1 o;have e:i<n:=List.mem_range.1 a;obtain⟨v,xs,f,m,q,s⟩:=r.own i e;rw[f]at c;have:=m.lt b c;omega
 ·obtain⟨v,xs,f,m,q,s⟩:=r.own i a;refine⟨qet++[v],?_,λj S=>?_⟩
  ·rcases m.2 with⟨h,M⟩|⟨g,cap,t,x,p,N,O,T,U,P⟩
   ·rw[h];rw[List.eq_nil_of_length_eq_zero M];exact .nil
   ·rw[x];have u:H'.I g=w.heap[g]?:=K g (List.mem_filterMap.2 ⟨i,List.mem_range.2 a,by rw[f,x];rfl⟩);exact .row _ g _ cap t xs (u.trans N) rfl P O (o i a) (q.mono l)
  ·by_cases Q:j=6
   ·subst Q;rw[f];rfl
   ·rw[r.zero i a j (by omega),eA (by simp[qet];omega)]
theorem q4m(n i j:Nat)(b:i<n)(c:j<7):(madeCells #[.int .i64 0,.int .i64 0,.bool false,.string ⟨#[]⟩,.int .i64 0,.slice none 0 0,.slice none 0 0] (n*7))[i*7+j]? =(qet++[Value.slice none 0 0])[j]?:=by
 unfold madeCells;rw[Array.getElem?_map];have a:(Array.range (n*7))[i*7+j]? =some (i*7+j):=by
  rw[Array.getElem?_eq_getElem (by simp;omega)];simp
 rw[a];have d:(i*7+j) % 7=j:=by omega
 rcases j with _|_|_|_|_|_|_|j <;> first|omega|simp[qet,Nat.add_mod]
theorem RowsI.start(d:H.I rb=none)(e:w.heap[rb]? =some (.cells rc 477 (0,0)))(f:rc.size=n*7)(b:∀i,i<n->∀j,j<7->rc[i*7+j]? =(qet++[Value.slice none 0 0])[j]?):RowsI H w rb n rc (λ_=>[]):=by
 refine⟨e,d,f,λi a j l=>?_,λi a=>⟨.slice none 0 0,[],b i a 6 (by omega),⟨rfl,.inl ⟨rfl,rfl⟩⟩,.nil,nofun⟩,λi k v u a m _ c o g h=>?_⟩
 ·rw[b i a j (by omega),eA (by simp[qet];omega)]
 ·rw[b i a 6 (by omega)]at c;obtain rfl:Value.slice none 0 0=v:=by simpa[qet]using c
  cases h
theorem qr3{P:Program}(w:Wd)(n q ty b:TypeId)(g o c f:Nat)(a:Addr)(d h:Nat)(e:Array Vu)(t:TypeId)(cs:List Vu)
  (r:P.underlying n=some (.slice b))(p:(P.info? b).map (·.size)=some 7)
  (s:w.heap[g]? =some (.cells e t (0,0)))(u:cs.length=Nat.min d c*7)
  (k:∀j v,cs[j]? =some v->w.cell? (a.add j)=some v)(l:o+cs.length<=e.size)(x:∀v∈cs,v.oneCell'=true):
  (Builtin.copy_ #[n,q] ty #[.slice (some ⟨g,o,none⟩) c f,.slice (some a) d h]).run P w=
   .ok (goInt (Nat.min d c)) (w.setRow g (e.toList.take o++cs++e.toList.drop (o+cs.length)).toArray):=by
 have y:=run_loadCells_list (P:=P) w a cs k;have m:=run_storeCells_at P g o t cs 0 e w s (by simpa using l) x;cases hq:P.info? b with
 |none=>simp[hq]at p
 |some i=>
  have z:i.size=7:=by simpa[hq]using p
  simp[Builtin.copy_,run_underlying r,Builtin.lenOf,Builtin.firstCells,sizeOf,typeInfo,hq,z,<-u,y,m]
theorem qks{P:Program}(w:Wd)(g h ty b:TypeId)(d:OA)(a:Addr)(c e f:Nat)(j:P.underlying g=some (.slice b))(k:(P.info? b).map (·.size)=some 7):
  (Builtin.copy_ #[g,h] ty #[.slice d c e,.slice (some a) 0 f]).run P w=.ok (goInt 0) w:=by
 cases hq:P.info? b with
 |none=>simp[hq]at k
 |some i=>
  have l:∀(x:Addr),(loadCells x 0).run P w=.ok #[] w:=λx=>by simpa using run_loadCells_list (P:=P) w x [] (by simp)
  cases d <;> simp[Builtin.copy_,run_underlying j,Builtin.lenOf,Builtin.firstCells,sizeOf,typeInfo,hq,storeCells,l]
theorem qcs(W:Wd):Lk W W:=⟨rfl,rfl,rfl,rfl⟩
end Go.Proofs.YtldaocpojcfljaaGreatDoor
