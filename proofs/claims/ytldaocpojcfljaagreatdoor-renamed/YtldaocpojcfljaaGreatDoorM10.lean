import Derived.Test.YtldaocpojcfljaaGreatDoorM09
import Derived.ArgAppend
set_option maxRecDepth 100000
set_option maxHeartbeats 4000000
namespace Go.Proofs.YtldaocpojcfljaaGreatDoor
open Tryz hiding parts
open Go.RowKit Go.Shelf
open Sc
variable {G H H':Gh}{P:Program}{b bf fb i k lo nb pb tb yc yl zc zl:Nat}{ba ya za:OA}{is:List Nat}{m zk zm zn:Int}{o:Obj}{t:BA}{w w' w0:Wd}
def col(bs:List qdq)(i:Nat):List Tr:=bs.map λt=>(t[i]?.map (·.2)).getD (.row [])
theorem qxd(bs:List qdq)(b:qdq)(i:Nat):col (bs++[b]) i=col bs i++[(b[i]?.map (·.2)).getD (.row [])]:=by simp[col]
theorem qih(a:List Bs)(sc:qaj)(p q:Dt)(c:qam q=true)(l:List Dt):qau a sc [p,q] l=match l.mapM (λd=>qaq a sc p d)with
  |none=>none
  |some rows=>some ((((qao a 0 [] p).getD []).zipIdx).map λb=>(b.1.1,.row (col rows b.2))):=by
 simp only[qau,c,List.isEmpty_nil,Bool.and_self,if_true];cases l.mapM (λd=>qaq a sc p d) <;> rfl
theorem qlc{α β:Type}(f:α->Option β):∀(l:List α) (x:α),(l++[x]).mapM f=match l.mapM f with
  |none=>none
  |some a=>(f x).map λy=>a++[y]
 | [],x=>by simp;cases f x <;> rfl
 |y::l,x=>by
  simp only[List.cons_append,List.mapM_cons,qlc f l x];cases f y with
  |none=>rfl
  |some a=>
   cases l.mapM f with
   |none=>rfl
   |some b=>cases f x <;> simp
theorem qst{α β:Type}(f:α->Option β){l:List α}{x:α}(b:x∈l)(h:f x=none):l.mapM f=none:=by
 induction l with
 |nil=>simp at b
 |cons y r c=>
  simp only[List.mapM_cons];rcases List.mem_cons.1 b with e|e
  ·subst e;rw[h];rfl
  ·cases f y with
   |none=>rfl
   |some a=>rw[c e];rfl
theorem qjk{α β:Type}(f:α->Option β):∀{l:List α} {r:List β},l.mapM f=some r->r.length=l.length
 | [],r,h=>by simp at h;subst h;rfl
 |x::l,r,h=>by
  simp only[List.mapM_cons]at h;cases hx:f x with
  |none=>rw[hx]at h;cases h
  |some a=>
   rw[hx]at h;cases hl:l.mapM f with
   |none=>rw[hl]at h;cases h
   |some b=>
    rw[hl]at h;obtain rfl:a::b=r:=by simpa using h
    simp[qjk f hl]
theorem qvk(w:Wd)(a b:Addr)(u v:Vu)(h:a.block≠b.block):(w.setCell a u).setCell b v=(w.setCell b v).setCell a u:=by
 unfold World.setCell;congr 1;apply Array.ext_getElem?;intro i;simp only[Array.getElem?_modify];by_cases d:a.block=i
 ·by_cases c:b.block=i
  ·omega
  ·simp[d,c]
 ·by_cases c:b.block=i
  ·simp[d,c]
  ·simp[d,c]
theorem qkr(w:Wd)(g o rb q:Nat)(u v0 v1 v2 v3 v4 v5 v6:Vu)(h:rb≠g):set7 (w.setCell ⟨rb,q,none⟩ u) g o v0 v1 v2 v3 v4 v5 v6=(set7 w g o v0 v1 v2 v3 v4 v5 v6).setCell ⟨rb,q,none⟩ u:=by
 unfold set7;have c:∀(W:Wd) (k:Nat) (x:Vu),(W.setCell ⟨rb,q,none⟩ u).setCell ⟨g,k,none⟩ x=(W.setCell ⟨g,k,none⟩ x).setCell ⟨rb,q,none⟩ u:=λW k x=>qvk W _ _ _ _ h
 rw[c,c,c,c,c,c,c]
def RoR(G:Gh)(w0:Wd)(H:Gh)(w:Wd)(fb _N at' n:Nat)(fc:Array Vu)(lits:List Bs)(sc:qaj)(p:Dt)(l:List Dt)(k:Nat)(s18:Vu)(wr:Wd):Prop:=
 ∃(j:Nat) (H':Gh) (fj rc:Array Vu) (bs:List qdq),j+k=l.length/\s18=.int .i64 (j:Int)/\(l.take j).mapM (λd=>qaq lits sc p d)=some bs/\Wk G w0 H' wr/\Sp (λb=>b=fb) H w H' wr/\wr.heap[fb]? =some (.cells fj 477 (0,0))/\fj.size=fc.size/\(∀k,(k<at'*7\/(at'+n)*7<=k)->fj[k]? =fc[k]?)/\RowsI H' wr w.heap.size n rc (col bs)
def RiR(G:Gh)(w0:Wd)(H:Gh)(w:Wd)(fb n:Nat)(H2:Gh)(f2:Array Vu)(bs:List qdq)(b:qdq)(k:Nat)(s30:Vu)(wi:Wd):Prop:=
 ∃(i:Nat) (rc:Array Vu),i+k=n/\s30=.int .i64 (i:Int)/\Wk G w0 H2 wi/\Sp (λb=>b=fb) H w H2 wi/\wi.heap[fb]? =some (.cells f2 477 (0,0))/\RowsI H2 wi w.heap.size n rc (λq=>if q<i then col (bs++[b]) q else col bs q)
@[reducible] def SRow(bf fb at' i:Nat)(zk zn:Int)(ztr:Bool)(ztx:BA)(zm:Int)(za:OA)(zl zc:Nat)(ya:OA)(yl yc:Nat)(w':Wd):Prop:=w'.cell? ⟨bf,0,none⟩=some (.int .i64 (at':Int))/\w'.cell? ⟨fb,(at'+i)*7,none⟩=some (.int .i64 zk)/\w'.cell? ⟨fb,(at'+i)*7+1,none⟩=some (.int .i64 zn)/\w'.cell? ⟨fb,(at'+i)*7+2,none⟩=some (.bool ztr)/\w'.cell? ⟨fb,(at'+i)*7+3,none⟩=some (.string ztx)/\w'.cell? ⟨fb,(at'+i)*7+4,none⟩=some (.int .i64 zm)/\w'.cell? ⟨fb,(at'+i)*7+5,none⟩=some (.slice za zl zc)/\w'.cell? ⟨fb,(at'+i)*7+6,none⟩=some (.slice ya yl yc)
theorem SRow.keep{j:Nat}{l:Bool}{m:BA}(h:SRow bf fb j i zk zn l m zm za zl zc ya yl yc w)(n:w'.heap[bf]? =w.heap[bf]?)(p:w'.heap[fb]? =w.heap[fb]?):SRow bf fb j i zk zn l m zm za zl zc ya yl yc w':=by
 obtain⟨a,b,c,d,e,f,g,k⟩:=h;have e1:∀o,w'.cell? ⟨bf,o,none⟩=w.cell? ⟨bf,o,none⟩:=λo=>World.cell?_of_block (a:=⟨bf,o,none⟩) n
 have e2:∀o,w'.cell? ⟨fb,o,none⟩=w.cell? ⟨fb,o,none⟩:=λo=>World.cell?_of_block (a:=⟨fb,o,none⟩) p
 exact⟨(e1 _).trans a,(e2 _).trans b,(e2 _).trans c,(e2 _).trans d,(e2 _).trans e,(e2 _).trans f,(e2 _).trans g,(e2 _).trans k⟩
theorem SRow.put{c:Nat}{d:Bool}{e:BA}(h:SRow bf fb c i zk zn d e zm za zl zc ya yl yc w)(f:b≠fb)(g:b≠bf)(o:Nat)(v:Vu):SRow bf fb c i zk zn d e zm za zl zc ya yl yc (w.setCell ⟨b,o,none⟩ v):=
 h.keep (qab (a:=⟨b,o,none⟩) _ (Ne.symm g)) (qab (a:=⟨b,o,none⟩) _ (Ne.symm f))
theorem q4n(G0:Gh)(s:List Bs)(at' n bc be bf tc te tf:Nat)(p q:Dt)(hq:qam q=true)(v:Vu)(hv:Mtc G0 at' n DV (λsc d=>qaq s sc p d) v)(h0:G0.I bc=some (.cells #[.int .i64 (n:Int)] tc (0,0)))(h6:G0.I be=some (.cells #[v] te (0,0)))(h8:G0.I bf=some (.cells #[.int .i64 (at':Int)] tf (0,0)))(c6:((qao s 0 [] p).getD []).length=n):
  Mtc G0 at' n LV (λsc l=>qau s sc [p,q] l) (.func (.func 402) #[] #[bp bc,bp be,bp bf]):=by
 refine⟨402,#[bp bc,bp be,bp bf],rfl,q5e,λG w0 H w ab sc l y fb N fc hG hF k hA f k8=>?_⟩;obtain⟨a,len,cap,rfl,hr,h9⟩:=hA;obtain⟨fe,ce,rfl,i2,hv⟩:=hv;obtain⟨res,a7⟩:∃res,qau s sc [p,q] l=res:=⟨_,rfl⟩;have c7:=hZ ((qih s sc p q hq l).symm.trans a7);simp only[a7];clear a7;obtain⟨i0,hi,c8,c9,d0⟩:=info_parts qjs;have o3:=f.max;have k9:i0.bytes*n<=281474976710656:=by rw[d0];omega
 have l0:n<=maxLen:=by unfold maxLen;omega
 have cc:=k.box hG h0;have i3:∀{H':Gh} {w':Wd},Wk G w0 H' w'->w'.cell? ⟨be,0,none⟩=some (.func (.func fe) #[] ce):=λk'=>k'.box hG h6
 have i4:∀{H':Gh} {w':Wd},Wk G w0 H' w'->w'.cell? ⟨bf,0,none⟩=some (.int .i64 (at':Int)):=λk'=>k'.box hG h8
 have d1:=hr.len;have o4:len<=30000:=by obtain⟨_,_,_,_,_,h,_⟩:=hr;exact h
 have p2:=k.bel.size;have l1:=f.lt;have HV:=hZ hv;have HF:=hZ hF;have HK:=hZ k;have HR:=hZ hr;have l2:=hZ h9;have T:=hZ f;have HG:=hZ hG;have M:=hZ d1;have d2:=hZ c6;have l3:Hid (∀{H':Gh} {w':Wd},Wk G w0 H' w'->w'.cell? ⟨be,0,none⟩=some (.func (.func fe) #[] ce)):=i3;have e0:Hid (∀{H':Gh} {w':Wd},Wk G w0 H' w'->w'.cell? ⟨bf,0,none⟩=some (.int .i64 (at':Int))):=i4;have eg:∀args w,(callFunc fe args).run prog w=.ok (.enter fe args) w:=i2;clear hv hF k hr h9 f hG d1 c6 h0 h6 h8 i3 i4 i2 hq;show Calls prog 402 #[.slice a len cap,bp ab,.slice (some ⟨fb,0,none⟩) N N,bp bc,bp be,bp bf] w _;go_enter func402,ntmps402
 go_wp2_with (at_make;refine wpList_make_full _ rfl _ _ 407 rfl 0 477 i0 _ 7 underlying407 hi c8 c9 .i64 .i64 (n:Int) (n:Int) n rfl rfl rfl rfl k9 l0 (Nat.zero_le _) ?_)
 intro w3 d3 a8;have i5:Below w.heap.size w w3:=(Below.refl _ _).grown a8 (eR _) nofun;have l4:Hid (∃Y,RowsI H w3 w.heap.size n Y (col [])):=by
  rcases d3.2 with⟨Z,_⟩|⟨g',d4,a9,hv,_,hg,_,_,hs,ht⟩
  ·cases Z
  ·cases hv;refine⟨a9,RowsI.start (HK.out.fresh (eR _)) hg hs λi hi j hj=>?_⟩;rw[<-q4m n i j hi hj];have e1:(a9.toList.take (n*7))[i*7+j]? =(madeCells #[.int .i64 0,.int .i64 0,.bool false,.string ⟨#[]⟩,.int .i64 0,.slice none 0 0,.slice none 0 0] (n*7)).toList[i*7+j]?:=by rw[ht]
   rw[List.getElem?_take_of_lt (by omega)]at e1;simpa using e1
 have e3:=hZ i5;clear d3 a8 i5;go_wp2;go_loopg [18] len (RoR G w0 H w fb N at' n fc s sc p l)
 case atStart=>
  obtain⟨Y,l5⟩:=l4.out;exact⟨0,H,fc,Y,[],by rw[M.out];omega,rfl,rfl,HK.out.below e3.out,Sp.below e3.out,(T.out.below e3.out).row,rfl,λ_ _=>rfl,l5⟩
 case round=>
  obtain⟨j,H',fj,Y,bs,hj,rfl,U,kj,L,Q,R,O,r⟩:=hrel;obtain⟨wo,rfl⟩:∃wo,wo=wr:=⟨_,rfl⟩;by_cases i6:j<len
  ·have e4:j<l.length:=by rw[<-M.out];exact i6
   obtain⟨d,hd⟩:∃d,l[j]? =some d:=⟨_,eG e4⟩;obtain⟨g,o,p3,rfl,l6,b0⟩:=HR.out.mem (by omega);obtain⟨⟨xk,xn,b7,b8,xm,xa,xl,xc⟩,e5,a4⟩:=b0 j d hd;have V:=a4 wo (kj.imm (L.ext.le.I l6));have x0:wo.cell? ⟨g,o+j*6,none⟩=some (.int .i64 xk):=V 0 (by omega);have x1:wo.cell? ⟨g,o+j*6+1,none⟩=some (.int .i64 xn):=V 1 (by omega);have x2:wo.cell? ⟨g,o+j*6+2,none⟩=some (.bool b7):=V 2 (by omega);have x3:wo.cell? ⟨g,o+j*6+3,none⟩=some (.string b8):=V 3 (by omega);have x4:wo.cell? ⟨g,o+j*6+4,none⟩=some (.int .i64 xm):=V 4 (by omega);have x5:wo.cell? ⟨g,o+j*6+5,none⟩=some (.slice xa xl xc):=V 5 (by omega);have l7:qaf d<=1000000000000:=by
    have Z:=qe0 l j e4;have h2:=qhb l (j+1);have h3:=l2.out;have h4:l[j]=d:=by have:=eG e4;rw[hd]at this;exact(Option.some.inj this).symm
    rw[h4]at Z;omega
   have p4:(j:Int)<(len:Int):=by omega
   have p5:=l3.out (kj.below (qaa wo (.cells #[.int .i64 xk,.int .i64 xn,.bool b7,.string b8,.int .i64 xm,.slice xa xl xc] 134)));have S:Hid (∀w',Lk (wo.alloc (.cells #[.int .i64 xk,.int .i64 xn,.bool b7,.string b8,.int .i64 xm,.slice xa xl xc] 134)) w'->Calls prog fe (#[.agg #[.int .i64 xk,.int .i64 xn,.bool b7,.string b8,.int .i64 xm,.slice xa xl xc],bp ab,.slice (some ⟨fb,0,none⟩) N N]++ce) w' (MOut G w0 H' wo fb at' n fj (qaq s sc p d))):=λw' hw=>by
    have hb:=bl1 hw;have fd:Fd w0 H' wo fb N fj:=T.out.step L Q R;refine Calls.mono (HV.out G w0 H' w' ab sc d _ fb N fj HG.out HF.out (kj.below hb) ⟨_,rfl,e5.mono L.ext.le,l7⟩ (fd.below hb) k8) λe w2 h=>h.after (Sp.below hb)
   have a0:l.take (j+1)=l.take j++[d]:=by rw[List.take_add_one,hd];rfl
   have b1:d∈l:=List.mem_of_getElem? hd;cases hm:qaq s sc p d with
   |none=>
    have HN:Hid (l.mapM (λd=>qaq s sc p d)=none):=qst _ b1 hm;rw[hm]at S;have e6:=hZ L;have b9:=hZ R;clear kj L Q R O r U a4 b0 V e5 a0 b1 hm hd hj;go_wp2_with (go_at_fn fe;refine(S.out _ (by exact⟨rfl,rfl,rfl,rfl⟩)).mono ?_;rintro e w2 ⟨H2,f2,k2,s2,r2,z2,m2⟩;have he:e=.returned (.bool false):=m2;clear m2;subst he;have e7:=hZ k2;have e8:=hZ s2;have e9:=hZ r2;have c0:=hZ z2;clear k2 s2 r2 z2)
    go_ret;have a1:=c7.out;rw[HN.out]at a1;rw[<-a1];exact⟨H2,f2,e7.out,e6.out.trans e8.out,e9.out,c0.out.trans b9.out,rfl⟩
   |some b=>
    rw[hm]at S;have p6:=hZ kj;have e6:=hZ L;have b9:=hZ R;have p7:=hZ Q;have i7:=hZ O;have f0:=hZ r;have HJ:=hZ hj;have i8:Hid ((l.take (j+1)).mapM (λd=>qaq s sc p d)=some (bs++[b])):=by
     show _=_;rw[a0,qlc,U,hm];rfl
    clear kj L Q R O r U a4 b0 V e5 a0 b1 hm hd hj;go_wp2_with (go_at_fn fe;refine(S.out _ (by exact⟨rfl,rfl,rfl,rfl⟩)).mono ?_;rintro e w2 ⟨H2,f2,k2,s2,r2,z2,m2⟩;obtain⟨he,a5,i9,j0⟩:=m2;subst he;have e7:=hZ k2;have e8:=hZ s2;have e9:=hZ r2;have c0:=hZ z2;have l8:=hZ a5;have l9:=hZ i9;have m0:=hZ j0;clear k2 s2 r2 z2 a5 i9 j0;refine Hid.out ?_)
    refine hZ ?_;go_wp2;go_loopg [30] n (RiR G w0 H w fb n H2 f2 bs b)
    case atStart=>
     have o5:=T.out.lt;have s2:=e8.out;exact⟨0,Y,by omega,rfl,e7.out,e6.out.trans s2,e9.out,by simpa using f0.out.step s2 (by intro q hq e;omega)⟩
    case round=>
     obtain⟨i,f1,f3,rfl,ki,si,b2,t⟩:=hrel;obtain⟨wi,rfl⟩:∃wi,wi=wr:=⟨_,rfl⟩;by_cases f4:i<n
     ·obtain⟨vv,xs,b3,C,f5,c1⟩:=t.own i f4;rw[if_neg (Nat.lt_irrefl i)]at C f5;obtain⟨va,vc,m1⟩:∃va vc,vv=.slice va (col bs i).length vc:=by
       rcases C.2 with⟨Z,h2⟩|⟨g',d4,a9,Z,_⟩
       ·exact⟨none,0,by rw[h2];exact Z⟩
       ·exact⟨_,_,Z⟩
      subst m1;obtain⟨bi,f6⟩:∃bi,b[i]? =some bi:=⟨_,eG (by rw[l8.out];exact f4)⟩;obtain⟨ys,f7,j1⟩:=m0.out i bi f6;obtain⟨zk,zn,D,K,zm,za,zl,zc,ya,yl,yc,rfl⟩:=f7.form;have p8:(i:Int)<(n:Int):=by omega
      have o6:(0:Int)<=(i:Int):=by omega
      have a4:(col bs i).length=j:=by
       have Z:=qjk _ i8.out;simp at Z;simp[col];omega
      have d5:=(eE.1 t.row).1;have rv:wi.cell? ⟨w.heap.size,i*7+6,none⟩=some (.slice va (col bs i).length vc):=by simp only[World.cell?,t.row];exact b3
      have f8:=e0.out ki;have m3:=c0.out.trans b9.out;have p9:=T.out.size;have X:∀P x,P<7->[Value.int .i64 zk,.int .i64 zn,.bool D,.string K,.int .i64 zm,.slice za zl zc,.slice ya yl yc][P]? =some x->wi.cell? ⟨fb,(at'+i)*7+P,none⟩=some x:=λP x c2 hx=>by
       simp only[World.cell?,b2];rw[j1 P c2];exact hx
      have y0:wi.cell? ⟨fb,(at'+i)*7,none⟩=some (.int .i64 zk):=X 0 _ (by omega) rfl;have y1:wi.cell? ⟨fb,(at'+i)*7+1,none⟩=some (.int .i64 zn):=X 1 _ (by omega) rfl;have y2:wi.cell? ⟨fb,(at'+i)*7+2,none⟩=some (.bool D):=X 2 _ (by omega) rfl;have y3:wi.cell? ⟨fb,(at'+i)*7+3,none⟩=some (.string K):=X 3 _ (by omega) rfl;have y4:wi.cell? ⟨fb,(at'+i)*7+4,none⟩=some (.int .i64 zm):=X 4 _ (by omega) rfl;have y5:wi.cell? ⟨fb,(at'+i)*7+5,none⟩=some (.slice za zl zc):=X 5 _ (by omega) rfl;have y6:wi.cell? ⟨fb,(at'+i)*7+6,none⟩=some (.slice ya yl yc):=X 6 _ (by omega) rfl;have o7:=T.out.max;have j2:(at':Int)+(i:Int)<(N:Int):=by omega
      have f9:(0:Int)<=(at':Int)+(i:Int):=by omega
      have q7:((at':Int)+(i:Int)).toNat=at'+i:=by omega
      have q8:IntKind.i64.wrap ((at':Int)+(i:Int))=(at':Int)+(i:Int):=by rw[IntKind.wrap_i64];omega
      have q9:¬(at':Int)+(i:Int)<0:=by omega
      obtain⟨ln,g0⟩:∃ln,(col bs i).length=ln:=⟨_,rfl⟩;rw[g0]at rv C a4 b3 c1;have j3:=qae f8;have r0:w.heap.size<=wi.heap.size:=si.size;have o8:bf<w.heap.size:=qae (e0.out HK.out);have b4:SRow bf fb at' i zk zn D K zm za zl zc ya yl yc wi:=⟨f8,y0,y1,y2,y3,y4,y5,y6⟩;have m4:=hZ b4;have m5:Hid (SRow bf fb at' i zk zn D K zm za zl zc ya yl yc (wi.alloc (.cells #[.int .i64 0,.int .i64 0,.bool false,.string ⟨#[]⟩,.int .i64 0,.slice none 0 0,.slice none 0 0] 477)).drew):=b4.keep (eH _ _ _ j3) (eH _ _ _ (by omega));have j4:Hid (SRow bf fb at' i zk zn D K zm za zl zc ya yl yc wi.drew):=b4;have o9:(ln:Int)<(ln:Int)+1:=by omega
      have p0:(0:Int)<=(ln:Int):=by omega
      have g1:w.heap.size≠fb:=by omega
      have g2:w.heap.size≠bf:=by omega
      have r1:=(qac d5 (.cells #[.int .i64 0,.int .i64 0,.bool false,.string ⟨#[]⟩,.int .i64 0,.slice none 0 0,.slice none 0 0] 477)).trans rv;have g4:Hid ((wi.alloc (.cells #[.int .i64 0,.int .i64 0,.bool false,.string ⟨#[]⟩,.int .i64 0,.slice none 0 0,.slice none 0 0] 477)).drew.ownsRow (w.heap.size+1) 477 7 (.slice va ln vc) ln xs):=qk6 (C.alloc _) ⟨rfl,rfl,rfl,rfl⟩;have g5:Hid (∀j u,[Value.int .i64 0,.int .i64 0,.bool false,.string ⟨#[]⟩,.int .i64 0,.slice none 0 0,.slice none 0 0][j]? =some u->(wi.alloc (.cells #[.int .i64 0,.int .i64 0,.bool false,.string ⟨#[]⟩,.int .i64 0,.slice none 0 0,.slice none 0 0] 477)).drew.cell? ((⟨wi.heap.size,0,none⟩:Addr).add j)=some u):=World.news_of_block (cs:=#[.int .i64 0,.int .i64 0,.bool false,.string ⟨#[]⟩,.int .i64 0,.slice none 0 0,.slice none 0 0]) (eN wi (.cells #[.int .i64 0,.int .i64 0,.bool false,.string ⟨#[]⟩,.int .i64 0,.slice none 0 0,.slice none 0 0] 477));have j5:Hid (∀u∈[Value.int .i64 0,.int .i64 0,.bool false,.string ⟨#[]⟩,.int .i64 0,.slice none 0 0,.slice none 0 0],u.oneCell'=true):=by
       intro u hu;simp at hu;rcases hu with rfl|rfl|rfl|rfl|rfl|rfl|rfl <;> rfl
      have m6:Hid (ln+1<=maxLen):=by
       have:ln+1<=maxLen:=by unfold maxLen;omega
       exact this
      have m7:Hid ((ln+1)*96<=140737488355328):=by
       have:(ln+1)*96<=140737488355328:=by omega
       exact this
      have j6:Hid (w.heap.size+1<=(wi.alloc (.cells #[.int .i64 0,.int .i64 0,.bool false,.string ⟨#[]⟩,.int .i64 0,.slice none 0 0,.slice none 0 0] 477)).drew.heap.size):=by
       have:w.heap.size+1<=(wi.heap.push (.cells #[.int .i64 0,.int .i64 0,.bool false,.string ⟨#[]⟩,.int .i64 0,.slice none 0 0,.slice none 0 0] 477)).size:=by simp;omega
       exact this
      have c3:Hid (∀(g3 z:Nat) (w3:Wd),w3.ownsRow (w.heap.size+1) 477 7 (.slice (some ⟨g3,0,none⟩) (ln+1) z) (ln+1) (xs++[.int .i64 0,.int .i64 0,.bool false,.string ⟨#[]⟩,.int .i64 0,.slice none 0 0,.slice none 0 0])->(wi.alloc (.cells #[.int .i64 0,.int .i64 0,.bool false,.string ⟨#[]⟩,.int .i64 0,.slice none 0 0,.slice none 0 0] 477)).drew.grownBy w3 (Value.slice va ln vc).ownBlock->((Value.slice va ln vc).ownBlock=some g3\/g3=(wi.alloc (.cells #[.int .i64 0,.int .i64 0,.bool false,.string ⟨#[]⟩,.int .i64 0,.slice none 0 0,.slice none 0 0] 477)).drew.heap.size)->
        (g3≠w.heap.size/\g3≠fb/\g3≠bf)/\(w3.cell? ⟨g3,ln*7,none⟩=some (.int .i64 0)/\w3.cell? ⟨g3,ln*7+1,none⟩=some (.int .i64 0)/\w3.cell? ⟨g3,ln*7+2,none⟩=some (.bool false)/\w3.cell? ⟨g3,ln*7+3,none⟩=some (.string ⟨#[]⟩)/\w3.cell? ⟨g3,ln*7+4,none⟩=some (.int .i64 0)/\w3.cell? ⟨g3,ln*7+5,none⟩=some (.slice none 0 0)/\w3.cell? ⟨g3,ln*7+6,none⟩=some (.slice none 0 0))/\(∀o,w3.frozen? ⟨g3,o,none⟩=false)/\w3.cell? ⟨w.heap.size,i*7+6,none⟩=some (.slice va ln vc)/\(∀o,w3.frozen? ⟨w.heap.size,o,none⟩=false)/\SRow bf fb at' i zk zn D K zm za zl zc ya yl yc w3/\
        ∀w5,Lk ((set7 w3 g3 (ln*7) (.int .i64 zk) (.int .i64 zn) (.bool D) (.string K) (.int .i64 zm) (.slice za zl zc) (.slice ya yl yc)).setCell ⟨w.heap.size,i*7+6,none⟩ (.slice (some ⟨g3,0,none⟩) (ln+1) z)) w5->RiR G w0 H w fb n H2 f2 bs b (n-(i+1)) (.int .i64 ((i:Int)+1)) w5):=λg3 z w3 ho hg ha=>by
       have j7:Below wi.heap.size wi (wi.alloc (.cells #[.int .i64 0,.int .i64 0,.bool false,.string ⟨#[]⟩,.int .i64 0,.slice none 0 0,.slice none 0 0] 477)).drew:=bl1 ⟨rfl,rfl,rfl,rfl⟩;have r3:(wi.alloc (.cells #[.int .i64 0,.int .i64 0,.bool false,.string ⟨#[]⟩,.int .i64 0,.slice none 0 0,.slice none 0 0] 477)).drew.heap.size=wi.heap.size+1:=by show(wi.heap.push _).size=_;simp
       have r4:w.heap.size<g3:=by
        rcases ha with h|h
        ·have:=(C.lt g3 h).1;omega
        ·omega
       have keep:∀k,k<=w.heap.size->w3.heap[k]? =wi.heap[k]?:=λk hk=>by
        rw[hg.block k (by omega) (λe=>by have:=(C.lt k e.symm).1;omega),j7.block k (by omega)]
       have d6:w3.heap[w.heap.size]? =some (.cells f1 477 (0,0)):=(keep _ (eR _)).trans t.row;rcases ho.2 with⟨Z,_⟩|⟨g',d4,a9,m8,j8,j9,r5,r6,r7,m9⟩
       ·cases Z
       cases m8;have r8:=C.1;have gz:∀P x,P<7->[Value.int .i64 0,.int .i64 0,.bool false,.string ⟨#[]⟩,.int .i64 0,.slice none 0 0,.slice none 0 0][P]? =some x->w3.cell? ⟨g3,ln*7+P,none⟩=some x:=λP x c2 hx=>by
        have e1:(a9.toList.take ((ln+1)*7))[ln*7+P]? =(xs++[Value.int .i64 0,.int .i64 0,.bool false,.string ⟨#[]⟩,.int .i64 0,.slice none 0 0,.slice none 0 0])[ln*7+P]?:=by rw[m9]
        rw[List.getElem?_take_of_lt (by omega),eB (by omega),show ln*7+P-xs.length=P by omega,hx]at e1;simp only[World.cell?,j9];simpa using e1
       refine⟨⟨by omega,by omega,by omega⟩,⟨gz 0 _ (by omega) rfl,gz 1 _ (by omega) rfl,gz 2 _ (by omega) rfl,gz 3 _ (by omega) rfl,gz 4 _ (by omega) rfl,gz 5 _ (by omega) rfl,gz 6 _ (by omega) rfl⟩,λo=>by simp[World.frozen?,j9],?_,λo=>by simp[World.frozen?,d6],b4.keep (keep _ (by omega)) (keep _ (by omega)),λw5 n0=>?_⟩
       ·simp only[World.cell?,d6];exact b3
       ·obtain⟨n1,g6⟩:=t.push f4 b3 C (by rw[if_neg (Nat.lt_irrefl i)];exact g0) (by rw[if_neg (Nat.lt_irrefl i)];exact f5) c1 (λb hb=>ki.fresh hb) j7 hg ho ha f7 n0;refine⟨i+1,f1.setIfInBounds (i*7+6) (.slice (some ⟨g3,0,none⟩) (ln+1) z),by omega,by push_cast;rfl,ki.go g6 (λb' j8=>?_),si.then g6 (λk hk h=>?_),?_,?_⟩
        ·rcases j8 with rfl|h
         ·exact⟨by omega,t.loose⟩
         ·have:=(C.lt b' h).1;exact⟨by omega,c1 b' h⟩
        ·rcases h with h|h
         ·omega
         ·have:=(C.lt k h).1;omega
        ·rw[g6.blk (by omega) (by rintro(h|h);omega;have:=(C.lt fb h).1;omega)];exact b2
        ·have e1:(λq=>if q=i then(if i<i then col (bs++[b]) i else col bs i)++[bi.2]else(if q<i then col (bs++[b]) q else col bs q))=λq=>if q<i+1 then col (bs++[b]) q else col bs q:=by
          funext q
          by_cases e:q=i
          ·subst e;simp[qxd,f6]
          ·by_cases e2:q<i
           ·simp[e,e2,show q<i+1 by omega]
           ·simp[e,e2,show ¬q<i+1 by omega]
         rw[<-e1];exact n1
      clear ki si b2 t b3 C f5 c1 f7 f6 a4 g0 j1 X b4;go_wp2_with (fail)
      rw[show Op.load 407 (Operand.tmp 36)=ldH 407 (Operand.tmp 36)from rfl];go_region_held3 (λw'=>w'.cell? ⟨bf,0,none⟩=some (.int .i64 (at':Int))/\w'.cell? ⟨fb,(at'+i)*7,none⟩=some (.int .i64 zk)/\w'.cell? ⟨fb,(at'+i)*7+1,none⟩=some (.int .i64 zn)/\w'.cell? ⟨fb,(at'+i)*7+2,none⟩=some (.bool D)/\w'.cell? ⟨fb,(at'+i)*7+3,none⟩=some (.string K)/\w'.cell? ⟨fb,(at'+i)*7+4,none⟩=some (.int .i64 zm)/\w'.cell? ⟨fb,(at'+i)*7+5,none⟩=some (.slice za zl zc)/\w'.cell? ⟨fb,(at'+i)*7+6,none⟩=some (.slice ya yl yc))
       (first|(with_reducible exact n2.out)|(with_reducible exact m5.out)|(with_reducible exact j4.out)|(with_reducible exact m4.out)|(with_reducible exact n3.out)|(with_reducible exact n4.out)|(with_reducible exact n5.out)|(with_reducible exact n6.out))
       (first|(refine step_append_lies _ rfl _ _ 407 rfl (w.heap.size+1) 477 i0 (.agg #[.int .i64 0,.int .i64 0,.bool false,.string ⟨#[]⟩,.int .i64 0,.slice none 0 0,.slice none 0 0]) 7 96 underlying407 hi c8 c9 d0 rfl (by decide) _ _ _ rfl g4.out ⟨wi.heap.size,0,none⟩ 1 1 [.int .i64 0,.int .i64 0,.bool false,.string ⟨#[]⟩,.int .i64 0,.slice none 0 0,.slice none 0 0] rfl rfl g5.out j5.out (by decide) m6.out m7.out j6.out (wi.alloc (.cells #[.int .i64 0,.int .i64 0,.bool false,.string ⟨#[]⟩,.int .i64 0,.slice none 0 0,.slice none 0 0] 477)).drew.heap.size rfl ?_;intro g3 z w4 b5 a2 d7 k0;obtain⟨⟨k1,c,m⟩,⟨q0,q1,q2,q3,q4,q5,q6⟩,qf,r9,s0,a6,d8⟩:=c3.out g3 z w4 b5 a2 d7;have n2:=hZ a6;have n3:=hZ (SRow.put (b:=g3) (SRow.put (b:=g3) (SRow.put (b:=g3) (SRow.put (b:=g3) (SRow.put (b:=g3) (SRow.put (b:=g3) (SRow.put (b:=g3) a6 c m (ln*7) (.int .i64 zk)) c m (ln*7+1) (.int .i64 zn)) c m (ln*7+2) (.bool D)) c m (ln*7+3) (.string K)) c m (ln*7+4) (.int .i64 zm)) c m (ln*7+5) (.slice za zl zc)) c m (ln*7+6) (.slice ya yl yc));have n4:=hZ (SRow.put (b:=w.heap.size) (SRow.put (b:=g3) (SRow.put (b:=g3) (SRow.put (b:=g3) (SRow.put (b:=g3) (SRow.put (b:=g3) (SRow.put (b:=g3) (SRow.put (b:=g3) a6 c m (ln*7) (.int .i64 zk)) c m (ln*7+1) (.int .i64 zn)) c m (ln*7+2) (.bool D)) c m (ln*7+3) (.string K)) c m (ln*7+4) (.int .i64 zm)) c m (ln*7+5) (.slice za zl zc)) c m (ln*7+6) (.slice ya yl yc)) g1 g2 (i*7+6) (.slice (some ⟨g3,0,none⟩) (ln+1) z));have n5:=hZ (SRow.put (b:=w.heap.size) a6 g1 g2 (i*7+6) (.slice (some ⟨g3,0,none⟩) (ln+1) z));have n6:=hZ (SRow.put (b:=g3) (SRow.put (b:=g3) (SRow.put (b:=g3) (SRow.put (b:=g3) (SRow.put (b:=g3) (SRow.put (b:=g3) (SRow.put (b:=g3) (SRow.put (b:=w.heap.size) a6 g1 g2 (i*7+6) (.slice (some ⟨g3,0,none⟩) (ln+1) z)) c m (ln*7) (.int .i64 zk)) c m (ln*7+1) (.int .i64 zn)) c m (ln*7+2) (.bool D)) c m (ln*7+3) (.string K)) c m (ln*7+4) (.int .i64 zm)) c m (ln*7+5) (.slice za zl zc)) c m (ln*7+6) (.slice ya yl yc));have A:=hZ d8;clear b5 a2 d7 k0 a6 d8))
      all_goals(
       go_wp2;go_roundg (n-(i+1))
       case measure=>omega
       case rel=>
        first
         |(refine A.out _ ?_;unfold set7;with_reducible exact qcs _)
         |(refine A.out _ ?_;unfold set7;with_reducible exact qct _)
         |(refine A.out _ ?_;rw[<-qkr (h:=Ne.symm k1)];unfold set7;with_reducible exact qcs _)
         |(refine A.out _ ?_;rw[<-qkr (h:=Ne.symm k1)];unfold set7;with_reducible exact qct _))
     ·have n7:i=n:=by omega
      have s1:¬(i:Int)<(n:Int):=by omega
      have g7:Hid (RoR G w0 H w fb N at' n fc s sc p l (len-(j+1)) (.int .i64 ((j:Int)+1)) wi):=by
       refine⟨j+1,H2,f2,f1,bs++[b],by rw[<-M.out];omega,by push_cast;rfl,i8.out,ki,si,b2,c0.out.trans b9.out,λq hq=>(l9.out q hq).trans (i7.out q hq),?_⟩;refine⟨t.row,t.loose,t.size,t.zero,λq hq=>?_,t.dis⟩;obtain⟨v,xs,Z,h2,h3,h4⟩:=t.own q hq;rw[if_pos (by omega)]at h2 h3;exact⟨v,xs,Z,h2,h3,h4⟩
      have s4:=HJ.out;clear n7 ki si b2 t f3;go_wp2;go_roundg (len-(j+1))
      case measure=>have:=M.out;omega
      case rel=>exact g7.out
  ·have s5:¬(j:Int)<(len:Int):=by omega
   have a0:l.take j=l:=List.take_of_length_le (by rw[<-M.out];omega);rw[a0]at U;have a5:=qjk _ U;have a1:=c7.out;rw[U]at a1;have f8:=e0.out kj;have f9:(0:Int)<=(at':Int):=by omega
   have j2:(at':Int)<=(N:Int):=by omega
   have m3:=R.trans T.out.size;have d5:=(eE.1 r.row).1;have s6:=L.size;have n8:=T.out.lo;have s7:=HK.out.bel.size;obtain⟨H3,k3,g8,hJ,hE,hB,hW,hF,c4,c5⟩:=r.done kj (by omega) (λi _=>by simp[col];rw[a5,<-M.out];omega);have s3:Sp (λb=>b=fb) H w H3 wo:=⟨⟨L.ext.le.trans g8,hE.trans L.ext.E,hB.trans L.ext.B,fun {b} hb=>(c4 b (by omega)).trans (L.ext.I hb),hW.trans L.ext.W,hF.trans L.ext.F⟩,hJ.trans L.J,L.blk,L.size,L.same⟩;have k4:H3.I fb=none:=(c4 fb (by omega)).trans (L.loose l1 T.out.I);have a3:Hid (∀(fz:Array Vu) (w':Wd),fz.size=fj.size->(∀k,(k<at'*7\/(at'+n)*7<=k)->fz[k]? =fj[k]?)->(∀k,k<n*7->fz[at'*7+k]? =Y[k]?)->w'.heap[fb]? =some (.cells fz 477 (0,0))->Sp (λb=>b=fb) H3 wo H3 w'->MOut G w0 H w fb at' n fc res (.returned (.bool true)) w'):=λfz w' Z h2 h3 h4 h5=>by
    rw[<-a1];refine⟨H3,fz,k3.go h5 (λb hb=>hb▸⟨n8,k4⟩),s3.trans h5,h4,Z.trans R,rfl,by simp[d2.out],λq hq=>(h2 q hq).trans (O q hq),λi x hx=>?_⟩;have f3:i<n:=by have:=(eL.1 hx).1;simpa[d2.out]using this
    obtain⟨xs,q1,q2⟩:=c5 i f3;have n9:x.2=.row (col bs i):=by
     simp only[List.getElem?_map,List.getElem?_zipIdx]at hx;cases hc:((qao s 0 [] p).getD [])[i]? with
     |none=>rw[hc]at hx;simp at hx
     |some y=>rw[hc]at hx;simp at hx;rw[<-hx]
    rw[n9];refine⟨xs,q1,λP c2=>?_⟩;rw[<-q2 P c2,<-h3 (i*7+P) (by omega)];congr 1;omega
   obtain⟨i1,o0,-,o1,-⟩:=info_parts qjs;have d9:(prog.info? 477).map (·.size)=some 7:=by rw[o0];simp[o1]
   by_cases hn:n=0
   ·have A:Hid (MOut G w0 H w fb at' n fc res (.returned (.bool true)) wo):=a3.out fj wo rfl (λ_ _=>rfl) (λk hk=>by omega) Q (Sp.refl _ _ _);subst hn;have k5:∀d x y,(Builtin.copy_ #[407,407] 3 #[.slice d x y,.slice (some ⟨w.heap.size,0,none⟩) 0 0]).run prog wo=.ok (goInt 0) wo:=λd x y=>qks _ 407 407 3 477 _ _ _ _ _ underlying407 d9
    clear kj L Q R O r U k3 s3 g8 hJ hE hB hW hF c4 c5 a3 a1 a5 a0 hj;go_wp2;all_goals(go_ret;exact A.out)
   ·have i6:at'<N:=by omega
    have hne:¬N=at':=by omega
    have p1:¬at'=N:=by omega
    have b6:Nat.min n (N-at')=n:=Nat.min_eq_left (by omega);have g9:=r.size;have k5:(Builtin.copy_ #[407,407] 3 #[.slice (some ⟨fb,at'*7,none⟩) (N-at') (N-at'),.slice (some ⟨w.heap.size,0,none⟩) n n]).run prog wo=.ok (goInt n) (wo.setRow fb (fj.toList.take (at'*7)++Y.toList++fj.toList.drop (at'*7+Y.toList.length)).toArray):=by
     have h:=qr3 wo 407 407 3 477 fb (at'*7) (N-at') (N-at') ⟨w.heap.size,0,none⟩ n n fj 477 Y.toList underlying407 d9 Q (by rw[b6];simp[g9]) (λP v hv=>?_) (by simp;omega) (λv hv=>?_)
     ·rw[b6]at h;exact h
     ·have k6:(⟨w.heap.size,0,none⟩:Addr).add P=⟨w.heap.size,P,none⟩:=by unfold Addr.add;split <;> simp_all
      rw[k6];simp only[World.cell?,r.row];simpa using hv
     ·obtain⟨pp,hp⟩:=List.mem_iff_getElem?.1 hv;have o2:=(eL.1 hp).1;simp only[Array.length_toList]at o2;obtain⟨xs,q1,q2⟩:=c5 (pp / 7) (by omega);have h7:=q2 (pp % 7) (by omega);rw[show pp / 7*7+pp % 7=pp by omega]at h7;rw[show Y.toList[pp]? =Y[pp]? by simp,h7]at hp;exact q1.one1 v (List.mem_of_getElem? hp)
    have A:Hid (MOut G w0 H w fb at' n fc res (.returned (.bool true)) (wo.setRow fb (fj.toList.take (at'*7)++Y.toList++fj.toList.drop (at'*7+Y.toList.length)).toArray)):=by
     have k7:(fj.toList.take (at'*7)).length=at'*7:=by simp;omega
     refine a3.out _ _ (by simp;omega) (λk hk=>?_) (λk hk=>?_) (setRow_heap wo fb _ _ 477 _ Q) ⟨Gh.ext.refl _ _,rfl,fun {k} _ hn=>setRow_other wo fb k _ hn,by simp[World.setRow],rfl,rfl,rfl⟩
     ·rw[List.getElem?_toArray];rcases hk with hk|hk
      ·rw[eA (by simp;omega),eA (by omega),List.getElem?_take_of_lt hk];simp
      ·rw[eB (by simp;omega),List.getElem?_drop];simp only[List.length_append,k7,Array.length_toList,g9];rw[show fj[k]? =fj.toList[k]? by simp];congr 1;omega
     ·rw[List.getElem?_toArray,eA (by simp;omega),eB (by omega),k7];rw[show at'*7+k-at'*7=k by omega];simp
    generalize wo.setRow fb (fj.toList.take (at'*7)++Y.toList++fj.toList.drop (at'*7+Y.toList.length)).toArray=w9 at k5 A;clear kj L Q R O r U k3 s3 g8 hJ hE hB hW hF c4 c5 a3 a1 a5 a0 hj b6 g9;go_wp2;all_goals(go_ret;exact A.out)
structure RuleC (G:Gh) (lits:List Bs) (r:List Dt×Dt) (lv:Vu) (ba:OA) (nb bc:Nat) (fv tv:Vu):Prop where
 max:nb<=1000000000000
 pat:Mtc G 0 nb LV (λsc l=>qau lits sc r.1 l) fv
 tem:∃m:Mkr,Mks G m.ok m.mks tv/\∀(sc:qaj) (l:List Dt) (b:qdq) (mark:Int),qau lits sc r.1 l=some b->m.ok (b.map (·.2))/\m.mks mark (b.map (·.2))=(qgi mark b r.2).map λd=>[d]
theorem RuleC.mono(h:G.le H){b:List Bs}{r:List Dt×Dt}{c:Vu}{d:Nat}{e tv:Vu}(a:RuleC G b r c ba nb d e tv):RuleC H b r c ba nb d e tv:=by
 obtain⟨f,g,m,i,j⟩:=a;exact⟨f,g.mono h,m,i.mono h,j⟩
structure RulesR (G:Gh) (mc:Macro) (v:Vu):Prop where
 max:mc.rules.length<=1000000
 at':∃a cap,v=.slice a mc.rules.length cap/\(0<mc.rules.length->∃g arr,a=some ⟨g,0,none⟩/\G.I g=some (.cells arr 406 (0,0))/\∀(i:Nat) (r:List Dt×Dt),mc.rules[i]? =some r->∃lv ba nb bc fv tv,arr[i*4]? =some lv/\arr[i*4+1]? =some (.slice ba nb bc)/\arr[i*4+2]? =some fv/\arr[i*4+3]? =some tv/\(∃la ll lc,lv=.slice la ll lc)/\RuleC G mc.lits r lv ba nb bc fv tv)
theorem RulesR.mono{mc:Macro}{v:Vu}(h:G.le H)(r:RulesR G mc v):RulesR H mc v:=by
 obtain⟨c,a,cap,d,e⟩:=r;refine⟨c,a,cap,d,λf=>?_⟩;obtain⟨g,b,j,k,l⟩:=e f;refine⟨g,b,j,h.I k,λi r m=>?_⟩;obtain⟨n,ba,nb,o,p,q,e1,e2,e3,e4,e5,e6⟩:=l i r m;exact⟨n,ba,nb,o,p,q,e1,e2,e3,e4,e5,e6.mono h⟩
def KM:Rl:=⟨RulesR,λh r=>r.mono h⟩
def qf9(mc:Macro)(sc:qaj)(args:List Dt)(l:List (List Dt×Dt)):Option (qdq×Dt):=l.findSome? λr=>(qau mc.lits sc r.1 args).map λb=>(b,r.2)
theorem qnc(mc:Macro)(sc:qaj)(args:List Dt)(r:List Dt×Dt)(l:List (List Dt×Dt)):qf9 mc sc args (r::l)=match qau mc.lits sc r.1 args with
  |some b=>some (b,r.2)
  |none=>qf9 mc sc args l:=by
 unfold qf9;rw[List.findSome?_cons];cases qau mc.lits sc r.1 args <;> rfl
def RwP(G:Gh)(w:Wd)(r:Option Dt)(e':En)(w':Wd):Prop:=match r with
 |some d=>∃H e2,e'=.returned (.agg (Dl.cells e2))/\Wk G w H w'/\DRep H d e2
 |none=>e'=.panicked (qan (qap 4))/\Below w.heap.size w w'
def RuR(G:Gh)(w:Wd)(mc:Macro)(sc:qaj)(args:List Dt)(fm:Option (qdq×Dt))(e:Dl)(k:Nat)(s16:Vu)(wr:Wd):Prop:=
 ∃(j:Nat) (H':Gh),j+k=mc.rules.length/\s16=.int .i64 (j:Int)/\fm=qf9 mc sc args (mc.rules.drop j)/\Wk G w H' wr/\H'.I w.heap.size=none/\H'.I (w.heap.size+1)=none/\wr.heap[w.heap.size]? =some (.cells e.cells 134 (0,0))/\wr.heap[w.heap.size+1]? =some (.cells #[.int .i64 0,.int .i64 0,.bool false,.string ⟨#[]⟩,.int .i64 0,.slice none 0 0] 134 (0,0))
def qu0(mark:Int)(fm:Option (qdq×Dt)):Option Dt:=match fm with
 |none=>none
 |some (b,t)=>match qgi mark b t with
  |none=>none
  |some d=>if qbu d<=600 then some d else none
theorem qrf(x:Xs)(mc:Macro)(args:List Dt)(sc:qaj):qu1 x mc args sc=qu0 x.count (qf9 mc sc args mc.rules):=rfl
theorem qpr{S:Sub}{m:Mc}(i:Inv G S m w)(ab:Nat)(sc:qaj)(hF:Fnd ab sc w)(t:Bs)(tk:Int)(args:List Dt)(xk xn:Int)(B:Bool)(C:BA)(xm:Int)(g o U xc:Nat)(hd:DRep G (.list (.sym t tk::args)) ⟨xk,xn,B,C,xm,some ⟨g,o,none⟩,U+1,xc⟩)(e6:qaf (.list (.sym t tk::args))<=1000000000000)(mc:Macro)(a:OA)(nr cap:Nat)(hR:RulesR G mc (.slice a nr cap))(mark:Int):
  Calls prog 289 #[.agg #[.int .i64 xk,.int .i64 xn,.bool B,.string C,.int .i64 xm,.slice (some ⟨g,o,none⟩) (U+1) xc],.slice a nr cap,bp ab,.int .i64 mark] w (RwP G w (qu0 mark (qf9 mc sc args mc.rules))):=by
 obtain⟨e7,a',i7,hv,a0⟩:=hR;cases hv;obtain⟨fm,n⟩:∃fm,fm=qf9 mc sc args mc.rules:=⟨_,rfl⟩;rw[<-n];have J:=hd.row;have e8:U+1<=xc:=by obtain⟨_,_,_,_,h,_⟩:=J;exact h
 have f9:U=args.length:=by have:=J.len;simp at this;exact this
 have a1:DRow G (tlD g o xc 1) U (xc-1) args:=by simpa using J.drop 1 (by simp)
 have b8:qad args<=1000000000000:=by simp only[qaf,qad]at e6;omega
 obtain⟨nr,c3⟩:∃nr,nr=mc.rules.length:=⟨_,rfl⟩;rw[<-c3]at e7 a0|-;have g0:=hZ n;have e9:=hZ a0;have HD:=hZ hd;have g1:=hZ a1;have g2:=hZ b8;have HF:=hZ hF;have HI:=hZ i;have R:=hZ c3;clear n a0 hd a1 b8 hF i c3 J e6 f9;go_enter func289,ntmps289
 go_wp2;go_loopg [16] nr (RuR G w mc sc args fm ⟨xk,xn,B,C,xm,some ⟨g,o,none⟩,U+1,xc⟩)
 case atStart=>
  have hb:Below w.heap.size w ((w.alloc (.cells (Dl.cells ⟨xk,xn,B,C,xm,some ⟨g,o,none⟩,U+1,xc⟩) 134)).alloc (.cells #[.int .i64 0,.int .i64 0,.bool false,.string ⟨#[]⟩,.int .i64 0,.slice none 0 0] 134)):=(qaa _ _).alloc (by simp) _;refine⟨0,G,by rw[R.out];omega,rfl,g0.out,(Wk.start HI.out).below hb,HI.out.fresh (eR _),HI.out.fresh (Nat.le_succ _),?_,?_⟩
  ·rw[eH _ _ _ (by simp)];exact eN _ _
  ·have:=eN (w.alloc (.cells (Dl.cells ⟨xk,xn,B,C,xm,some ⟨g,o,none⟩,U+1,xc⟩) 134)) (.cells #[.int .i64 0,.int .i64 0,.bool false,.string ⟨#[]⟩,.int .i64 0,.slice none 0 0] 134);simpa using this
 case round=>
  obtain⟨j,H',hj,rfl,n,kj,b6,a2,a3,a4⟩:=hrel;obtain⟨D,rfl⟩:∃D,D=wr:=⟨_,rfl⟩;have V:=(eE.1 a3).1;have l1:=(eE.1 a4).1;by_cases c4:j<nr
  ·obtain⟨r,hr⟩:∃r,mc.rules[j]? =some r:=⟨_,eG (by rw[<-R.out];exact c4)⟩;obtain⟨gr,i9,rfl,c5,c6⟩:=e9.out (by omega);obtain⟨lv,ba,nb,L,fv,tv,e0,e1,e2,e3,⟨M,N,lc,rfl⟩,c7,⟨F,c,rfl,g3,a5⟩,mk,⟨E,f,rfl,g4,a6⟩,a7⟩:=c6 j r hr;have X:=λq=>kj.cell (kj.ext.le.I c5) q
   have r0:D.cell? ⟨gr,j*4,none⟩=some (.slice M N lc):=by rw[X];exact e0
   have r1:D.cell? ⟨gr,j*4+1,none⟩=some (.slice ba nb L):=by rw[X];exact e1
   have r2:D.cell? ⟨gr,j*4+2,none⟩=some (.func (.func F) #[] c):=by rw[X];exact e2
   have r3:D.cell? ⟨gr,j*4+3,none⟩=some (.func (.func E) #[] f):=by rw[X];exact e3
   have j0:(j:Int)<(nr:Int):=by omega
   have T:∀{k:Gh} {w2:Wd},Sp (λ_=>False) H' D k w2->w2.heap[w.heap.size]? =some (.cells (Dl.cells ⟨xk,xn,B,C,xm,some ⟨g,o,none⟩,U+1,xc⟩) 134 (0,0))/\w2.heap[w.heap.size+1]? =some (.cells #[.int .i64 0,.int .i64 0,.bool false,.string ⟨#[]⟩,.int .i64 0,.slice none 0 0] 134 (0,0)):=λs=>⟨by rw[s.blk V (λh=>h)];exact a3,by rw[s.blk l1 (λh=>h)];exact a4⟩
   have H:Hid (∀w',Lk (D.alloc (.cells #[.slice M N lc,.slice ba nb L,.func (.func F) #[] c,.func (.func E) #[] f] 406)) w'->Calls prog 319 #[.agg #[.slice M N lc,.slice ba nb L,.func (.func F) #[] c],.agg #[.int .i64 xk,.int .i64 xn,.bool B,.string C,.int .i64 xm,.slice (some ⟨g,o,none⟩) (U+1) xc],bp ab] w' λe w2=>∃fb u k,e=.returned (.tuple #[.slice (some ⟨fb,0,none⟩) nb nb,.bool (qau mc.lits sc r.1 args).isSome])/\D.heap.size<fb/\Wk G w k w2/\Sp (λ_=>False) H' D k w2/\w2.heap[D.heap.size]? =some (.cells #[.slice M N lc,.slice ba nb L,.func (.func F) #[] c,.func (.func E) #[] f] 406 (0,0))/\w2.heap[fb]? =some (.cells u 477 (0,0))/\k.I fb=none/\∀b,qau mc.lits sc r.1 args=some b->b.length=nb/\FAt k 0 u b):=λw' hw=>by
    have hs:w'.heap.size=D.heap.size+1:=by rw[hw.heap];simp
    have f0:=bl1 hw;have f1:∀args w,(callFunc F args).run prog w=.ok (.enter F args) w:=g3;refine qv5 _ ba nb L F c xk xn B C xm g o U xc (bp ab) w' _ f1 c7 e8 λw1 fb fc O Y P g5=>?_
    have k1:=(kj.below f0).below O;have fd:Fd w H' w1 fb nb fc:=⟨by have:=kj.bel.size;omega,kj.fresh (by omega),P,g5,c7⟩;refine Calls.mono (a5 G w H' w1 ab sc args _ fb nb fc (Gh.le.refl _) HF.out k1 ⟨_,_,_,rfl,g1.out.mono kj.ext.le,g2.out⟩ fd (by omega)) ?_;intro e w2 hm;have g6:e=.returned (.bool (qau mc.lits sc r.1 args).isSome):=hm.ends;refine⟨_,g6,λw3 K=>?_⟩;obtain⟨k,u,Z,Q,q2,z2,m2⟩:=hm.lk K;have m2:q1m k 0 nb fc u e (qau mc.lits sc r.1 args):=m2;have f2:Sp (λ_=>False) H' D k w3:=((Sp.below f0).trans (Sp.below (by rw[hs]at O;exact O.mono (by omega)))).then Q (λq hq h=>by omega);refine⟨fb,u,k,rfl,by omega,Z,f2,?_,q2,Q.loose (eE.1 P).1 fd.I,λb hb=>?_⟩
    ·rw[Q.blk (by have:=O.size;omega) (by omega),O.block _ (by omega),hw.heap];exact eN _ _
    ·rw[hb]at m2;exact⟨m2.2.1,m2.2.2.2⟩
   have c8:mc.rules.drop j=r::mc.rules.drop (j+1):=by
    rw[List.drop_eq_getElem_cons (by rw[<-R.out];exact c4)];congr 1;have:=eG (l:=mc.rules) (i:=j) (by rw[<-R.out];exact c4);rw[hr]at this;exact(Option.some.inj this).symm
   rw[c8,qnc]at n;cases hml:qau mc.lits sc r.1 args with
   |none=>
    rw[hml]at n;have a8:Hid (∀k w2,Wk G w k w2->Sp (λ_=>False) H' D k w2->RuR G w mc sc args fm ⟨xk,xn,B,C,xm,some ⟨g,o,none⟩,U+1,xc⟩ (nr-(j+1)) (.int .i64 ((j:Int)+1)) w2):=λk w2 Z Q=>⟨j+1,k,by rw[<-R.out];omega,by push_cast;rfl,n,Z,Q.loose V b6,Q.loose l1 a2,(T Q).1,(T Q).2⟩
    rw[hml]at H;simp only[Option.isSome_none]at H;have HJ:=hZ hj;have c9:=qo5 (e:=⟨xk,xn,B,C,xm,some ⟨g,o,none⟩,U+1,xc⟩) (t:=134) (T (w2:=D) (Sp.refl _ _ _)).1;obtain⟨b0,b1,b2,b3,b4,b5⟩:=c9;have d0:=(qac V (.cells #[.slice M N lc,.slice ba nb L,.func (.func F) #[] c,.func (.func E) #[] f] 406)).trans b0;have d1:=(qac V (.cells #[.slice M N lc,.slice ba nb L,.func (.func F) #[] c,.func (.func E) #[] f] 406)).trans b1;have d2:=(qac V (.cells #[.slice M N lc,.slice ba nb L,.func (.func F) #[] c,.func (.func E) #[] f] 406)).trans b2;have d3:=(qac V (.cells #[.slice M N lc,.slice ba nb L,.func (.func F) #[] c,.func (.func E) #[] f] 406)).trans b3;have d4:=(qac V (.cells #[.slice M N lc,.slice ba nb L,.func (.func F) #[] c,.func (.func E) #[] f] 406)).trans b4;have d5:=(qac V (.cells #[.slice M N lc,.slice ba nb L,.func (.func F) #[] c,.func (.func E) #[] f] 406)).trans b5;clear a5 a6 a7 X T c6 n kj b6 a2 a3 a4 c5 e0 e1 e2 e3 hr c8 hml hj;go_wp2_with (go_at_call 319;refine(H.out _ (by exact⟨rfl,rfl,rfl,rfl⟩)).mono ?_;rintro e w2 ⟨fb,u,k,rfl,Y,Z,Q,-,-,-,-⟩;have HN:=hZ (a8.out k w2 Z Q);clear Z Q Y a8)
    go_roundg (nr-(j+1))
    case measure=>have:=HJ.out;have:=R.out;omega
    case rel=>exact HN.out
   |some b=>
    rw[hml]at n;have c9:=qo5 (e:=⟨xk,xn,B,C,xm,some ⟨g,o,none⟩,U+1,xc⟩) (t:=134) (T (w2:=D) (Sp.refl _ _ _)).1;obtain⟨b0,b1,b2,b3,b4,b5⟩:=c9;have d0:=(qac V (.cells #[.slice M N lc,.slice ba nb L,.func (.func F) #[] c,.func (.func E) #[] f] 406)).trans b0;have d1:=(qac V (.cells #[.slice M N lc,.slice ba nb L,.func (.func F) #[] c,.func (.func E) #[] f] 406)).trans b1;have d2:=(qac V (.cells #[.slice M N lc,.slice ba nb L,.func (.func F) #[] c,.func (.func E) #[] f] 406)).trans b2;have d3:=(qac V (.cells #[.slice M N lc,.slice ba nb L,.func (.func F) #[] c,.func (.func E) #[] f] 406)).trans b3;have d4:=(qac V (.cells #[.slice M N lc,.slice ba nb L,.func (.func F) #[] c,.func (.func E) #[] f] 406)).trans b4;have d5:=(qac V (.cells #[.slice M N lc,.slice ba nb L,.func (.func F) #[] c,.func (.func E) #[] f] 406)).trans b5;rw[hml]at H;simp only[Option.isSome_some]at H;obtain⟨f3,a9⟩:=a7 sc args b mark hml;have d6:qu0 mark fm=match qgi mark b r.2 with
      |none=>none
      |some d=>if qbu d<=600 then some d else none:=by rw[n];rfl
    have i8:∀args w,(callFunc E args).run prog w=.ok (.enter E args) w:=g4;have HT:Hid (∀(fb:Nat) (u:Array Vu) (k:Gh) (w2:Wd),D.heap.size<fb->Wk G w k w2->Sp (λ_=>False) H' D k w2->w2.heap[fb]? =some (.cells u 477 (0,0))->k.I fb=none->b.length=nb->FAt k 0 u b->∀w3,Lk (w2.alloc (.cells #[.int .i64 0,.int .i64 600,.int .i64 4] 164)) w3->Calls prog E (#[.slice none 0 0,.agg #[.slice (some ⟨fb,0,none⟩) nb nb,.int .i64 mark,.pointer (some ⟨w2.heap.size,0,none⟩)]]++f) w3 λe w4=>((∃p,e=.panicked p)/\RwP G w (qu0 mark fm) e w4)\/(∃ga cp zk zn x z zm za zl zc,e=.returned (.slice (some ⟨ga,0,none⟩) 1 cp)/\(w4.cell? ⟨ga,0,none⟩=some (.int .i64 zk)/\w4.cell? ⟨ga,1,none⟩=some (.int .i64 zn)/\w4.cell? ⟨ga,2,none⟩=some (.bool x)/\w4.cell? ⟨ga,3,none⟩=some (.string z)/\w4.cell? ⟨ga,4,none⟩=some (.int .i64 zm)/\w4.cell? ⟨ga,5,none⟩=some (.slice za zl zc))/\w4.heap[w.heap.size+1]? =some (.cells #[.int .i64 0,.int .i64 0,.bool false,.string ⟨#[]⟩,.int .i64 0,.slice none 0 0] 134 (0,0))/\∀w5,Lk (qdh w4 (w.heap.size+1) (.int .i64 zk) (.int .i64 zn) (.bool x) (.string z) (.int .i64 zm) (.slice za zl zc)) w5->RwP G w (qu0 mark fm) (.returned (.agg #[.int .i64 zk,.int .i64 zn,.bool x,.string z,.int .i64 zm,.slice za zl zc])) w5)):=λfb u k w2 Y Z Q P d7 g7 g8 w3 K=>by
     have d8:=bl1 K;have k3:=Z.below d8;have j1:w3.heap.size=w2.heap.size+1:=by rw[K.heap];simp
     have g9:=(eE.1 P).1;have h3:Mt w2.heap.size ((0:Nat):Int) 600 4 w3:=by unfold Mt;rw[K.heap];exact eN _ _
     have u3:Us w k w3 fb nb (b.map (·.2)) w2.heap.size 0 (.slice none 0 0):=by
      refine⟨⟨u,by rw[d8.block _ g9];exact P,λq tr hq=>?_⟩,by simp[g7],c7,h3,⟨Z.bel.size,Z.fresh (eR _)⟩,by omega,by omega,nofun⟩;rw[List.getElem?_map]at hq;cases hbq:b[q]? with
      |none=>rw[hbq]at hq;simp at hq
      |some y=>
       rw[hbq]at hq;obtain rfl:y.2=tr:=by simpa using hq
       obtain⟨xs,h1,h2⟩:=g8 q y hbq;exact⟨xs,h1,λjj f4=>by rw[<-h2 jj f4];congr 1;omega⟩
     refine Calls.mono (a6 G w k w3 mark (b.map (·.2)) fb nb nb w2.heap.size 0 w3.heap.size (.slice none 0 0) [] (Gh.le.refl _) k3 u3 (Mde.nil k w3) (by simp) f3) ?_;rintro e w4 (⟨rfl,f5,b7⟩|⟨H4,j2,es4,h1,h2,rfl,-,k4,s4,m4,h4,-⟩)
     ·refine .inl ⟨⟨_,rfl⟩,?_⟩;have d9:qu0 mark fm=none:=by
       rw[d6];cases hp:qgi mark b r.2 with
       |none=>rfl
       |some d=>
        have:=b7 [d] (by rw[a9,hp];rfl);simp only;rw[if_neg (by simp[qax]at this;omega)]
      rw[d9];exact⟨rfl,f5⟩
     ·rw[a9]at h1;cases hp:qgi mark b r.2 with
      |none=>rw[hp]at h1;simp at h1
      |some d=>
       rw[hp]at h1;obtain rfl:[d]=es4:=by simpa using h1
       have f6:qu0 mark fm=some d:=by
        rw[d6,hp];simp only;rw[if_pos (by simp[qax]at h2;omega)]
       obtain⟨es,ho,b7⟩:=h4.own;simp only[List.nil_append]at ho b7;cases b7 with
       |cons _ _ e2 j3 h5 h6=>
        cases h6;rcases ho.2 with⟨_,h0⟩|⟨ga,cp,h7,h8,j4,h9,j5,_,j6,i1⟩
        ·simp at h0
        ·obtain⟨zk,zn,x,z,zm,za,zl,zc⟩:=e2;have gz:∀jj v,jj<6->(Dl.cells ⟨zk,zn,x,z,zm,za,zl,zc⟩).toList[jj]? =some v->w4.cell? ⟨ga,jj,none⟩=some v:=λjj v f4 hv=>by
          have e1:(h7.toList.take (1*6))[jj]? =(qcd [⟨zk,zn,x,z,zm,za,zl,zc⟩])[jj]?:=by rw[<-i1];rfl
          rw[List.getElem?_take_of_lt (by omega)]at e1;simp only[World.cell?,h9];simp only[qcd,List.flatMap_cons,List.flatMap_nil,List.append_nil]at e1;rw[hv]at e1;simpa using e1
         have s5:Sp (λ_=>False) H' D H4 w4:=(Q.trans (Sp.below d8)).then s4 (λq hq h=>by
          rcases h with h|h
          ·have:=Q.size;omega
          ·cases h)
         subst h8;refine .inr ⟨ga,cp,zk,zn,x,z,zm,za,zl,zc,rfl,⟨gz 0 _ (by omega) rfl,gz 1 _ (by omega) rfl,gz 2 _ (by omega) rfl,gz 3 _ (by omega) rfl,gz 4 _ (by omega) rfl,gz 5 _ (by omega) rfl⟩,(T s5).2,λw5 i2=>?_⟩;rw[f6];have gs:∀(W:Wd) (q:Nat) (v:Vu),Sp (λb=>b=w.heap.size+1) H4 W H4 (W.setCell ⟨w.heap.size+1,q,none⟩ v):=λW q v=>Sp.set (a:=⟨w.heap.size+1,q,none⟩) rfl
         have s6:=((((((gs w4 0 (.int .i64 zk)).trans (gs _ 1 (.int .i64 zn))).trans (gs _ 2 (.bool x))).trans (gs _ 3 (.string z))).trans (gs _ 4 (.int .i64 zm))).trans (gs _ 5 (.slice za zl zc))).trans (Sp.lk i2);exact⟨H4,⟨zk,zn,x,z,zm,za,zl,zc⟩,rfl,k4.go s6 (λb hb=>hb▸⟨by omega,s5.loose l1 a2⟩),h5⟩
    clear a5 a6 a7 X T c6 n kj b6 a2 a3 a4 c5 e0 e1 e2 e3 hr c8 hml hj f3 a9 d6;go_wp2_with (go_at_call 319;refine(H.out _ (by exact⟨rfl,rfl,rfl,rfl⟩)).mono ?_;rintro e w2 ⟨fb,u,k,rfl,Y,Z,Q,e4,P,d7,e5⟩;have i3:=hZ (HT.out fb u k w2 Y Z Q P d7 (e5 b rfl).1 (e5 b rfl).2);have b9:(w2.alloc (.cells #[.int .i64 0,.int .i64 600,.int .i64 4] 164)).heap[D.heap.size]? =some (.cells #[.slice M N lc,.slice ba nb L,.func (.func F) #[] c,.func (.func E) #[] f] 406 (0,0)):=(by rw[eH _ _ _ (eE.1 e4).1];exact e4);have i4:=hZ b9;clear Z Q Y e4 P d7 e5 HT b9;refine Hid.out ?_)
    refine hZ ?_;go_wp2_with (go_at_call 55;refine(qji _ _ _).mono ?_;rintro e w3 ⟨rfl,K⟩;have i5:=hZ K;have t3:w3.cell? ⟨D.heap.size,3,none⟩=some (.func (.func E) #[] f):=(by simp only[World.cell?,K.heap,i4.out];rfl);clear K;refine Hid.out ?_)
    refine hZ ?_;have i6:=hZ (i3.out w3 i5.out);go_wp2_with (go_at_fn E;refine i6.out.mono ?_;rintro e w4 (⟨⟨p,rfl⟩,hq⟩|⟨ga,cp,zk,zn,x,z,zm,za,zl,zc,rfl,⟨z0,z1,z2,z3,z4,z5⟩,c0,c1⟩);(exact⟨rfl,hq⟩);have A:=hZ c0;have f7:=hZ c1;clear c0 c1;refine Hid.out ?_)
    have q0:w4.cell? ⟨w.heap.size+1,0,none⟩=some (.int .i64 0):=by simp only[World.cell?,A.out];rfl
    have q1:w4.cell? ⟨w.heap.size+1,1,none⟩=some (.int .i64 0):=by simp only[World.cell?,A.out];rfl
    have q2:w4.cell? ⟨w.heap.size+1,2,none⟩=some (.bool false):=by simp only[World.cell?,A.out];rfl
    have q3:w4.cell? ⟨w.heap.size+1,3,none⟩=some (.string ⟨#[]⟩):=by simp only[World.cell?,A.out];rfl
    have q4:w4.cell? ⟨w.heap.size+1,4,none⟩=some (.int .i64 0):=by simp only[World.cell?,A.out];rfl
    have q5:w4.cell? ⟨w.heap.size+1,5,none⟩=some (.slice none 0 0):=by simp only[World.cell?,A.out];rfl
    have qf:∀o,w4.frozen? ⟨w.heap.size+1,o,none⟩=false:=λo=>by simp[World.frozen?,A.out]
    have c2:(qdh w4 (w.heap.size+1) (.int .i64 zk) (.int .i64 zn) (.bool x) (.string z) (.int .i64 zm) (.slice za zl zc)).heap[w.heap.size+1]? =some (.cells #[.int .i64 zk,.int .i64 zn,.bool x,.string z,.int .i64 zm,.slice za zl zc] 134 (0,0)):=qdv A.out;have f8:=hZ c2;clear c2;refine hZ ?_;go_wp2;refine bodyPost_ret (results_cell_row (p:=8) (ty:=134) (by kernel_rfl) _ _ (w.heap.size+1) 134 #[.int .i64 zk,.int .i64 zn,.bool x,.string z,.int .i64 zm,.slice za zl zc] (0,0) _ rfl f8.out underlying134 rfl (by kernel_rfl)) rfl ?_;exact f7.out _ (qcs _)
  ·have j7:¬(j:Int)<(nr:Int):=by omega
   have HB:=hZ kj.bel;have HN:Hid (qu0 mark fm=none):=by
    rw[n,List.drop_eq_nil_of_le (by rw[<-R.out];omega)];rfl
   clear kj b6 a2 a3 a4 n hj;go_wp2_with (go_at_call 131;refine(qsn _ _).mono ?_;rintro e w2 ⟨rfl,o,rfl⟩)
   rw[HN.out];exact⟨rfl,rfl,HB.out.alloc HB.out.size _⟩
theorem q33(S:Sub):q1g KM S:=by
 intro X G m x sc w t k r e mc v g i u j f;obtain⟨B,C,l,n,D,E,p,F⟩:=e;have c:=u.row;have b:=c.len;simp only[List.length_cons]at b;obtain⟨y,o,I,q,_⟩:=c.mem (by show 0<p;have:p=r.length+1:=b;omega);have q:E=some ⟨y,o,none⟩:=q;obtain rfl:p=r.length+1:=b;subst q;have f:RulesR G mc v:=f;obtain⟨a,cap,J,_⟩:=f.at';subst J;rw[qrf];refine Calls.mono (qpr g X.ab sc i.fnd t k r B C l n D y o r.length F u j mc a _ cap f x.count) ?_;intro K w' h;cases hu:qu0 x.count (qf9 mc sc r mc.rules)with
 |none=>
  rw[hu]at h;obtain⟨rfl,z⟩:=h;exact⟨rfl,g.cntB (eR _) z,i.mt.keep (z.block _ (eW (i.lo _ (by simp)).2.2.1 i.sl))⟩
 |some d=>
  rw[hu]at h;obtain⟨H,e2,rfl,A,s⟩:=h;exact⟨H,e2,rfl,A.mv,A.inv g,s⟩
def qun(w:Wd)(na:OA)(ss:List BA):Prop:=∀(i:Nat) (s:BA),ss[i]? =some s->∃g,na=some ⟨g,0,none⟩/\w.cell? ⟨g,i,none⟩=some (.string s)
def quq(ss:List BA)(t:BA):Bool:=(ss.map (·.data.toList)).contains t.data.toList
def q7o(w:Wd)(ss:List BA)(t:BA)(nn k:Nat)(s8:Vu)(wr:Wd):Prop:=∃j:Nat,j+k=nn/\s8=.int .i64 (j:Int)/\quq (ss.take j) t=false/\Lk w wr
def q7p(w:Wd)(ss:List BA)(t:BA)(e:En)(w':Wd):Prop:=∃r:Int,e=.returned (.int .i64 r)/\qxm r (quq ss t)/\Lk w w'
theorem qwk(ss:List BA)(v:OA)(C:Nat)(t:BA)(w:Wd)(x:qun w v ss)(D:ss.length<=1000000):
  Calls prog 423 #[.slice v ss.length C,.string t] w (q7p w ss t):=by
 have E:=hZ x;obtain⟨b,c⟩:∃b,b=ss.length:=⟨_,rfl⟩;rw[<-c]at D|-;have y:=hZ c;clear x c;go_enter func423,ntmps423
 go_wp2;go_loopg [8] b (q7o w ss t b)
 case atStart=>exact⟨0,by omega,rfl,rfl,⟨rfl,rfl,rfl,rfl⟩⟩
 case round=>
  obtain⟨k,z,rfl,d,l⟩:=hrel;have e:=hZ d;have n:=hZ l;have o:=hZ z;clear d z;by_cases p:k<b
  ·have q:k<ss.length:=by rw[<-y.out];exact p
   obtain⟨s,m⟩:∃s,ss[k]? =some s:=⟨_,eG q⟩;obtain⟨g,rfl,A⟩:=E.out k _ m;have F:wr.cell? ⟨g,k,none⟩=some (.string s):=(qaw l _).trans A;have r:Hid (ss.take (k+1)=ss.take k++[s]):=by show _=_;rw[List.take_add_one,m];rfl
   have f:Hid (s∈ss):=List.mem_of_getElem? m;have B:(k:Int)<(b:Int):=by omega
   clear m A l;by_cases a:t=s
   ·subst a;go_wp2;go_ret;refine⟨k,rfl,?_,n.out⟩;have:quq ss t=true:=by
     unfold quq;rw[List.contains_iff_mem];exact List.mem_map.2 ⟨_,f.out,rfl⟩
    rw[this];simp[qxm]
   ·have G:¬t.toList=s.toList:=λh=>a (by rw[ByteArray.toList_eq,ByteArray.toList_eq]at h;exact qbd h)
    have i:Hid (quq (ss.take (k+1)) t=false):=by
     have u:=e.out;show _=_;unfold quq at u|-;rw[r.out,List.map_append];simp only[List.contains_eq_mem,decide_eq_false_iff_not,List.mem_append,not_or]at u|-;exact⟨u,λh=>by simp only[List.map_cons,List.map_nil,List.mem_singleton]at h;exact a (qbd h)⟩
    have H:(t.toList==s.toList)=false:=by simpa using G
    clear a;go_wp2;go_roundg (b-(k+1))
    case measure=>have:=o.out;omega
    case rel=>exact⟨k+1,by omega,by first|rfl|go_num,i.out,n.out⟩
  ·have I:¬(k:Int)<(b:Int):=by omega
   have j:Hid (quq ss t=false):=by
    have:=e.out;rw[List.take_of_length_le (by rw[<-y.out];omega)]at this;exact this
   clear l;go_wp2;go_ret;exact⟨-1,rfl,by rw[j.out];rfl,n.out⟩
theorem qni(ss:List BA)(a:OA)(b:Nat)(t:BA)(w:Wd)(c:qun w a ss)(g:ss.length<=1000000):
  Calls prog 414 #[.slice a ss.length b,.string t] w λe w'=>e=.returned (.bool (quq ss t))/\Lk w w':=by
 have h:=hZ (qwk ss a b t w c g);clear c;go_enter func414,ntmps414
 go_wp2_with (first|(go_at_call 423;refine h.out.mono ?_;rintro e w2 ⟨r,rfl,d,f⟩;have i:=hZ d;have j:=hZ f;clear d f))
 go_ret;exact⟨by rw[<-(i.out:decide (0<=r)=_)];rfl,j.out⟩
def PrP(w:Wd)(bt:BA)(bm:Int)(t:BA)(m:Int)(e:En)(w':Wd):Prop:=e=.returned (.bool (decide (bt.data.toList=t.data.toList/\bm=m)))/\Below w.heap.size w w'
theorem qzt(a:BA)(b bd:Int)(nb:Nat)(t:BA)(m:Int)(w:Wd)(e:w.cell? ⟨nb,0,none⟩=some (.string t))(g:w.cell? ⟨nb,1,none⟩=some (.int .i64 m)):
  Calls prog 418 #[.agg #[.string a,.int .i64 b,.int .i64 bd],bp nb] w (PrP w a b t m):=by
 have lb:=qae e;have c0:=(qac lb (.cells #[.string a,.int .i64 b,.int .i64 bd] 481)).trans e;have c1:=(qac lb (.cells #[.string a,.int .i64 b,.int .i64 bd] 481)).trans g;by_cases c:a=t
 ·subst c;by_cases f:b=m
  ·subst f;go_enter func418,ntmps418
   go_wp2;go_ret;exact⟨by simp,qaa _ _⟩
  ·go_enter func418,ntmps418
   go_wp2;go_ret;exact⟨by simp[f],qaa _ _⟩
 ·have i:¬a.toList=t.toList:=λh=>c (by rw[ByteArray.toList_eq,ByteArray.toList_eq]at h;exact qbd h)
  have d:¬a.data.toList=t.data.toList:=λh=>c (qbd h)
  go_enter func418,ntmps418
  go_wp2;go_ret;refine⟨?_,qaa _ _⟩;rw[decide_eq_false (λh=>d h.1)];rfl
theorem qzu(a:BA)(b bd:Int)(nb:Nat)(t:BA)(m:Int)(w:Wd)(e:w.cell? ⟨nb,0,none⟩=some (.string t))(g:w.cell? ⟨nb,1,none⟩=some (.int .i64 m)):
  Calls prog 407 #[.agg #[.string a,.int .i64 b,.int .i64 bd],bp nb] w (PrP w a b t m):=by
 have lb:=qae e;have c0:=(qac lb (.cells #[.string a,.int .i64 b,.int .i64 bd] 481)).trans e;have c1:=(qac lb (.cells #[.string a,.int .i64 b,.int .i64 bd] 481)).trans g;by_cases c:a=t
 ·subst c;by_cases f:b=m
  ·subst f;go_enter func407,ntmps407
   go_wp2;go_ret;exact⟨by simp,qaa _ _⟩
  ·go_enter func407,ntmps407
   go_wp2;go_ret;exact⟨by simp[f],qaa _ _⟩
 ·have i:¬a.toList=t.toList:=λh=>c (by rw[ByteArray.toList_eq,ByteArray.toList_eq]at h;exact qbd h)
  have d:¬a.data.toList=t.data.toList:=λh=>c (qbd h)
  go_enter func407,ntmps407
  go_wp2;go_ret;refine⟨?_,qaa _ _⟩;rw[decide_eq_false (λh=>d h.1)];rfl
abbrev Bk:=(BA×Int)×Nat
def idB(b:Bk):Sc.Id×Nat:=(idS b.1,b.2)
def qby(bs:List Bk):List Vu:=bs.flatMap λb=>[.string b.1.1,.int .i64 b.1.2,.int .i64 (b.2:Int)]
theorem qnt(a b:List Bk):qby (a++b)=qby a++qby b:=by simp[qby]
theorem qfz:∀(bs:List Bk) (i:Nat) (b:Bk),bs[i]? =some b->(qby bs)[i*3]? =some (.string b.1.1)/\(qby bs)[i*3+1]? =some (.int .i64 b.1.2)/\(qby bs)[i*3+2]? =some (.int .i64 (b.2:Int))
 | [],i,b,h=>by simp at h
 |c::r,0,b,h=>by
  obtain rfl:c=b:=by simpa using h
  exact⟨rfl,rfl,rfl⟩
 |c::r,i+1,b,h=>by
  obtain⟨a,d,f⟩:=qfz r i b (by simpa using h);have e:∀j,(qby (c::r))[(i+1)*3+j]? =(qby r)[i*3+j]?:=λj=>by
   show([Value.string c.1.1,.int .i64 c.1.2,.int .i64 (c.2:Int)]++qby r)[(i+1)*3+j]? =_;rw[eB (by simp;omega)];congr 1;simp;omega
  exact⟨(e 0).trans a,(e 1).trans d,(e 2).trans f⟩
def qxo(w:Wd)(na:OA)(bs:List Bk):Prop:=∀(i:Nat) (b:Bk),bs[i]? =some b->∃g,na=some ⟨g,0,none⟩/\w.cell? ⟨g,i*3,none⟩=some (.string b.1.1)/\w.cell? ⟨g,i*3+1,none⟩=some (.int .i64 b.1.2)/\w.cell? ⟨g,i*3+2,none⟩=some (.int .i64 (b.2:Int))
def qlg(t:BA)(m:Int)(bs:List Bk):Option Nat:=bs.findIdx? λb=>decide (b.1.1.data.toList=t.data.toList/\b.1.2=m)
def IxR(w:Wd)(bs:List Bk)(t:BA)(m:Int)(nn k:Nat)(s8:Vu)(wr:Wd):Prop:=∃j:Nat,j+k=nn/\s8=.int .i64 (j:Int)/\(∀b,b∈bs.take j->¬(b.1.1.data.toList=t.data.toList/\b.1.2=m))/\Below w.heap.size w wr
def IxP(w:Wd)(bs:List Bk)(t:BA)(m:Int)(e:En)(w':Wd):Prop:=e=.returned (.int .i64 (match qlg t m bs with|some i=>(i:Int)|none=>-1))/\Below w.heap.size w w'
theorem q0c{bs:List Bk}{b:Bk}(c:bs[k]? =some b)(h:b.1.1.data.toList=t.data.toList/\b.1.2=m)(a:∀b,b∈bs.take k->¬(b.1.1.data.toList=t.data.toList/\b.1.2=m)):qlg t m bs=some k:=by
 unfold qlg;rw[List.findIdx?_eq_some_iff_getElem];have d:=(eL.1 c).1;refine⟨d,?_,λj e=>?_⟩
 ·have:=eG d;rw[c]at this;rw[<-Option.some.inj this];simpa using h
 ·have:=a bs[j] (List.mem_iff_getElem?.2 ⟨j,by rw[List.getElem?_take_of_lt e];exact eG (by omega)⟩);simpa using this
theorem qs5{bs:List Bk}(a:∀b,b∈bs->¬(b.1.1.data.toList=t.data.toList/\b.1.2=m)):qlg t m bs=none:=by
 unfold qlg;rw[List.findIdx?_eq_none_iff];exact λb c=>by simpa using a b c
theorem qos(bs:List Bk)(E:OA)(O f nb:Nat)(t:BA)(m:Int)(w:Wd)(W:∀args w,(callFunc f args).run prog w=.ok (.enter f args) w)(F:qxo w E bs)(P:bs.length<=1000000000000)
  (G:∀(b:Bk) w',Below w.heap.size w w'->Calls prog f (#[.agg #[.string b.1.1,.int .i64 b.1.2,.int .i64 (b.2:Int)]]++#[bp nb]) w' (PrP w' b.1.1 b.1.2 t m)):
  Calls prog 406 #[.slice E bs.length O,.func (.func f) #[] #[bp nb]] w (IxP w bs t m):=by
 have Q:=hZ F;have R:=hZ G;obtain⟨d,i⟩:∃d,d=bs.length:=⟨_,rfl⟩;rw[<-i]at P|-;have H:=hZ i;clear F i G;go_enter func406,ntmps406
 go_wp2;go_loopg [8] d (IxR w bs t m d)
 case atStart=>exact⟨0,by omega,rfl,by simp,Below.refl _ _⟩
 case round=>
  obtain⟨k,I,rfl,u,j⟩:=hrel;have l:=hZ u;have v:=hZ j;have z:=hZ I;clear u I;by_cases A:k<d
  ·obtain⟨⟨⟨n,o⟩,bd⟩,q⟩:∃b,bs[k]? =some b:=⟨_,eG (by rw[<-H.out];exact A)⟩;obtain⟨g,rfl,x,J,K⟩:=Q.out k _ q;have S:wr.cell? ⟨g,k*3,none⟩=some (.string n):=(j.cell (p:=⟨g,k*3,none⟩) (qae x)).trans x;have T:wr.cell? ⟨g,k*3+1,none⟩=some (.int .i64 o):=(j.cell (p:=⟨g,k*3+1,none⟩) (qae x)).trans J;have U:wr.cell? ⟨g,k*3+2,none⟩=some (.int .i64 (bd:Int)):=(j.cell (p:=⟨g,k*3+2,none⟩) (qae x)).trans K;have L:(k:Int)<(d:Int):=by omega
   have M:=hZ q;have N:Hid (Calls prog f (#[.agg #[.string n,.int .i64 o,.int .i64 (bd:Int)]]++#[bp nb]) wr (PrP wr n o t m)):=R.out ((n,o),bd) wr j;clear q x J K j;by_cases a:n.data.toList=t.data.toList/\o=m
   ·have r:Hid (Calls prog f (#[.agg #[.string n,.int .i64 o,.int .i64 (bd:Int)]]++#[bp nb]) wr λe w2=>e=.returned (.bool true)/\Below w.heap.size w w2):=Calls.mono N.out λe w2 ⟨B,C⟩=>⟨by rw[B,decide_eq_true a],v.out.trans (C.mono v.out.size)⟩
    have D:Hid (qlg t m bs=some k):=q0c M.out a l.out;clear a;go_wp2_with (go_at_fn f;refine r.out.mono ?_;rintro e w2 ⟨rfl,c⟩;have s:=hZ c;clear c)
    go_ret;exact⟨by rw[D.out];rfl,s.out⟩
   ·have r:Hid (Calls prog f (#[.agg #[.string n,.int .i64 o,.int .i64 (bd:Int)]]++#[bp nb]) wr λe w2=>e=.returned (.bool false)/\Below w.heap.size w w2):=Calls.mono N.out λe w2 ⟨B,C⟩=>⟨by rw[B,decide_eq_false a],v.out.trans (C.mono v.out.size)⟩
    have y:Hid (∀b,b∈bs.take (k+1)->¬(b.1.1.data.toList=t.data.toList/\b.1.2=m)):=λb q=>by
     rw[List.take_add_one,M.out]at q;simp at q;rcases q with h|h
     ·exact l.out b h
     ·subst h;exact a
    clear a;go_wp2_with (go_at_fn f;refine r.out.mono ?_;rintro e w2 ⟨rfl,c⟩;have s:=hZ c;clear c)
    go_roundg (d-(k+1))
    case measure=>have:=z.out;omega
    case rel=>exact⟨k+1,by omega,by first|rfl|go_num,y.out,s.out⟩
  ·have V:¬(k:Int)<(d:Int):=by omega
   have D:Hid (qlg t m bs=none):=qs5 (by
    have:=l.out;rw[List.take_of_length_le (by rw[<-H.out];omega)]at this;exact this)
   clear j;go_wp2;go_ret;exact⟨by rw[D.out];rfl,v.out⟩
theorem qnh(bs:List Bk)(c:OA)(g f nb:Nat)(t:BA)(m:Int)(w:Wd)(p:∀args w,(callFunc f args).run prog w=.ok (.enter f args) w)(n:qxo w c bs)(q:bs.length<=1000000000000)
  (o:∀(b:Bk) w',Below w.heap.size w w'->Calls prog f (#[.agg #[.string b.1.1,.int .i64 b.1.2,.int .i64 (b.2:Int)]]++#[bp nb]) w' (PrP w' b.1.1 b.1.2 t m)):
  Calls prog 417 #[.slice c bs.length g,.func (.func f) #[] #[bp nb]] w λe w'=>e=.returned (.bool (qlg t m bs).isSome)/\Below w.heap.size w w':=by
 have h:=hZ (qos bs c g f nb t m w p n q o);clear n o;cases hx:qlg t m bs with
 |none=>
  have a:Hid (Calls prog 406 #[.slice c bs.length g,.func (.func f) #[] #[bp nb]] w λe w'=>e=.returned (.int .i64 (-1))/\Below w.heap.size w w'):=Calls.mono h.out λe w2 ⟨j,k⟩=>⟨by rw[j,hx],k⟩
  clear hx h;go_enter func417,ntmps417
  go_wp2_with (first|(go_at_call 406;refine a.out.mono ?_;rintro e w2 ⟨rfl,d⟩;have l:=hZ d;clear d))
  go_ret;exact⟨rfl,l.out⟩
 |some i=>
  have a:Hid (Calls prog 406 #[.slice c bs.length g,.func (.func f) #[] #[bp nb]] w λe w'=>e=.returned (.int .i64 (i:Int))/\Below w.heap.size w w'):=Calls.mono h.out λe w2 ⟨j,k⟩=>⟨by rw[j,hx],k⟩
  clear hx h;have r:(0:Int)<=(i:Int):=by omega
  go_enter func417,ntmps417
  go_wp2_with (first|(go_at_call 406;refine a.out.mono ?_;rintro e w2 ⟨rfl,d⟩;have l:=hZ d;clear d))
  go_ret;exact⟨rfl,l.out⟩
theorem qjt(pb:Nat)(m k:Int)(w:Wd):Calls prog 403 #[bp pb,.agg #[.string ⟨#[46,46,46]⟩,.int .i64 m],.int .i64 k] w λe w'=>e=.panicked (qan (qap 4))/\Below w.heap.size w w':=by
 go_enter func403,ntmps403
 go_wp2_with (go_at_call 290;refine(qav _).mono ?_;rintro e w4 ⟨rfl,o,rfl⟩)
 exact⟨rfl,rfl,(qaa _ _).alloc (by simp) _⟩
theorem qlj(pb n lc:Nat)(h:OA)(t:BA)(m k:Int)(w:Wd)(z:(t.toList== [46,46,46])=false)(v:w.cell? ⟨pb,0,none⟩=some (.slice h n lc))
  (a:∀w',Lk (w.alloc (.cells #[.string t,.int .i64 m] 382)) w'->Calls prog 414 #[.slice h n lc,.string t] w' λe w2=>e=.returned (.bool true)/\Lk w' w2):
  Calls prog 403 #[bp pb,.agg #[.string t,.int .i64 m],.int .i64 k] w λe w'=>∃b,e=.returned (.func (.func 424) #[] #[bp b])/\w.heap.size<=b/\w'.heap[b]? =some (.cells #[.string t] 9 (0,0))/\Below w.heap.size w w':=by
 have lb:=qae v;have c0:=(qac lb (.cells #[.string t,.int .i64 m] 382)).trans v;have r:(w.alloc (.cells #[.string t,.int .i64 m] 382)).cell? ⟨w.heap.size,0,none⟩=some (.string t):=by simp only[World.cell?,eN];rfl
 have x:=hZ a;have A:¬t.toList=[46,46,46]:=by simpa using z
 clear a;go_enter func403,ntmps403
 go_wp2_with (first|(go_at_call 290;refine(qak _).mono ?_;rintro e w4 ⟨rfl,s⟩;obtain rfl:=s.symm))
 generalize c:w.alloc (.cells #[.string t,.int .i64 m] 382)=WA at c0 r x|-;have y:WA.heap.size=w.heap.size+1:=by rw[<-c];simp
 have q:Hid (Below w.heap.size w WA):=by rw[<-c];exact qaa _ _
 have C:=hZ y;clear c y;have u:Hid (∀w',Lk WA w'->Calls prog 414 #[.slice h n lc,.string t] w' λe w2=>e=.returned (.bool true)/\(w2.cell? ⟨w.heap.size,0,none⟩=some (.string t)/\w2.cell? ⟨pb,0,none⟩=some (.slice h n lc))/\Lk WA w2):=λw' d=>Calls.mono (x.out w' d) λe w2 ⟨B,g⟩=>⟨B,⟨by rw[qaw g,qaw d];exact r,by rw[qaw g,qaw d];exact c0⟩,⟨g.heap.trans d.heap,g.tape.trans d.tape,g.os.trans d.os,g.output.trans d.output⟩⟩
 go_region_held2 (λw'=>w'.cell? ⟨w.heap.size,0,none⟩=some (.string t)/\w'.cell? ⟨pb,0,none⟩=some (.slice h n lc)) (first|(exact i.out)|(exact⟨r,c0⟩)|go_keep)
  (first|(go_at_call 414;refine(u.out _ (by exact⟨rfl,rfl,rfl,rfl⟩)).mono ?_;rintro e w2 ⟨rfl,j,l⟩;have i:=hZ j;have f:=hZ l;clear j l))
 all_goals(
  have D:=i.out.1;go_wp2_with (go_at_call 415;refine(qv2 t _).mono ?_;rintro e w3 ⟨rfl,o⟩;have p:=hZ o;clear o)
  go_ret;refine⟨_,rfl,?_,?_,?_⟩
  ·rw[f.out.heap];exact q.out.size
  ·rw[p.out.heap];exact eN _ _
  ·exact(q.out.trans (qo6 f.out q.out.size)).trans ((bl1 p.out).mono (by rw[f.out.heap];exact q.out.size)))
theorem qll(pb n lc:Nat)(d:OA)(m k:Int)(w:Wd)(q:w.cell? ⟨pb,0,none⟩=some (.slice d n lc))
  (a:∀w',Lk (w.alloc (.cells #[.string ⟨#[95]⟩,.int .i64 m] 382)) w'->Calls prog 414 #[.slice d n lc,.string ⟨#[95]⟩] w' λe w2=>e=.returned (.bool false)/\Lk w' w2):
  Calls prog 403 #[bp pb,.agg #[.string ⟨#[95]⟩,.int .i64 m],.int .i64 k] w λe w'=>e=.returned (.func (.func 416) #[] #[])/\Below w.heap.size w w':=by
 have lb:=qae q;have c0:=(qac lb (.cells #[.string ⟨#[95]⟩,.int .i64 m] 382)).trans q;have j:(w.alloc (.cells #[.string ⟨#[95]⟩,.int .i64 m] 382)).cell? ⟨w.heap.size,0,none⟩=some (.string ⟨#[95]⟩):=by simp only[World.cell?,eN];rfl
 have r:=hZ a;clear a;go_enter func403,ntmps403
 go_wp2_with (first|(go_at_call 290;refine(qak _).mono ?_;rintro e w4 ⟨rfl,l⟩;obtain rfl:=l.symm))
 generalize f:w.alloc (.cells #[.string ⟨#[95]⟩,.int .i64 m] 382)=WA at c0 j r|-;have s:Hid (Below w.heap.size w WA):=by rw[<-f];exact qaa _ _
 clear f;have o:Hid (∀w',Lk WA w'->Calls prog 414 #[.slice d n lc,.string ⟨#[95]⟩] w' λe w2=>e=.returned (.bool false)/\(w2.cell? ⟨w.heap.size,0,none⟩=some (.string ⟨#[95]⟩)/\w2.cell? ⟨pb,0,none⟩=some (.slice d n lc))/\Lk WA w2):=λw' b=>Calls.mono (r.out w' b) λe w2 ⟨t,c⟩=>⟨t,⟨by rw[qaw c,qaw b];exact j,by rw[qaw c,qaw b];exact c0⟩,⟨c.heap.trans b.heap,c.tape.trans b.tape,c.os.trans b.os,c.output.trans b.output⟩⟩
 go_region_held2 (λw'=>w'.cell? ⟨w.heap.size,0,none⟩=some (.string ⟨#[95]⟩)/\w'.cell? ⟨pb,0,none⟩=some (.slice d n lc)) (first|(exact g.out)|(exact⟨j,c0⟩)|go_keep)
  (first|(go_at_call 414;refine(o.out _ (by exact⟨rfl,rfl,rfl,rfl⟩)).mono ?_;rintro e w2 ⟨rfl,h,i⟩;have g:=hZ h;have p:=hZ i;clear h i))
 all_goals(
  have u:=g.out.1;go_wp2;go_ret;exact⟨rfl,s.out.trans (qo6 p.out s.out.size)⟩)
theorem qlk(pb n lc nb q:Nat)(f ba:OA)(t:BA)(m k:Int)(w:Wd)(F:(t.toList== [46,46,46])=false)(r:(t.toList== [95])=false)(B:w.cell? ⟨pb,0,none⟩=some (.slice f n lc))(s:w.cell? ⟨pb,1,none⟩=some (.slice ba nb q))
  (a:∀w',Lk (w.alloc (.cells #[.string t,.int .i64 m] 382)) w'->Calls prog 414 #[.slice f n lc,.string t] w' λe w2=>e=.returned (.bool false)/\Lk w' w2)
  (b:∀w',Lk (w.alloc (.cells #[.string t,.int .i64 m] 382)) w'->Calls prog 417 #[.slice ba nb q,.func (.func 418) #[] #[bp w.heap.size]] w' λe w2=>e=.returned (.bool true)/\Below w.heap.size w w2):
  Calls prog 403 #[bp pb,.agg #[.string t,.int .i64 m],.int .i64 k] w λe w'=>e=.panicked (qan (qap 4))/\Below w.heap.size w w':=by
 have lb:=qae B;have c0:=(qac lb (.cells #[.string t,.int .i64 m] 382)).trans B;have c1:=(qac lb (.cells #[.string t,.int .i64 m] 382)).trans s;have u:(w.alloc (.cells #[.string t,.int .i64 m] 382)).cell? ⟨w.heap.size,0,none⟩=some (.string t):=by simp only[World.cell?,eN];rfl
 have C:=hZ a;have D:=hZ b;have G:¬t.toList=[46,46,46]:=by simpa using F
 have E:¬t.toList=[95]:=by simpa using r
 clear a b;go_enter func403,ntmps403
 go_wp2_with (first|(go_at_call 290;refine(qak _).mono ?_;rintro e w4 ⟨rfl,v⟩;obtain rfl:=v.symm))
 generalize x:w.alloc (.cells #[.string t,.int .i64 m] 382)=WA at c0 c1 u C D|-;clear x;have y:Hid (∀w',Lk WA w'->Calls prog 414 #[.slice f n lc,.string t] w' λe w2=>e=.returned (.bool false)/\(w2.cell? ⟨w.heap.size,0,none⟩=some (.string t)/\w2.cell? ⟨pb,0,none⟩=some (.slice f n lc))/\w2.cell? ⟨pb,1,none⟩=some (.slice ba nb q)/\Lk WA w2):=λw' c=>Calls.mono (C.out w' c) λe w2 ⟨s,d⟩=>⟨s,⟨by rw[qaw d,qaw c];exact u,by rw[qaw d,qaw c];exact c0⟩,by rw[qaw d,qaw c];exact c1,⟨d.heap.trans c.heap,d.tape.trans c.tape,d.os.trans c.os,d.output.trans c.output⟩⟩
 go_region_held2 (λw'=>w'.cell? ⟨w.heap.size,0,none⟩=some (.string t)/\w'.cell? ⟨pb,0,none⟩=some (.slice f n lc)) (first|(exact g.out)|(exact⟨u,c0⟩)|go_keep)
  (first|(go_at_call 414;refine(y.out _ (by exact⟨rfl,rfl,rfl,rfl⟩)).mono ?_;rintro e w2 ⟨rfl,h,i,j⟩;have g:=hZ h;have z:=hZ i;have A:=hZ j;clear h i j))
 all_goals(
  have H:=g.out.1;have I:=z.out;go_wp2_with (first|(go_at_call 417;refine(D.out _ A.out).mono ?_;rintro e w3 ⟨rfl,l⟩;have p:=hZ l;clear l)|(go_at_call 290;refine(qav _).mono ?_;rintro e w4 ⟨rfl,o,rfl⟩))
  exact⟨rfl,rfl,p.out.alloc p.out.size _⟩)
theorem q0f:(prog.info? 481).map (λi=>(i.zero,i.size,i.bytes))=some (some (.agg #[.string ⟨#[]⟩,.int .i64 0,.int .i64 0]),3,32):=by kernel_rfl
@[reducible] def SNm(nb:Nat)(t:BA)(m:Int)(w:Wd):Prop:=w.cell? ⟨nb,0,none⟩=some (.string t)/\w.cell? ⟨nb,1,none⟩=some (.int .i64 m)
theorem SNm.keep(h:SNm nb t m w)(e:w'.heap[nb]? =w.heap[nb]?):SNm nb t m w':=⟨(World.cell?_of_block (a:=⟨nb,0,none⟩) e).trans h.1,(World.cell?_of_block (a:=⟨nb,1,none⟩) e).trans h.2⟩
def BkP(w:Wd)(pb lo n:Nat)(bv:Vu)(xs:List Vu)(t:BA)(m k:Int)(e:En)(w':Wd):Prop:=
 ∃b g cap W w3,e=.returned (.func (.func 419) #[] #[bp b])/\w.heap.size<=b/\Below w.heap.size w W/\W.heap[b]? =some (.cells #[.int .i64 (n:Int)] 3 (0,0))/\W.grownBy w3 bv.ownBlock/\w3.ownsRow lo 481 3 (.slice (some ⟨g,0,none⟩) (n+1) cap) (n+1) (xs++[.string t,.int .i64 m,.int .i64 k])/\(bv.ownBlock=some g\/w.heap.size<=g)/\Lk (w3.setCell ⟨pb,1,none⟩ (.slice (some ⟨g,0,none⟩) (n+1) cap)) w'
theorem qli(pb n lc nb c lo:Nat)(B ba:OA)(I:Vu)(xs:List Vu)(t:BA)(m k:Int)(w:Wd)(hd:(t.toList== [46,46,46])=false)(b4:(t.toList== [95])=false)(P:w.heap[pb]? =some (.cells #[.slice B n lc,.slice ba nb c,I] 402 (0,0)))(C:w.ownsRow lo 481 3 (.slice ba nb c) nb xs)(Q:pb<lo)(d4:lo<=w.heap.size)(d5:nb<=1000000000000)
  (D:∀w',Lk (w.alloc (.cells #[.string t,.int .i64 m] 382)) w'->Calls prog 414 #[.slice B n lc,.string t] w' λe w2=>e=.returned (.bool false)/\Lk w' w2)
  (E:∀w',Lk (w.alloc (.cells #[.string t,.int .i64 m] 382)) w'->Calls prog 417 #[.slice ba nb c,.func (.func 418) #[] #[bp w.heap.size]] w' λe w2=>e=.returned (.bool false)/\Below w'.heap.size w' w2):
  Calls prog 403 #[bp pb,.agg #[.string t,.int .i64 m],.int .i64 k] w (BkP w pb lo nb (.slice ba nb c) xs t m k):=by
 obtain⟨i0,hi,R,S,T⟩:=info_parts q0f;have lb:=(eE.1 P).1;have pA:∀W,Below w.heap.size w W->W.heap[pb]? =some (.cells #[.slice B n lc,.slice ba nb c,I] 402 (0,0)):=λW hW=>(hW.block _ lb).trans P
 have d:=qaa w (.cells #[.string t,.int .i64 m] 382);have c0:(w.alloc (.cells #[.string t,.int .i64 m] 382)).cell? ⟨pb,0,none⟩=some (.slice B n lc):=by simp only[World.cell?,pA _ d];rfl
 have c1:(w.alloc (.cells #[.string t,.int .i64 m] 382)).cell? ⟨pb,1,none⟩=some (.slice ba nb c):=by simp only[World.cell?,pA _ d];rfl
 have n0:(w.alloc (.cells #[.string t,.int .i64 m] 382)).cell? ⟨w.heap.size,0,none⟩=some (.string t):=by simp only[World.cell?,eN];rfl
 have HC:=hZ D;have HD:Hid (∀w',Lk (w.alloc (.cells #[.string t,.int .i64 m] 382)) w'->Calls prog 417 #[.slice ba nb c,.func (.func 418) #[] #[bp w.heap.size]] w' λe w2=>e=.returned (.bool false)/\Below w.heap.size w w2/\w2.heap[w.heap.size]? =some (.cells #[.string t,.int .i64 m] 382 (0,0))):=λw' i=>by
  refine Calls.mono (E w' i) λe w2 ⟨q1,q2⟩=>⟨q1,(bl1 i).trans (q2.mono (bl1 i).size),?_⟩
  rw[q2.block _ (by rw[i.heap];simp),i.heap];exact eN _ _
 have b5:=hZ pA;have l:=hZ C;have d6:¬t.toList=[46,46,46]:=by simpa using hd
 have d3:¬t.toList=[95]:=by simpa using b4
 clear D E d pA C;go_enter func403,ntmps403
 go_wp2_with (first|(go_at_call 290;refine(qak _).mono ?_;rintro e w4 ⟨rfl,J⟩;obtain rfl:=J.symm))
 generalize b6:w.alloc (.cells #[.string t,.int .i64 m] 382)=WA at c0 c1 n0 HC HD|-;clear b6;have b7:Hid (∀w',Lk WA w'->Calls prog 414 #[.slice B n lc,.string t] w' λe w2=>e=.returned (.bool false)/\(w2.cell? ⟨w.heap.size,0,none⟩=some (.string t)/\w2.cell? ⟨pb,0,none⟩=some (.slice B n lc))/\w2.cell? ⟨pb,1,none⟩=some (.slice ba nb c)/\Lk WA w2):=λw' i=>Calls.mono (HC.out w' i) λe w2 ⟨h1,K⟩=>⟨h1,⟨by rw[qaw K,qaw i];exact n0,by rw[qaw K,qaw i];exact c0⟩,by rw[qaw K,qaw i];exact c1,⟨K.heap.trans i.heap,K.tape.trans i.tape,K.os.trans i.os,K.output.trans i.output⟩⟩
 go_region_held2 (λw'=>w'.cell? ⟨w.heap.size,0,none⟩=some (.string t)/\w'.cell? ⟨pb,0,none⟩=some (.slice B n lc)) (first|(exact U.out)|(exact⟨n0,c0⟩)|go_keep)
  (first|(go_at_call 414;refine(b7.out _ (by exact⟨rfl,rfl,rfl,rfl⟩)).mono ?_;rintro e w2 ⟨rfl,X,Y,Z⟩;have U:=hZ X;have b8:=hZ Y;have b9:=hZ Z;clear X Y Z))
 all_goals(
  have n2:=U.out.1;have p2:=b8.out;go_wp2_with (first|(go_at_call 417;refine(HD.out _ b9.out).mono ?_;rintro e w3 ⟨rfl,a0,f⟩;have s:=hZ a0;have a1:=hZ f;clear a0 f;refine Hid.out ?_))
  have p:=b5.out _ s.out;have c2:=s.out.size;have p3:w3.cell? ⟨pb,1,none⟩=some (.slice ba nb c):=by simp only[World.cell?,p];rfl
  have c3:=(eE.1 p).1;have f:=a1.out;have c4:=(eE.1 f).1;have u0:w3.cell? ⟨w.heap.size,0,none⟩=some (.string t):=by simp only[World.cell?,f];rfl
  have u1:w3.cell? ⟨w.heap.size,1,none⟩=some (.int .i64 m):=by simp only[World.cell?,f];rfl
  have F:=hZ p;clear p f n2 p2 c0 c1 n0;refine hZ ?_;go_wp2_with (first|(go_at_call 290;refine(qak _).mono ?_;rintro e w4 ⟨rfl,J⟩;obtain rfl:=J.symm))
  obtain⟨V,L⟩:∃V,V=w3.alloc (.cells #[.int .i64 (nb:Int)] 3):=⟨_,rfl⟩;have M:Below w.heap.size w V:=by rw[L];exact s.out.alloc s.out.size _
  have c5:V.heap.size=w3.heap.size+1:=by rw[L];simp
  have x:V.heap[pb]? =some (.cells #[.slice B n lc,.slice ba nb c,I] 402 (0,0)):=by rw[L,eH _ _ _ c3];exact F.out
  have a2:V.heap[w3.heap.size]? =some (.cells #[.int .i64 (nb:Int)] 3 (0,0)):=by rw[L];exact eN _ _
  have y:SNm w.heap.size t m V:=by rw[L];exact(SNm.keep (w:=w3) ⟨u0,u1⟩ (eH _ _ _ c4))
  rw[<-L];clear L;have v1:V.cell? ⟨pb,1,none⟩=some (.slice ba nb c):=by simp only[World.cell?,x];rfl
  have a3:=(eE.1 x).1;have a4:w.heap.size<V.heap.size:=by omega
  have d7:=(qac a3 (.cells #[.string t,.int .i64 m,.int .i64 k] 481)).trans v1;have a5:=hZ y;have a6:Hid (SNm w.heap.size t m V.drew):=y;have c6:Hid (SNm w.heap.size t m (V.alloc (.cells #[.string t,.int .i64 m,.int .i64 k] 481)).drew):=y.keep (eH _ _ _ a4);have N:Hid ((V.alloc (.cells #[.string t,.int .i64 m,.int .i64 k] 481)).drew.ownsRow lo 481 3 (.slice ba nb c) nb xs):=qk6 ((qb7 l.out λg hg=>M.block _ (l.out.lt g hg).2).alloc _) ⟨rfl,rfl,rfl,rfl⟩;have O:Hid (∀j u,[Value.string t,.int .i64 m,.int .i64 k][j]? =some u->(V.alloc (.cells #[.string t,.int .i64 m,.int .i64 k] 481)).drew.cell? ((⟨V.heap.size,0,none⟩:Addr).add j)=some u):=World.news_of_block (cs:=#[.string t,.int .i64 m,.int .i64 k]) (eN V (.cells #[.string t,.int .i64 m,.int .i64 k] 481));have a7:Hid (∀u∈[Value.string t,.int .i64 m,.int .i64 k],u.oneCell'=true):=by
   intro u hu;simp at hu;rcases hu with rfl|rfl|rfl <;> rfl
  have c7:Hid (nb+1<=maxLen):=by
   have:nb+1<=maxLen:=by unfold maxLen;omega
   exact this
  have c8:Hid ((nb+1)*32<=140737488355328):=by
   have:(nb+1)*32<=140737488355328:=by omega
   exact this
  have a8:Hid (lo<=(V.alloc (.cells #[.string t,.int .i64 m,.int .i64 k] 481)).drew.heap.size):=by
   have:lo<=(V.heap.push (.cells #[.string t,.int .i64 m,.int .i64 k] 481)).size:=by simp;omega
   exact this
  have z:Hid (∀(A b:Nat) (w4:Wd),w4.ownsRow lo 481 3 (.slice (some ⟨A,0,none⟩) (nb+1) b) (nb+1) (xs++[.string t,.int .i64 m,.int .i64 k])->(V.alloc (.cells #[.string t,.int .i64 m,.int .i64 k] 481)).drew.grownBy w4 (Value.slice ba nb c).ownBlock->((Value.slice ba nb c).ownBlock=some A\/A=(V.alloc (.cells #[.string t,.int .i64 m,.int .i64 k] 481)).drew.heap.size)->
    w4.cell? ⟨pb,1,none⟩=some (.slice ba nb c)/\(∀o,w4.frozen? ⟨pb,o,none⟩=false)/\SNm w.heap.size t m w4/\SNm w.heap.size t m (w4.setCell ⟨pb,1,none⟩ (.slice (some ⟨A,0,none⟩) (nb+1) b))/\
    ∀w5,Lk (w4.setCell ⟨pb,1,none⟩ (.slice (some ⟨A,0,none⟩) (nb+1) b)) w5->BkP w pb lo nb (.slice ba nb c) xs t m k (.returned (.func (.func 419) #[] #[bp w3.heap.size])) w5):=λA b w4 ho hg ha=>by
   have d8:(V.alloc (.cells #[.string t,.int .i64 m,.int .i64 k] 481)).drew.heap.size=V.heap.size+1:=by show(V.heap.push _).size=_;simp
   have d:Below V.heap.size V (V.alloc (.cells #[.string t,.int .i64 m,.int .i64 k] 481)).drew:=bl1 ⟨rfl,rfl,rfl,rfl⟩;have keep:∀q,q<V.heap.size->(q<lo\/w.heap.size<=q)->w4.heap[q]? =V.heap[q]?:=λq hq hl=>by
    rw[hg.block q (by omega) (λe=>by have:=l.out.lt q e.symm;omega),d.block q hq]
   have a9:=(keep pb a3 (.inl Q)).trans x;have c9:=keep w.heap.size a4 (.inr (eR _));have s4:SNm w.heap.size t m w4:=a5.out.keep c9;refine⟨by simp only[World.cell?,a9];rfl,λo=>by simp[World.frozen?,a9],s4,s4.keep (qab (a:=⟨pb,1,none⟩) _ (by show w.heap.size≠pb;omega)),λw5 d0=>?_⟩;refine⟨w3.heap.size,A,b,(V.alloc (.cells #[.string t,.int .i64 m,.int .i64 k] 481)).drew,w4,rfl,c2,M.trans (d.mono (by omega)),?_,hg,ho,ha.imp (λh=>h) (λh=>by omega),d0⟩;rw[d.block _ (by omega)];exact a2
  clear x a2 y F a1 s M l c5;rw[show Op.load 398 (Operand.tmp 43)=ldH 398 (Operand.tmp 43)from rfl];go_region_held3 (λw'=>w'.cell? ⟨w.heap.size,0,none⟩=some (.string t)/\w'.cell? ⟨w.heap.size,1,none⟩=some (.int .i64 m))
   (first|(with_reducible exact d1.out)|(with_reducible exact c6.out)|(with_reducible exact a6.out)|(with_reducible exact a5.out)|(with_reducible exact d2.out))
   (first|(refine step_append_lies _ rfl _ _ 398 rfl lo 481 i0 (.agg #[.string ⟨#[]⟩,.int .i64 0,.int .i64 0]) 3 32 underlying398 hi R S T rfl (by decide) _ _ _ rfl N.out ⟨V.heap.size,0,none⟩ 1 1 [.string t,.int .i64 m,.int .i64 k] rfl rfl O.out a7.out (by decide) c7.out c8.out a8.out (V.alloc (.cells #[.string t,.int .i64 m,.int .i64 k] 481)).drew.heap.size rfl ?_;intro A b w4 v r G b0;obtain⟨q1,qf,b1,b2,H⟩:=z.out A b w4 v r G;have d1:=hZ b1;have d2:=hZ b2;have b3:=hZ H;clear v r G b0 b1 b2 H))
  all_goals(
   go_wp2;go_ret;exact b3.out _ (by first|with_reducible exact qcs _|with_reducible exact qct _)))
def StrI(H:Gh)(la:OA)(ss:List BA):Prop:=∀(i:Nat) (s:BA),ss[i]? =some s->∃g arr t,la=some ⟨g,0,none⟩/\H.I g=some (.cells arr t (0,0))/\arr[i]? =some (.string s)
theorem StrI.mono(h:G.le H){b:OA}{ss:List BA}(r:StrI G b ss):StrI H b ss:=λi s c=>by
 obtain⟨g,a,t,d,e,f⟩:=r i s c;exact⟨g,a,t,d,h.I e,f⟩
structure Pst (G:Gh) (w0:Wd) (H:Gh) (w:Wd) (pb lo:Nat) (ss:List BA) (bs:List Bk):Prop where
 k:Wk G w0 H w
 box:∃la lc bv,w.heap[pb]? =some (.cells #[.slice la ss.length lc,bv,.nilFunc] 402 (0,0))/\StrI H la ss/\w.ownsRow lo 481 3 bv bs.length (qby bs)/\∀g,bv.ownBlock=some g->H.I g=none
 pI:H.I pb=none
 pl:w0.heap.size<=pb
 plo:pb<lo
 lo:lo<=w.heap.size
 sm:ss.length<=1000000
theorem Pst.step{L:Nat->Prop}{ss:List BA}{bs:List Bk}(p:Pst G w0 H w pb lo ss bs)(s:Sp L H w H' w')(d:∀k,pb<=k->¬L k)(e:Wk G w0 H' w'):Pst G w0 H' w' pb lo ss bs:=by
 obtain⟨f,lc,h,c,i,b,j⟩:=p.box;have l:=p.plo;refine⟨e,⟨f,lc,h,by rw[s.blk (eE.1 c).1 (d _ (eR _))];exact c,i.mono s.ext.le,qb7 b λg a=>s.blk (b.lt g a).2 (d g (by have:=(b.lt g a).1;omega)),λg a=>s.loose (b.lt g a).2 (j g a)⟩,s.loose (eE.1 c).1 p.pI,p.pl,p.plo,eT p.lo s.size,p.sm⟩
theorem Pst.below{ss:List BA}{bs:List Bk}(p:Pst G w0 H w pb lo ss bs)(h:Below w.heap.size w w'):Pst G w0 H w' pb lo ss bs:=p.step (L:=λ_=>False) (Sp.below h) (λ_ _ h=>h) (p.k.below h)
theorem Pst.fix{ss:List BA}{bs:List Bk}(p:Pst G w0 H w pb lo ss bs)(h:Below w.heap.size w w')(a:w.heap.size<=b)(c:w'.heap[b]? =some o):Pst G w0 (H.add b o) w' pb lo ss bs/\H.le (H.add b o):=by
 have hI:=p.k.fresh a;refine⟨p.step (L:=λ_=>False) ((Sp.below h).fix a hI) (λ_ _ h=>h) ((p.k.below h).fix (eT p.k.bel.size a) hI c),Gh.le_add hI⟩
def qxk{α:Type}(G:Gh)(w0:Wd)(H:Gh)(pb lo c:Nat)(ss:List BA)(bs:List Bk)(A:Gh->α->Vu->Prop)(R:qaj->α->Option qdq)(res:Option (List (Sc.Id×Nat)))(e:En)(w':Wd):Prop:=
 (e=.panicked (qan (qap 4))/\Below w0.heap.size w0 w'/\res=none)\/
 (∃H' v new,e=.returned v/\(∃f cp,v=.func (.func f) #[] cp)/\res=some ((bs++new).map idB)/\new.length<=c/\Pst G w0 H' w' pb lo ss (bs++new)/\H.le H'/\Mtc H' bs.length new.length A R v)
def qbq(ss:List BA):List Bs:=ss.map (·.data.toList)
theorem q2t(t:BA)(m:Int)(bs:List Bk):(qlg t m bs).isSome=(bs.map idB).any (λb=>b.1==(t.data.toList,m)):=by
 unfold qlg;rw[List.findIdx?_isSome,List.any_map];congr 1
 funext b
 rw[Bool.eq_iff_iff];simp[idB,idS]
theorem q46:Eg 418:=qa0 func418 (by kernel_rfl) (by kernel_rfl)
theorem qgt(t:BA)(l:List UInt8):(t.toList==l)=(t.data.toList==l):=by rw[ByteArray.toList_eq]
theorem q0o{ss:List BA}{bs:List Bk}(p:Pst G w0 H w pb lo ss bs)(t:BA)(m:Int)(k:Nat)(X:bs.length<=1000000000000):
  Calls prog 403 #[bp pb,.agg #[.string t,.int .i64 m],.int .i64 (k:Int)] w (qxk G w0 H pb lo 1 ss bs DV (λsc d=>qaq (qbq ss) sc (.sym t.data.toList m) d) (if t.data.toList==qbv then none else qao (qbq ss) k (bs.map idB) (.sym t.data.toList m))):=by
 obtain⟨y,lc,bv,Y,h2,E,h4⟩:=p.box;have a0:=(eE.1 Y).1;have Z:∀o,w.cell? ⟨pb,o,none⟩=(#[Value.slice y ss.length lc,bv,.nilFunc]:Array Vu)[o]?:=λo=>by simp[World.cell?,Y]
 by_cases j:t.data.toList=qbv
 ·obtain rfl:t=⟨#[46,46,46]⟩:=qbd (by rw[j];rfl);refine Calls.mono (qjt pb m k w) ?_;rintro e w' ⟨rfl,r⟩;exact .inl ⟨rfl,(p.k.below r).bel,by rw[if_pos (by rw[j];simp)]⟩
 ·rw[if_neg (by simpa using j)];have hd:(t.toList== [46,46,46])=false:=by rw[qgt];simpa[qbv]using j
  have M:∀w',Below w.heap.size w w'->qun w' y ss:=λw' u i s hs=>by
   obtain⟨g,a7,tt,l,z,N⟩:=h2 i s hs;exact⟨g,l,by rw[(p.k.below u).cell z];exact N⟩
  have f:∀w',Lk (w.alloc (.cells #[.string t,.int .i64 m] 382)) w'->Calls prog 414 #[.slice y ss.length lc,.string t] w' λe w2=>e=.returned (.bool (quq ss t))/\Lk w' w2:=λw' u=>qni ss y lc t w' (M w' (bl1 u)) p.sm
  have c:(qbq ss).contains t.data.toList=quq ss t:=rfl;cases hs:quq ss t with
  |true=>
   rw[hs]at f c;refine Calls.mono (qlj pb ss.length lc y t m k w hd (Z 0) f) ?_;rintro e w' ⟨b,rfl,r,v,x⟩;obtain⟨p',A⟩:=p.fix x r v;refine .inr ⟨_,_,[],rfl,⟨_,_,rfl⟩,?_,by simp,by simpa using p',A,q4p _ _ _ b t m c (Gh.add_at _ _ _)⟩;simp only[qao,c,Bool.true_or,if_true,List.append_nil]
  |false=>
   rw[hs]at f c;by_cases O:t.data.toList=[95]
   ·obtain rfl:t=⟨#[95]⟩:=qbd (by rw[O]);refine Calls.mono (qll pb ss.length lc y m k w (Z 0) f) ?_;rintro e w' ⟨rfl,x⟩;refine .inr ⟨H,_,[],rfl,⟨_,_,rfl⟩,?_,by simp,by simpa using p.below x,Gh.le.refl _,q4r _ _ _ m c⟩;simp[qao]
   ·have F:(t.toList== [95])=false:=by rw[qgt];simpa using O
    have J:(t.data.toList== [95])=false:=by simpa using O
    obtain⟨ba,bc,rfl⟩:∃ba bc,bv=.slice ba bs.length bc:=by
     rcases E.2 with⟨l,z⟩|⟨g,cap,B,l,_⟩
     ·exact⟨none,0,by rw[z];exact l⟩
     ·exact⟨_,_,l⟩
    have P:∀w',Below w.heap.size w w'->qxo w' ba bs:=λw' u i b R=>by
     have hi:=(eL.1 R).1;rcases E.2 with⟨l,z⟩|⟨g,cap,B,l,z,N,q4,q5,q6,q7⟩
     ·omega
     ·cases l;obtain⟨c0,c1,c2⟩:=qfz bs i b R;rw[<-q7,List.getElem?_take_of_lt (by omega)]at c0 c1 c2;have hc:∀o,w'.cell? ⟨g,o,none⟩=B.toList[o]?:=λo=>by
       rw[u.cell (p:=⟨g,o,none⟩) (eE.1 N).1];simp[World.cell?,N]
      exact⟨g,rfl,(hc _).trans c0,(hc _).trans c1,(hc _).trans c2⟩
    have n:∀w',Lk (w.alloc (.cells #[.string t,.int .i64 m] 382)) w'->Calls prog 417 #[.slice ba bs.length bc,.func (.func 418) #[] #[bp w.heap.size]] w' λe w2=>e=.returned (.bool (qlg t m bs).isSome)/\Below w'.heap.size w' w2:=λw' u=>by
     have a8:w'.heap.size=w.heap.size+1:=by rw[u.heap];simp
     have a1:w'.heap[w.heap.size]? =some (.cells #[.string t,.int .i64 m] 382 (0,0)):=by rw[u.heap];exact eN _ _
     refine qnh bs ba bc 418 w.heap.size t m w' q46 (P w' (bl1 u)) X λb w2 a2=>?_
     have K:w2.heap[w.heap.size]? =some (.cells #[.string t,.int .i64 m] 382 (0,0)):=by rw[a2.block _ (by omega)];exact a1
     exact qzt b.1.1 b.1.2 b.2 w.heap.size t m w2 (by simp only[World.cell?,K];rfl) (by simp only[World.cell?,K];rfl)
    have C:qao (qbq ss) k (bs.map idB) (.sym t.data.toList m)=if(qlg t m bs).isSome then none else some (bs.map idB++[((t.data.toList,m),k)]):=by
     simp only[qao,c,J,Bool.or_self,qed,q2t];rfl
    rw[C];cases hx:(qlg t m bs).isSome with
    |true=>
     rw[hx]at n;refine Calls.mono (qlk pb ss.length lc bs.length bc y ba t m k w hd F (Z 0) (Z 1) f (λw' u=>Calls.mono (n w' u) λe w2 ⟨l,z⟩=>⟨l,(bl1 u).trans (z.mono (bl1 u).size)⟩)) ?_;rintro e w' ⟨rfl,x⟩;exact .inl ⟨rfl,(p.k.below x).bel,rfl⟩
    |false=>
     rw[hx]at n;refine Calls.mono (qli pb ss.length lc bs.length bc lo y ba .nilFunc (qby bs) t m k w hd F Y E p.plo p.lo X f n) ?_;rintro e w' ⟨b,g,cap,W,w3,rfl,r,Q,v,hg,ho,ha,D⟩;have L:b<W.heap.size:=(eE.1 v).1;have a6:=p.plo;have a3:=p.lo;have s1:Sp (λq=>q=pb\/(Value.slice ba bs.length bc).ownBlock=some q) H w H w3:=(Sp.below Q).trans (Sp.grown hg λb X=>.inr X);have s2:Sp (λq=>q=pb\/(Value.slice ba bs.length bc).ownBlock=some q) H w H w':=(s1.trans (Sp.set (a:=⟨pb,1,none⟩) (.inl rfl))).trans (Sp.lk D);have hL:∀q,(q=pb\/(Value.slice ba bs.length bc).ownBlock=some q)->w0.heap.size<=q/\H.I q=none:=by
      rintro q (rfl|hq)
      ·exact⟨p.pl,p.pI⟩
      ·exact⟨by have:=(E.lt q hq).1;have:=p.pl;omega,h4 q hq⟩
     have a4:w'.heap[b]? =some (.cells #[.int .i64 (bs.length:Int)] 3 (0,0)):=by
      rw[D.heap,qab (a:=⟨pb,1,none⟩) _ (by show b≠pb;omega),hg.block b L (λe=>by have:=(E.lt b e.symm).2;omega)];exact v
     have S:w3.heap[pb]? =some (.cells #[.slice y ss.length lc,.slice ba bs.length bc,.nilFunc] 402 (0,0)):=by
      rw[hg.block pb (by have:=Q.size;omega) (λe=>by have:=(E.lt pb e.symm).1;omega),Q.block _ a0];exact Y
     have T:=p.k.fresh r;have k2:=(p.k.go s2 hL).fix (eT p.k.bel.size r) T a4;have A:=Gh.le_add (o:=.cells #[.int .i64 (bs.length:Int)] 3 (0,0)) T;have a5:g≠b:=by
      rcases ha with h|h
      ·have:=(E.lt g h).2;omega
      ·intro e;subst e;rcases ho.2 with⟨l,_⟩|⟨g',U,B,l,z,N,_⟩
       ·cases l
       ·cases l;have:=hg.block g L (λe=>by have:=(E.lt g e.symm).2;omega);rw[v,N]at this;cases this
     have V:g≠pb:=by
      rcases ho.2 with⟨l,_⟩|⟨g',U,B,l,z,N,_⟩
      ·cases l
      ·cases l;omega
     refine .inr ⟨_,_,[((t,m),k)],rfl,⟨_,_,rfl⟩,?_,by simp,⟨k2,⟨y,lc,.slice (some ⟨g,0,none⟩) (bs.length+1) cap,?_,(h2.mono A),?_,λq hq=>?_⟩,?_,p.pl,p.plo,eT a3 s2.size,p.sm⟩,A,?_⟩
     ·simp[idB,idS]
     ·rw[D.heap];simp[World.setCell,Array.getElem?_modify,S]
     ·rw[qnt];have:=qk6 (qb7 (w':=w3.setCell ⟨pb,1,none⟩ (.slice (some ⟨g,0,none⟩) (bs.length+1) cap)) ho λq hq=>qab (a:=⟨pb,1,none⟩) _ (by
       obtain rfl:g=q:=by simpa[Value.ownBlock]using hq
       exact V)) D
      simpa[qby]using this
     ·obtain rfl:g=q:=by simpa[Value.ownBlock]using hq
      refine(if_neg a5).trans ?_;rcases ha with h|h
      ·exact h4 _ h
      ·exact p.k.fresh h
     ·exact(if_neg (by omega)).trans p.pI
     ·exact q4o _ _ _ b _ m c J 3 (Gh.add_at _ _ _)
theorem qmi(pb:Nat)(g:Int)(b:Bool)(a:BA)(d:Int)(h:OA)(i j:Nat)(k:Int)(w:Wd)(Q:En->Wd->Prop)
  (hI:∀w',Below w.heap.size w w'->Calls prog 403 #[bp pb,.agg #[.string a,.int .i64 d],.int .i64 k] w' λe w2=>((∃p,e=.panicked p)/\Q e w2)\/(∃v,e=.returned v/\Q (.returned v) w2)):
  Calls prog 389 #[bp pb,.agg (Dl.cells ⟨3,g,b,a,d,h,i,j⟩),.int .i64 k] w Q:=by
 show Calls prog 389 #[bp pb,.agg #[.int .i64 3,.int .i64 g,.bool b,.string a,.int .i64 d,.slice h i j],.int .i64 k] w _;have m:=hZ hI;clear hI;go_enter func389,ntmps389
 go_wp2_with (first|(go_at_call 296;refine(qa8 g b a d h i j _).mono ?_;rintro e w3 ⟨rfl,c⟩;have l:=hZ ((qaa _ _).trans (c.mono (by simp)));clear c;refine Hid.out ?_))
 refine hZ ?_;unfold idV;go_wp2_with (go_at_call 403;refine(m.out _ l.out).mono ?_;rintro e w4 (⟨⟨p,rfl⟩,f⟩|⟨v,rfl,f⟩);(exact⟨rfl,f⟩);have n:=hZ f;clear f)
 exact n.out
theorem qk1(pb:Nat)(i:Int)(a:Bool)(b:BA)(j:Int)(c:OA)(d g:Nat)(k:Int)(w:Wd)(Q:En->Wd->Prop)
  (hI:∀w',Lk (w.alloc (.cells (Dl.cells ⟨4,i,a,b,j,c,d,g⟩) 134)) w'->Calls prog 364 #[bp pb,.slice c d g,.int .i64 k] w' λe w2=>((∃p,e=.panicked p)/\Q e w2)\/(∃f l,e=.returned (.func (.func f) #[] l)/\∀w3,Lk (w2.alloc (.cells #[.func (.func f) #[] l] 400)) w3->Q (.returned (.func (.func 404) #[] #[bp w2.heap.size])) w3)):
  Calls prog 389 #[bp pb,.agg (Dl.cells ⟨4,i,a,b,j,c,d,g⟩),.int .i64 k] w Q:=by
 show Calls prog 389 #[bp pb,.agg #[.int .i64 4,.int .i64 i,.bool a,.string b,.int .i64 j,.slice c d g],.int .i64 k] w _;have m:=hZ hI;clear hI;go_enter func389,ntmps389
 go_wp2_with (go_at_call 364;refine(m.out _ (by exact⟨rfl,rfl,rfl,rfl⟩)).mono ?_;rintro e w4 (⟨⟨p,rfl⟩,h⟩|⟨f,l,rfl,h⟩);(exact⟨rfl,h⟩);have n:=hZ h;clear h)
 exact n.out _ ⟨rfl,rfl,rfl,rfl⟩
theorem qk2(pb:Nat)(a d:Int)(b:Bool)(c:BA)(f:Int)(g:OA)(h i:Nat)(k:Int)(w:Wd)(j:a≠3)(l:a≠4):
  Calls prog 389 #[bp pb,.agg (Dl.cells ⟨a,d,b,c,f,g,h,i⟩),.int .i64 k] w λe w'=>e=.returned (.func (.func 405) #[] #[bp w.heap.size])/\Lk (w.alloc (.cells (Dl.cells ⟨a,d,b,c,f,g,h,i⟩) 134)) w':=by
 show Calls prog 389 #[bp pb,.agg #[.int .i64 a,.int .i64 d,.bool b,.string c,.int .i64 f,.slice g h i],.int .i64 k] w _;have e3:(a==3)=false:=by simpa using j
 have e4:(a==4)=false:=by simpa using l
 go_enter func389,ntmps389
 go_wp2;go_ret;exact⟨rfl,rfl,rfl,rfl,rfl⟩
theorem q1y(pb n M N _:Nat)(ba _:OA)(S T:Vu)(d g:Int)(a:Bool)(b:BA)(i:Int)(j:OA)(l o:Nat)(k:Int)(w:Wd)(Q:En->Wd->Prop)(t:w.heap[pb]? =some (.cells #[S,.slice ba n N,T] 402 (0,0)))(U:n<=M/\M<=2000000000000)
  (hI:∀w',Below w.heap.size w w'->w'.heap[w.heap.size+1]? =some (.cells #[.int .i64 (n:Int)] 3 (0,0))->Calls prog 389 #[bp pb,.agg #[.int .i64 d,.int .i64 g,.bool a,.string b,.int .i64 i,.slice j l o],.int .i64 k] w' λe w2=>((∃p,e=.panicked p)/\Q e w2)\/(∃f c m,e=.returned (.func (.func f) #[] c)/\m<=2000000000000/\n<=m/\(∃C q c2 D,w2.heap[pb]? =some (.cells #[C,.slice q m c2,D] 402 (0,0)))/\w.heap.size+1<w2.heap.size/\w2.heap[w.heap.size+1]? =some (.cells #[.int .i64 (n:Int)] 3 (0,0))/\∀w3,Lk ((w2.alloc (.cells #[.func (.func f) #[] c] 466)).alloc (.cells #[.int .i64 ((m:Int)-(n:Int))] 3)) w3->Q (.returned (.func (.func 402) #[] #[bp (w2.heap.size+1),bp w2.heap.size,bp (w.heap.size+1)])) w3)):
  Calls prog 388 #[bp pb,.agg (Dl.cells ⟨d,g,a,b,i,j,l,o⟩),.int .i64 k] w Q:=by
 show Calls prog 388 #[bp pb,.agg #[.int .i64 d,.int .i64 g,.bool a,.string b,.int .i64 i,.slice j l o],.int .i64 k] w _;have F:=(eE.1 t).1;have c1:(w.alloc (.cells #[.int .i64 d,.int .i64 g,.bool a,.string b,.int .i64 i,.slice j l o] 134)).cell? ⟨pb,1,none⟩=some (.slice ba n N):=by
  simp only[World.cell?,eH _ _ _ F,t];rfl
 have W:Hid (∀w',Lk ((w.alloc (.cells #[.int .i64 d,.int .i64 g,.bool a,.string b,.int .i64 i,.slice j l o] 134)).alloc (.cells #[.int .i64 (n:Int)] 3)) w'->Calls prog 389 #[bp pb,.agg #[.int .i64 d,.int .i64 g,.bool a,.string b,.int .i64 i,.slice j l o],.int .i64 k] w' λe w2=>((∃p,e=.panicked p)/\Q e w2)\/(∃f c m,e=.returned (.func (.func f) #[] c)/\m<=2000000000000/\n<=m/\(∃C q c2 D,w2.heap[pb]? =some (.cells #[C,.slice q m c2,D] 402 (0,0)))/\w.heap.size+1<w2.heap.size/\w2.heap[w.heap.size+1]? =some (.cells #[.int .i64 (n:Int)] 3 (0,0))/\∀w3,Lk ((w2.alloc (.cells #[.func (.func f) #[] c] 466)).alloc (.cells #[.int .i64 ((m:Int)-(n:Int))] 3)) w3->Q (.returned (.func (.func 402) #[] #[bp (w2.heap.size+1),bp w2.heap.size,bp (w.heap.size+1)])) w3)):=λw' O=>by
  refine hI w' (((qaa _ _).alloc (by simp) _).trans (qo6 O (by simp;omega))) ?_;rw[O.heap];have:=eN (w.alloc (.cells #[.int .i64 d,.int .i64 g,.bool a,.string b,.int .i64 i,.slice j l o] 134)) (.cells #[.int .i64 (n:Int)] 3);simpa using this
 clear hI;go_enter func388,ntmps388
 go_wp2_with (go_at_call 389;refine(W.out _ (by exact⟨rfl,rfl,rfl,rfl⟩)).mono ?_;rintro e w4 (⟨⟨p,rfl⟩,E⟩|⟨f,c,m,rfl,hm,X,⟨C,q,c2,D,u⟩,G,v,E⟩);(exact⟨rfl,E⟩);have Y:=hZ E;have x:=hZ u;have H:=hZ v;clear E u v;refine Hid.out ?_)
 have I:=(eE.1 x.out).1;have y:(w4.alloc (.cells #[.func (.func f) #[] c] 466)).cell? ⟨pb,1,none⟩=some (.slice q m c2):=by simp only[World.cell?,eH _ _ _ I,x.out];rfl
 have z:(w4.alloc (.cells #[.func (.func f) #[] c] 466)).cell? ⟨w.heap.size+1,0,none⟩=some (.int .i64 (n:Int)):=by simp only[World.cell?,eH _ _ _ G,H.out];rfl
 have Z:(m:Int)<=2000000000000:=by omega
 have a2:(n:Int)<=(m:Int):=by omega
 have a3:(0:Int)<=(n:Int):=by omega
 obtain⟨V,A⟩:∃V,V=w4.alloc (.cells #[.func (.func f) #[] c] 466):=⟨_,rfl⟩;have B:V.heap.size=w4.heap.size+1:=by rw[A];simp
 have r:=qae y;have s:=qae z;rw[<-A]at y z r s;refine hZ ?_;go_wp2_with (fail)
 rw[<-A];have HV:=hZ A;have J:=hZ B;clear A B;have P:=And.intro ((qac r (.cells #[.int .i64 0] 3)).trans y) ((qac s (.cells #[.int .i64 0] 3)).trans z);have R:=And.intro ((qac r (.cells #[.int .i64 ((m:Int)-(n:Int))] 3)).trans y) ((qac s (.cells #[.int .i64 ((m:Int)-(n:Int))] 3)).trans z);have K:=hZ P;have L:=hZ R;have HA:Hid (V.cell? ⟨pb,1,none⟩=some (.slice q m c2)/\V.cell? ⟨w.heap.size+1,0,none⟩=some (.int .i64 (n:Int))):=⟨y,z⟩;clear P R;go_region_held3 (λw'=>w'.cell? ⟨pb,1,none⟩=some (.slice q m c2)/\w'.cell? ⟨w.heap.size+1,0,none⟩=some (.int .i64 (n:Int)))
  (first|(exact HA.out)|(exact K.out)|(exact L.out)|go_keep) (fail)
 all_goals(
  go_wp2;have h:=Y.out ((V.alloc (.cells #[.int .i64 ((m:Int)-(n:Int))] 3)).drew) (by rw[<-HV.out];exact qct _);rw[<-J.out]at h;exact h)
theorem qmy(pb:Nat)(a:OA)(c:Nat)(k:Int)(w:Wd):Calls prog 364 #[bp pb,.slice a 0 c,.int .i64 k] w λe w'=>e=.returned (.func (.func 387) #[] #[])/\Lk w w':=by
 go_enter func364,ntmps364
 go_wp2;go_ret;exact⟨rfl,rfl,rfl,rfl,rfl⟩
theorem qmx(pb g o c:Nat)(n q:Int)(a:Bool)(b:BA)(r:Int)(ya:OA)(yl yc:Nat)(zn:Int)(h:Bool)(zm:Int)(za:OA)(zl zc:Nat)(k:Int)(w:Wd)(Q:En->Wd->Prop)(B:0<=k/\k<=1000000000000)
  (l:w.cell? ⟨g,o,none⟩=some (.int .i64 n))(s:w.cell? ⟨g,o+1,none⟩=some (.int .i64 q))(t:w.cell? ⟨g,o+2,none⟩=some (.bool a))(u:w.cell? ⟨g,o+3,none⟩=some (.string b))(x:w.cell? ⟨g,o+4,none⟩=some (.int .i64 r))(y:w.cell? ⟨g,o+5,none⟩=some (.slice ya yl yc))
  (I:w.cell? ⟨g,o+6,none⟩=some (.int .i64 3))(J:w.cell? ⟨g,o+6+1,none⟩=some (.int .i64 zn))(K:w.cell? ⟨g,o+6+2,none⟩=some (.bool h))(L:w.cell? ⟨g,o+6+3,none⟩=some (.string ⟨#[46,46,46]⟩))(M:w.cell? ⟨g,o+6+4,none⟩=some (.int .i64 zm))(N:w.cell? ⟨g,o+6+5,none⟩=some (.slice za zl zc))
  (z:∀w',Below w.heap.size w w'->Calls prog 388 #[bp pb,.agg #[.int .i64 n,.int .i64 q,.bool a,.string b,.int .i64 r,.slice ya yl yc],.int .i64 (k+1)] w' λe w2=>((∃p,e=.panicked p)/\Q e w2)\/(∃v,e=.returned v/\Q (.returned v) w2)):
  Calls prog 364 #[bp pb,.slice (some ⟨g,o,none⟩) 2 c,.int .i64 k] w Q:=by
 have d:=qae l;have C:=hZ z;have A:=qdl 3 zn h ⟨#[46,46,46]⟩ zm za zl zc ⟨#[46,46,46]⟩ w;have D:=hZ A;have E:Hid (∀w',Below w.heap.size w w'->(w'.cell? ⟨g,o,none⟩=some (.int .i64 n)/\w'.cell? ⟨g,o+1,none⟩=some (.int .i64 q)/\w'.cell? ⟨g,o+2,none⟩=some (.bool a)/\w'.cell? ⟨g,o+3,none⟩=some (.string b)/\w'.cell? ⟨g,o+4,none⟩=some (.int .i64 r)/\w'.cell? ⟨g,o+5,none⟩=some (.slice ya yl yc))):=λw' f=>⟨(f.cell (p:=⟨g,o,none⟩) d).trans l,(f.cell (p:=⟨g,o+1,none⟩) d).trans s,(f.cell (p:=⟨g,o+2,none⟩) d).trans t,(f.cell (p:=⟨g,o+3,none⟩) d).trans u,(f.cell (p:=⟨g,o+4,none⟩) d).trans x,(f.cell (p:=⟨g,o+5,none⟩) d).trans y⟩
 obtain⟨F,G⟩:=B;clear z A l s t u x y;go_enter func364,ntmps364
 go_wp2_with (go_at_call 327;refine D.out.mono ?_;rintro e w2 ⟨rfl,i⟩;have j:=hZ i;clear i;refine Hid.out ?_)
 obtain⟨l,s,t,u,x,y⟩:=E.out _ j.out;refine hZ ?_;go_wp2_with (go_at_call 388;refine(C.out _ j.out).mono ?_;rintro e w4 (⟨⟨p,rfl⟩,m⟩|⟨v,rfl,m⟩);(exact⟨rfl,m⟩);have H:=hZ m;clear m)
 exact H.out
theorem qmz(pb g o n c:Nat)(q r:Int)(d:Bool)(h:BA)(s:Int)(ya:OA)(yl yc:Nat)(k:Int)(w:Wd)(Q:En->Wd->Prop)(u:n+1<=c)(A:n≠1)
  (B:w.cell? ⟨g,o,none⟩=some (.int .i64 q))(C:w.cell? ⟨g,o+1,none⟩=some (.int .i64 r))(D:w.cell? ⟨g,o+2,none⟩=some (.bool d))(E:w.cell? ⟨g,o+3,none⟩=some (.string h))(F:w.cell? ⟨g,o+4,none⟩=some (.int .i64 s))(G:w.cell? ⟨g,o+5,none⟩=some (.slice ya yl yc))
  (t:∀w',Below w.heap.size w w'->Calls prog 389 #[bp pb,.agg #[.int .i64 q,.int .i64 r,.bool d,.string h,.int .i64 s,.slice ya yl yc],.int .i64 k] w' λe w2=>((∃p,e=.panicked p)/\Q e w2)\/(∃f i,e=.returned (.func (.func f) #[] i)/\∀w3,Lk (w2.alloc (.cells #[.func (.func f) #[] i] 466)) w3->Calls prog 364 #[bp pb,.slice (tlD g o c 1) n (c-1),.int .i64 k] w3 λe w4=>((∃p,e=.panicked p)/\Q e w4)\/(∃j b,e=.returned (.func (.func j) #[] b)/\∀l,Lk (w4.alloc (.cells #[.func (.func j) #[] b] 400)) l->Q (.returned (.func (.func 390) #[] #[bp w2.heap.size,bp w4.heap.size])) l))):
  Calls prog 364 #[bp pb,.slice (some ⟨g,o,none⟩) (n+1) c,.int .i64 k] w Q:=by
 have v:=hZ t;have x:∀w,(Instr.slice 132 (.slice (some ⟨g,o,none⟩) (n+1) c) (some (.int .i64 1)) none none).run prog w=.ok (.slice (tlD g o c 1) n (c-1)) w:=λw=>qbz g o n c u w
 have H:((n:Int)+1==0)=false:=by simp;omega
 have e2:((n:Int)+1==2)=false:=by simp;omega
 have y:(0:Int)<(n:Int)+1:=by omega
 clear t;go_enter func364,ntmps364
 go_wp2_with (go_at_call 389;refine(v.out _ (by first|exact Below.refl _ _|exact bl0 ⟨rfl,rfl,rfl,rfl⟩)).mono ?_;rintro e w4 (⟨⟨p,rfl⟩,a⟩|⟨f,i,rfl,a⟩);(exact⟨rfl,a⟩);have z:=hZ a;clear a;refine Hid.out ?_)
 refine hZ ?_;go_wp2_with (go_at_call 364;refine(z.out _ (by exact⟨rfl,rfl,rfl,rfl⟩)).mono ?_;rintro e l (⟨⟨p,rfl⟩,a⟩|⟨j,b,rfl,a⟩);(exact⟨rfl,a⟩);have m:=hZ a;clear a;refine Hid.out ?_)
 refine hZ ?_;go_wp2;exact m.out _ ⟨rfl,rfl,rfl,rfl⟩
theorem qmw(pb g o n c:Nat)(t u:Int)(d:Bool)(h:BA)(v:Int)(ya:OA)(yl yc:Nat)(zk zn:Int)(i:Bool)(a:BA)(zm:Int)(za:OA)(zl zc:Nat)(k:Int)(w:Wd)(Q:En->Wd->Prop)(K:n+1<=c)(x:n=1)(y:(zk==3&&decide (a=⟨#[46,46,46]⟩))=false)
  (s:w.cell? ⟨g,o,none⟩=some (.int .i64 t))(z:w.cell? ⟨g,o+1,none⟩=some (.int .i64 u))(A:w.cell? ⟨g,o+2,none⟩=some (.bool d))(B:w.cell? ⟨g,o+3,none⟩=some (.string h))(C:w.cell? ⟨g,o+4,none⟩=some (.int .i64 v))(D:w.cell? ⟨g,o+5,none⟩=some (.slice ya yl yc))
  (S:w.cell? ⟨g,o+6,none⟩=some (.int .i64 zk))(T:w.cell? ⟨g,o+6+1,none⟩=some (.int .i64 zn))(U:w.cell? ⟨g,o+6+2,none⟩=some (.bool i))(V:w.cell? ⟨g,o+6+3,none⟩=some (.string a))(W:w.cell? ⟨g,o+6+4,none⟩=some (.int .i64 zm))(X:w.cell? ⟨g,o+6+5,none⟩=some (.slice za zl zc))
  (I:∀w',Below w.heap.size w w'->Calls prog 389 #[bp pb,.agg #[.int .i64 t,.int .i64 u,.bool d,.string h,.int .i64 v,.slice ya yl yc],.int .i64 k] w' λe w2=>((∃p,e=.panicked p)/\Q e w2)\/(∃f E,e=.returned (.func (.func f) #[] E)/\∀w3,Lk (w2.alloc (.cells #[.func (.func f) #[] E] 466)) w3->Calls prog 364 #[bp pb,.slice (tlD g o c 1) n (c-1),.int .i64 k] w3 λe w4=>((∃p,e=.panicked p)/\Q e w4)\/(∃F j,e=.returned (.func (.func F) #[] j)/\∀G,Lk (w4.alloc (.cells #[.func (.func F) #[] j] 400)) G->Q (.returned (.func (.func 390) #[] #[bp w2.heap.size,bp w4.heap.size])) G))):
  Calls prog 364 #[bp pb,.slice (some ⟨g,o,none⟩) (n+1) c,.int .i64 k] w Q:=by
 subst x;have l:=qae s;have L:=hZ I;have M:∀w,(Instr.slice 132 (.slice (some ⟨g,o,none⟩) 2 c) (some (.int .i64 1)) none none).run prog w=.ok (.slice (tlD g o c 1) 1 (c-1)) w:=λw=>qbz g o 1 c K w
 have J:Calls prog 327 #[.agg (Dl.cells ⟨zk,zn,i,a,zm,za,zl,zc⟩),.string ⟨#[46,46,46]⟩] w λe w'=>e=.returned (.bool false)/\Below w.heap.size w w':=Calls.mono (qdl zk zn i a zm za zl zc ⟨#[46,46,46]⟩ w) λe w' ⟨N,x⟩=>⟨by rw[N,y],x⟩
 have O:=hZ J;have P:Hid (∀w',Below w.heap.size w w'->(w'.cell? ⟨g,o,none⟩=some (.int .i64 t)/\w'.cell? ⟨g,o+1,none⟩=some (.int .i64 u)/\w'.cell? ⟨g,o+2,none⟩=some (.bool d)/\w'.cell? ⟨g,o+3,none⟩=some (.string h)/\w'.cell? ⟨g,o+4,none⟩=some (.int .i64 v)/\w'.cell? ⟨g,o+5,none⟩=some (.slice ya yl yc))):=λw' m=>⟨(m.cell (p:=⟨g,o,none⟩) l).trans s,(m.cell (p:=⟨g,o+1,none⟩) l).trans z,(m.cell (p:=⟨g,o+2,none⟩) l).trans A,(m.cell (p:=⟨g,o+3,none⟩) l).trans B,(m.cell (p:=⟨g,o+4,none⟩) l).trans C,(m.cell (p:=⟨g,o+5,none⟩) l).trans D⟩
 clear I J s z A B C D;go_enter func364,ntmps364
 go_wp2_with (go_at_call 327;refine O.out.mono ?_;rintro e w2 ⟨rfl,q⟩;have r:=hZ q;clear q;refine Hid.out ?_)
 obtain⟨s,z,A,B,C,D⟩:=P.out _ r.out;refine hZ ?_;go_wp2_with (go_at_call 389;refine(L.out _ r.out).mono ?_;rintro e w4 (⟨⟨p,rfl⟩,b⟩|⟨f,E,rfl,b⟩);(exact⟨rfl,b⟩);have R:=hZ b;clear b;refine Hid.out ?_)
 refine hZ ?_;go_wp2_with (go_at_call 364;refine(R.out _ (by exact⟨rfl,rfl,rfl,rfl⟩)).mono ?_;rintro e G (⟨⟨p,rfl⟩,b⟩|⟨F,j,rfl,b⟩);(exact⟨rfl,b⟩);have H:=hZ b;clear b;refine Hid.out ?_)
 refine hZ ?_;go_wp2;exact H.out _ ⟨rfl,rfl,rfl,rfl⟩
theorem qd9{H:Gh}{d:Dt}{e:Dl}(h:DRep H d e):(e.k==3&&decide (e.tx=⟨#[46,46,46]⟩))=qam d:=by
 cases h with
 |num e h=>simp[qam,h]
 |bool e h=>simp[qam,h]
 |str e h=>simp[qam,h]
 |sym e h=>
  simp only[qam,h,qbv];rw[Bool.eq_iff_iff];simp only[Bool.and_eq_true,beq_iff_eq,decide_eq_true_eq,true_and];constructor
  ·intro h;rw[h]
  ·intro h;exact qbd (by rw[h])
 |nil e h=>simp[qam,h]
 |list e h=>simp[qam,h]
def qa7(lits:List Bs)(k:Nat)(had:List (Sc.Id×Nat))(d:Dt):Option (List (Sc.Id×Nat)):=if qam d then none else qao lits k had d
theorem qiv(a:List Bs)(k:Nat)(b:List (Sc.Id×Nat))(p q:Dt)(c:qam q=true):qa1 a k b [p,q]=qa7 a (k+1) b p:=by
 simp only[qa1,qa7,c,List.isEmpty_nil,Bool.and_self,if_true]
theorem qhx(a:List Bs)(k:Nat)(b:List (Sc.Id×Nat))(p:Dt)(rest:List Dt)(h:∀q,rest=[q]->qam q=false):qa1 a k b (p::rest)=match qa7 a k b p with
  |none=>none
  |some b=>qa1 a k b rest:=by
 cases rest with
 |nil=>
  simp only[qa1,qa7];cases qam p with
  |true=>rfl
  |false=>simp only[Bool.false_eq_true,if_false];cases qao a k b p <;> rfl
 |cons q r=>
  have c:(r.isEmpty&&qam q)=false:=by
   cases r with
   |nil=>simpa using h q rfl
   |cons _ _=>rfl
  simp only[qa1,qa7,c,Bool.false_eq_true,if_false];cases qam p with
  |true=>rfl
  |false=>simp only[Bool.false_eq_true,if_false];cases qao a k b p <;> rfl
def q3r(_lits:List Bs)(f:Nat->List (Sc.Id×Nat)->Option (List (Sc.Id×Nat))):Prop:=∀(k k0:Nat) (had had0 had':List (Sc.Id×Nat)),(∀i:Sc.Id,had0.any (λb=>b.1==i)=true->had.any (λb=>b.1==i)=true)->f k had=some had'->∃new new0,had'=had++new/\f k0 had0=some (had0++new0)/\new0.map (·.1)=new.map (·.1)
theorem q1e{a new:List (Sc.Id×Nat)}{i:Sc.Id}:(a++new).any (λb=>b.1==i)=(a.any (λb=>b.1==i)||new.any (λb=>b.1==i)):=by simp
theorem q1d{a b:List (Sc.Id×Nat)}(h:a.map (·.1)=b.map (·.1))(i:Sc.Id):a.any (λb=>b.1==i)=b.any (λb=>b.1==i):=by
 have e:∀l:List (Sc.Id×Nat),l.any (λb=>b.1==i)=(l.map (·.1)).any (λj=>j==i):=λl=>by rw[List.any_map];rfl
 rw[e,e,h]
mutual
theorem qkp(f:List Bs):∀d:Dt,q3r f (λk c=>qao f k c d)
 | .list l=>λk g c a e i h=>by
  simp only[qao]at h|-;exact qxv f l k g c a e i h
 | .sym t m=>λk g c a e i h=>by
  simp only[qao]at h|-;by_cases n:(f.contains t||t== [95])=true
  ·rw[if_pos n]at h|-;cases h;exact⟨[],[],by simp,by simp,rfl⟩
  ·rw[if_neg n]at h|-;unfold qed at h|-;cases ha:c.any (λb=>b.1==(t,m))with
   |true=>rw[ha]at h;simp at h
   |false=>
    rw[ha]at h;have j:a.any (λb=>b.1==(t,m))=false:=by
     cases j:a.any (λb=>b.1==(t,m))with
     |false=>rfl
     |true=>rw[i _ j]at ha;cases ha
    rw[j];simp only[Bool.false_eq_true,if_false,Option.some.injEq]at h;exact⟨[((t,m),k)],[((t,m),g)],h.symm,by simp,rfl⟩
 | .num _=>λk g c a e i h=>by simp only[qao,Option.some.injEq]at h|-;exact⟨[],[],by simp[h],by simp,rfl⟩
 | .bool _=>λk g c a e i h=>by simp only[qao,Option.some.injEq]at h|-;exact⟨[],[],by simp[h],by simp,rfl⟩
 | .str _=>λk g c a e i h=>by simp only[qao,Option.some.injEq]at h|-;exact⟨[],[],by simp[h],by simp,rfl⟩
theorem qxv(a:List Bs):∀l:List Dt,q3r a (λk c=>qa1 a k c l)
 | []=>λk e c b d f h=>by simp only[qa1,Option.some.injEq]at h|-;exact⟨[],[],by simp[h],by simp,rfl⟩
 | [p]=>λk e c b d f h=>by
  simp only[qa1]at h|-;cases hp:qam p with
  |true=>rw[hp]at h;simp at h
  |false=>
   rw[hp]at h;simp only[Bool.false_eq_true,if_false]at h|-;exact qkp a p k e c b d f h
 |p::q::r=>λk e c b d f h=>by
  simp only[qa1]at h|-;cases hp:qam p with
  |true=>rw[hp]at h;simp at h
  |false=>
   rw[hp]at h;simp only[Bool.false_eq_true,if_false]at h|-;cases hr:(r.isEmpty&&qam q)with
   |true=>
    rw[hr]at h;simp only[if_true]at h|-;exact qkp a p (k+1) (e+1) c b d f h
   |false=>
    rw[hr]at h;simp only[Bool.false_eq_true,if_false]at h|-;cases hb:qao a k c p with
    |none=>rw[hb]at h;simp at h
    |some o=>
     rw[hb]at h;obtain⟨m,m1,rfl,s,n⟩:=qkp a p k e c b o f hb;have g:qao a e b p=some (b++m1):=s;obtain⟨t,m2,u,v,w⟩:=qxv a (q::r) k e (c++m) (b++m1) d (λi j=>by
      rw[q1e]at j|-;rw[q1d n i]at j;rcases Bool.or_eq_true_iff.1 j with h|h
      ·rw[f i h];rfl
      ·rw[h];simp) h
     refine⟨m++t,m1++m2,by rw[u,List.append_assoc],?_,by rw[List.map_append,List.map_append,n,w]⟩;rw[g];rw[<-List.append_assoc];exact v
end
theorem qrv{a:List Bs}{b new:List (Sc.Id×Nat)}{d:Dt}(h:qao a k b d=some (b++new)):((qao a 0 [] d).getD []).length=new.length:=by
 obtain⟨n,f,g,j,l⟩:=qkp a d k 0 b [] (b++new) (λi m=>by simp at m) h;have c:qao a 0 [] d=some ([]++f):=j;rw[c];have e:new=n:=List.append_cancel_left g;rw[e];have:=congrArg List.length l;simpa using this
def qo7(d:Dt):Prop:=∀(G:Gh) (w0:Wd) (H:Gh) (w:Wd) (pb lo:Nat) (ss:List BA) (bs:List Bk) (e:Dl) (k:Nat),Pst G w0 H w pb lo ss bs->DRep H d e->k+qaf d<=1000000000000->bs.length+(1+qaf d)<=1000000000000->
 Calls prog 389 #[bp pb,.agg e.cells,.int .i64 (k:Int)] w (qxk G w0 H pb lo (1+qaf d) ss bs DV (λsc x=>qaq (qbq ss) sc d x) (qa7 (qbq ss) k (bs.map idB) d))
def qlz(l:List Dt):Prop:=∀(G:Gh) (w0:Wd) (H:Gh) (w:Wd) (pb lo:Nat) (ss:List BA) (bs:List Bk) (a:OA) (len cap:Nat) (k:Nat),Pst G w0 H w pb lo ss bs->DRow H a len cap l->k+qad l<=1000000000000->bs.length+qad l<=1000000000000->
 Calls prog 364 #[bp pb,.slice a len cap,.int .i64 (k:Int)] w (qxk G w0 H pb lo (qad l) ss bs LV (λsc x=>qau (qbq ss) sc l x) (qa1 (qbq ss) k (bs.map idB) l))
theorem qzq(d:Dt)(I:∀l,d=.list l->qlz l):qo7 d:=by
 intro G w0 H w pb lo ss bs e k p A J K;obtain⟨B,C,i,a,c,u,y,z⟩:=e;rcases A.kind with⟨g,rfl⟩|⟨j,l,rfl⟩|⟨g,j,L,M⟩
 ·have g:B=3:=g;subst g;refine qmi pb C i a c u y z k w _ λw' n=>Calls.mono (q0o (p.below n) a c k (by omega)) ?_
  have N:qa7 (qbq ss) k (bs.map idB) (.sym a.data.toList c)=if a.data.toList==qbv then none else qao (qbq ss) k (bs.map idB) (.sym a.data.toList c):=rfl
  intro e w2 h;have O:qxk G w0 H pb lo (1+qaf (.sym a.data.toList c)) ss bs DV (λsc x=>qaq (qbq ss) sc (.sym a.data.toList c) x) (qa7 (qbq ss) k (bs.map idB) (.sym a.data.toList c)) e w2:=by
   rw[N];rcases h with h|⟨H',v,new,o,q,g,j,P⟩
   ·exact .inl h
   ·exact .inr ⟨H',v,new,o,q,g,by simp[qaf];omega,P⟩
  rcases O with h|⟨H',v,new,o,h⟩
  ·exact .inl ⟨⟨_,h.1⟩,.inl h⟩
  ·exact .inr ⟨v,o,.inr ⟨H',v,new,rfl,h⟩⟩
 ·have j:B=4:=j;subst j;have r:=A.row;refine qk1 pb C i a c u y z k w _ λw' n=>?_
  have D:=bl1 n;refine Calls.mono (I l rfl G w0 H w' pb lo ss bs u y z k (p.below D) r (by simpa[qaf]using J) (by simp only[qaf]at K;omega)) ?_;rintro e w2 (⟨rfl,o,q⟩|⟨H',v,new,rfl,⟨f,Q,rfl⟩,q,g,R,E,S⟩)
  ·exact .inl ⟨⟨_,rfl⟩,.inl ⟨rfl,o,by simpa[qa7,qam,qao]using q⟩⟩
  ·refine .inr ⟨f,Q,rfl,λw3 s=>?_⟩;obtain⟨F,b⟩:=R.fix (bl1 s) (eR _) (by rw[s.heap];exact eN _ _);refine .inr ⟨_,_,new,rfl,⟨_,_,rfl⟩,by simpa[qa7,qam,qao]using q,by simp only[qaf];omega,F,E.trans b,?_⟩;exact q2i _ _ _ _ _ l _ (S.mono b) 400 (Gh.add_at _ _ _)
 ·refine Calls.mono (qk2 pb B C i a c u y z k w g j) ?_;rintro e w' ⟨rfl,n⟩;obtain⟨F,b⟩:=p.fix (bl1 n) (eR _) (by rw[n.heap];exact eN _ _);refine .inr ⟨_,_,[],rfl,⟨_,_,rfl⟩,?_,by simp,by simpa using F,b,q2k _ _ _ _ d _ (A.mono b) g j (Gh.add_at _ _ _)⟩;cases d with
  |sym t m=>exact absurd rfl (L t m)
  |list l=>exact absurd rfl (M l)
  |num=>simp[qa7,qam,qao]
  |bool=>simp[qa7,qam,qao]
  |str=>simp[qa7,qam,qao]
theorem q1w(d q:Dt)(F:qam q=true)(J:qo7 d){ss:List BA}{bs:List Bk}{e:Dl}(p:Pst G w0 H w pb lo ss bs)(K:DRep H d e)(L:k+1+qaf d<=1000000000000)(M:bs.length+(1+qaf d)<=1000000000000):
  Calls prog 388 #[bp pb,.agg e.cells,.int .i64 ((k:Int)+1)] w (qxk G w0 H pb lo (1+qaf d) ss bs LV (λsc x=>qau (qbq ss) sc [d,q] x) (qa7 (qbq ss) (k+1) (bs.map idB) d)):=by
 obtain⟨N,O,y,z,P,Q,R,S⟩:=e;obtain⟨la,lc,T,U,h2,V,h4⟩:=p.box;obtain⟨ba,bc,rfl⟩:∃ba bc,T=.slice ba bs.length bc:=by
  rcases V.2 with⟨i,j⟩|⟨g,cap,A,i,_⟩
  ·exact⟨none,0,by rw[j];exact i⟩
  ·exact⟨_,_,i⟩
 refine q1y pb bs.length bs.length bc bc ba ba _ _ N O y z P Q R S _ w _ U ⟨eR _,by omega⟩ λw' W X=>?_
 obtain⟨Y,l⟩:=p.fix W (Nat.le_succ _) X;have c:=J G w0 _ w' pb lo ss bs _ (k+1) Y (K.mono l) L M;have Z:(((k+1:Nat):Int))=(k:Int)+1:=by push_cast;rfl
 rw[Z]at c;refine Calls.mono c ?_;rintro e w2 (⟨rfl,i,j⟩|⟨H',v,new,rfl,⟨f,n,rfl⟩,j,q3,B,r,hm⟩)
 ·exact .inl ⟨⟨_,rfl⟩,.inl ⟨rfl,i,j⟩⟩
 ·obtain⟨a0,a1,C,r1,r2,r3,r4⟩:=B.box;obtain⟨a2,a3,rfl⟩:∃ba bc,C=.slice ba (bs++new).length bc:=by
   rcases r3.2 with⟨i,j⟩|⟨g,cap,A,i,_⟩
   ·exact⟨none,0,by rw[j];exact i⟩
   ·exact⟨_,_,i⟩
  have s:H'.I (w.heap.size+1)=some (.cells #[.int .i64 (bs.length:Int)] 3 (0,0)):=r.I (Gh.add_at _ _ _);have t:=B.k.imm s;refine .inr ⟨f,n,(bs++new).length,rfl,by simp;omega,by simp,⟨_,_,_,_,r1⟩,(eE.1 t).1,t,λw3 u=>?_⟩;have hA:Below w2.heap.size w2 (w2.alloc (.cells #[.func (.func f) #[] n] 466)):=qaa _ _;obtain⟨p3,h⟩:=B.fix hA (eR _) (eN _ _);have hB:Below (w2.alloc (.cells #[.func (.func f) #[] n] 466)).heap.size (w2.alloc (.cells #[.func (.func f) #[] n] 466)) w3:=bl1 u;obtain⟨p4,a⟩:=p3.fix (b:=w2.heap.size+1) hB (by simp) (o:=.cells #[.int .i64 (new.length:Int)] 3 (0,0)) (by
   rw[u.heap];have:=eN (w2.alloc (.cells #[.func (.func f) #[] n] 466)) (.cells #[.int .i64 (((bs++new).length:Int)-(bs.length:Int))] 3);have e1:(((bs++new).length:Nat):Int)-(bs.length:Int)=(new.length:Int):=by simp;omega
   rw[e1]at this|-;simpa using this)
  have D:qam d=false:=by
   cases hdd:qam d with
   |false=>rfl
   |true=>simp[qa7,hdd]at j
  have E:qao (qbq ss) (k+1) (bs.map idB) d=some (bs.map idB++new.map idB):=by
   rw[<-List.map_append];simpa[qa7,D]using j
  have m:=qrv E;rw[List.length_map]at m;refine .inr ⟨_,_,new,rfl,⟨_,_,rfl⟩,j,q3,p4,((l.trans r).trans h).trans a,?_⟩;refine q4n _ (qbq ss) bs.length new.length _ _ _ 3 466 3 d q F _ (hm.mono (h.trans a)) (Gh.add_at _ _ _) (a.I (Gh.add_at _ _ _)) (a.I (h.I s)) m
theorem qz6(l:List Dt)(T:∀d,d∈l->qo7 d)(a1:∀d r,l=d::r->qlz r):qlz l:=by
 intro G w0 H w pb lo ss bs a len cap k p hr hk hb;have i:=hr.len;cases l with
 |nil=>
  simp only[List.length_nil]at i;subst i;refine Calls.mono (qmy pb a cap k w) ?_;rintro e w' ⟨rfl,U⟩;exact .inr ⟨H,_,[],rfl,⟨_,_,rfl⟩,by simp[qa1],by simp,by simpa using p.below (bl0 U),Gh.le.refl _,q4q _ _ _⟩
 |cons d r=>
  simp only[List.length_cons]at i;subst i;obtain⟨g,o,a8,rfl,F,s⟩:=hr.mem (by omega);obtain⟨⟨Q,R,m,n,S,ya,yl,yc⟩,V,a2⟩:=s 0 d (by simp);have b:=a2 w (p.k.imm F);simp only[Nat.zero_mul,Nat.add_zero]at b;have B:r.length+1<=cap:=by obtain⟨_,_,_,_,h,_⟩:=hr;exact h
  have J:DRow H (tlD g o cap 1) r.length (cap-1) r:=by simpa using hr.drop 1 (by omega)
  have a9:qad (d::r)=1+qaf d+qad r:=by simp[qad]
  by_cases C:∃q,r=[q]/\qam q=true
  ·obtain⟨q,rfl,W⟩:=C;obtain⟨⟨zk,zn,K,L,zm,za,zl,zc⟩,M,N⟩:=s 1 q (by simp);have c:=N w (p.k.imm F);simp only[Nat.one_mul]at c;have t:=qd9 M;rw[W]at t;obtain⟨a3,a4⟩:zk=3/\L=⟨#[46,46,46]⟩:=by simpa using t
   subst a3;subst a4;rw[qiv _ _ _ _ _ W];refine qmx pb g o cap Q R m n S ya yl yc zn K zm za zl zc k w _ ⟨by omega,by omega⟩ (b 0 (by omega)) (b 1 (by omega)) (b 2 (by omega)) (b 3 (by omega)) (b 4 (by omega)) (b 5 (by omega)) (c 0 (by omega)) (c 1 (by omega)) (c 2 (by omega)) (c 3 (by omega)) (c 4 (by omega)) (c 5 (by omega)) λw' U=>?_
   have b0:qad [q]=1+qaf q:=by simp[qad]
   have a5:=q1w (e:=⟨Q,R,m,n,S,ya,yl,yc⟩) (k:=k) d q W (T d (by simp)) (p.below U) V (by omega) (by omega);refine Calls.mono a5 ?_;intro e w2 h;have hc:qxk G w0 H pb lo (qad [d,q]) ss bs LV (λsc x=>qau (qbq ss) sc [d,q] x) (qa7 (qbq ss) (k+1) (bs.map idB) d) e w2:=by
    rcases h with h|⟨H',v,new,O,h2,h3,h4,h5⟩
    ·exact .inl h
    ·exact .inr ⟨H',v,new,O,h2,h3,by omega,h5⟩
   rcases hc with h|⟨H',v,new,O,h⟩
   ·exact .inl ⟨⟨_,h.1⟩,.inl h⟩
   ·exact .inr ⟨v,O,.inr ⟨H',v,new,rfl,h⟩⟩
  ·have P:∀q,r=[q]->qam q=false:=λq W=>by
    cases hd:qam q with
    |false=>rfl
    |true=>exact absurd ⟨q,W,hd⟩ C
   rw[qhx _ _ _ _ _ P];have X:∀w',Below w.heap.size w w'->Calls prog 389 #[bp pb,.agg #[.int .i64 Q,.int .i64 R,.bool m,.string n,.int .i64 S,.slice ya yl yc],.int .i64 (k:Int)] w' λe w2=>((∃p,e=.panicked p)/\qxk G w0 H pb lo (qad (d::r)) ss bs LV (λsc x=>qau (qbq ss) sc (d::r) x) (match qa7 (qbq ss) k (bs.map idB) d with|none=>none|some u=>qa1 (qbq ss) k u r) e w2)\/(∃f cp,e=.returned (.func (.func f) #[] cp)/\∀w3,Lk (w2.alloc (.cells #[.func (.func f) #[] cp] 466)) w3->Calls prog 364 #[bp pb,.slice (tlD g o cap 1) r.length (cap-1),.int .i64 (k:Int)] w3 λe w4=>((∃p,e=.panicked p)/\qxk G w0 H pb lo (qad (d::r)) ss bs LV (λsc x=>qau (qbq ss) sc (d::r) x) (match qa7 (qbq ss) k (bs.map idB) d with|none=>none|some u=>qa1 (qbq ss) k u r) e w4)\/(∃f2 A,e=.returned (.func (.func f2) #[] A)/\∀w5,Lk (w4.alloc (.cells #[.func (.func f2) #[] A] 400)) w5->qxk G w0 H pb lo (qad (d::r)) ss bs LV (λsc x=>qau (qbq ss) sc (d::r) x) (match qa7 (qbq ss) k (bs.map idB) d with|none=>none|some u=>qa1 (qbq ss) k u r) (.returned (.func (.func 390) #[] #[bp w2.heap.size,bp w4.heap.size])) w5)):=λw' U=>by
    have a6:=T d (by simp) G w0 H w' pb lo ss bs ⟨Q,R,m,n,S,ya,yl,yc⟩ k (p.below U) V (by omega) (by omega);refine Calls.mono a6 ?_;rintro e w2 (⟨rfl,q1,q2⟩|⟨H',v,new,rfl,⟨f,cp,rfl⟩,q2,q3,p2,Y,hm⟩)
    ·exact .inl ⟨⟨_,rfl⟩,.inl ⟨rfl,q1,by rw[q2]⟩⟩
    ·refine .inr ⟨f,cp,rfl,λw3 Z=>?_⟩;obtain⟨p3,y⟩:=p2.fix (bl1 Z) (eR _) (by rw[Z.heap];exact eN _ _);refine Calls.mono (a1 d r rfl G w0 _ w3 pb lo ss (bs++new) _ _ _ k p3 (J.mono (Y.trans y)) (by omega) (by simp;omega)) ?_;rintro e w4 (⟨rfl,r1,r2⟩|⟨H4,v4,D,rfl,⟨f2,A,rfl⟩,r2,r3,p4,z,a7⟩)
     ·exact .inl ⟨⟨_,rfl⟩,.inl ⟨rfl,r1,by rw[q2];exact r2⟩⟩
     ·refine .inr ⟨f2,A,rfl,λw5 a0=>?_⟩;obtain⟨p5,j⟩:=p4.fix (bl1 a0) (eR _) (by rw[a0.heap];exact eN _ _);refine .inr ⟨_,_,new++D,rfl,⟨_,_,rfl⟩,by rw[q2];simpa using r2,by simp;omega,by simpa using p5,((Y.trans y).trans z).trans j,?_⟩;have E:=a7.mono j;rw[List.length_append]at E;have:=q2j _ (qbq ss) bs.length new.length D.length w2.heap.size w4.heap.size 466 400 d r _ _ P (hm.mono ((y.trans z).trans j)) E (j.I (z.I (Gh.add_at _ _ _))) (Gh.add_at _ _ _);simpa using this
   by_cases O:r.length=1
   ·obtain⟨q,rfl⟩:∃q,r=[q]:=List.length_eq_one_iff.1 O;obtain⟨⟨zk,zn,K,L,zm,za,zl,zc⟩,M,N⟩:=s 1 q (by simp);have c:=N w (p.k.imm F);simp only[Nat.one_mul]at c;have t:=qd9 M;rw[P q rfl]at t;exact qmw pb g o _ cap Q R m n S ya yl yc zk zn K L zm za zl zc k w _ B O t (b 0 (by omega)) (b 1 (by omega)) (b 2 (by omega)) (b 3 (by omega)) (b 4 (by omega)) (b 5 (by omega)) (c 0 (by omega)) (c 1 (by omega)) (c 2 (by omega)) (c 3 (by omega)) (c 4 (by omega)) (c 5 (by omega)) X
   ·exact qmz pb g o _ cap Q R m n S ya yl yc k w _ B O (b 0 (by omega)) (b 1 (by omega)) (b 2 (by omega)) (b 3 (by omega)) (b 4 (by omega)) (b 5 (by omega)) X
theorem qsg:∀n:Nat,(∀d:Dt,SizeOf.sizeOf d<n->qo7 d)/\(∀l:List Dt,SizeOf.sizeOf l<n->qlz l)
 |0=>⟨λd h=>by omega,λl h=>by omega⟩
 |n+1=>by
  obtain⟨c,b⟩:=qsg n;refine⟨λd h=>qzq d λl a=>b l (by subst a;simp at h;omega),λl h=>qz6 l (λd e=>c d (by have:=List.sizeOf_lt_of_mem e;omega)) λd r a=>b r (by subst a;simp at h;omega)⟩
theorem list_any(l:List Dt):qlz l:=(qsg (SizeOf.sizeOf l+1)).2 l (Nat.lt_succ_self _)
theorem qgg(w:Wd)(t ty:TypeId)(k:Nat)(e:TypeId)(i:TypeInfo)(z:Vu)(size a:Nat)(I:P.underlying t=some (.slice e))(J:P.info? e=some i)(R:i.zero=some z)
  (d:i.size=size)(r:i.bytes=a)(s:z.cells.size=size)(x:0<size)
  (v:Vu)(n:Nat)(xs:List Vu)(l:w.ownsRow k e size v n xs)
  (y:Addr)(m c:Nat)(news:List Vu)(K:news.length=m*size)(f:∀j u,news[j]? =some u->w.cell? (y.add j)=some u)(S:∀u∈news,u.oneCell'=true)
  (W:0<m)(A:n+m<=maxLen)(o:(n+m)*a<=140737488355328)(q:k<=w.heap.size)(H:Nat)(X:w.heap.size=H):
  ∃g cap w',(Builtin.append_ #[t,t] ty #[v,.slice (some y) m c]).run P w=.ok (.slice (some ⟨g,0,none⟩) (n+m) cap) w'/\
   w'.ownsRow k e size (.slice (some ⟨g,0,none⟩) (n+m) cap) (n+m) (xs++news)/\w.grownBy w' v.ownBlock/\(v.ownBlock=some g\/(g=H/\w.grownBy w' none))/\g<w'.heap.size:=by
 obtain⟨g,cap,w',B,Y,T,U,Z⟩:=run_append_lies (P:=P) w t ty k e i z size a I J R d r s x v n xs l y m c news K f S W A o q H X;refine⟨g,cap,w',B,Y,T,?_,Z⟩;rcases l.2 with⟨L,hn⟩|⟨b,E,a0,L,hb,F,a1,a2,M,N⟩
 ·subst L;rcases U with h|h
  ·cases h
  ·exact .inr ⟨h,T⟩
 ·subst L;by_cases p:n+m<=E
  ·left;have V:n*size+m*size<=E*size:=by rw[<-Nat.add_mul];exact Nat.mul_le_mul_right _ p
   have C:=run_append_room_cells (P:=P) w t ty e i I J b 0 n E y m c news (by rw[d];exact K) f S p (λj G=>by
    simp only[World.cell?,F];rw[Array.getElem?_eq_getElem (by rw[M,d];omega)];rfl) (λj G=>by simp[World.frozen?,F])
   rw[C]at B;have:b=g:=by cases B;rfl
   rw[this];rfl
  ·right;have D:∀j,(⟨b,0,none⟩:Addr).add j=⟨b,j,none⟩:=λj=>by unfold Addr.add;split <;> simp_all
   obtain⟨v',w2,O,q1,q2⟩:=run_append_arg_grows (P:=P) w t ty e i z size a I J R d r s x ⟨b,0,none⟩ n E xs l.1 (λj u Q=>by
    rw[D];simp only[World.cell?,F];have G:=(eL.1 Q).1;rw[<-N,List.getElem?_take_of_lt (by rw[l.1]at G;exact G)]at Q;simpa using Q) y m c news K f (by omega) A o
   rw[O]at B;cases B;have a3:=(q1.lt g rfl).1;rcases U with h|h
   ·have:b=g:=by simpa[Value.ownBlock]using h
    have a4:=(eE.1 F).1;omega
   ·exact⟨h,q2⟩
theorem qfc{q:Array Oper}{o:Oper}{a:Act}{K:Act->Wd->Prop}{Q:Exit->Act->Wd->Prop}{E:Prop}(y:o.guard=none)(s x:Operand)(t:TypeId)
  (G:o.op=.call {callee:=.builtin .append,args:=#[s,x],argTypes:=#[t,t]})
  (d:Nat)(e:TypeId)(i:TypeInfo)(z:Vu)(size b:Nat)(I:P.underlying t=some (.slice e))(J:P.info? e=some i)(L:i.zero=some z)
  (k:i.size=size)(A:i.bytes=b)(B:z.cells.size=size)(C:0<size)
  (v:Vu)(n:Nat)(xs:List Vu)(M:a.eval s=v)(r:w.ownsRow d e size v n xs)
  (D:Addr)(m c:Nat)(news:List Vu)(N:a.eval x=.slice (some D) m c)(O:news.length=m*size)(l:∀j u,news[j]? =some u->w.cell? (D.add j)=some u)(R:∀u∈news,u.oneCell'=true)
  (S:0<m)(F:n+m<=maxLen)(f:(n+m)*b<=140737488355328)(p:d<=w.heap.size)(H:Nat)(T:w.heap.size=H)
  (h:∀g cap w',w'.ownsRow d e size (.slice (some ⟨g,0,none⟩) (n+m) cap) (n+m) (xs++news)->w.grownBy w' v.ownBlock->(v.ownBlock=some g\/(g=H/\w.grownBy w' none))->g<w'.heap.size->K (a.put o.dst (.slice (some ⟨g,0,none⟩) (n+m) cap)) w'):
  if Region.wanted o (yielded q a.tmps)=true then Oper.wp P o a w K Q else E:=by
 have U:Region.wanted o (yielded q a.tmps)=true:=by simp[Region.wanted,y]
 rw[if_pos U];obtain⟨g,cap,w',V,W,X,Y,Z⟩:=qgg (P:=P) w t o.type d e i z size b I J L k A B C v n xs r D m c news O l R S F f p H T;unfold Oper.wp execOp;simp only[G,resolve,invoke,builtin,Sem.run_bind,Sem.run_pure,Result.andThen_ok,List.map_toArray,List.map_cons,List.map_nil,M,N,V];exact h g cap w' W X Y Z
def BkI(H:Gh)(ba:OA)(bs:List Bk):Prop:=∀(i:Nat) (b:Bk),bs[i]? =some b->∃g arr t,ba=some ⟨g,0,none⟩/\H.I g=some (.cells arr t (0,0))/\arr[i*3]? =some (.string b.1.1)/\arr[i*3+1]? =some (.int .i64 b.1.2)/\arr[i*3+2]? =some (.int .i64 (b.2:Int))
theorem BkI.mono(h:G.le H){bs:List Bk}(r:BkI G ba bs):BkI H ba bs:=λi b c=>by
 obtain⟨g,a,t,d,e,f⟩:=r i b c;exact⟨g,a,t,d,h.I e,f⟩
theorem BkI.row(k:Wk G w0 H w){bs:List Bk}(r:BkI H ba bs):qxo w ba bs:=λi b c=>by
 obtain⟨g,d,t,e,a,f,h,j⟩:=r i b c;exact⟨g,e,by rw[k.cell a];exact f,by rw[k.cell a];exact h,by rw[k.cell a];exact j⟩
def qfr(is:List Nat):List Vu:=is.map λ(i:Nat)=>Value.int .i64 (i:Int)
structure Pd where
 g:Nat
 o:Nat
 js:List Nat
structure PdOk (w0:Wd) (H:Gh) (w:Wd) (lo:Nat) (rv:Vu) (is:List Nat) (p:Pd):Prop where
 I:H.I p.g=none
 l:lo<=p.g
 row:∃arr,w.heap[p.g]? =some (.cells arr 3 (0,0))/\∀(q i:Nat),p.js[q]? =some i->arr[p.o+q]? =some (.int .i64 (i:Int))
 own:rv.ownBlock=some p.g->∀(q i:Nat),p.js[q]? =some i->is[p.o+q]? =some i
structure Tst (G:Gh) (w0:Wd) (H:Gh) (w:Wd) (tb lo:Nat) (bs:List Bk) (is:List Nat) (Pn:List Pd):Prop where
 k:Wk G w0 H w
 box:∃ba bc rv,w.heap[tb]? =some (.cells #[.slice ba bs.length bc,rv] 445 (0,0))/\BkI H ba bs/\w.ownsRow lo 3 1 rv is.length (qfr is)/\(∀g,rv.ownBlock=some g->H.I g=none)/\∀p,p∈Pn->PdOk w0 H w lo rv is p
 tI:H.I tb=none
 tl:w0.heap.size<=tb
 tlo:tb<lo
 lo:lo<=w.heap.size
 bm:bs.length<=1000000000000
theorem Tst.step{L:Nat->Prop}{bs:List Bk}{Pn:List Pd}(p:Tst G w0 H w tb lo bs is Pn)(s:Sp L H w H' w')(d:∀k,tb<=k->¬L k)(i:Wk G w0 H' w'):Tst G w0 H' w' tb lo bs is Pn:=by
 obtain⟨ba,j,rv,e,l,c,m,n⟩:=p.box;have o:=p.tlo;refine⟨i,⟨ba,j,rv,by rw[s.blk (eE.1 e).1 (d _ (eR _))];exact e,l.mono s.ext.le,qb7 c λg a=>s.blk (c.lt g a).2 (d g (by have:=(c.lt g a).1;omega)),λg a=>s.loose (c.lt g a).2 (m g a),λq r=>?_⟩,s.loose (eE.1 e).1 p.tI,p.tl,p.tlo,eT p.lo s.size,p.bm⟩;obtain⟨t,u,⟨f,h,v⟩,x⟩:=n q r;have b:=(eE.1 h).1;exact⟨s.loose b t,u,⟨f,by rw[s.blk b (d _ (by omega))];exact h,v⟩,x⟩
theorem Tst.below{bs:List Bk}{Pn:List Pd}(p:Tst G w0 H w tb lo bs is Pn)(h:Below w.heap.size w w'):Tst G w0 H w' tb lo bs is Pn:=p.step (L:=λ_=>False) (Sp.below h) (λ_ _ h=>h) (p.k.below h)
theorem Tst.fix{bs:List Bk}{c:List Pd}(p:Tst G w0 H w tb lo bs is c)(h:Below w.heap.size w w')(a:w.heap.size<=b)(d:w'.heap[b]? =some o):Tst G w0 (H.add b o) w' tb lo bs is c/\∀L,Sp L H w (H.add b o) w':=by
 have hI:=p.k.fresh a;refine⟨p.step (L:=λ_=>False) ((Sp.below h).fix a hI) (λ_ _ h=>h) ((p.k.below h).fix (eT p.k.bel.size a) hI d),λL=>(Sp.below h).fix a hI⟩
def PnOk(Gf:Gh)(Pn:List Pd):Prop:=∀p,p∈Pn->∃arr t,Gf.I p.g=some (.cells arr t (0,0))/\∀(q i:Nat),p.js[q]? =some i->arr[p.o+q]? =some (.int .i64 (i:Int))
def ixB(i:Sc.Id)(bl:List (Sc.Id×Nat)):Option Nat:=bl.findIdx? λb=>b.1==i
mutual
def qcb(bl:List (Sc.Id×Nat))(deep:Nat):Dt->Option (Mkr×List Nat)
 | .sym t m=>if t==qbv then none else match ixB (t,m) bl with
  |none=>some (⟨λ_=>True,λmark _=>some [.sym t mark]⟩,[])
  |some at'=>
   let n:=(bl[at']?.map (·.2)).getD 0
   if n==0 then some (⟨λtrs=>∃d,trs[at']? =some (.one d),λ_ trs=>qg6 at' trs⟩,[])
   else if n==deep then some (⟨λtrs=>∃d,trs[at']? =some (.one d),λ_ trs=>qg6 at' trs⟩,[at'])
   else none
 | .list l=>match qbj bl deep l with
  |none=>none
  |some (L,js)=>some (⟨λtrs=>∀m,m∈L->m.ok trs,λmark trs=>(qbp L mark trs).map λl=>[.list l]⟩,js)
 |d=>some (⟨λ_=>True,λ_ _=>some [d]⟩,[])
def qbj(bl:List (Sc.Id×Nat))(deep:Nat):List Dt->Option (List Mkr×List Nat)
 | []=>some ([],[])
 | [t]=>match qcb bl deep t with
  |none=>none
  |some (m,js)=>some ([m],js)
 |t::q::r=>
  if qam q then
   match qcb bl (deep+1) t with
   |none=>none
   |some (m,js)=>if js.isEmpty then none else match qbj bl deep r with
    |none=>none
    |some (L,ks)=>some (rep js m::L,js++ks)
  else match qcb bl deep t with
   |none=>none
   |some (m,js)=>match qbj bl deep (q::r)with
    |none=>none
    |some (L,ks)=>some (m::L,js++ks)
end
def IxT(w:Wd)(k:Nat):Prop:=∃cs t,w.heap[k]? =some (.cells cs t (0,0))/\(t=3\/t=445)
abbrev SpT(H:Gh)(w:Wd)(H':Gh)(w':Wd):Prop:=Sp (IxT w) H w H' w'
theorem SpT.trans{A B C:Gh}{u v:Wd}(a:SpT A u B v)(b:SpT B v C w):SpT A u C w:=a.then b λk d ⟨cs,t,e,f⟩=>Classical.byContradiction λc=>c ⟨cs,t,by rw[<-a.blk d c];exact e,f⟩
theorem SpT.below(h:Below w.heap.size w w'):SpT H w H w':=Sp.below h
def q32(G:Gh)(w0:Wd)(H:Gh)(w:Wd)(tb lo c:Nat)(bs:List Bk)(is:List Nat)(Pn:List Pd)(res:Option (Mkr×List Nat))(e:En)(w':Wd):Prop:=
 (e=.panicked (qan (qap 4))/\Below w0.heap.size w0 w'/\res=none)\/
 (∃H' v new Pn' m,e=.returned v/\(∃f cp,v=.func (.func f) #[] cp)/\res=some (m,new)/\new.length<=c/\Tst G w0 H' w' tb lo bs (is++new) Pn'/\SpT H w H' w'/\(∀p,p∈Pn->p∈Pn')/\∀Gf:Gh,H'.le Gf->PnOk Gf Pn'->Mks Gf m.ok m.mks v)
theorem Tst.step'{L:Nat->Prop}{bs:List Bk}{Pn:List Pd}(p:Tst G w0 H w tb lo bs is Pn)(s:Sp L H w H' w')(m:∀k,L k->¬IxT w k)(n:Wk G w0 H' w'):Tst G w0 H' w' tb lo bs is Pn:=by
 obtain⟨ba,o,rv,d,r,e,u,v⟩:=p.box;have x:=p.tlo;have f:∀{k cs t},w.heap[k]? =some (.cells cs t (0,0))->(t=3\/t=445)->¬L k:=λh y z=>m _ z ⟨_,_,h,y⟩
 have b:∀g,rv.ownBlock=some g->¬L g:=λg a=>by
  rcases e.2 with⟨i,_⟩|⟨A,cap,B,i,K,C,_⟩
  ·subst i;cases a
  ·subst i;obtain rfl:A=g:=by simpa[Value.ownBlock]using a
   exact f C (.inl rfl)
 refine⟨n,⟨ba,o,rv,by rw[s.blk (eE.1 d).1 (f d (.inr rfl))];exact d,r.mono s.ext.le,qb7 e λg a=>s.blk (e.lt g a).2 (b g a),λg a=>s.loose (e.lt g a).2 (u g a),λq D=>?_⟩,s.loose (eE.1 d).1 p.tI,p.tl,p.tlo,eT p.lo s.size,p.bm⟩;obtain⟨E,F,⟨j,l,I⟩,J⟩:=v q D;have c:=(eE.1 l).1;exact⟨s.loose c E,F,⟨j,by rw[s.blk c (f l (.inl rfl))];exact l,I⟩,J⟩
end Go.Proofs.YtldaocpojcfljaaGreatDoor
