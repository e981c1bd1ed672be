import Derived.Test.YtldaocpojcfljaaGreatDoorD16
set_option maxRecDepth 100000
set_option maxHeartbeats 4000000
namespace Go.Proofs.YtldaocpojcfljaaGreatDoor
open Tryz hiding parts
open Go.RowKit Go.Shelf
section
open Sc
def dlCells(l:List Dl):List Value:=l.flatMap fun e=>e.cells.toList
theorem qew(a:List Dl)(e:Dl):dlCells (a++[e])=dlCells a++e.cells.toList:=by simp[dlCells]
def AppK(xb mb:Nat)(v:Value)(blen:Nat)(xs:List Value)(Q:Ending->World->Prop)(q:Nat)(W:World):Prop:=∀g6 cap6 w6,W.grownBy w6 (some q)->(g6=q\/W.heap.size<=g6)->w6.ownsRow q 241 1 (.slice (some ⟨g6,0,none⟩) (1+blen) cap6) (1+blen) ([v]++xs)->w6.cell? ⟨xb,0,none⟩=some (bp mb)/\∀w7,Lk w6 w7->Calls prog 333 #[bp mb,.slice (some ⟨g6,0,none⟩) (1+blen) cap6] w7 (RX xb mb Q)
def LetV(xb mb blen:Nat)(u:Value)(w4:World)(xs:List Value)(ga c:Nat):Prop:=u=.slice (some ⟨ga,0,none⟩) blen c/\xs.length=blen/\w4.cell? ⟨xb,0,none⟩=some (bp mb)/\(∀j x,xs[j]? =some x->w4.cell? ⟨ga,j,none⟩=some x)/\(∀x∈xs,x.oneCell'=true)
def LetK(xb mb:Nat)(body:Value)(na:Option Addr)(nc:Nat)(va:Option Addr)(vc blen:Nat)(wr:World)(Q:Ending->World->Prop):Prop:=
 ∀w1,Below wr.heap.size wr w1->Calls prog 293 #[bp xb,.agg (Dl.cells ⟨4,0,false,⟨#[]⟩,0,na,blen,nc⟩),body] w1 (RetP (fun v w2=>∃kc cc,v=.func (.func kc) #[] cc/\w2.cell? ⟨xb,0,none⟩=some (bp mb)/\
  (∀w3,Lk (w2.alloc (.cells #[v] 241)) w3->Calls prog 334 #[bp xb,.slice va blen vc] w3 (RetP (fun u w4=>∃xs ga c,LetV xb mb blen u w4 xs ga c/\w4.heap[w2.heap.size]? =some (.cells #[v] 241 (0,0))/\AppK xb mb v blen xs Q w2.heap.size w4) Q))/\
  (∀w3,Lk w2 w3->Calls prog 334 #[bp xb,.slice va blen vc] w3 (RetP (fun u w4=>∃xs ga c,LetV xb mb blen u w4 xs ga c/\AppK xb mb v blen xs Q w4.heap.size (w4.alloc (.cells #[v] 241))) Q))) Q)
theorem qd9{P:Program}(w:World){ops:Array Oper}{o:Oper}{a:Act}{K:Act->World->Prop}{Q:Exit->Act->World->Prop}{E:Prop}(hgd:o.guard=none)(s x:Operand)(t:TypeId)
  (ho:o.op=.call {callee:=.builtin .append,args:=#[s,x],argTypes:=#[t,t]})
  (base:Nat)(e:TypeId)(i:TypeInfo)(z:Value)(size bytes:Nat)(ht:P.underlying t=some (.slice e))(hi:P.info? e=some i)(hz:i.zero=some z)
  (hsize:i.size=size)(hby:i.bytes=bytes)(hzs:z.cells.size=size)(hsz:0<size)
  (v:Value)(n:Nat)(xs:List Value)(hs:a.eval s=v)(hown:w.ownsRow base e size v n xs)
  (ad:Addr)(m c:Nat)(news:List Value)(hx:a.eval x=.slice (some ad) m c)(hl:news.length=m*size)(hnews:∀j u,news[j]? =some u->w.cell? (ad.add j)=some u)(h1:∀u∈news,u.oneCell'=true)
  (hm:0<n+m)(h63:n+m<=maxLen)(hbytes:(n+m)*bytes<=140737488355328)(hbase:base<=w.heap.size)
  (h:∀g cap w',w'.ownsRow base e size (.slice (some ⟨g,0,none⟩) (n+m) cap) (n+m) (xs++news)->w.grownBy w' v.ownBlock->(v.ownBlock=some g\/g=w.heap.size)->K (a.put o.dst (.slice (some ⟨g,0,none⟩) (n+m) cap)) w'):
  if Region.wanted o (yielded ops a.tmps)=true then Oper.wp P o a w K Q else E:=by
 have hw:Region.wanted o (yielded ops a.tmps)=true:=by simp[Region.wanted,hgd]
 rw[if_pos hw];obtain⟨v',w',hr,h2,h3,_,h5⟩:=run_append_own_at (P:=P) w base t o.type e i z size bytes ht hi hz hsize hby hzs hsz v n xs hown ad m c news hl hnews h1 h63 hbytes hbase;obtain⟨g,cap,rfl,_,hlt⟩:=h2.form hm;unfold Oper.wp execOp;simp only[ho,resolve,invoke,builtin,Sem.run_bind,Sem.run_pure,Result.andThen_ok,List.map_toArray,List.map_cons,List.map_nil,hs,hx,hr];refine h g cap w' h2 h3 ?_;rcases h5 with h5|h5
 ·exact .inl (by rw[<-h5];rfl)
 ·exact .inr (by simpa[Value.ownBlock]using h5)
def LetRows(w wr:World)(na:Option Addr)(nc:Nat)(va:Option Addr)(vc k:Nat)(ns vs:List Dl):Prop:=
 ns.length=k/\vs.length=k/\wr.ownsRow w.heap.size 134 6 (.slice na k nc) k (dlCells ns)/\wr.ownsRow w.heap.size 134 6 (.slice va k vc) k (dlCells vs)/\(∀b,Value.ownBlock (.slice na k nc)=some b->Value.ownBlock (.slice va k vc)≠some b)/\Below w.heap.size w wr
def BindIs(w:World)(bd:Nat->Option (Dl×Dl))(i:Nat)(y:Dl):Prop:=match bd i with
 |some (a,b)=>y.len=2/\∃gb ob,y.a=some ⟨gb,ob,none⟩/\gb<w.heap.size/\(∀j,j<6->w.cell? ⟨gb,ob+j,none⟩=a.cells[j]?)/\(∀j,j<6->w.cell? ⟨gb,ob+6+j,none⟩=b.cells[j]?)
 |none=>y.len≠2
theorem qr5(xb mb g o n xcap:Nat)(_yn:Int)(_ytr:Bool)(_ytx:ByteArray)(_ym:Int)(ya:Option Addr)(blen ycap:Nat)(es:List Dl)(bd:Nat->Option (Dl×Dl))(w:World)(Q:Ending->World->Prop)(hn:n+3<=1000000)(hcp:n+3<=xcap)
  (c0:w.cell? ⟨g,o+6,none⟩=some (.int .i64 4))(c5:w.cell? ⟨g,o+6+5,none⟩=some (.slice ya blen ycap))(hb:blen=es.length)(hbm:blen<=30000)
  (hrow:∀(i j:Nat) (x:Dl),es[i]? =some x->j<6->∃g o,ya=some ⟨g,o,none⟩/\g<w.heap.size/\w.cell? ⟨g,o+i*6+j,none⟩=x.cells[j]?)
  (hbd:∀i x,es[i]? =some x->BindIs w bd i x)
  (hQ:(∃i,i<blen/\bd i=none)->∀w',Below w.heap.size w w'->Q (.panicked (stopP (stopV 4))) w')
  (hK:∀wr na nc va vc ns vs,(∀i a b,ns[i]? =some a->vs[i]? =some b->bd i=some (a,b))->LetRows w wr na nc va vc blen ns vs->LetK xb mb (.slice (tlD g o xcap 2) (n+1) (xcap-2)) na nc va vc blen wr Q):
  Calls prog 337 #[bp xb,.slice (some ⟨g,o,none⟩) (n+3) xcap] w Q:=by
 obtain⟨i0,hi,hz0',hz1',hz2'⟩:=info_parts info134;obtain⟨i1,hi1,hy0',hy1',hy2'⟩:=info_parts qjk;have hsl:∀w,(Instr.slice 132 (.slice (some ⟨g,o,none⟩) (n+3) xcap) (some (.int .i64 2)) none none).run prog w=.ok (.slice (tlD g o xcap 2) (n+1) (xcap-2)) w:=fun w=>qdg g o (n+1) xcap hcp w
 have h3:(3:Int)<=(n:Int)+3:=by omega
 have h1:(1:Int)<(n:Int)+3:=by omega
 have HB:=hZ hb;have HRow:=hZ hrow;have HBd:=hZ hbd;have HQ:=hZ hQ;have HK:=hZ hK;clear hb hrow hbd hQ hK;go_enter func337,ntmps337
 go_wp2_with (first|(go_at_call 290;refine(qam _).mono ?_;rintro e w2 ⟨rfl,hww⟩;obtain rfl:=hww.symm))
 go_loopw [26,5,6] (fun c s1 s2 wr=>∃(k:Nat) (na:Option Addr) (nc:Nat) (va:Option Addr) (vc:Nat) (ns vs:List Dl),k<=blen/\c=.int .i64 (k:Int)/\s1=.slice na k nc/\s2=.slice va k vc/\(∀i a b,ns[i]? =some a->vs[i]? =some b->bd i=some (a,b))/\LetRows w wr na nc va vc k ns vs) (fun c _ _ _=>blen-(intOf c).toNat)
 case atStart=>exact⟨0,none,0,none,0,[],[],Nat.zero_le _,rfl,rfl,rfl,fun i a b h=>by simp at h,rfl,rfl,⟨rfl,.inl ⟨rfl,rfl⟩⟩,⟨rfl,.inl ⟨rfl,rfl⟩⟩,fun b h=>by simp[Value.ownBlock]at h,Below.refl _ _⟩
 case round=>
  obtain⟨k,na,nc,va,vc,ns,vs,hk,rfl,rfl,rfl,hpr,hrows⟩:=hrel;have HPr:=hZ hpr;have HRows:=hZ hrows;clear hpr hrows;by_cases hlt:k<blen
  ·have hke:k<es.length:=by rw[<-HB.out];exact hlt
   obtain⟨⟨zk,zn,ztr,ztx,zm,za,zlen,zcap⟩,hz⟩:∃y,y=es[k]:=⟨_,rfl⟩;have hey:es[k]? =some ⟨zk,zn,ztr,ztx,zm,za,zlen,zcap⟩:=by rw[hz];exact List.getElem?_eq_getElem hke
   obtain⟨gy,oy,rfl,hgw,c00⟩:=HRow.out k 0 _ hey (by omega);have hBel:=HRows.out.2.2.2.2.2;have cell:∀j,j<6->wr.cell? ⟨gy,oy+k*6+j,none⟩=(Dl.cells ⟨zk,zn,ztr,ztx,zm,za,zlen,zcap⟩)[j]?:=fun j hj=>by
    obtain⟨g',o',e1,e2,e3⟩:=HRow.out k j _ hey hj;cases e1;exact(hBel.cell (p:=⟨gy,oy+k*6+j,none⟩) hgw).trans e3
   have d0:wr.cell? ⟨gy,oy+k*6,none⟩=some (.int .i64 zk):=cell 0 (by omega);have d1:wr.cell? ⟨gy,oy+k*6+1,none⟩=some (.int .i64 zn):=cell 1 (by omega);have d2:wr.cell? ⟨gy,oy+k*6+2,none⟩=some (.bool ztr):=cell 2 (by omega);have d3:wr.cell? ⟨gy,oy+k*6+3,none⟩=some (.string ztx):=cell 3 (by omega);have d4:wr.cell? ⟨gy,oy+k*6+4,none⟩=some (.int .i64 zm):=cell 4 (by omega);have d5:wr.cell? ⟨gy,oy+k*6+5,none⟩=some (.slice za zlen zcap):=cell 5 (by omega);have hbi:=HBd.out k _ hey;have hkl':(k:Int)<(blen:Int):=by omega
   clear cell hz c00 hey;unfold BindIs at hbi;cases hbk:bd k with
   |none=>
    rw[hbk]at hbi;have hne:((zlen:Int)==2)=false:=by have h:zlen≠2:=hbi;simp;omega
    have HBk:=hZ hbk;clear hbi hbk;go_wp2_with (first|(go_at_call 290;refine(qax _).mono ?_;rintro e w2 ⟨rfl,o,rfl⟩))
    exact⟨rfl,HQ.out ⟨k,hlt,HBk.out⟩ _ (HRows.out.2.2.2.2.2.trans (((qab _ _).alloc (by simp) _).mono HRows.out.2.2.2.2.2.size))⟩
   |some ab=>
    obtain⟨⟨pk,pn,ptr,ptx,pm,pa,plen,pcap⟩,⟨qk,qn,qtr,qtx,qm,qa,qlen,qcap⟩⟩:=ab;rw[hbk]at hbi;obtain⟨rfl,gb,ob,rfl,hgb,hp,hq⟩:=hbi;have HBk:=hZ hbk;have hpw:∀(W:World),Below w.heap.size w W->∀j,j<6->W.cell? ⟨gb,ob+j,none⟩=(Dl.cells ⟨pk,pn,ptr,ptx,pm,pa,plen,pcap⟩)[j]?:=fun W hW j hj=>(hW.cell (p:=⟨gb,ob+j,none⟩) hgb).trans (hp j hj)
    have hqw:∀(W:World),Below w.heap.size w W->∀j,j<6->W.cell? ⟨gb,ob+6+j,none⟩=(Dl.cells ⟨qk,qn,qtr,qtx,qm,qa,qlen,qcap⟩)[j]?:=fun W hW j hj=>(hW.cell (p:=⟨gb,ob+6+j,none⟩) hgb).trans (hq j hj)
    have HPw:=hZ hpw;have HQw:=hZ hqw;obtain⟨W0,hW0⟩:∃W0,W0=wr.alloc (.cells (Dl.cells ⟨zk,zn,ztr,ztx,zm,some ⟨gb,ob,none⟩,2,zcap⟩) 134):=⟨_,rfl⟩;have hB0:Below w.heap.size w W0:=by rw[hW0];exact hBel.trans ((qab _ _).mono hBel.size)
    have hbox:W0.heap[wr.heap.size]? =some (.cells (Dl.cells ⟨zk,zn,ztr,ztx,zm,some ⟨gb,ob,none⟩,2,zcap⟩) 134 (0,0)):=by rw[hW0];exact heap_alloc_new _ _
    have x5:W0.cell? ⟨wr.heap.size,5,none⟩=some (.slice (some ⟨gb,ob,none⟩) 2 zcap):=by simp only[World.cell?,hbox];rfl
    have u0:W0.cell? ⟨gb,ob,none⟩=some (.int .i64 pk):=hpw W0 hB0 0 (by omega);have u1:W0.cell? ⟨gb,ob+1,none⟩=some (.int .i64 pn):=hpw W0 hB0 1 (by omega);have u2:W0.cell? ⟨gb,ob+2,none⟩=some (.bool ptr):=hpw W0 hB0 2 (by omega);have u3:W0.cell? ⟨gb,ob+3,none⟩=some (.string ptx):=hpw W0 hB0 3 (by omega);have u4:W0.cell? ⟨gb,ob+4,none⟩=some (.int .i64 pm):=hpw W0 hB0 4 (by omega);have u5:W0.cell? ⟨gb,ob+5,none⟩=some (.slice pa plen pcap):=hpw W0 hB0 5 (by omega);obtain⟨_,_,hoN,hoV,hdis,_⟩:=HRows.out;have hoN0:W0.ownsRow w.heap.size 134 6 (.slice na k nc) k (dlCells ns):=qbd hoN fun c hc=>by rw[hW0];exact Below.heap_alloc _ _ _ (hoN.lt c hc).2
    have hoV0:W0.ownsRow w.heap.size 134 6 (.slice va k vc) k (dlCells vs):=qbd hoV fun c hc=>by rw[hW0];exact Below.heap_alloc _ _ _ (hoV.lt c hc).2
    have HON:=hZ hoN0;have HOV:=hZ hoV0;have HB0:=hZ hB0;have HBox:=hZ hbox;have hwb:wr.heap.size<W0.heap.size:=(Array.getElem?_eq_some_iff.1 hbox).1;have HWr:Hid (w.heap.size<=wr.heap.size):=hBel.size;have HDis:=hZ hdis;have HVl:Hid (∀c,Value.ownBlock (.slice va k vc)=some c->c<wr.heap.size):=fun c hc=>(hoV.lt c hc).2
    have HNl:Hid (∀c,Value.ownBlock (.slice na k nc)=some c->c<wr.heap.size):=fun c hc=>(hoN.lt c hc).2
    have hww0:w.heap.size<=W0.heap.size:=hB0.size;clear hbk hp hq hpw hqw hB0 hbox hoN hoV hoN0 hoV0 hdis hBel;go_wp2_with (first|(go_at_call 290;rw[<-hW0];clear hW0;refine(qam _).mono ?_;rintro e w2 ⟨rfl,hww⟩;obtain rfl:=hww.symm;refine Hid.out ?_))
    refine hZ ?_;go_wp2_with (at_builtin;refine wpList_append_lies _ rfl _ _ 132 rfl w.heap.size 134 i0 (.agg #[.int .i64 0,.int .i64 0,.bool false,.string ⟨#[]⟩,.int .i64 0,.slice none 0 0]) 6 72 underlying132 hi hz0' hz1' hz2' rfl (by decide) _ _ _ rfl (HON.out.alloc _) ⟨W0.heap.size,0,none⟩ 1 1 [.int .i64 pk,.int .i64 pn,.bool ptr,.string ptx,.int .i64 pm,.slice pa plen pcap] rfl rfl ?c1 ?c2 (by decide) ?c3 ?c4 ?c5 (W0.heap.size+1) ?c6 ?_)
    case c1=>exact World.news_of_block (cs:=#[.int .i64 pk,.int .i64 pn,.bool ptr,.string ptx,.int .i64 pm,.slice pa plen pcap]) (by have:=heap_alloc_new W0 (.cells #[.int .i64 pk,.int .i64 pn,.bool ptr,.string ptx,.int .i64 pm,.slice pa plen pcap] 134);simpa using this)
    case c2=>intro u hu;simp at hu;rcases hu with rfl|rfl|rfl|rfl|rfl|rfl <;> rfl
    case c3=>unfold maxLen;omega
    case c4=>omega
    case c5=>simp;omega
    case c6=>simp
    intro g1 cap1 w1 hown1 hgrow1 hat1 hlt1;refine Hid.out ?_;have hg1:W0.grownBy w1 (Value.slice na k nc).ownBlock:=qbf hgrow1;have hfar1:∀b,b<W0.heap.size->(Value.slice na k nc).ownBlock≠some b->w1.heap[b]? =W0.heap[b]?:=fun b hb hne=>hg1.block b hb fun e=>hne e.symm
    have hB1:Below w.heap.size w w1:=⟨hg1.os.trans HB0.out.os,hg1.tape.trans HB0.out.tape,hg1.output.trans HB0.out.output,Nat.le_trans HB0.out.size hg1.size,fun j hj=>by
     rw[hfar1 j (Nat.lt_of_lt_of_le hj HB0.out.size) (fun e=>by have:=(HON.out.lt j e).1;omega)];exact HB0.out.block j hj⟩
    have hbox1:w1.heap[wr.heap.size]? =some (.cells (Dl.cells ⟨zk,zn,ztr,ztx,zm,some ⟨gb,ob,none⟩,2,zcap⟩) 134 (0,0)):=by
     rw[hfar1 _ hwb (fun e=>by have:=HNl.out _ e;omega)];exact HBox.out
    have y5:w1.cell? ⟨wr.heap.size,5,none⟩=some (.slice (some ⟨gb,ob,none⟩) 2 zcap):=by simp only[World.cell?,hbox1];rfl
    have v0:w1.cell? ⟨gb,ob+6,none⟩=some (.int .i64 qk):=HQw.out w1 hB1 0 (by omega);have v1:w1.cell? ⟨gb,ob+6+1,none⟩=some (.int .i64 qn):=HQw.out w1 hB1 1 (by omega);have v2:w1.cell? ⟨gb,ob+6+2,none⟩=some (.bool qtr):=HQw.out w1 hB1 2 (by omega);have v3:w1.cell? ⟨gb,ob+6+3,none⟩=some (.string qtx):=HQw.out w1 hB1 3 (by omega);have v4:w1.cell? ⟨gb,ob+6+4,none⟩=some (.int .i64 qm):=HQw.out w1 hB1 4 (by omega);have v5:w1.cell? ⟨gb,ob+6+5,none⟩=some (.slice qa qlen qcap):=HQw.out w1 hB1 5 (by omega);have hoV1:w1.ownsRow w.heap.size 134 6 (.slice va k vc) k (dlCells vs):=qbd HOV.out fun c hc=>hfar1 c (HOV.out.lt c hc).2 fun e=>HDis.out c e hc
    have hg1v:∀c,Value.ownBlock (.slice va k vc)=some c->c≠g1:=fun c hc e=>by
     subst e;rcases hat1 with h|h
     ·exact HDis.out c h hc
     ·have:=HVl.out c hc;omega
    have HON1:=hZ hown1;have HOV1:=hZ hoV1;have HB1:=hZ hB1;have HG1v:=hZ hg1v;have hw1:w.heap.size<=w1.heap.size:=hB1.size;have HG1l:Hid (g1<w1.heap.size):=hlt1;clear hown1 hgrow1 hat1 hlt1 hg1 hfar1 hB1 hbox1 hoV1 hg1v u0 u1 u2 u3 u4 u5 x5;refine hZ ?_;go_wp2_with (at_builtin;refine wpList_append_lies _ rfl _ _ 132 rfl w.heap.size 134 i0 (.agg #[.int .i64 0,.int .i64 0,.bool false,.string ⟨#[]⟩,.int .i64 0,.slice none 0 0]) 6 72 underlying132 hi hz0' hz1' hz2' rfl (by decide) _ _ _ rfl (HOV1.out.alloc _) ⟨w1.heap.size,0,none⟩ 1 1 [.int .i64 qk,.int .i64 qn,.bool qtr,.string qtx,.int .i64 qm,.slice qa qlen qcap] rfl rfl ?e1 ?e2 (by decide) ?e3 ?e4 ?e5 (w1.heap.size+1) ?e6 ?_)
    case e1=>exact World.news_of_block (cs:=#[.int .i64 qk,.int .i64 qn,.bool qtr,.string qtx,.int .i64 qm,.slice qa qlen qcap]) (by have:=heap_alloc_new w1 (.cells #[.int .i64 qk,.int .i64 qn,.bool qtr,.string qtx,.int .i64 qm,.slice qa qlen qcap] 134);simpa using this)
    case e2=>intro u hu;simp at hu;rcases hu with rfl|rfl|rfl|rfl|rfl|rfl <;> rfl
    case e3=>unfold maxLen;omega
    case e4=>omega
    case e5=>simp;omega
    case e6=>simp
    intro g2 cap2 w2 hown2 hgrow2 hat2 hlt2;refine Hid.out ?_;have hg2:w1.grownBy w2 (Value.slice va k vc).ownBlock:=qbf hgrow2;have HFin:Hid (LetRows w w2 (some ⟨g1,0,none⟩) cap1 (some ⟨g2,0,none⟩) cap2 (k+1) (ns++[⟨pk,pn,ptr,ptx,pm,pa,plen,pcap⟩]) (vs++[⟨qk,qn,qtr,qtx,qm,qa,qlen,qcap⟩])):=by
     obtain⟨hl1,hl2,_⟩:=HRows.out;refine⟨by simp[hl1],by simp[hl2],?_,?_,?_,?_⟩
     ·rw[qew];refine qbd HON1.out fun c hc=>hg2.block c (HON1.out.lt c hc).2 fun e=>?_
      obtain rfl:g1=c:=by simpa[Value.ownBlock]using hc
      exact HG1v.out _ e.symm rfl
     ·rw[qew];exact hown2
     ·intro b hb hb';obtain rfl:g1=b:=by simpa[Value.ownBlock]using hb
      have hb':g2=g1:=by simpa[Value.ownBlock]using hb'
      rcases hat2 with h|h
      ·exact HG1v.out _ h hb'
      ·have:=HG1l.out;omega
     ·exact⟨hg2.os.trans HB1.out.os,hg2.tape.trans HB1.out.tape,hg2.output.trans HB1.out.output,Nat.le_trans HB1.out.size hg2.size,fun j hj=>by
       rw[hg2.block j (Nat.lt_of_lt_of_le hj HB1.out.size) (fun e=>by have:=(HOV1.out.lt j e.symm).1;omega)];exact HB1.out.block j hj⟩
    have HPr2:Hid (∀i a b,(ns++[(⟨pk,pn,ptr,ptx,pm,pa,plen,pcap⟩:Dl)])[i]? =some a->(vs++[(⟨qk,qn,qtr,qtx,qm,qa,qlen,qcap⟩:Dl)])[i]? =some b->bd i=some (a,b)):=fun i a b ha hb=>by
     obtain⟨hl1,hl2,_⟩:=HRows.out;by_cases hik:i<k
     ·rw[List.getElem?_append_left (by omega)]at ha hb;exact HPr.out i a b ha hb
     ·have hi1:=(List.getElem?_eq_some_iff.1 ha).1;have hik:i=k:=by simp at hi1;omega
      subst hik;rw[List.getElem?_append_right (by omega)]at ha hb;simp[hl1]at ha;simp[hl2]at hb;rw[<-ha,<-hb];exact HBk.out
    clear hown2 hgrow2 hat2 hlt2 hg2 HON1 HOV1 HG1v HG1l HB1 v0 v1 v2 v3 v4 v5 y5;refine hZ ?_;go_wp2;go_roundw
    case rel=>exact⟨k+1,_,_,_,_,_,_,by omega,by go_num,rfl,rfl,HPr2.out,HFin.out⟩
    case measure=>simp[intOf];omega
  ·have hke:k=blen:=by omega
   have hrows:=HRows.out;rw[hke]at hrows;have hLK:=HK.out wr na nc va vc ns vs HPr.out hrows;have HLK:=hZ hLK;have hnl:¬(k:Int)<(blen:Int):=by omega
   rw[hke];clear hke hrows hLK HK HRows HPr hnl hlt hk;go_wp2_with (fail)
   go_region_held2 (fun _=>True) (first|(exact trivial))
    (first
     |(go_at_call 238;refine(qhi na blen nc _).mono ?_;rintro e w1 ⟨rfl,o1,hl⟩;have HB1:Hid (Below wr.heap.size wr w1):=(have hb:=bl1 hl;⟨hb.os,hb.tape,hb.output,hb.size,hb.block⟩);clear hl)
     |(go_at_call 293;refine(HLK.out _ HB1.out).mono ?_;rintro e w2 (⟨ps,rfl,hq⟩|⟨v,rfl,kc,cc,rfl,hc,hA,hB⟩);(exact⟨rfl,hq⟩);have HC2:=hZ hc;have HA:=hZ hA;have HBb:=hZ hB;clear hc hA hB))
   all_goals
    have d0:=HC2.out;go_wp2_with (fail)
    clear HB1 HLK;go_region_held2 (fun w'=>w'.cell? ⟨xb,0,none⟩=some (bp mb)) (first|(exact HS3.out)|(exact HS2.out)|(exact HS1.out)|(exact qaj HS1.out)|(exact d0)|(exact qaj d0)|go_keep)
     (first
      |(go_at_call 334;refine(HA.out _ (by exact⟨rfl,rfl,rfl,rfl⟩)).mono ?_;rintro e w4 (⟨ps,rfl,hq⟩|⟨u,rfl,xs,ga,c4,⟨rfl,hxl,hcx,hcells,hone⟩,hq4,hk⟩);(exact⟨rfl,hq⟩);have HS1:=hZ hcx;have HXl:Hid (xs.length=blen*1):=(hxl.trans (Nat.mul_one blen).symm);have HOwn:Hid (w4.ownsRow w2.heap.size 241 1 (.slice (some ⟨w2.heap.size,0,none⟩) 1 1) 1 [.func (.func kc) #[] cc]):=⟨rfl,.inr ⟨w2.heap.size,1,#[.func (.func kc) #[] cc],rfl,Nat.le_refl _,hq4,Nat.le_refl _,by unfold maxLen;omega,rfl,rfl⟩⟩;have HBase:Hid (w2.heap.size<=w4.heap.size):=Nat.le_of_lt (Array.getElem?_eq_some_iff.1 hq4).1;have HNews:Hid (∀j x,xs[j]? =some x->w4.cell? ((⟨ga,0,none⟩:Addr).add j)=some x):=(fun j x hx=>by have hadd:(⟨ga,0,none⟩:Addr).add j=⟨ga,j,none⟩:=(by unfold Addr.add;split <;> simp_all);rw[hadd];exact hcells j x hx);have HOne:=hZ hone;have HAppK:=hZ hk;clear hxl hcx hcells hone hq4 hk)
      |(go_at_call 334;refine(HBb.out _ (by exact⟨rfl,rfl,rfl,rfl⟩)).mono ?_;rintro e w4 (⟨ps,rfl,hq⟩|⟨u,rfl,xs,ga,c4,⟨rfl,hxl,hcx,hcells,hone⟩,hk⟩);(exact⟨rfl,hq⟩);have HS1:=hZ hcx;have HXl:Hid (xs.length=blen*1):=(hxl.trans (Nat.mul_one blen).symm);have HOwn:Hid ((w4.alloc (.cells #[.func (.func kc) #[] cc] 241)).ownsRow w4.heap.size 241 1 (.slice (some ⟨w4.heap.size,0,none⟩) 1 1) 1 [.func (.func kc) #[] cc]):=⟨rfl,.inr ⟨w4.heap.size,1,#[.func (.func kc) #[] cc],rfl,Nat.le_refl _,heap_alloc_new _ _,Nat.le_refl _,by unfold maxLen;omega,rfl,rfl⟩⟩;have HBase:Hid (w4.heap.size<=(w4.alloc (.cells #[.func (.func kc) #[] cc] 241)).heap.size):=(by simp[RowKit.Hid]);have HNews:Hid (∀j x,xs[j]? =some x->(w4.alloc (.cells #[.func (.func kc) #[] cc] 241)).cell? ((⟨ga,0,none⟩:Addr).add j)=some x):=(fun j x hx=>by have hadd:(⟨ga,0,none⟩:Addr).add j=⟨ga,j,none⟩:=(by unfold Addr.add;split <;> simp_all);rw[hadd];exact qaj (hcells j x hx));have HOne:=hZ hone;have HAppK:=hZ hk;clear hxl hcx hcells hone hk)
      |(refine qd9 _ rfl _ _ 426 rfl _ 241 i1 .nilFunc 1 8 underlying426 hi1 hy0' hy1' hy2' rfl (by decide) _ _ _ rfl HOwn.out ⟨ga,0,none⟩ blen c4 xs rfl HXl.out HNews.out HOne.out (by omega) (by unfold maxLen;omega) (by omega) HBase.out ?_;intro g6 cap6 w6 hown6 hgrow6 hat6;obtain⟨hc6,hk6⟩:=HAppK.out g6 cap6 w6 hgrow6 (hat6.imp (fun h=>(Option.some.inj h).symm) (fun h=>Nat.le_of_eq h.symm)) hown6;clear hat6;have HS2:=hZ hc6;have HK6:=hZ hk6;clear hown6 hgrow6 hc6 hk6)
      |(go_at_call 333;refine(HK6.out _ (by exact⟨rfl,rfl,rfl,rfl⟩)).mono ?_;rintro e w8 (⟨ps,rfl,hq⟩|⟨v,rfl,hc,hq⟩);(exact⟨rfl,hq⟩);have HS3:=hZ hc;have HQQ:=hZ hq;clear hc hq))
    all_goals go_wp2
    all_goals exact HQQ.out
end
section
open Sc
theorem qhw(t:ByteArray):∀(es:List MapEntry) (L:List (List UInt8×Value)) (n:Nat),es.map (fun e=>(e.key,e.val))=L.map (fun p=>(Value.string ⟨p.1.toArray⟩,p.2))->
  (Instr.findNow .string (.string t) es n=some none/\∀p,p∈L->p.1≠t.data.toList)\/∃j v,Instr.findNow .string (.string t) es n=some (some (n+j,v))/\∃p,L[j]? =some p/\p.1=t.data.toList
 | [],[],n,_=>.inl ⟨rfl,fun p hp=>by simp at hp⟩
 | [],_::_,n,h=>by simp at h
 |_::_,[],n,h=>by simp at h
 |e::es,(s,b)::L,n,h=>by
  simp only[List.map_cons,List.cons.injEq,Prod.mk.injEq]at h;obtain⟨⟨h1,h2⟩,h3⟩:=h;simp only[Instr.findNow,h1,Instr.sameNow,qb8];by_cases hs:t.data.toList=s
  ·right;exact⟨0,b,by simp[hs,h2],(s,b),rfl,hs.symm⟩
  ·rcases qhw t es L (n+1) h3 with⟨e1,e2⟩|⟨j,v,e1,p,e2,e3⟩
   ·left;refine⟨by simp[hs,e1],fun p hp=>?_⟩;rcases List.mem_cons.1 hp with rfl|hp
    ·exact fun e=>hs e.symm
    ·exact e2 p hp
   ·right;exact⟨j+1,v,by simp[hs,e1];omega,p,by simpa using e2,e3⟩
theorem qcn{α β:Type}(f:α->β):∀(l:List α) (j:Nat),(l.eraseIdx j).map f=(l.map f).eraseIdx j
 | [],_=>by simp
 |a::r,0=>by simp
 |a::r,j+1=>by simp[qcn f r j]
theorem McRows.erase{R:Gh->Macro->Value->Prop}{G:Gh}{s:Bs}:∀{ms:List Macro} {L:List (Bs×Value)} {j:Nat} {p:Bs×Value},McRows R G ms L->L[j]? =some p->p.1=s->McRows R G (ms.filter fun m=>!(m.name==s)) (L.eraseIdx j)
 |_,_,j,p,.nil,h,_=>by simp at h
 |_,_,0,p,.cons mc v ms L hr hn hs,h,e=>by
  simp at h;subst h;subst e;have:(ms.filter fun m=>!(m.name==mc.name))=ms:=List.filter_eq_self.2 fun m hm=>by simpa using hn m hm
  simp[this];exact hs
 |_,_,j+1,p,.cons mc v ms L hr hn hs,h,e=>by
  have h':L[j]? =some p:=by simpa using h
  have hmem:∃m,m∈ms/\m.name=s:=by
   clear hn h;have:∀{ms:List Macro} {L:List (Bs×Value)} {j:Nat} {p:Bs×Value},McRows R G ms L->L[j]? =some p->∃m,m∈ms/\m.name=p.1:=by
    intro ms L j p hs h;induction hs generalizing j with
    |nil=>simp at h
    |cons mc v ms L hr hn hs ih=>
     cases j with
     |zero=>simp at h;subst h;exact⟨mc,by simp,rfl⟩
     |succ j=>obtain⟨m,h1,h2⟩:=ih (by simpa using h);exact⟨m,by simp[h1],h2⟩
   obtain⟨m,h1,h2⟩:=this hs h';exact⟨m,h1,h2.trans e⟩
  obtain⟨m,hm1,hm2⟩:=hmem;have hne:(mc.name==s)=false:=by
   have:=hn m hm1;simp;exact fun e=>this (by rw[hm2,e])
  simp only[List.eraseIdx_cons_succ];rw[List.filter_cons_of_pos (by simp[hne])];exact .cons mc v _ _ hr (fun m hm=>hn m (List.mem_filter.1 hm).1) (McRows.erase hs h' e)
theorem McRows.keepAll{R:Gh->Macro->Value->Prop}{G:Gh}{s:Bs}{ms:List Macro}{L:List (Bs×Value)}(h:McRows R G ms L)(hn:∀p,p∈L->p.1≠s):(ms.filter fun m=>!(m.name==s))=ms:=by
 induction h with
 |nil=>rfl
 |cons mc v ms L hr hd hs ih=>
  have h1:=hn (mc.name,v) (by simp);rw[List.filter_cons_of_pos (by simpa using h1),ih fun p hp=>hn p (by simp[hp])]
theorem qqd(es:Array MapEntry)(j:Nat):(es.eraseIdxIfInBounds j).toList=es.toList.eraseIdx j:=by
 simp[Array.eraseIdxIfInBounds];split
 ·simp
 ·rw[List.eraseIdx_of_length_le (by simp;omega)]
theorem qmu(mm:Nat)(es:Array MapEntry)(clock:Nat)(L:List (Bs×Value))(R:Gh->Macro->Value->Prop)(G:Gh)(ms:List Macro)(t:ByteArray)(hL:es.toList.map (fun e=>(e.key,e.val))=L.map (fun p=>(Value.string ⟨p.1.toArray⟩,p.2)))(hm:McRows R G ms L):
  ∃es' L',(∀w:World,w.heap[mm]? =some (.map es clock)->∀ty,(Builtin.delete_ #[325,9] ty #[.map (some mm),.string t]).run prog w=.ok (.tuple #[]) (setB w mm (.map es' clock)))/\es'.toList.map (fun e=>(e.key,e.val))=L'.map (fun p=>(Value.string ⟨p.1.toArray⟩,p.2))/\McRows R G (ms.filter fun m=>!(m.name==t.data.toList)) L':=by
 rcases qhw t es.toList L 0 hL with⟨e1,e2⟩|⟨j,v,e1,p,e2,e3⟩
 ·refine⟨es,L,fun w hw ty=>?_,hL,by rw[hm.keepAll e2];exact hm⟩;simp[Builtin.delete_,run_underlying underlying325,go_sem,qa5 mm es clock w hw,qjv,Instr.findKey,run_underlying underlying9,e1,qbn mm es clock _ w hw,Result.andThen]
 ·refine⟨es.eraseIdxIfInBounds j,L.eraseIdx j,fun w hw ty=>?_,?_,hm.erase e2 e3⟩
  ·have e1':Instr.findNow .string (.string t) es.toList 0=some (some (j,v)):=by simpa using e1
   simp[Builtin.delete_,run_underlying underlying325,go_sem,qa5 mm es clock w hw,qjv,Instr.findKey,run_underlying underlying9,e1',qbn mm es clock _ w hw,Result.andThen]
  ·rw[qqd,qcn,hL,qcn]
theorem qgm(xb mm:Nat)(xn:Int)(xtr:Bool)(xtx:ByteArray)(xm:Int)(xa:Option Addr)(xlen xcap:Nat)(es es':Array MapEntry)(clock:Nat)(w:World)(c2:w.cell? ⟨xb,2,none⟩=some (.map (some mm)))(hmm:w.heap[mm]? =some (.map es clock))(hkw:(Kw.of xtx.data.toList).isSome=false)
  (hD:∀w:World,w.heap[mm]? =some (.map es clock)->∀ty,(Builtin.delete_ #[325,9] ty #[.map (some mm),.string xtx]).run prog w=.ok (.tuple #[]) (setB w mm (.map es' clock))):
  Calls prog 291 #[bp xb,.agg (Dl.cells ⟨3,xn,xtr,xtx,xm,xa,xlen,xcap⟩)] w fun e w'=>e=.returned (.string xtx)/\∃w1,Below w.heap.size w w1/\Lk (setB w1 mm (.map es' clock)) w':=by
 have l2:=qac c2;have lm:=(Array.getElem?_eq_some_iff.1 hmm).1;have HM:=hZ hmm;have HD:=hZ hD;have HKw:=hZ hkw;clear hmm hD hkw;go_enter func291,ntmps291
 go_wp2_with (first|(go_at_call 296;refine(qbt xn xtr xtx xm xa xlen xcap _).mono ?_;rintro e w2 ⟨rfl,hb⟩;have HB2:=hZ hb;clear hb)|(go_at_call 320;refine(qgi xtx _).mono ?_;rintro e w3 ⟨rfl,hl⟩;rw[HKw.out];have HL3:=hZ hl;clear hl;refine Hid.out ?_))
 have hb3:Below w.heap.size w w3:=by
  have h1:Below w.heap.size w w2:=(qab _ _).trans (HB2.out.mono (by simp));exact(h1.trans ((bl1 HL3.out).mono h1.size))
 have hbx:w3.heap[w2.heap.size]? =some (.cells #[.string xtx,.int .i64 xm] 382 (0,0)):=by rw[HL3.out.heap];exact heap_alloc_new _ _
 have n0:w3.cell? ⟨w2.heap.size,0,none⟩=some (.string xtx):=by simp only[World.cell?,hbx];rfl
 have k2:w3.cell? ⟨xb,2,none⟩=some (.map (some mm)):=(hb3.cell (p:=⟨xb,2,none⟩) l2).trans c2;have hm3:w3.heap[mm]? =some (.map es clock):=(hb3.block _ lm).trans HM.out;have hd3:=HD.out w3.drew hm3;have hne:w2.heap.size≠mm:=by
  have h1:Below w.heap.size w w2:=(qab _ _).trans (HB2.out.mono (by simp));have:=h1.size;omega
 obtain⟨w4,hw4⟩:∃w4,w4=setB w3.drew mm (.map es' clock):=⟨_,rfl⟩;have n4:w4.cell? ⟨w2.heap.size,0,none⟩=some (.string xtx):=by
  have:w4.heap[w2.heap.size]? =w3.heap[w2.heap.size]?:=by rw[hw4];exact qbl hne
  simp only[World.cell?,this,hbx];rfl
 rw[<-hw4]at hd3;have HB3:=hZ hb3;have HW4:=hZ hw4;clear hb3 hbx hm3 hne hw4 HB2 HL3 HD HM;refine hZ ?_;go_wp2_with (first|(go_at_call 290;refine(qam _).mono ?_;rintro e w5 ⟨rfl,hww⟩;obtain rfl:=hww.symm))
 go_region
 go_wp2;go_ret;exact⟨rfl,w3,HB3.out,by rw[HW4.out];exact⟨rfl,rfl,rfl,rfl⟩⟩
theorem qgn(xb:Nat)(xn:Int)(xtr:Bool)(xtx:ByteArray)(xm:Int)(xa:Option Addr)(xlen xcap:Nat)(w:World)(hkw:(Kw.of xtx.data.toList).isSome=true):
  Calls prog 291 #[bp xb,.agg (Dl.cells ⟨3,xn,xtr,xtx,xm,xa,xlen,xcap⟩)] w fun e w'=>e=.panicked (stopP (stopV 4))/\Below w.heap.size w w':=by
 have HKw:=hZ hkw;clear hkw;go_enter func291,ntmps291
 go_wp2_with (first|(go_at_call 296;refine(qbt xn xtr xtx xm xa xlen xcap _).mono ?_;rintro e w2 ⟨rfl,hb⟩;have HB2:=hZ hb;clear hb)|(go_at_call 320;refine(qgi xtx _).mono ?_;rintro e w3 ⟨rfl,hl⟩;rw[HKw.out];have HL3:=hZ hl;clear hl)|(go_at_call 290;refine(qax _).mono ?_;rintro e w5 ⟨rfl,o,rfl⟩))
 have h1:Below w.heap.size w w2:=(qab _ _).trans (HB2.out.mono (by simp));have h3:Below w.heap.size w w3:=h1.trans ((bl1 HL3.out).mono h1.size);exact⟨rfl,rfl,h3.trans ((qab _ _).mono h3.size)⟩
theorem qcx(xb:Nat)(xk xn:Int)(xtr:Bool)(xtx:ByteArray)(xm:Int)(xa:Option Addr)(xlen xcap:Nat)(w:World)(hk:xk≠3):
  Calls prog 291 #[bp xb,.agg (Dl.cells ⟨xk,xn,xtr,xtx,xm,xa,xlen,xcap⟩)] w fun e w'=>e=.panicked (stopP (stopV 4))/\Below w.heap.size w w':=by
 go_enter func291,ntmps291
 go_wp2_with (first|(go_at_call 296;refine(qgk xk xn xtr xtx xm xa xlen xcap _ hk).mono ?_;rintro e w2 ⟨rfl,hb⟩))
 exact⟨rfl,rfl,(qab _ _).trans (hb.mono (by simp))⟩
end
section
open Sc
theorem qde(xb n xcap:Nat)(xa:Option Addr)(w:World)(Q:Ending->World->Prop)(hn:n<3)
  (hQ:∀w',Below w.heap.size w w'->Q (.panicked (stopP (stopV 4))) w'):
  Calls prog 233 #[bp xb,.slice xa n xcap] w Q:=by
 have HQ:=hZ hQ;have hc:n=0\/n=1\/n=2:=by omega
 clear hQ hn;rcases hc with rfl|rfl|rfl;all_goals
  go_enter func233,ntmps233
  go_wp2_with (first|(go_at_call 290;refine(qax _).mono ?_;rintro e w2 ⟨rfl,o,rfl⟩))
  exact⟨rfl,HQ.out _ (qab _ _)⟩
theorem qfc(xb g o n xcap:Nat)(yk yn:Int)(ytr:Bool)(ytx:ByteArray)(ym:Int)(ya:Option Addr)(ylen ycap:Nat)(w:World)(Q:Ending->World->Prop)(a0:w.cell? ⟨g,o+6,none⟩=some (.int .i64 yk))(a1:w.cell? ⟨g,o+6+1,none⟩=some (.int .i64 yn))(a2:w.cell? ⟨g,o+6+2,none⟩=some (.bool ytr))(a3:w.cell? ⟨g,o+6+3,none⟩=some (.string ytx))(a4:w.cell? ⟨g,o+6+4,none⟩=some (.int .i64 ym))(a5:w.cell? ⟨g,o+6+5,none⟩=some (.slice ya ylen ycap))(hk:yk≠4)(hn:n+4<=1000000)
  (hQ:∀w',Below w.heap.size w w'->Q (.panicked (stopP (stopV 4))) w'):
  Calls prog 233 #[bp xb,.slice (some ⟨g,o,none⟩) (n+4) xcap] w Q:=by
 have HQ:=hZ hQ;have hk1:(yk==4)=false:=by simpa using hk
 have hk2:(yk !=4)=true:=by simpa using hk
 have h3:(3:Int)<=(n:Int)+4:=by omega
 have h1:(1:Int)<(n:Int)+4:=by omega
 have h4:((n:Int)+4==3)=false:=by simp;omega
 clear hQ;go_enter func233,ntmps233
 go_wp2_with (first|(go_at_call 290;refine(qam _).mono ?_;rintro e w2 ⟨rfl,hww⟩;obtain rfl:=hww.symm)|(go_at_call 290;refine(qax _).mono ?_;rintro e w2 ⟨rfl,o,rfl⟩))
 exact⟨rfl,HQ.out _ ((qab _ _).alloc (by simp) _)⟩
theorem qgp(xb g o n xcap:Nat)(yn:Int)(ytr:Bool)(ytx:ByteArray)(ym:Int)(ya:Option Addr)(ycap:Nat)(w:World)(Q:Ending->World->Prop)(a0:w.cell? ⟨g,o+6,none⟩=some (.int .i64 4))(a1:w.cell? ⟨g,o+6+1,none⟩=some (.int .i64 yn))(a2:w.cell? ⟨g,o+6+2,none⟩=some (.bool ytr))(a3:w.cell? ⟨g,o+6+3,none⟩=some (.string ytx))(a4:w.cell? ⟨g,o+6+4,none⟩=some (.int .i64 ym))(a5:w.cell? ⟨g,o+6+5,none⟩=some (.slice ya 0 ycap))(hn:n+3<=1000000)
  (hQ:∀w',Below w.heap.size w w'->Q (.panicked (stopP (stopV 4))) w'):
  Calls prog 233 #[bp xb,.slice (some ⟨g,o,none⟩) (n+3) xcap] w Q:=by
 have HQ:=hZ hQ;have h3:(3:Int)<=(n:Int)+3:=by omega
 have h1:(1:Int)<(n:Int)+3:=by omega
 clear hQ;go_enter func233,ntmps233
 go_wp2_with (first|(go_at_call 290;refine(qam _).mono ?_;rintro e w2 ⟨rfl,hww⟩;obtain rfl:=hww.symm)|(go_at_call 290;refine(qax _).mono ?_;rintro e w2 ⟨rfl,o,rfl⟩))
 exact⟨rfl,HQ.out _ ((qab _ _).alloc (by simp) _)⟩
theorem qgo(xb mb g o xcap:Nat)(yk yn:Int)(ytr:Bool)(ytx:ByteArray)(ym:Int)(ya:Option Addr)(ylen ycap:Nat)(zk zn:Int)(ztr:Bool)(ztx:ByteArray)(zm:Int)(za:Option Addr)(zlen zcap:Nat)(w:World)(Q:Ending->World->Prop)(a0:w.cell? ⟨g,o+6,none⟩=some (.int .i64 yk))(a1:w.cell? ⟨g,o+6+1,none⟩=some (.int .i64 yn))(a2:w.cell? ⟨g,o+6+2,none⟩=some (.bool ytr))(a3:w.cell? ⟨g,o+6+3,none⟩=some (.string ytx))(a4:w.cell? ⟨g,o+6+4,none⟩=some (.int .i64 ym))(a5:w.cell? ⟨g,o+6+5,none⟩=some (.slice ya ylen ycap))(hk:yk≠4)
  (hD:∀w',Lk (w.alloc (.cells (Dl.cells ⟨yk,yn,ytr,ytx,ym,ya,ylen,ycap⟩) 134)) w'->Calls prog 291 #[bp xb,.agg (Dl.cells ⟨yk,yn,ytr,ytx,ym,ya,ylen,ycap⟩)] w' (RetP (fun v w2=>∃nm,v=.string nm/\(w2.cell? ⟨xb,0,none⟩=some (bp mb)/\w2.cell? ⟨g,o+12,none⟩=some (.int .i64 zk)/\w2.cell? ⟨g,o+12+1,none⟩=some (.int .i64 zn)/\w2.cell? ⟨g,o+12+2,none⟩=some (.bool ztr)/\w2.cell? ⟨g,o+12+3,none⟩=some (.string ztx)/\w2.cell? ⟨g,o+12+4,none⟩=some (.int .i64 zm)/\w2.cell? ⟨g,o+12+5,none⟩=some (.slice za zlen zcap))/\
   ∀w3,Lk w2 w3->Calls prog 236 #[bp xb,.agg (Dl.cells ⟨zk,zn,ztr,ztx,zm,za,zlen,zcap⟩)] w3 (RetP (fun u w4=>∃kc cc,u=.func (.func kc) #[] cc/\(w4.cell? ⟨xb,0,none⟩=some (bp mb)/\w4.cell? ⟨g,o+12,none⟩=some (.int .i64 zk)/\w4.cell? ⟨g,o+12+1,none⟩=some (.int .i64 zn)/\w4.cell? ⟨g,o+12+2,none⟩=some (.bool ztr)/\w4.cell? ⟨g,o+12+3,none⟩=some (.string ztx)/\w4.cell? ⟨g,o+12+4,none⟩=some (.int .i64 zm)/\w4.cell? ⟨g,o+12+5,none⟩=some (.slice za zlen zcap))/\
    ∀w5,Lk w4 w5->Calls prog 292 #[bp mb,.string nm,.func (.func kc) #[] cc] w5 (RetP (fun u w6=>(w6.cell? ⟨xb,0,none⟩=some (bp mb)/\w6.cell? ⟨g,o+12,none⟩=some (.int .i64 zk)/\w6.cell? ⟨g,o+12+1,none⟩=some (.int .i64 zn)/\w6.cell? ⟨g,o+12+2,none⟩=some (.bool ztr)/\w6.cell? ⟨g,o+12+3,none⟩=some (.string ztx)/\w6.cell? ⟨g,o+12+4,none⟩=some (.int .i64 zm)/\w6.cell? ⟨g,o+12+5,none⟩=some (.slice za zlen zcap))/\Q (.returned u) w6) Q)) Q)) Q)):
  Calls prog 233 #[bp xb,.slice (some ⟨g,o,none⟩) 3 xcap] w Q:=by
 have HD:=hZ hD;have hk1:(yk==4)=false:=by simpa using hk
 have hk2:(yk !=4)=true:=by simpa using hk
 clear hD;go_enter func233,ntmps233
 go_wp2_with (first|(go_at_call 290;refine(qam _).mono ?_;rintro e w2 ⟨rfl,hww⟩;obtain rfl:=hww.symm)|(go_at_call 291;refine(HD.out _ (by exact⟨rfl,rfl,rfl,rfl⟩)).mono ?_;rintro e w2 (⟨ps,rfl,hq⟩|⟨v,rfl,nm,rfl,hS,hE⟩);(exact⟨rfl,hq⟩);refine Hid.out ?_))
 have HE:=hZ hE;have HS0:=hZ hS;obtain⟨d0,z0,z1,z2,z3,z4,z5⟩:=hS;clear hE HD a0 a1 a2 a3 a4 a5;refine hZ ?_;go_wp2_with (fail)
 go_region_held2 (fun w'=>w'.cell? ⟨xb,0,none⟩=some (bp mb)/\w'.cell? ⟨g,o+12,none⟩=some (.int .i64 zk)/\w'.cell? ⟨g,o+12+1,none⟩=some (.int .i64 zn)/\w'.cell? ⟨g,o+12+2,none⟩=some (.bool ztr)/\w'.cell? ⟨g,o+12+3,none⟩=some (.string ztx)/\w'.cell? ⟨g,o+12+4,none⟩=some (.int .i64 zm)/\w'.cell? ⟨g,o+12+5,none⟩=some (.slice za zlen zcap)) (first|(exact HS0.out)|(exact HS1.out)|(exact HS2.out)|go_keep)
  (first
   |(go_at_call 236;refine(HE.out _ (by exact⟨rfl,rfl,rfl,rfl⟩)).mono ?_;rintro e w3 (⟨ps,rfl,hq⟩|⟨v,rfl,kc,cc,rfl,hc,hk⟩);(exact⟨rfl,hq⟩);have HS1:=hZ hc;have HK:=hZ hk;clear hc hk)
   |(go_at_call 292;refine(HK.out _ (by exact⟨rfl,rfl,rfl,rfl⟩)).mono ?_;rintro e w4 (⟨ps,rfl,hq⟩|⟨v,rfl,hc,hq⟩);(exact⟨rfl,hq⟩);have HS2:=hZ hc;have HQ:=hZ hq;clear hc hq))
 all_goals go_wp2
 all_goals exact HQ.out
theorem qfd(xb mb g o n xcap gt ot tn:Nat)(yn:Int)(ytr:Bool)(ytx:ByteArray)(ym:Int)(ycap:Nat)(zk zn:Int)(ztr:Bool)(ztx:ByteArray)(zm:Int)(za:Option Addr)(zlen zcap:Nat)(w:World)(Q:Ending->World->Prop)(hn:n+3<=1000000)(hcp:n+3<=xcap)(htc:tn+1<=ycap)(htn:tn+1<=1000000)(a0:w.cell? ⟨g,o+6,none⟩=some (.int .i64 4))(a1:w.cell? ⟨g,o+6+1,none⟩=some (.int .i64 yn))(a2:w.cell? ⟨g,o+6+2,none⟩=some (.bool ytr))(a3:w.cell? ⟨g,o+6+3,none⟩=some (.string ytx))(a4:w.cell? ⟨g,o+6+4,none⟩=some (.int .i64 ym))(a5:w.cell? ⟨g,o+6+5,none⟩=some (.slice (some ⟨gt,ot,none⟩) (tn+1) ycap))(b0:w.cell? ⟨gt,ot,none⟩=some (.int .i64 zk))(b1:w.cell? ⟨gt,ot+1,none⟩=some (.int .i64 zn))(b2:w.cell? ⟨gt,ot+2,none⟩=some (.bool ztr))(b3:w.cell? ⟨gt,ot+3,none⟩=some (.string ztx))(b4:w.cell? ⟨gt,ot+4,none⟩=some (.int .i64 zm))(b5:w.cell? ⟨gt,ot+5,none⟩=some (.slice za zlen zcap))
  (hD:∀w',Lk (w.alloc (.cells (Dl.cells ⟨4,yn,ytr,ytx,ym,some ⟨gt,ot,none⟩,tn+1,ycap⟩) 134)) w'->Calls prog 291 #[bp xb,.agg (Dl.cells ⟨zk,zn,ztr,ztx,zm,za,zlen,zcap⟩)] w' (RetP (fun v w2=>∃nm,v=.string nm/\w2.cell? ⟨xb,0,none⟩=some (bp mb)/\w2.heap[w.heap.size]? =some (.cells (Dl.cells ⟨4,yn,ytr,ytx,ym,some ⟨gt,ot,none⟩,tn+1,ycap⟩) 134 (0,0))/\
   ∀w3,Below w2.heap.size w2 w3->Calls prog 293 #[bp xb,.agg (Dl.cells ⟨4,0,false,⟨#[]⟩,0,tlD gt ot ycap 1,tn,ycap-1⟩),.slice (tlD g o xcap 2) (n+1) (xcap-2)] w3 (RetP (fun u w4=>∃kc cc,u=.func (.func kc) #[] cc/\w4.cell? ⟨xb,0,none⟩=some (bp mb)/\(∀b,w2.heap.size<=b->b<w3.heap.size->w4.heap[b]? =w3.heap[b]?)/\
    ∀w5,Lk w4 w5->Calls prog 292 #[bp mb,.string nm,.func (.func kc) #[] cc] w5 (RetP (fun u w6=>w6.cell? ⟨xb,0,none⟩=some (bp mb)/\(∀b,w2.heap.size<=b->b<w3.heap.size->w6.heap[b]? =w3.heap[b]?)/\Q (.returned u) w6) Q)) Q)) Q)):
  Calls prog 233 #[bp xb,.slice (some ⟨g,o,none⟩) (n+3) xcap] w Q:=by
 have hsl:∀w,(Instr.slice 132 (.slice (some ⟨g,o,none⟩) (n+3) xcap) (some (.int .i64 2)) none none).run prog w=.ok (.slice (tlD g o xcap 2) (n+1) (xcap-2)) w:=fun w=>qdg g o (n+1) xcap hcp w
 have hsl1:∀w,(Instr.slice 132 (.slice (some ⟨gt,ot,none⟩) (tn+1) ycap) (some (.int .i64 1)) none none).run prog w=.ok (.slice (tlD gt ot ycap 1) tn (ycap-1)) w:=fun w=>qdh gt ot tn ycap htc w
 have HD:=hZ hD;have h3:(3:Int)<=(n:Int)+3:=by omega
 have h1:(1:Int)<(n:Int)+3:=by omega
 have h0:(0:Int)<(tn:Int)+1:=by omega
 have lgt:=qac b0;have HBox:Hid (∀(w':World) q,w'.heap[q]? =some (.cells (Dl.cells ⟨4,0,false,⟨#[]⟩,0,tlD gt ot ycap 1,tn,ycap-1⟩) 134 (0,0))->w'.cell? ⟨q,0,none⟩=some (.int .i64 4)/\w'.cell? ⟨q,1,none⟩=some (.int .i64 0)/\w'.cell? ⟨q,2,none⟩=some (.bool false)/\w'.cell? ⟨q,3,none⟩=some (.string ⟨#[]⟩)/\w'.cell? ⟨q,4,none⟩=some (.int .i64 0)/\w'.cell? ⟨q,5,none⟩=some (.slice (tlD gt ot ycap 1) tn (ycap-1))):=fun w' q h=>by
  refine⟨?_,?_,?_,?_,?_,?_⟩ <;> (simp only[World.cell?,h];rfl)
 clear hD;go_enter func233,ntmps233
 go_wp2_with (first|(go_at_call 290;refine(qam _).mono ?_;rintro e w2 ⟨rfl,hww⟩;obtain rfl:=hww.symm)|(go_at_call 291;refine(HD.out _ (by exact⟨rfl,rfl,rfl,rfl⟩)).mono ?_;rintro e w2 (⟨ps,rfl,hq⟩|⟨v,rfl,nm,rfl,d0,hbx,hE⟩);(exact⟨rfl,hq⟩);refine Hid.out ?_))
 have x5:w2.cell? ⟨w.heap.size,5,none⟩=some (.slice (some ⟨gt,ot,none⟩) (tn+1) ycap):=by simp only[World.cell?,hbx];rfl
 have HE:=hZ hE;have l0:=qac d0;clear hE HD hbx a0 a1 a2 a3 a4 a5 b0 b1 b2 b3 b4 b5;refine hZ ?_;go_wp2_with (first|(go_at_call 238;refine(qhi _ _ _ _).mono ?_;rintro e w3 ⟨rfl,o3,hl⟩;refine Hid.out ?_))
 have hb3:Below w2.heap.size w2 w3:=bl1 hl;have hbw:Below w2.heap.size w2 (w3.alloc (.cells (Dl.cells ⟨4,0,false,⟨#[]⟩,0,tlD gt ot ycap 1,tn,ycap-1⟩) 134)):=hb3.trans ((qab _ _).mono hb3.size);have hnew:=heap_alloc_new w3 (.cells (Dl.cells ⟨4,0,false,⟨#[]⟩,0,tlD gt ot ycap 1,tn,ycap-1⟩) 134);have e0:(w3.alloc (.cells (Dl.cells ⟨4,0,false,⟨#[]⟩,0,tlD gt ot ycap 1,tn,ycap-1⟩) 134)).cell? ⟨xb,0,none⟩=some (bp mb):=qaj ((hb3.cell (p:=⟨xb,0,none⟩) l0).trans d0);have hq3:w2.heap.size<=w3.heap.size:=hb3.size;have hqs:w3.heap.size<(w3.alloc (.cells (Dl.cells ⟨4,0,false,⟨#[]⟩,0,tlD gt ot ycap 1,tn,ycap-1⟩) 134)).heap.size:=by simp
 generalize hW:w3.alloc (.cells (Dl.cells ⟨4,0,false,⟨#[]⟩,0,tlD gt ot ycap 1,tn,ycap-1⟩) 134)=W at hbw hnew e0 hqs;generalize hqq:w3.heap.size=q at hnew hq3 hqs;have HBW:=hZ hbw;have HNew:=hZ hnew;obtain⟨f0,f1,f2,f3,f4,f5⟩:=HBox.out W q hnew;have HQ3:=hZ (And.intro hq3 hqs);clear hl hb3 hbw hnew x5 d0;refine hZ ?_;go_wp2_with (fail)
 first|rw[hW,hqq]|rw[hqq,hW]|rw[hW]|skip
 clear hW hqq hq3 hqs;go_region_held2 (fun w'=>w'.cell? ⟨xb,0,none⟩=some (bp mb)/\w'.cell? ⟨q,0,none⟩=some (.int .i64 4)/\w'.cell? ⟨q,1,none⟩=some (.int .i64 0)/\w'.cell? ⟨q,2,none⟩=some (.bool false)/\w'.cell? ⟨q,3,none⟩=some (.string ⟨#[]⟩)/\w'.cell? ⟨q,4,none⟩=some (.int .i64 0)/\w'.cell? ⟨q,5,none⟩=some (.slice (tlD gt ot ycap 1) tn (ycap-1))) (first|(exact⟨e0,f0,f1,f2,f3,f4,f5⟩)|(exact HS1.out)|(exact HS2.out)|go_keep)
  (first
   |(go_at_call 293;refine(HE.out _ (HBW.out.trans ((bl0 (by exact⟨rfl,rfl,rfl,rfl⟩)).mono HBW.out.size))).mono ?_;rintro e w4 (⟨ps,rfl,hq⟩|⟨v,rfl,kc,cc,rfl,hc,hkp,hk⟩);(exact⟨rfl,hq⟩);have HS1:=hZ (And.intro hc (HBox.out w4 q ((hkp q HQ3.out.1 HQ3.out.2).trans HNew.out)));have HK:=hZ hk;clear hc hkp hk)
   |(go_at_call 292;refine(HK.out _ (by exact⟨rfl,rfl,rfl,rfl⟩)).mono ?_;rintro e w6 (⟨ps,rfl,hq⟩|⟨v,rfl,hc,hkp,hq⟩);(exact⟨rfl,hq⟩);have HS2:=hZ (And.intro hc (HBox.out w6 q ((hkp q HQ3.out.1 HQ3.out.2).trans HNew.out)));have HQ:=hZ hq;clear hc hkp hq))
 all_goals go_wp2
 all_goals exact HQ.out
theorem qo9(xb:Nat)(yk yn:Int)(ytr:Bool)(ytx:ByteArray)(ym:Int)(ya:Option Addr)(ylen ycap:Nat)(w:World)(Q:Ending->World->Prop)
  (hR:∀w',Lk (w.alloc (.cells (Dl.cells ⟨yk,yn,ytr,ytx,ym,ya,ylen,ycap⟩) 134)) w'->Calls prog 231 #[bp xb,.agg (Dl.cells ⟨yk,yn,ytr,ytx,ym,ya,ylen,ycap⟩)] w' (RetP (fun v w2=>∃e2:Dl,v=.agg e2.cells/\w2.heap[w.heap.size]? =some (.cells (Dl.cells ⟨yk,yn,ytr,ytx,ym,ya,ylen,ycap⟩) 134 (0,0))/\
   ∀W,Lk (set6 w2 w.heap.size (.int .i64 e2.k) (.int .i64 e2.n) (.bool e2.tr) (.string e2.tx) (.int .i64 e2.m) (.slice e2.a e2.len e2.cap)) W->Calls prog 232 #[bp xb,.agg e2.cells] W fun e w3=>∃s:ByteArray,e=.returned (.string s)/\Below W.heap.size W w3/\
    ((s=⟨#[100,101,102,105,110,101]⟩/\∀w4,Lk w3 w4->Calls prog 233 #[bp xb,.slice e2.a e2.len e2.cap] w4 (RQ Q))\/
     (s=⟨#[100,101,102,105,110,101,45,115,121,110,116,97,120]⟩/\∀w4,Lk w3 w4->Calls prog 234 #[bp xb,.slice e2.a e2.len e2.cap] w4 (RetP (fun v w5=>v=.tuple #[]/\Q (.returned (.func (.func 235) #[] #[])) w5) Q))\/
     ((s.toList== [100,101,102,105,110,101])=false/\(s.toList== [100,101,102,105,110,101,45,115,121,110,116,97,120])=false/\∀w4,Lk w3 w4->Calls prog 236 #[bp xb,.agg e2.cells] w4 (RQ Q)))) Q)):
  Calls prog 144 #[bp xb,.agg (Dl.cells ⟨yk,yn,ytr,ytx,ym,ya,ylen,ycap⟩)] w Q:=by
 have HR:=hZ hR;clear hR;go_enter func144,ntmps144
 go_wp2_with (go_at_call 231;refine(HR.out _ (by exact⟨rfl,rfl,rfl,rfl⟩)).mono ?_;rintro e w2 (⟨ps,rfl,hq⟩|⟨v,rfl,⟨zk,zn,ztr,ztx,zm,za,zlen,zcap⟩,rfl,hbx,hK⟩);(exact⟨rfl,hq⟩);refine Hid.out ?_)
 have t0:w2.cell? ⟨w.heap.size,0,none⟩=some (.int .i64 yk):=by simp only[World.cell?,hbx];rfl
 have t1:w2.cell? ⟨w.heap.size,1,none⟩=some (.int .i64 yn):=by simp only[World.cell?,hbx];rfl
 have t2:w2.cell? ⟨w.heap.size,2,none⟩=some (.bool ytr):=by simp only[World.cell?,hbx];rfl
 have t3:w2.cell? ⟨w.heap.size,3,none⟩=some (.string ytx):=by simp only[World.cell?,hbx];rfl
 have t4:w2.cell? ⟨w.heap.size,4,none⟩=some (.int .i64 ym):=by simp only[World.cell?,hbx];rfl
 have t5:w2.cell? ⟨w.heap.size,5,none⟩=some (.slice ya ylen ycap):=by simp only[World.cell?,hbx];rfl
 have tf:∀o,w2.frozen? ⟨w.heap.size,o,none⟩=false:=fun o=>by simp[World.frozen?,hbx]
 have hs6:=qed (v0:=.int .i64 zk) (v1:=.int .i64 zn) (v2:=.bool ztr) (v3:=.string ztx) (v4:=.int .i64 zm) (v5:=.slice za zlen zcap) hbx;have s0:(set6 w2 w.heap.size (.int .i64 zk) (.int .i64 zn) (.bool ztr) (.string ztx) (.int .i64 zm) (.slice za zlen zcap)).cell? ⟨w.heap.size,0,none⟩=some (.int .i64 zk):=by simp only[World.cell?,hs6];rfl
 have s1:(set6 w2 w.heap.size (.int .i64 zk) (.int .i64 zn) (.bool ztr) (.string ztx) (.int .i64 zm) (.slice za zlen zcap)).cell? ⟨w.heap.size,1,none⟩=some (.int .i64 zn):=by simp only[World.cell?,hs6];rfl
 have s2:(set6 w2 w.heap.size (.int .i64 zk) (.int .i64 zn) (.bool ztr) (.string ztx) (.int .i64 zm) (.slice za zlen zcap)).cell? ⟨w.heap.size,2,none⟩=some (.bool ztr):=by simp only[World.cell?,hs6];rfl
 have s3:(set6 w2 w.heap.size (.int .i64 zk) (.int .i64 zn) (.bool ztr) (.string ztx) (.int .i64 zm) (.slice za zlen zcap)).cell? ⟨w.heap.size,3,none⟩=some (.string ztx):=by simp only[World.cell?,hs6];rfl
 have s4:(set6 w2 w.heap.size (.int .i64 zk) (.int .i64 zn) (.bool ztr) (.string ztx) (.int .i64 zm) (.slice za zlen zcap)).cell? ⟨w.heap.size,4,none⟩=some (.int .i64 zm):=by simp only[World.cell?,hs6];rfl
 have s5:(set6 w2 w.heap.size (.int .i64 zk) (.int .i64 zn) (.bool ztr) (.string ztx) (.int .i64 zm) (.slice za zlen zcap)).cell? ⟨w.heap.size,5,none⟩=some (.slice za zlen zcap):=by simp only[World.cell?,hs6];rfl
 have lw:=qac s0;have HKW:Hid (Calls prog 232 #[bp xb,.agg #[.int .i64 zk,.int .i64 zn,.bool ztr,.string ztx,.int .i64 zm,.slice za zlen zcap]] (set6 w2 w.heap.size (.int .i64 zk) (.int .i64 zn) (.bool ztr) (.string ztx) (.int .i64 zm) (.slice za zlen zcap)) fun e w3=>∃s:ByteArray,e=.returned (.string s)/\Below (set6 w2 w.heap.size (.int .i64 zk) (.int .i64 zn) (.bool ztr) (.string ztx) (.int .i64 zm) (.slice za zlen zcap)).heap.size (set6 w2 w.heap.size (.int .i64 zk) (.int .i64 zn) (.bool ztr) (.string ztx) (.int .i64 zm) (.slice za zlen zcap)) w3/\
    ((s=⟨#[100,101,102,105,110,101]⟩/\∀w4,Lk w3 w4->Calls prog 233 #[bp xb,.slice za zlen zcap] w4 (RQ Q))\/
     (s=⟨#[100,101,102,105,110,101,45,115,121,110,116,97,120]⟩/\∀w4,Lk w3 w4->Calls prog 234 #[bp xb,.slice za zlen zcap] w4 (RetP (fun v w5=>v=.tuple #[]/\Q (.returned (.func (.func 235) #[] #[])) w5) Q))\/
     ((s.toList== [100,101,102,105,110,101])=false/\(s.toList== [100,101,102,105,110,101,45,115,121,110,116,97,120])=false/\∀w4,Lk w3 w4->Calls prog 236 #[bp xb,.agg #[.int .i64 zk,.int .i64 zn,.bool ztr,.string ztx,.int .i64 zm,.slice za zlen zcap]] w4 (RQ Q)))):=hK _ ⟨rfl,rfl,rfl,rfl⟩
 clear hK hbx hs6 HR;unfold set6 at s0 s1 s2 s3 s4 s5 lw HKW;refine hZ ?_;go_wp2_with (fail)
 generalize (((((w2.setCell ⟨w.heap.size,0,none⟩ (.int .i64 zk)).setCell ⟨w.heap.size,1,none⟩ (.int .i64 zn)).setCell ⟨w.heap.size,2,none⟩ (.bool ztr)).setCell ⟨w.heap.size,3,none⟩ (.string ztx)).setCell ⟨w.heap.size,4,none⟩ (.int .i64 zm)).setCell ⟨w.heap.size,5,none⟩ (.slice za zlen zcap)=W at s0 s1 s2 s3 s4 s5 lw HKW|-;go_wp2_with (first|(go_at_call 232;refine HKW.out.mono ?_;clear t0 t1 t2 t3 t4 t5 tf;rintro e w3 ⟨s,rfl,hb,hcase⟩;have z0:=(hb.cell (p:=⟨w.heap.size,0,none⟩) lw).trans s0;have z1:=(hb.cell (p:=⟨w.heap.size,1,none⟩) lw).trans s1;have z2:=(hb.cell (p:=⟨w.heap.size,2,none⟩) lw).trans s2;have z3:=(hb.cell (p:=⟨w.heap.size,3,none⟩) lw).trans s3;have z4:=(hb.cell (p:=⟨w.heap.size,4,none⟩) lw).trans s4;have z5:=(hb.cell (p:=⟨w.heap.size,5,none⟩) lw).trans s5;clear hb;have HCase:=hZ hcase;clear hcase HKW s0 s1 s2 s3 s4 s5;refine Hid.out ?_))
 rcases HCase.out with⟨rfl,hk⟩|⟨rfl,hk⟩|⟨hn1,hn2,hk⟩ <;> (have HK:=hZ hk;clear hk HCase)
 ·refine hZ ?_;go_wp2_with (first|(go_at_call 233;refine(HK.out _ (by exact⟨rfl,rfl,rfl,rfl⟩)).mono ?_;rintro e w4 (⟨ps,rfl,hq⟩|⟨v,rfl,hq⟩);(exact⟨rfl,hq⟩);have HQ:=hZ hq;clear hq))
  exact HQ.out
 ·refine hZ ?_;go_wp2_with (first|(go_at_call 234;refine(HK.out _ (by exact⟨rfl,rfl,rfl,rfl⟩)).mono ?_;rintro e w4 (⟨ps,rfl,hq⟩|⟨v,rfl,rfl,hq⟩);(exact⟨rfl,hq⟩);have HQ:=hZ hq;clear hq))
  exact HQ.out
 ·refine hZ ?_;go_wp2_with (first|(go_at_call 236;refine(HK.out _ (by exact⟨rfl,rfl,rfl,rfl⟩)).mono ?_;rintro e w4 (⟨ps,rfl,hq⟩|⟨v,rfl,hq⟩);(exact⟨rfl,hq⟩);have HQ:=hZ hq;clear hq))
  exact HQ.out
end
section
open Sc
structure LooseX (X:Xe) (G:Gh) (b:Nat):Prop where
 I:G.I b=none
 mu:b∉G.mut
 F:¬G.F b
 O:b∉[X.rb,X.mm,X.ab,X.bm]
 R:¬X.Rw b
theorem LooseX.new{K:Rl}{X:Xe}{G:Gh}{S:Sub}{m:Mc}{x:Xs}{sc:Scope}{w:World}{b:Nat}(g:Inv G S m w)(i:XInv K X G S x sc w)(hb:w.heap.size<=b):LooseX X G b:=
 ⟨g.fresh hb,fun h=>by have:=g.ml h;omega,fun h=>by have:=(g.ff h).2;omega,fun h=>by have:=(i.lo _ h).2.2.1;have:=i.sl;omega,fun h=>by have:=(i.rr _ h).2.2.2.1;omega⟩
theorem LooseX.mx{X Y:Xe}{G H:Gh}{w w':World}{b:Nat}(m:Mx X G w Y H w')(hb:b<w.heap.size)(l:LooseX X G b):LooseX Y H b/\w'.heap[b]? =w.heap[b]?:=by
 obtain⟨s1,s2,s3,s4,s5,s6⟩:=m.same;refine⟨⟨by rw[m.I hb];exact l.I,fun h=>(m.mu h).elim l.mu (fun h=>by omega),by rw[m.up.F];exact l.F,by rw[s2,s3,s4,s5];exact l.O,fun h=>(m.rw h).elim l.R (fun h=>by omega)⟩,m.blk hb l.mu l.O l.R⟩
theorem XInv.fix{K:Rl}{X:Xe}{G:Gh}{S:Sub}{x:Xs}{sc:Scope}{w:World}{b:Nat}{o:Obj}(i:XInv K X G S x sc w)(l:LooseX X G b):XInv K X (G.add b o) S x sc w:=by
 have hle:=Gh.le_add (o:=o) l.I;obtain⟨es,clock,M,hm1,hm2,hm3⟩:=i.mc;have hI:∀c,c≠b->(G.add b o).I c=G.I c:=fun c hc=>if_neg hc
 refine⟨hle.I i.xe,i.mt,i.ml,i.ab,i.bd,fun c hc=>?_,⟨es,clock,M,hm1,hm2,hm3.mono hle⟩,fun c hc=>?_,i.nd,i.sl,i.sz⟩
 ·obtain⟨h1,h2,h3,h4,h5⟩:=i.rr c hc;exact⟨by rw[hI c (fun e=>l.R (e▸hc))];exact h1,h2,h3,h4,h5⟩
 ·obtain⟨h1,h2,h3,h4⟩:=i.lo c hc;exact⟨by rw[hI c (fun e=>l.O (e▸hc))];exact h1,h2,h3,h4⟩
theorem Mx.fix{X Y:Xe}{G H:Gh}{w w':World}{b:Nat}{o:Obj}(m:Mx X G w Y H w')(hb:w.heap.size<=b)(hI:H.I b=none):Mx X G w Y (H.add b o) w':=
 ⟨m.same,m.up.trans ⟨Gh.le_add hI,rfl,rfl⟩,fun {c} hc=>(if_neg (by omega)).trans (m.I hc),m.mu,m.rw,m.blk,m.size⟩
theorem Mx.set{X Y:Xe}{G H:Gh}{w w':World}{b k:Nat}{v:Value}(m:Mx X G w Y H w')(hb:w.heap.size<=b):Mx X G w Y H (w'.setCell ⟨b,k,none⟩ v):=
 ⟨m.same,m.up,m.I,m.mu,m.rw,fun {c} h1 h2 h3 h4=>by rw[qaa (a:=⟨b,k,none⟩) c (by show c≠b;omega)];exact m.blk h1 h2 h3 h4,by rw[qaf];exact m.size⟩
theorem Mx.below{X Y:Xe}{G H:Gh}{w w' w2:World}(m:Mx X G w Y H w')(h:Below w'.heap.size w' w2):Mx X G w Y H w2:=m.trans (Mx.of (Mv.ext (Gh.ext.refl _ _) h))
theorem Mx.mv{X Y:Xe}{G H L:Gh}{w w' w2:World}(m:Mx X G w Y H w')(h:Mv H w' L w2):Mx X G w Y L w2:=m.trans (Mx.of h)
theorem Mx.ofBelow{X:Xe}{G:Gh}{w w':World}(h:Below w.heap.size w w'):Mx X G w X G w':=Mx.of (Mv.ext (Gh.ext.refl _ _) h)
def XPost(K:Rl)(X:Xe)(G:Gh)(S:Sub)(m:Mc)(sc:Scope)(w:World)(rv:Except Nat Ex×Xs)(e':Ending)(w':World):Prop:=
 (∃vd x',rv=(.error vd,x')/\e'=.panicked (stopP (stopV vd))/\Cnt G S m w'/\Mt X.rb (Xs.count x') S.rewrites 12 w')\/
 (∃Y H ex x' v,rv=(.ok ex,x')/\e'=.returned v/\Mx X G w Y H w'/\Inv H S m w'/\XInv K Y H S x' sc w'/\CRep H (shOf sc) ex v)
def XsPost(K:Rl)(X:Xe)(G:Gh)(S:Sub)(m:Mc)(sc:Scope)(w:World)(n:Nat)(rv:Except Nat (List Ex)×Xs)(e':Ending)(w':World):Prop:=
 (∃vd x',rv=(.error vd,x')/\e'=.panicked (stopP (stopV vd))/\Cnt G S m w'/\Mt X.rb (Xs.count x') S.rewrites 12 w')\/
 (∃Y H exs x' g xs,rv=(.ok exs,x')/\e'=.returned (.slice (some ⟨g,0,none⟩) n n)/\xs.length=n/\w'.heap[g]? =some (.cells xs.toArray 241 (0,0))/\w.heap.size<=g/\LooseX Y H g/\Mx X G w Y H w'/\Inv H S m w'/\XInv K Y H S x' sc w'/\XRep H (shOf sc) exs xs)
def DRow(G:Gh)(a:Option Addr)(len cap:Nat)(l:List Dt):Prop:=∃es:List Dl,len=l.length/\len=es.length/\DsRep G l es/\len<=cap/\len<=30000/\(0<len->∃g o arr,a=some ⟨g,o,none⟩/\G.I g=some (.cells arr 134 (0,0))/\∀(i j:Nat) (x:Dl),es[i]? =some x->j<6->arr[o+i*6+j]? =x.cells[j]?)
theorem DRow.mono{G H:Gh}(h:G.le H){a:Option Addr}{len cap:Nat}{l:List Dt}:DRow G a len cap l->DRow H a len cap l
 |⟨es,h1,h2,h3,h4,h5,h6⟩=>⟨es,h1,h2,h3.mono h,h4,h5,fun hp=>by obtain⟨g,o,arr,q1,q2,q3⟩:=h6 hp;exact⟨g,o,arr,q1,h.I q2,q3⟩⟩
theorem DRep.row{G:Gh}{l:List Dt}{e:Dl}(h:DRep G (.list l) e):DRow G e.a e.len e.cap l:=by
 cases h with
 |nil e h hl=>exact⟨[],by simpa using hl,by simpa using hl,.nil,by omega,by omega,fun hp=>by omega⟩
 |list e h l es g o arr hl hcp hm ha hg hr hs=>exact⟨es,by rw[hl,(hs.at).1],hl,hs,hcp,hm,fun _=>⟨g,o,arr,ha,hg,hr⟩⟩
def SimRewr(K:Rl)(S:Sub):Prop:=∀(X:Xe) (G:Gh) (m:Mc) (x:Xs) (sc:Scope) (w:World) (d:Dt) (e:Dl) (F:Nat),Inv G S m w->XInv K X G S x sc w->DRep G d e->(rewr S F x sc d).1≠.error 0->Calls prog 231 #[bp X.xb,.agg e.cells] w (RwPost K X G S m sc w (rewr S F x sc d))
def FormS(K:Rl)(S:Sub)(f:Nat):Prop:=∀(X:Xe) (G:Gh) (m:Mc) (x:Xs) (sc:Scope) (w:World) (d:Dt) (e:Dl),Inv G S m w->XInv K X G S x sc w->DRep G d e->members d<=1000000000000->sc.length+f<=1000000000->(form S f x sc d).1≠.error 0->Calls prog 236 #[bp X.xb,.agg e.cells] w (XPost K X G S m sc w (form S f x sc d))
def FormsS(K:Rl)(S:Sub)(f:Nat):Prop:=∀(X:Xe) (G:Gh) (m:Mc) (x:Xs) (sc:Scope) (w:World) (l:List Dt) (a:Option Addr) (len cap:Nat),Inv G S m w->XInv K X G S x sc w->DRow G a len cap l->membersL l<=1000000000000->sc.length+f<=1000000000->(forms S f x sc l).1≠.error 0->Calls prog 334 #[bp X.xb,.slice a len cap] w (XsPost K X G S m sc w len (forms S f x sc l))
def LambdaS(K:Rl)(S:Sub)(f:Nat):Prop:=∀(X:Xe) (G:Gh) (m:Mc) (x:Xs) (sc:Scope) (w:World) (p:Dt) (e:Dl) (l:List Dt) (a:Option Addr) (len cap:Nat),Inv G S m w->XInv K X G S x sc w->DRep G p e->DRow G a len cap l->membersL l<=1000000000000->0<len->sc.length+f<=1000000000->(lambda S f x sc p l).1≠.error 0->Calls prog 293 #[bp X.xb,.agg e.cells,.slice a len cap] w (XPost K X G S m sc w (lambda S f x sc p l))
theorem XPost.bad{K:Rl}{X:Xe}{G:Gh}{S:Sub}{m:Mc}{sc:Scope}{x:Xs}{w w':World}{rv:Except Nat Ex×Xs}(g:Inv G S m w)(i:XInv K X G S x sc w)(h:rv=(.error 4,x))(hb:Below w.heap.size w w'):XPost K X G S m sc w rv (.panicked (stopP (stopV 4))) w':=
 .inl ⟨4,x,h,rfl,g.cntB (Nat.le_refl _) hb,i.mt.keep (hb.block _ (Nat.lt_of_lt_of_le (i.lo _ (by simp)).2.2.1 i.sl))⟩
end
section
open Sc
theorem XRep.snoc{G:Gh}{sh:List Nat}{a:Ex}{v:Value}(ha:CRep G sh a v):∀{l:List Ex} {xs:List Value},XRep G sh l xs->XRep G sh (l++[a]) (xs++[v])
 |_,_,.nil _=>.cons _ _ _ _ _ ha (.nil _)
 |_,_,.cons _ _ _ _ _ h hs=>.cons _ _ _ _ _ h (XRep.snoc ha hs)
theorem XRep.func{G:Gh}{sh:List Nat}:∀{l:List Ex} {xs:List Value},XRep G sh l xs->∀x∈xs,∃k c,x=.func (.func k) #[] c
 |_,_,.nil _,x,hx=>by simp at hx
 |_,_,.cons _ _ _ _ _ h hs,x,hx=>by
  rcases List.mem_cons.1 hx with rfl|hx
  ·obtain⟨k,c,e,_⟩:=h.isF;exact⟨k,c,e⟩
  ·exact XRep.func hs x hx
theorem qca(l:List Dt){d:Dt}(h:d∈l):members d<=membersL l:=by
 induction l with
 |nil=>simp at h
 |cons a r ih=>
  simp only[membersL];rcases List.mem_cons.1 h with rfl|h
  ·omega
  ·have:=ih h;omega
def glue(exs:List Ex):Except Nat (List Ex)×Xs->Except Nat (List Ex)×Xs
 |(.error e,x)=>(.error e,x)
 |(.ok r,x)=>(.ok (exs++r),x)
theorem qsk(rv:Except Nat (List Ex)×Xs):glue [] rv=rv:=by
 obtain⟨r,x⟩:=rv;cases r <;> rfl
theorem row_set(xs:List Value)(v:Value)(n:Nat)(hn:xs.length<n):((xs++List.replicate (n-xs.length) Value.nilFunc).toArray.setIfInBounds xs.length v)=((xs++[v])++List.replicate (n-(xs.length+1)) Value.nilFunc).toArray:=by
 apply Array.ext';simp only[Array.toList_setIfInBounds];rw[show n-xs.length=(n-(xs.length+1))+1 from by omega,List.replicate_succ];simp
theorem qoq(n:Nat):madeCells #[Value.nilFunc] n=(List.replicate n Value.nilFunc).toArray:=by
 apply Array.ext_getElem?;intro i;rcases Nat.lt_or_ge i n with h|h
 ·simp[madeCells,h,Nat.mod_one]
 ·rw[Array.getElem?_eq_none (by simp[madeCells];omega),Array.getElem?_eq_none (by simp;omega)]
theorem forms_of{K:Rl}{S:Sub}{f:Nat}(ih:∀j,j<f->FormS K S j):FormsS K S f:=by
 intro X G m x sc w l a len cap g i hd hmb hsc hne;obtain⟨es,hl1,hl2,hs,hcp,hm,hrow⟩:=hd;obtain⟨hat1,hat2⟩:=hs.at;have hq0:w.heap.size<=w.heap.size:=Nat.le_refl _;refine qmn X.xb a len cap (fun k=>(es[k]?).getD ⟨0,0,false,⟨#[]⟩,0,none,0,0⟩) w _
  (fun k wr=>∃Y H x1 exs xs,k<=len/\exs.length=k/\xs.length=k/\forms S f x sc l=glue exs (forms S (f-k) x1 sc (l.drop k))/\Mx X G w Y H wr/\Inv H S m wr/\XInv K Y H S x1 sc wr/\XRep H (shOf sc) exs xs/\wr.heap[w.heap.size]? =some (.cells (xs++List.replicate (len-k) Value.nilFunc).toArray 241 (0,0))/\LooseX Y H w.heap.size) (by omega) ?_ ?_ ?_ ?_
 ·intro w' hw;have hb:Below w.heap.size w w':=bl1 hw;refine⟨X,G,x,[],[],Nat.zero_le _,rfl,rfl,by simp[qsk],Mx.ofBelow hb,g.below hb,i.below hb,.nil _,?_,LooseX.new g i (Nat.le_refl _)⟩;rw[hw.heap,heap_alloc_new,qoq];simp
 ·rintro k wr ⟨Y,H,x1,exs,xs,hk,h1,h2,h3,hmx,hi,hx,hxr,hr,hlo⟩ hlt;obtain⟨g0,o,arr,q1,q2,q3⟩:=hrow (by omega);refine⟨g0,o,q1,fun j hj=>?_⟩;have hke:k<es.length:=by omega
  rw[hi.cell (hmx.up.le.I q2),List.getElem?_eq_getElem hke];exact q3 k j _ (List.getElem?_eq_getElem hke) hj
 ·rintro k wr ⟨Y,H,x1,exs,xs,hk,h1,h2,h3,hmx,hi,hx,hxr,hr,hlo⟩ hlt w' hw;have hke:k<es.length:=by omega
  have hkl:k<l.length:=by omega
  have hdk:DRep G l[k] es[k]:=hat2 k _ _ (List.getElem?_eq_getElem hkl) (List.getElem?_eq_getElem hke);have hb:Below wr.heap.size wr w':=bl1 hw;have hrl:w.heap.size<wr.heap.size:=(Array.getElem?_eq_some_iff.1 hr).1;have hdrop:l.drop k=l[k]::l.drop (k+1):=List.drop_eq_getElem_cons hkl;obtain⟨j,hj⟩:∃j,f-k=j+1:=by
   cases hfk:f-k with
   |zero=>rw[h3,hfk]at hne;exact absurd rfl hne
   |succ j=>exact⟨j,rfl⟩
  rw[hdrop,hj]at h3;have hun:forms S (j+1) x1 sc (l[k]::l.drop (k+1))=(match form S j x1 sc l[k]with
   |(.error e,x)=>(.error e,x)
   |(.ok a,x)=>match forms S j x sc (l.drop (k+1))with
    |(.error e,x)=>(.error e,x)
    |(.ok r,x)=>(.ok (a::r),x)):=rfl
  rw[hun]at h3;have hfne:(form S j x1 sc l[k]).1≠.error 0:=fun h=>by
   apply hne;rw[h3];cases hfr:form S j x1 sc l[k]with
   |mk fr fx=>
    rw[hfr]at h;have h:fr=.error 0:=h;subst h;rfl
  have hu:=hmx.up;simp only[List.getElem?_eq_getElem hke,Option.getD_some];have hxb:Y.xb=X.xb:=hmx.same.1;have key:=ih j (by omega) Y H m x1 sc w' l[k] es[k] (hi.below hb) (hx.below hb) (hdk.mono hu.le) (Nat.le_trans (qca l (List.getElem_mem hkl)) hmb) (by omega) hfne;rw[hxb]at key;refine Calls.mono key ?_;rintro e' w2 (⟨vd,x',hv,rfl,hc,hmt⟩|⟨Z,L,ex,x',v,hv,rfl,hmx2,hi2,hx2,hcr⟩)
  ·refine .inl ⟨_,rfl,.inl ⟨vd,x',?_,rfl,hc.up hu,by rw[<-hmx.same.2.1];exact hmt⟩⟩;rw[h3,hv];rfl
  ·have hmx3:Mx Y H wr Z L w2:=(Mx.ofBelow hb).trans hmx2;obtain⟨hlo2,hr2⟩:=hlo.mx hmx3 hrl;rw[hr]at hr2;have hxs:xs.length<len:=by omega
   have hkc:k<(xs++List.replicate (len-k) Value.nilFunc).toArray.size:=by simp;omega
   refine .inr ⟨v,rfl,?_,⟨(xs++List.replicate (len-k) Value.nilFunc).toArray[k],by simp only[World.cell?,hr2];exact Array.getElem?_eq_getElem hkc⟩,by simp[World.frozen?,hr2],fun w3 hw3=>?_⟩
   ·obtain⟨kc,cc,e,_⟩:=hcr.isF;exact⟨kc,cc,e⟩
   ·refine⟨Z,L,x',exs++[ex],xs++[v],by omega,by simp[h1],by simp[h2],?_,?_,?_,?_,?_,?_,hlo2⟩
    ·rw[h3,hv];have:f-(k+1)=j:=by omega
     rw[this];simp only;cases hfs:forms S j x' sc (l.drop (k+1))with
     |mk r y=>cases r <;> simp[glue]
    ·exact((hmx.trans hmx3).set hq0).lk hw3
    ·exact Inv.lk hw3 (hi2.loose hlo2.I hlo2.mu hlo2.F)
    ·exact(hx2.set hlo2.O hlo2.R).below (bl0 hw3)
    ·exact XRep.snoc hcr (hxr.mono hmx3.up.le)
    ·rw[hw3.heap];have:=row_set xs v len hxs;rw[h2]at this;simp only[World.setCell,Array.getElem?_modify,if_pos,hr2,Option.map_some];rw[<-this];simp
 ·rintro wr ⟨Y,H,x1,exs,xs,hk,h1,h2,h3,hmx,hi,hx,hxr,hr,hlo⟩;have hdn:l.drop len=[]:=by rw[hl1];simp
  rw[hdn]at h3;obtain⟨j,hj⟩:∃j,f-len=j+1:=by
   cases hfk:f-len with
   |zero=>rw[h3,hfk]at hne;exact absurd rfl hne
   |succ j=>exact⟨j,rfl⟩
  rw[hj]at h3;refine .inr ⟨Y,H,exs,x1,w.heap.size,xs,?_,rfl,h2,?_,hq0,hlo,hmx,hi,hx,hxr⟩
  ·rw[h3];simp[forms,glue]
  ·rw[hr];simp
end
section
open Sc
theorem XInv.nab{K:Rl}{X:Xe}{G:Gh}{S:Sub}{x:Xs}{sc:Scope}{w:World}(i:XInv K X G S x sc w):X.rb≠X.ab/\X.rb≠X.bm/\X.mm≠X.ab/\X.mm≠X.bm/\X.ab≠X.bm/\X.rb≠X.mm:=by
 have h:=i.nd;simp only[List.nodup_cons,List.mem_cons,List.not_mem_nil,or_false,not_or]at h;exact⟨h.1.2.1,h.1.2.2,h.2.1.1,h.2.1.2,h.2.2.1,h.1.1⟩
theorem Inv.tw{K:Rl}{X:Xe}{G:Gh}{S:Sub}{m:Mc}{x:Xs}{sc:Scope}{w w':World}(g:Inv G S m w)(i:XInv K X G S x sc w){L:List (Sc.Id×Value)}(hL:∀b,b∈own L->X.Rw b)(t:Tw X (fun b=>b∈own L) w w'):Inv G S m w':=
 g.turns (fun j hj hn=>t.blk hj (fun e=>hn (by subst e;obtain⟨h1,h2,_,h4⟩:=i.lo X.ab (by simp);exact⟨h1,h2,h4⟩)) (fun e=>hn (by subst e;obtain⟨h1,h2,_,h4⟩:=i.lo X.bm (by simp);exact⟨h1,h2,h4⟩)) (fun e=>hn (by obtain⟨h1,h2,_,_,h5⟩:=i.rr j (hL j e);exact⟨h1,h2,h5⟩))) t.size ⟨t.os,t.tape,t.output⟩
theorem Mx.tw{X:Xe}{G:Gh}{w w':World}{L:List (Sc.Id×Value)}(hL:∀b,b∈own L->X.Rw b)(t:Tw X (fun b=>b∈own L) w w')(R:Nat->Prop)(hR:∀b,R b->X.Rw b\/w.heap.size<=b):Mx X G w {X with Rw:=R} G w':=
 ⟨⟨rfl,rfl,rfl,rfl,rfl,rfl⟩,Gh.up.refl G,fun _=>rfl,.inl,fun {b} hb=>hR b hb,fun {k} h1 _ h3 h4=>t.blk h1 (fun e=>h3 (by rw[e];simp)) (fun e=>h3 (by rw[e];simp)) (fun e=>h4 (hL k e)),t.size⟩
theorem XInv.tw{K:Rl}{X:Xe}{G:Gh}{S:Sub}{m:Mc}{x:Xs}{sc sc':Scope}{w w':World}(g:Inv G S m w)(i:XInv K X G S x sc w){L L':List (Sc.Id×Value)}(hL:∀b,b∈own L->X.Rw b)(t:Tw X (fun b=>b∈own L) w w')(hm:ScMap X sc' w' L')(hab:w'.heap[X.ab]? =some (.cells #[.int .i64 (sc'.length:Int),.map (some X.bm)] 329 (0,0)))
  (hsz:sc'.length<=1000000000/\∀l,l∈sc'->l.length<=1000000000)(R:Nat->Prop)(hR:∀b,R b->X.Rw b\/(w.heap.size<=b/\b<w'.heap.size))(hR':∀b,b∈own L'->R b):XInv K {X with Rw:=R} G S x sc' w':=by
 obtain⟨n1,n2,n3,n4,n5,n6⟩:=i.nab;have low:∀c,c<X.lo->c≠X.ab->c≠X.bm->w'.heap[c]? =w.heap[c]?:=fun c hc h1 h2=>t.blk (Nat.lt_of_lt_of_le hc i.sl) h1 h2 fun e=>by have:=(i.rr c (hL c e)).2.2.1;omega
 obtain⟨es,clock,M,hm1,hm2,hm3⟩:=i.mc;refine⟨i.xe,i.mt.keep (low _ (i.lo _ (by simp)).2.2.1 n1 n2),i.ml,hab,⟨L',hm,hR'⟩,fun b hb=>?_,⟨es,clock,M,by rw[low _ (i.lo _ (by simp)).2.2.1 n3 n4];exact hm1,hm2,hm3⟩,i.lo,i.nd,Nat.le_trans i.sl t.size,hsz⟩;rcases hR b hb with h|⟨h1,h2⟩
 ·obtain⟨q1,q2,q3,q4,q5⟩:=i.rr b h;exact⟨q1,q2,q3,Nat.lt_of_lt_of_le q4 t.size,q5⟩
 ·exact⟨g.fresh h1,fun h=>by have:=g.ml h;omega,by show X.lo<=b;have:=i.sl;omega,h2,fun h=>by have:=(g.ff h).2;omega⟩
def BPost(K:Rl)(X:Xe)(G:Gh)(S:Sub)(m:Mc)(sc:Scope)(n:Nat)(w:World)(rv:Except Nat (List Ex)×Xs)(e':Ending)(w':World):Prop:=
 (∃vd x',rv=(.error vd,x')/\e'=.panicked (stopP (stopV vd))/\Cnt G S m w'/\Mt X.rb (Xs.count x') S.rewrites 12 w')\/
 (∃Y H exs x' v,rv=(.ok exs,x')/\e'=.returned v/\Mx X G w Y H w'/\Inv H S m w'/\XInv K Y H S x' sc w'/\SRep H (n::shOf sc) exs v)
theorem IdRow.keep{w w':World}{na:Option Addr}{ids:List (ByteArray×Int)}(h:IdRow w na ids)(hk:∀g,na=some ⟨g,0,none⟩->w'.heap[g]? =w.heap[g]?):IdRow w' na ids:=fun i p hp=>by
 obtain⟨g,h1,h2,h3⟩:=h i p hp;have:=hk g h1;refine⟨g,h1,?_,?_⟩
 ·simp only[World.cell?,this]at h2|-;exact h2
 ·simp only[World.cell?,this]at h3|-;exact h3
theorem qfh(i:Sc.Id)(sc:Scope)(h:sc.length<=1000000000):(spots i sc).length<=1000000000:=Nat.le_trans (qea i sc) h
theorem qp4{K:Rl}{S:Sub}{f:Nat}(ih:FormsS K S f)(X:Xe)(G:Gh)(m:Mc)(x:Xs)(sc:Scope)(w:World)(l:List Dt)(ba:Option Addr)(bn bc:Nat)(ids:List (ByteArray×Int))(na:Option Addr)(nc:Nat)(g:Inv G S m w)(i:XInv K X G S x sc w)(hd:DRow G ba bn bc l)(hmb:membersL l<=1000000000000)(hbn:0<bn)
  (hr:IdRow w na ids)(hrn:∀b,na=some ⟨b,0,none⟩->b<w.heap.size/\LooseX X G b)(hdis:Sc.distinct (ids.map idS)=true)(hn:ids.length<=1000000)(hsc:sc.length+1+f<=1000000000)(hne:(forms S f x (ids.map idS::sc) l).1≠.error 0):
  Calls prog 324 #[bp X.xb,.slice ba bn bc,.slice na ids.length nc] w (BPost K X G S m sc ids.length w (forms S f x (ids.map idS::sc) l)):=by
 obtain⟨L,hL,hLb⟩:=i.bd;have c3:w.cell? ⟨X.xb,3,none⟩=some (bp X.ab):=by rw[g.cell i.xe];rfl
 have hlo:X.ab<X.lo/\X.bm<X.lo/\X.ab≠X.bm:=⟨(i.lo _ (by simp)).2.2.1,(i.lo _ (by simp)).2.2.1,i.nab.2.2.2.2.1⟩;refine qp5 X.xb X.ab ba na bn bc ids.length nc w _ c3 ?_;refine Calls.mono (qsy X (fun j=>spots j sc) L ids na nc sc.length w hL i.ab hr (fun b hb=>?_) hdis hn i.sz.1 (fun j=>qfh j sc i.sz.1) ⟨hlo.1,hlo.2.1,hlo.2.2,i.sl⟩) ?_
 ·obtain⟨_,h⟩:=hrn b hb;exact⟨fun e=>h.O (by rw[e];simp),fun e=>h.O (by rw[e];simp),fun e=>h.R (hLb b e)⟩
 rintro e w1 ⟨rfl,L1,hm1,hb1,ht1,hab1⟩;refine⟨rfl,?_⟩;rw[qg8]at hm1;have g1:=g.tw i hLb ht1;have hown1:∀b,b∈own L1->b<w1.heap.size:=fun b hb=>by
  obtain⟨q,hq,he⟩:=List.mem_filterMap.1 hb;exact((hm1.2.2.1 q hq).lt b he).2
 have i1:XInv K {X with Rw:=fun b=>X.Rw b\/(w.heap.size<=b/\b<w1.heap.size)} G S x (ids.map idS::sc) w1:=
  i.tw g hLb ht1 hm1 (by simpa using hab1) ⟨by simp;omega,fun k hk=>by rcases List.mem_cons.1 hk with rfl|hk;simp;omega;exact i.sz.2 k hk⟩ _ (fun b hb=>hb) (fun b hb=>(hb1 b hb).imp (hLb b) (fun h=>⟨h,hown1 b hb⟩))
 have mx1:Mx X G w {X with Rw:=fun b=>X.Rw b\/(w.heap.size<=b/\b<w1.heap.size)} G w1:=Mx.tw hLb ht1 _ (fun b hb=>hb.imp id And.left);generalize hX1:({X with Rw:=fun b=>X.Rw b\/(w.heap.size<=b/\b<w1.heap.size)}:Xe)=X1 at i1 mx1;have e1:X1.xb=X.xb:=mx1.same.1;have key:=ih X1 G m x (ids.map idS::sc) w1 l ba bn bc g1 i1 hd hmb (by simp;omega) hne;rw[e1]at key;refine Calls.mono key ?_;rintro e' w2 (⟨vd,x',hv,rfl,hc,hmt⟩|⟨Y,H,exs,x',q,xs,hv,rfl,hxl,hq,hqw,hlq,mx2,g2,i2,hxr⟩)
 ·exact .inl ⟨_,rfl,.inl ⟨vd,x',hv,rfl,hc,by rw[<-mx1.same.2.1];exact hmt⟩⟩
 ·have mx12:=mx1.trans mx2;obtain⟨s1,s2,s3,s4,s5,s6⟩:=mx12.same;have c3':w2.cell? ⟨X.xb,3,none⟩=some (bp X.ab):=by
   have:=g2.cell i2.xe 3;rw[s1,s4]at this;exact this
  refine .inr ⟨_,rfl,_,_,_,rfl,c3',?_⟩;obtain⟨L2,hL2,hLb2⟩:=i2.bd;have ab2:=i2.ab;rw[s4,s5]at ab2;have hloY:Y.ab<Y.lo/\Y.bm<Y.lo/\Y.ab≠Y.bm:=⟨(i2.lo _ (by simp)).2.2.1,(i2.lo _ (by simp)).2.2.1,i2.nab.2.2.2.2.1⟩;have hr2:IdRow w2 na ids:=hr.keep fun b hb=>((hrn b hb).2.mx mx12 (hrn b hb).1).2
  have hmm2:ScMapF Y (spN (fun j=>spots j sc) (ids.map idS) (sc.length+1)) w2 L2:=by rw[qg8];exact hL2
  have hlv:=qr8 Y (fun j=>spots j sc) L2 ids na nc sc.length w2 hmm2 (by rw[s4,s5];simpa using ab2) hr2 (fun b hb=>by
   obtain⟨h1,_⟩:=(hrn b hb).2.mx mx12 (hrn b hb).1;exact⟨fun e=>h1.O (by rw[e];simp),fun e=>h1.O (by rw[e];simp),fun e=>h1.R (hLb2 b e)⟩) hdis hn i.sz.1 (fun j=>qfh j sc i.sz.1) ⟨hloY.1,hloY.2.1,hloY.2.2,i2.sl⟩
  rw[s4]at hlv;refine Calls.mono hlv ?_;rintro e w3 ⟨rfl,L3,hm3,hb3,ht3,hab3⟩;refine⟨rfl,?_⟩;have g3:=g2.tw i2 hLb2 ht3;have i3:XInv K {Y with Rw:=Y.Rw} H S x' sc w3:=i2.tw g2 hLb2 ht3 hm3 hab3 i.sz _ (fun b hb=>.inl hb) (fun b hb=>hLb2 b (hb3 b hb));have mx3:Mx Y H w2 {Y with Rw:=Y.Rw} H w3:=Mx.tw hLb2 ht3 _ (fun b hb=>.inl hb);have mx13:Mx X G w Y H w3:=mx12.trans mx3;have hq3:w3.heap[q]? =some (.cells xs.toArray 241 (0,0)):=by
   rw[ht3.blk (Array.getElem?_eq_some_iff.1 hq).1 (fun e=>hlq.O (by rw[e];simp)) (fun e=>hlq.O (by rw[e];simp)) (fun e=>hlq.R (hLb2 q e))];exact hq
  have g4:=g3.fix ⟨hlq.mu,hlq.F⟩ hlq.I hq3;have i4:XInv K Y (H.add q (.cells xs.toArray 241 (0,0))) S x' sc w3:=XInv.fix i3 hlq;have mx4:Mx X G w Y (H.add q (.cells xs.toArray 241 (0,0))) w3:=mx13.fix (Nat.le_trans mx1.size hqw) hlq.I;have hle:=Gh.le_add (o:=.cells xs.toArray 241 (0,0)) hlq.I;cases hxr with
  |nil=>simp at hxl;omega
  |cons _ e0 r x0 xr hc0 hs0=>
   have hsq:=qin (S:=S) (m:=m) (sh:=ids.length::shOf sc) r e0 _ w3 x0 xr q 0 bn (x0::xr).toArray g4 (.cons _ _ _ _ _ (by have:=hc0.mono hle;simpa[shOf]using this) (by have:=hs0.mono hle;simpa[shOf]using this)) (Gh.add_at _ _ _) (by simp at hxl;omega) (by obtain⟨es,q1,q2,q3,q4,q5,q6⟩:=hd;simp at hxl;omega) (fun j y hy=>by simpa using hy);have hbl:xr.length+1=bn:=by simpa using hxl
   rw[hbl]at hsq;refine Calls.mono hsq ?_;rintro e' w4 ⟨H4,v,rfl,hx4,hb4,g5,hsr⟩;have mv4:Mv _ w3 H4 w4:=Mv.ext hx4 hb4;exact .inr ⟨v,rfl,.inr ⟨Y,H4,e0::r,x',v,hv,rfl,mx4.mv mv4,g5,i4.mv mv4,hsr⟩⟩
end
end Go.Proofs.YtldaocpojcfljaaGreatDoor
