import Derived.Test.YtldaocpojcfljaaGreatDoorC34
set_option maxRecDepth 100000
set_option maxHeartbeats 4000000
namespace Go.Proofs.YtldaocpojcfljaaGreatDoor
open Tryz hiding parts
open Go.RowKit Go.Shelf
section
open Sc
def dlCells (l:List Dl):List Value:=l.flatMap fun e=>e.cells.toList
theorem qew (a:List Dl) (e:Dl):dlCells (a++[e])=dlCells a++e.cells.toList:=by simp [dlCells]
def AppK (xb mb:Nat) (v:Value) (blen:Nat) (xs:List Value) (Q:Ending→World→Prop) (q:Nat) (W:World):Prop:=∀g6 cap6 w6,W.grownBy w6 (some q)→(g6=q∨W.heap.size≤g6)→w6.ownsRow q 241 1 (.slice (some ⟨g6,0,none⟩) (1+blen) cap6) (1+blen) ([v]++xs)→w6.cell? ⟨xb,0,none⟩=some (bp mb)∧∀w7,Lk w6 w7→Calls prog 333 #[bp mb,.slice (some ⟨g6,0,none⟩) (1+blen) cap6] w7 (RX xb mb Q)
def LetV (xb mb blen:Nat) (u:Value) (w4:World) (xs:List Value) (ga c:Nat):Prop:=u=.slice (some ⟨ga,0,none⟩) blen c∧xs.length=blen∧w4.cell? ⟨xb,0,none⟩=some (bp mb)∧(∀j x,xs[j]? =some x→w4.cell? ⟨ga,j,none⟩=some x)∧(∀x∈xs,x.oneCell'=true)
def LetK (xb mb:Nat) (body:Value) (na:Option Addr) (nc:Nat) (va:Option Addr) (vc blen:Nat) (wr:World) (Q:Ending→World→Prop):Prop:=
 ∀w1,Below wr.heap.size wr w1→Calls prog 293 #[bp xb,.agg (Dl.cells ⟨4,0,false,⟨#[]⟩,0,na,blen,nc⟩),body] w1 (RetP (fun v w2=>∃kc cc,v=.func (.func kc) #[] cc∧w2.cell? ⟨xb,0,none⟩=some (bp mb)∧
  (∀w3,Lk (w2.alloc (.cells #[v] 241)) w3→Calls prog 334 #[bp xb,.slice va blen vc] w3 (RetP (fun u w4=>∃xs ga c,LetV xb mb blen u w4 xs ga c∧w4.heap[w2.heap.size]? =some (.cells #[v] 241 (0,0))∧AppK xb mb v blen xs Q w2.heap.size w4) Q))∧
  (∀w3,Lk w2 w3→Calls prog 334 #[bp xb,.slice va blen vc] w3 (RetP (fun u w4=>∃xs ga c,LetV xb mb blen u w4 xs ga c∧AppK xb mb v blen xs Q w4.heap.size (w4.alloc (.cells #[v] 241))) Q))) Q)
theorem qd9 {P:Program} (w:World) {ops:Array Oper} {o:Oper} {a:Act} {K:Act→World→Prop} {Q:Exit→Act→World→Prop} {E:Prop} (hgd:o.guard=none) (s x:Operand) (t:TypeId)
  (ho:o.op=.call {callee:=.builtin .append,args:=#[s,x],argTypes:=#[t,t]})
  (base:Nat) (e:TypeId) (i:TypeInfo) (z:Value) (size bytes:Nat) (ht:P.underlying t=some (.slice e)) (hi:P.info? e=some i) (hz:i.zero=some z)
  (hsize:i.size=size) (hby:i.bytes=bytes) (hzs:z.cells.size=size) (hsz:0<size)
  (v:Value) (n:Nat) (xs:List Value) (hs:a.eval s=v) (hown:w.ownsRow base e size v n xs)
  (ad:Addr) (m c:Nat) (news:List Value) (hx:a.eval x=.slice (some ad) m c) (hl:news.length=m*size) (hnews:∀j u,news[j]? =some u→w.cell? (ad.add j)=some u) (h1:∀u∈news,u.oneCell'=true)
  (hm:0<n+m) (h63:n+m≤maxLen) (hbytes:(n+m)*bytes≤140737488355328) (hbase:base≤w.heap.size)
  (h:∀g cap w',w'.ownsRow base e size (.slice (some ⟨g,0,none⟩) (n+m) cap) (n+m) (xs++news)→w.grownBy w' v.ownBlock→(v.ownBlock=some g∨g=w.heap.size)→K (a.put o.dst (.slice (some ⟨g,0,none⟩) (n+m) cap)) w'):
  if Region.wanted o (yielded ops a.tmps)=true then Oper.wp P o a w K Q else E:=by
 have hw:Region.wanted o (yielded ops a.tmps)=true:=by simp [Region.wanted,hgd]
 rw [if_pos hw]
 obtain⟨v',w',hr,h2,h3,_,h5⟩:=run_append_own_at (P:=P) w base t o.type e i z size bytes ht hi hz hsize hby hzs hsz v n xs hown ad m c news hl hnews h1 h63 hbytes hbase
 obtain⟨g,cap,rfl,_,hlt⟩:=h2.form hm
 unfold Oper.wp execOp
 simp only [ho,resolve,invoke,builtin,Sem.run_bind,Sem.run_pure,Result.andThen_ok,List.map_toArray,List.map_cons,List.map_nil,hs,hx,hr]
 refine h g cap w' h2 h3 ?_
 rcases h5 with h5|h5
 ·exact .inl (by rw [←h5];rfl)
 ·exact .inr (by simpa [Value.ownBlock]using h5)
def LetRows (w wr:World) (na:Option Addr) (nc:Nat) (va:Option Addr) (vc k:Nat) (ns vs:List Dl):Prop:=
 ns.length=k∧vs.length=k∧wr.ownsRow w.heap.size 134 6 (.slice na k nc) k (dlCells ns)∧wr.ownsRow w.heap.size 134 6 (.slice va k vc) k (dlCells vs)∧(∀b,Value.ownBlock (.slice na k nc)=some b→Value.ownBlock (.slice va k vc)≠some b)∧Below w.heap.size w wr
def BindIs (w:World) (bd:Nat→Option (Dl×Dl)) (i:Nat) (y:Dl):Prop:=match bd i with
 |some (a,b)=>y.len=2∧∃gb ob,y.a=some ⟨gb,ob,none⟩∧gb<w.heap.size∧(∀j,j<6→w.cell? ⟨gb,ob+j,none⟩=a.cells[j]?)∧(∀j,j<6→w.cell? ⟨gb,ob+6+j,none⟩=b.cells[j]?)
 |none=>y.len≠2
theorem qr5 (xb mb g o n xcap:Nat) (_yn:Int) (_ytr:Bool) (_ytx:ByteArray) (_ym:Int) (ya:Option Addr) (blen ycap:Nat) (es:List Dl) (bd:Nat→Option (Dl×Dl)) (w:World) (Q:Ending→World→Prop) (hn:n+3≤1000000) (hcp:n+3≤xcap)
  (c0:w.cell? ⟨g,o+6,none⟩=some (.int .i64 4)) (c5:w.cell? ⟨g,o+6+5,none⟩=some (.slice ya blen ycap)) (hb:blen=es.length) (hbm:blen≤30000)
  (hrow:∀(i j:Nat) (x:Dl),es[i]? =some x→j<6→∃g o,ya=some ⟨g,o,none⟩∧g<w.heap.size∧w.cell? ⟨g,o+i*6+j,none⟩=x.cells[j]?)
  (hbd:∀i x,es[i]? =some x→BindIs w bd i x)
  (hQ:(∃i,i<blen∧bd i=none)→∀w',Below w.heap.size w w'→Q (.panicked (stopP (stopV 4))) w')
  (hK:∀wr na nc va vc ns vs,(∀i a b,ns[i]? =some a→vs[i]? =some b→bd i=some (a,b))→LetRows w wr na nc va vc blen ns vs→LetK xb mb (.slice (tlD g o xcap 2) (n+1) (xcap-2)) na nc va vc blen wr Q):
  Calls prog 337 #[bp xb,.slice (some ⟨g,o,none⟩) (n+3) xcap] w Q:=by
 obtain⟨i0,hi,hz0',hz1',hz2'⟩:=info_parts info134
 obtain⟨i1,hi1,hy0',hy1',hy2'⟩:=info_parts qjk
 have hsl:∀w,(Instr.slice 132 (.slice (some ⟨g,o,none⟩) (n+3) xcap) (some (.int .i64 2)) none none).run prog w=.ok (.slice (tlD g o xcap 2) (n+1) (xcap-2)) w:=fun w=>qdg g o (n+1) xcap hcp w
 have h3:(3:Int)≤(n:Int)+3:=by omega
 have h1:(1:Int)<(n:Int)+3:=by omega
 have HB:=hZ hb
 have HRow:=hZ hrow
 have HBd:=hZ hbd
 have HQ:=hZ hQ
 have HK:=hZ hK
 clear hb hrow hbd hQ hK
 go_enter func337,ntmps337
 go_wp2_with (first|(go_at_call 290;refine(qam _).mono ?_;rintro e w2 ⟨rfl,hww⟩;obtain rfl:=hww.symm))
 go_loopw [26,5,6] (fun c s1 s2 wr=>∃(k:Nat) (na:Option Addr) (nc:Nat) (va:Option Addr) (vc:Nat) (ns vs:List Dl),k≤blen∧c=.int .i64 (k:Int)∧s1=.slice na k nc∧s2=.slice va k vc∧(∀i a b,ns[i]? =some a→vs[i]? =some b→bd i=some (a,b))∧LetRows w wr na nc va vc k ns vs) (fun c _ _ _=>blen-(intOf c).toNat)
 case atStart=>exact⟨0,none,0,none,0,[],[],Nat.zero_le _,rfl,rfl,rfl,fun i a b h=>by simp at h,rfl,rfl,⟨rfl,.inl ⟨rfl,rfl⟩⟩,⟨rfl,.inl ⟨rfl,rfl⟩⟩,fun b h=>by simp [Value.ownBlock]at h,Below.refl _ _⟩
 case round=>
  obtain⟨k,na,nc,va,vc,ns,vs,hk,rfl,rfl,rfl,hpr,hrows⟩:=hrel
  have HPr:=hZ hpr
  have HRows:=hZ hrows
  clear hpr hrows
  by_cases hlt:k<blen
  ·have hke:k<es.length:=by rw [←HB.out];exact hlt
   obtain⟨⟨zk,zn,ztr,ztx,zm,za,zlen,zcap⟩,hz⟩:∃y,y=es[k]:=⟨_,rfl⟩
   have hey:es[k]? =some ⟨zk,zn,ztr,ztx,zm,za,zlen,zcap⟩:=by rw [hz];exact List.getElem?_eq_getElem hke
   obtain⟨gy,oy,rfl,hgw,c00⟩:=HRow.out k 0 _ hey (by omega)
   have hBel:=HRows.out.2.2.2.2.2
   have cell:∀j,j<6→wr.cell? ⟨gy,oy+k*6+j,none⟩=(Dl.cells ⟨zk,zn,ztr,ztx,zm,za,zlen,zcap⟩)[j]?:=fun j hj=>by
    obtain⟨g',o',e1,e2,e3⟩:=HRow.out k j _ hey hj
    cases e1
    exact(hBel.cell (p:=⟨gy,oy+k*6+j,none⟩) hgw).trans e3
   have d0:wr.cell? ⟨gy,oy+k*6,none⟩=some (.int .i64 zk):=cell 0 (by omega)
   have d1:wr.cell? ⟨gy,oy+k*6+1,none⟩=some (.int .i64 zn):=cell 1 (by omega)
   have d2:wr.cell? ⟨gy,oy+k*6+2,none⟩=some (.bool ztr):=cell 2 (by omega)
   have d3:wr.cell? ⟨gy,oy+k*6+3,none⟩=some (.string ztx):=cell 3 (by omega)
   have d4:wr.cell? ⟨gy,oy+k*6+4,none⟩=some (.int .i64 zm):=cell 4 (by omega)
   have d5:wr.cell? ⟨gy,oy+k*6+5,none⟩=some (.slice za zlen zcap):=cell 5 (by omega)
   have hbi:=HBd.out k _ hey
   have hkl':(k:Int)<(blen:Int):=by omega
   clear cell hz c00 hey
   unfold BindIs at hbi
   cases hbk:bd k with
   |none=>
    rw [hbk]at hbi
    have hne:((zlen:Int)==2)=false:=by have h:zlen≠2:=hbi;simp;omega
    have HBk:=hZ hbk
    clear hbi hbk
    go_wp2_with (first|(go_at_call 290;refine(qax _).mono ?_;rintro e w2 ⟨rfl,o,rfl⟩))
    exact⟨rfl,HQ.out ⟨k,hlt,HBk.out⟩ _ (HRows.out.2.2.2.2.2.trans (((qab _ _).alloc (by simp) _).mono HRows.out.2.2.2.2.2.size))⟩
   |some ab=>
    obtain⟨⟨pk,pn,ptr,ptx,pm,pa,plen,pcap⟩,⟨qk,qn,qtr,qtx,qm,qa,qlen,qcap⟩⟩:=ab
    rw [hbk]at hbi
    obtain⟨rfl,gb,ob,rfl,hgb,hp,hq⟩:=hbi
    have HBk:=hZ hbk
    have hpw:∀(W:World),Below w.heap.size w W→∀j,j<6→W.cell? ⟨gb,ob+j,none⟩=(Dl.cells ⟨pk,pn,ptr,ptx,pm,pa,plen,pcap⟩)[j]?:=fun W hW j hj=>(hW.cell (p:=⟨gb,ob+j,none⟩) hgb).trans (hp j hj)
    have hqw:∀(W:World),Below w.heap.size w W→∀j,j<6→W.cell? ⟨gb,ob+6+j,none⟩=(Dl.cells ⟨qk,qn,qtr,qtx,qm,qa,qlen,qcap⟩)[j]?:=fun W hW j hj=>(hW.cell (p:=⟨gb,ob+6+j,none⟩) hgb).trans (hq j hj)
    have HPw:=hZ hpw
    have HQw:=hZ hqw
    obtain⟨W0,hW0⟩:∃W0,W0=wr.alloc (.cells (Dl.cells ⟨zk,zn,ztr,ztx,zm,some ⟨gb,ob,none⟩,2,zcap⟩) 134):=⟨_,rfl⟩
    have hB0:Below w.heap.size w W0:=by rw [hW0];exact hBel.trans ((qab _ _).mono hBel.size)
    have hbox:W0.heap[wr.heap.size]? =some (.cells (Dl.cells ⟨zk,zn,ztr,ztx,zm,some ⟨gb,ob,none⟩,2,zcap⟩) 134 (0,0)):=by rw [hW0];exact heap_alloc_new _ _
    have x5:W0.cell? ⟨wr.heap.size,5,none⟩=some (.slice (some ⟨gb,ob,none⟩) 2 zcap):=by simp only [World.cell?,hbox];rfl
    have u0:W0.cell? ⟨gb,ob,none⟩=some (.int .i64 pk):=hpw W0 hB0 0 (by omega)
    have u1:W0.cell? ⟨gb,ob+1,none⟩=some (.int .i64 pn):=hpw W0 hB0 1 (by omega)
    have u2:W0.cell? ⟨gb,ob+2,none⟩=some (.bool ptr):=hpw W0 hB0 2 (by omega)
    have u3:W0.cell? ⟨gb,ob+3,none⟩=some (.string ptx):=hpw W0 hB0 3 (by omega)
    have u4:W0.cell? ⟨gb,ob+4,none⟩=some (.int .i64 pm):=hpw W0 hB0 4 (by omega)
    have u5:W0.cell? ⟨gb,ob+5,none⟩=some (.slice pa plen pcap):=hpw W0 hB0 5 (by omega)
    obtain⟨_,_,hoN,hoV,hdis,_⟩:=HRows.out
    have hoN0:W0.ownsRow w.heap.size 134 6 (.slice na k nc) k (dlCells ns):=qbd hoN fun c hc=>by rw [hW0];exact Below.heap_alloc _ _ _ (hoN.lt c hc).2
    have hoV0:W0.ownsRow w.heap.size 134 6 (.slice va k vc) k (dlCells vs):=qbd hoV fun c hc=>by rw [hW0];exact Below.heap_alloc _ _ _ (hoV.lt c hc).2
    have HON:=hZ hoN0
    have HOV:=hZ hoV0
    have HB0:=hZ hB0
    have HBox:=hZ hbox
    have hwb:wr.heap.size<W0.heap.size:=(Array.getElem?_eq_some_iff.1 hbox).1
    have HWr:Hid (w.heap.size≤wr.heap.size):=hBel.size
    have HDis:=hZ hdis
    have HVl:Hid (∀c,Value.ownBlock (.slice va k vc)=some c→c<wr.heap.size):=fun c hc=>(hoV.lt c hc).2
    have HNl:Hid (∀c,Value.ownBlock (.slice na k nc)=some c→c<wr.heap.size):=fun c hc=>(hoN.lt c hc).2
    have hww0:w.heap.size≤W0.heap.size:=hB0.size
    clear hbk hp hq hpw hqw hB0 hbox hoN hoV hoN0 hoV0 hdis hBel
    go_wp2_with (first|(go_at_call 290;rw [←hW0];clear hW0;refine(qam _).mono ?_;rintro e w2 ⟨rfl,hww⟩;obtain rfl:=hww.symm;refine Hid.out ?_))
    refine hZ ?_
    go_wp2_with (at_builtin;refine wpList_append_lies _ rfl _ _ 132 rfl w.heap.size 134 i0 (.agg #[.int .i64 0,.int .i64 0,.bool false,.string ⟨#[]⟩,.int .i64 0,.slice none 0 0]) 6 72 underlying132 hi hz0' hz1' hz2' rfl (by decide) _ _ _ rfl (HON.out.alloc _) ⟨W0.heap.size,0,none⟩ 1 1 [.int .i64 pk,.int .i64 pn,.bool ptr,.string ptx,.int .i64 pm,.slice pa plen pcap] rfl rfl ?c1 ?c2 (by decide) ?c3 ?c4 ?c5 (W0.heap.size+1) ?c6 ?_)
    case c1=>exact World.news_of_block (cs:=#[.int .i64 pk,.int .i64 pn,.bool ptr,.string ptx,.int .i64 pm,.slice pa plen pcap]) (by have:=heap_alloc_new W0 (.cells #[.int .i64 pk,.int .i64 pn,.bool ptr,.string ptx,.int .i64 pm,.slice pa plen pcap] 134);simpa using this)
    case c2=>intro u hu;simp at hu;rcases hu with rfl|rfl|rfl|rfl|rfl|rfl <;> rfl
    case c3=>unfold maxLen;omega
    case c4=>omega
    case c5=>simp;omega
    case c6=>simp
    intro g1 cap1 w1 hown1 hgrow1 hat1 hlt1
    refine Hid.out ?_
    have hg1:W0.grownBy w1 (Value.slice na k nc).ownBlock:=qbf hgrow1
    have hfar1:∀b,b<W0.heap.size→(Value.slice na k nc).ownBlock≠some b→w1.heap[b]? =W0.heap[b]?:=fun b hb hne=>hg1.block b hb fun e=>hne e.symm
    have hB1:Below w.heap.size w w1:=⟨hg1.os.trans HB0.out.os,hg1.tape.trans HB0.out.tape,hg1.output.trans HB0.out.output,Nat.le_trans HB0.out.size hg1.size,fun j hj=>by
     rw [hfar1 j (Nat.lt_of_lt_of_le hj HB0.out.size) (fun e=>by have:=(HON.out.lt j e).1;omega)];exact HB0.out.block j hj⟩
    have hbox1:w1.heap[wr.heap.size]? =some (.cells (Dl.cells ⟨zk,zn,ztr,ztx,zm,some ⟨gb,ob,none⟩,2,zcap⟩) 134 (0,0)):=by
     rw [hfar1 _ hwb (fun e=>by have:=HNl.out _ e;omega)];exact HBox.out
    have y5:w1.cell? ⟨wr.heap.size,5,none⟩=some (.slice (some ⟨gb,ob,none⟩) 2 zcap):=by simp only [World.cell?,hbox1];rfl
    have v0:w1.cell? ⟨gb,ob+6,none⟩=some (.int .i64 qk):=HQw.out w1 hB1 0 (by omega)
    have v1:w1.cell? ⟨gb,ob+6+1,none⟩=some (.int .i64 qn):=HQw.out w1 hB1 1 (by omega)
    have v2:w1.cell? ⟨gb,ob+6+2,none⟩=some (.bool qtr):=HQw.out w1 hB1 2 (by omega)
    have v3:w1.cell? ⟨gb,ob+6+3,none⟩=some (.string qtx):=HQw.out w1 hB1 3 (by omega)
    have v4:w1.cell? ⟨gb,ob+6+4,none⟩=some (.int .i64 qm):=HQw.out w1 hB1 4 (by omega)
    have v5:w1.cell? ⟨gb,ob+6+5,none⟩=some (.slice qa qlen qcap):=HQw.out w1 hB1 5 (by omega)
    have hoV1:w1.ownsRow w.heap.size 134 6 (.slice va k vc) k (dlCells vs):=qbd HOV.out fun c hc=>hfar1 c (HOV.out.lt c hc).2 fun e=>HDis.out c e hc
    have hg1v:∀c,Value.ownBlock (.slice va k vc)=some c→c≠g1:=fun c hc e=>by
     subst e
     rcases hat1 with h|h
     ·exact HDis.out c h hc
     ·have:=HVl.out c hc;omega
    have HON1:=hZ hown1
    have HOV1:=hZ hoV1
    have HB1:=hZ hB1
    have HG1v:=hZ hg1v
    have hw1:w.heap.size≤w1.heap.size:=hB1.size
    have HG1l:Hid (g1<w1.heap.size):=hlt1
    clear hown1 hgrow1 hat1 hlt1 hg1 hfar1 hB1 hbox1 hoV1 hg1v u0 u1 u2 u3 u4 u5 x5
    refine hZ ?_
    go_wp2_with (at_builtin;refine wpList_append_lies _ rfl _ _ 132 rfl w.heap.size 134 i0 (.agg #[.int .i64 0,.int .i64 0,.bool false,.string ⟨#[]⟩,.int .i64 0,.slice none 0 0]) 6 72 underlying132 hi hz0' hz1' hz2' rfl (by decide) _ _ _ rfl (HOV1.out.alloc _) ⟨w1.heap.size,0,none⟩ 1 1 [.int .i64 qk,.int .i64 qn,.bool qtr,.string qtx,.int .i64 qm,.slice qa qlen qcap] rfl rfl ?e1 ?e2 (by decide) ?e3 ?e4 ?e5 (w1.heap.size+1) ?e6 ?_)
    case e1=>exact World.news_of_block (cs:=#[.int .i64 qk,.int .i64 qn,.bool qtr,.string qtx,.int .i64 qm,.slice qa qlen qcap]) (by have:=heap_alloc_new w1 (.cells #[.int .i64 qk,.int .i64 qn,.bool qtr,.string qtx,.int .i64 qm,.slice qa qlen qcap] 134);simpa using this)
    case e2=>intro u hu;simp at hu;rcases hu with rfl|rfl|rfl|rfl|rfl|rfl <;> rfl
    case e3=>unfold maxLen;omega
    case e4=>omega
    case e5=>simp;omega
    case e6=>simp
    intro g2 cap2 w2 hown2 hgrow2 hat2 hlt2
    refine Hid.out ?_
    have hg2:w1.grownBy w2 (Value.slice va k vc).ownBlock:=qbf hgrow2
    have HFin:Hid (LetRows w w2 (some ⟨g1,0,none⟩) cap1 (some ⟨g2,0,none⟩) cap2 (k+1) (ns++[⟨pk,pn,ptr,ptx,pm,pa,plen,pcap⟩]) (vs++[⟨qk,qn,qtr,qtx,qm,qa,qlen,qcap⟩])):=by
     obtain⟨hl1,hl2,_⟩:=HRows.out
     refine⟨by simp [hl1],by simp [hl2],?_,?_,?_,?_⟩
     ·rw [qew]
      refine qbd HON1.out fun c hc=>hg2.block c (HON1.out.lt c hc).2 fun e=>?_
      obtain rfl:g1=c:=by simpa [Value.ownBlock]using hc
      exact HG1v.out _ e.symm rfl
     ·rw [qew];exact hown2
     ·intro b hb hb'
      obtain rfl:g1=b:=by simpa [Value.ownBlock]using hb
      have hb':g2=g1:=by simpa [Value.ownBlock]using hb'
      rcases hat2 with h|h
      ·exact HG1v.out _ h hb'
      ·have:=HG1l.out;omega
     ·exact⟨hg2.os.trans HB1.out.os,hg2.tape.trans HB1.out.tape,hg2.output.trans HB1.out.output,Nat.le_trans HB1.out.size hg2.size,fun j hj=>by
       rw [hg2.block j (Nat.lt_of_lt_of_le hj HB1.out.size) (fun e=>by have:=(HOV1.out.lt j e.symm).1;omega)];exact HB1.out.block j hj⟩
    have HPr2:Hid (∀i a b,(ns++[(⟨pk,pn,ptr,ptx,pm,pa,plen,pcap⟩:Dl)])[i]? =some a→(vs++[(⟨qk,qn,qtr,qtx,qm,qa,qlen,qcap⟩:Dl)])[i]? =some b→bd i=some (a,b)):=fun i a b ha hb=>by
     obtain⟨hl1,hl2,_⟩:=HRows.out
     by_cases hik:i<k
     ·rw [List.getElem?_append_left (by omega)]at ha hb
      exact HPr.out i a b ha hb
     ·have hi1:=(List.getElem?_eq_some_iff.1 ha).1
      have hik:i=k:=by simp at hi1;omega
      subst hik
      rw [List.getElem?_append_right (by omega)]at ha hb
      simp [hl1]at ha
      simp [hl2]at hb
      rw [←ha,←hb];exact HBk.out
    clear hown2 hgrow2 hat2 hlt2 hg2 HON1 HOV1 HG1v HG1l HB1 v0 v1 v2 v3 v4 v5 y5
    refine hZ ?_
    go_wp2
    go_roundw
    case rel=>exact⟨k+1,_,_,_,_,_,_,by omega,by go_num,rfl,rfl,HPr2.out,HFin.out⟩
    case measure=>simp [intOf];omega
  ·have hke:k=blen:=by omega
   have hrows:=HRows.out
   rw [hke]at hrows
   have hLK:=HK.out wr na nc va vc ns vs HPr.out hrows
   have HLK:=hZ hLK
   have hnl:¬(k:Int)<(blen:Int):=by omega
   rw [hke]
   clear hke hrows hLK HK HRows HPr hnl hlt hk
   go_wp2_with (fail)
   go_region_held2 (fun _=>True) (first|(exact trivial))
    (first
     |(go_at_call 238;refine(qhi na blen nc _).mono ?_;rintro e w1 ⟨rfl,o1,hl⟩;have HB1:Hid (Below wr.heap.size wr w1):=(have hb:=bl1 hl;⟨hb.os,hb.tape,hb.output,hb.size,hb.block⟩);clear hl)
     |(go_at_call 293;refine(HLK.out _ HB1.out).mono ?_;rintro e w2 (⟨ps,rfl,hq⟩|⟨v,rfl,kc,cc,rfl,hc,hA,hB⟩);(exact⟨rfl,hq⟩);have HC2:=hZ hc;have HA:=hZ hA;have HBb:=hZ hB;clear hc hA hB))
   all_goals
    have d0:=HC2.out
    go_wp2_with (fail)
    clear HB1 HLK
    go_region_held2 (fun w'=>w'.cell? ⟨xb,0,none⟩=some (bp mb)) (first|(exact HS3.out)|(exact HS2.out)|(exact HS1.out)|(exact qaj HS1.out)|(exact d0)|(exact qaj d0)|go_keep)
     (first
      |(go_at_call 334;refine(HA.out _ (by exact⟨rfl,rfl,rfl,rfl⟩)).mono ?_;rintro e w4 (⟨ps,rfl,hq⟩|⟨u,rfl,xs,ga,c4,⟨rfl,hxl,hcx,hcells,hone⟩,hq4,hk⟩);(exact⟨rfl,hq⟩);have HS1:=hZ hcx;have HXl:Hid (xs.length=blen*1):=(hxl.trans (Nat.mul_one blen).symm);have HOwn:Hid (w4.ownsRow w2.heap.size 241 1 (.slice (some ⟨w2.heap.size,0,none⟩) 1 1) 1 [.func (.func kc) #[] cc]):=⟨rfl,.inr ⟨w2.heap.size,1,#[.func (.func kc) #[] cc],rfl,Nat.le_refl _,hq4,Nat.le_refl _,by unfold maxLen;omega,rfl,rfl⟩⟩;have HBase:Hid (w2.heap.size≤w4.heap.size):=Nat.le_of_lt (Array.getElem?_eq_some_iff.1 hq4).1;have HNews:Hid (∀j x,xs[j]? =some x→w4.cell? ((⟨ga,0,none⟩:Addr).add j)=some x):=(fun j x hx=>by have hadd:(⟨ga,0,none⟩:Addr).add j=⟨ga,j,none⟩:=(by unfold Addr.add;split <;> simp_all);rw [hadd];exact hcells j x hx);have HOne:=hZ hone;have HAppK:=hZ hk;clear hxl hcx hcells hone hq4 hk)
      |(go_at_call 334;refine(HBb.out _ (by exact⟨rfl,rfl,rfl,rfl⟩)).mono ?_;rintro e w4 (⟨ps,rfl,hq⟩|⟨u,rfl,xs,ga,c4,⟨rfl,hxl,hcx,hcells,hone⟩,hk⟩);(exact⟨rfl,hq⟩);have HS1:=hZ hcx;have HXl:Hid (xs.length=blen*1):=(hxl.trans (Nat.mul_one blen).symm);have HOwn:Hid ((w4.alloc (.cells #[.func (.func kc) #[] cc] 241)).ownsRow w4.heap.size 241 1 (.slice (some ⟨w4.heap.size,0,none⟩) 1 1) 1 [.func (.func kc) #[] cc]):=⟨rfl,.inr ⟨w4.heap.size,1,#[.func (.func kc) #[] cc],rfl,Nat.le_refl _,heap_alloc_new _ _,Nat.le_refl _,by unfold maxLen;omega,rfl,rfl⟩⟩;have HBase:Hid (w4.heap.size≤(w4.alloc (.cells #[.func (.func kc) #[] cc] 241)).heap.size):=(by simp [RowKit.Hid]);have HNews:Hid (∀j x,xs[j]? =some x→(w4.alloc (.cells #[.func (.func kc) #[] cc] 241)).cell? ((⟨ga,0,none⟩:Addr).add j)=some x):=(fun j x hx=>by have hadd:(⟨ga,0,none⟩:Addr).add j=⟨ga,j,none⟩:=(by unfold Addr.add;split <;> simp_all);rw [hadd];exact qaj (hcells j x hx));have HOne:=hZ hone;have HAppK:=hZ hk;clear hxl hcx hcells hone hk)
      |(refine qd9 _ rfl _ _ 426 rfl _ 241 i1 .nilFunc 1 8 underlying426 hi1 hy0' hy1' hy2' rfl (by decide) _ _ _ rfl HOwn.out ⟨ga,0,none⟩ blen c4 xs rfl HXl.out HNews.out HOne.out (by omega) (by unfold maxLen;omega) (by omega) HBase.out ?_;intro g6 cap6 w6 hown6 hgrow6 hat6;obtain⟨hc6,hk6⟩:=HAppK.out g6 cap6 w6 hgrow6 (hat6.imp (fun h=>(Option.some.inj h).symm) (fun h=>Nat.le_of_eq h.symm)) hown6;clear hat6;have HS2:=hZ hc6;have HK6:=hZ hk6;clear hown6 hgrow6 hc6 hk6)
      |(go_at_call 333;refine(HK6.out _ (by exact⟨rfl,rfl,rfl,rfl⟩)).mono ?_;rintro e w8 (⟨ps,rfl,hq⟩|⟨v,rfl,hc,hq⟩);(exact⟨rfl,hq⟩);have HS3:=hZ hc;have HQQ:=hZ hq;clear hc hq))
    all_goals go_wp2
    all_goals exact HQQ.out
end
section
open Sc
theorem qhw (t:ByteArray):∀(es:List MapEntry) (L:List (List UInt8×Value)) (n:Nat),es.map (fun e=>(e.key,e.val))=L.map (fun p=>(Value.string ⟨p.1.toArray⟩,p.2))→
  (Instr.findNow .string (.string t) es n=some none∧∀p,p∈L→p.1≠t.data.toList)∨∃j v,Instr.findNow .string (.string t) es n=some (some (n+j,v))∧∃p,L[j]? =some p∧p.1=t.data.toList
 | [],[],n,_=>.inl ⟨rfl,fun p hp=>by simp at hp⟩
 | [],_::_,n,h=>by simp at h
 |_::_,[],n,h=>by simp at h
 |e::es,(s,b)::L,n,h=>by
  simp only [List.map_cons,List.cons.injEq,Prod.mk.injEq]at h
  obtain⟨⟨h1,h2⟩,h3⟩:=h
  simp only [Instr.findNow,h1,Instr.sameNow,qb8]
  by_cases hs:t.data.toList=s
  ·right
   exact⟨0,b,by simp [hs,h2],(s,b),rfl,hs.symm⟩
  ·rcases qhw t es L (n+1) h3 with⟨e1,e2⟩|⟨j,v,e1,p,e2,e3⟩
   ·left
    refine⟨by simp [hs,e1],fun p hp=>?_⟩
    rcases List.mem_cons.1 hp with rfl|hp
    ·exact fun e=>hs e.symm
    ·exact e2 p hp
   ·right
    exact⟨j+1,v,by simp [hs,e1];omega,p,by simpa using e2,e3⟩
theorem qcn {α β:Type} (f:α→β):∀(l:List α) (j:Nat),(l.eraseIdx j).map f=(l.map f).eraseIdx j
 | [],_=>by simp
 |a::r,0=>by simp
 |a::r,j+1=>by simp [qcn f r j]
theorem McRows.erase {R:Gh→Macro→Value→Prop} {G:Gh} {s:Bs}:∀{ms:List Macro} {L:List (Bs×Value)} {j:Nat} {p:Bs×Value},McRows R G ms L→L[j]? =some p→p.1=s→McRows R G (ms.filter fun m=>!(m.name==s)) (L.eraseIdx j)
 |_,_,j,p,.nil,h,_=>by simp at h
 |_,_,0,p,.cons mc v ms L hr hn hs,h,e=>by
  simp at h;subst h
  subst e
  have:(ms.filter fun m=>!(m.name==mc.name))=ms:=List.filter_eq_self.2 fun m hm=>by simpa using hn m hm
  simp [this]
  exact hs
 |_,_,j+1,p,.cons mc v ms L hr hn hs,h,e=>by
  have h':L[j]? =some p:=by simpa using h
  have hmem:∃m,m∈ms∧m.name=s:=by
   clear hn h
   have:∀{ms:List Macro} {L:List (Bs×Value)} {j:Nat} {p:Bs×Value},McRows R G ms L→L[j]? =some p→∃m,m∈ms∧m.name=p.1:=by
    intro ms L j p hs h
    induction hs generalizing j with
    |nil=>simp at h
    |cons mc v ms L hr hn hs ih=>
     cases j with
     |zero=>simp at h;subst h;exact⟨mc,by simp,rfl⟩
     |succ j=>obtain⟨m,h1,h2⟩:=ih (by simpa using h);exact⟨m,by simp [h1],h2⟩
   obtain⟨m,h1,h2⟩:=this hs h'
   exact⟨m,h1,h2.trans e⟩
  obtain⟨m,hm1,hm2⟩:=hmem
  have hne:(mc.name==s)=false:=by
   have:=hn m hm1
   simp;exact fun e=>this (by rw [hm2,e])
  simp only [List.eraseIdx_cons_succ]
  rw [List.filter_cons_of_pos (by simp [hne])]
  exact .cons mc v _ _ hr (fun m hm=>hn m (List.mem_filter.1 hm).1) (McRows.erase hs h' e)
theorem McRows.keepAll {R:Gh→Macro→Value→Prop} {G:Gh} {s:Bs} {ms:List Macro} {L:List (Bs×Value)} (h:McRows R G ms L) (hn:∀p,p∈L→p.1≠s):(ms.filter fun m=>!(m.name==s))=ms:=by
 induction h with
 |nil=>rfl
 |cons mc v ms L hr hd hs ih=>
  have h1:=hn (mc.name,v) (by simp)
  rw [List.filter_cons_of_pos (by simpa using h1),ih fun p hp=>hn p (by simp [hp])]
theorem qqd (es:Array MapEntry) (j:Nat):(es.eraseIdxIfInBounds j).toList=es.toList.eraseIdx j:=by
 simp [Array.eraseIdxIfInBounds]
 split
 ·simp
 ·rw [List.eraseIdx_of_length_le (by simp;omega)]
theorem qmu (mm:Nat) (es:Array MapEntry) (clock:Nat) (L:List (Bs×Value)) (R:Gh→Macro→Value→Prop) (G:Gh) (ms:List Macro) (t:ByteArray) (hL:es.toList.map (fun e=>(e.key,e.val))=L.map (fun p=>(Value.string ⟨p.1.toArray⟩,p.2))) (hm:McRows R G ms L):
  ∃es' L',(∀w:World,w.heap[mm]? =some (.map es clock)→∀ty,(Builtin.delete_ #[325,9] ty #[.map (some mm),.string t]).run prog w=.ok (.tuple #[]) (setB w mm (.map es' clock)))∧es'.toList.map (fun e=>(e.key,e.val))=L'.map (fun p=>(Value.string ⟨p.1.toArray⟩,p.2))∧McRows R G (ms.filter fun m=>!(m.name==t.data.toList)) L':=by
 rcases qhw t es.toList L 0 hL with⟨e1,e2⟩|⟨j,v,e1,p,e2,e3⟩
 ·refine⟨es,L,fun w hw ty=>?_,hL,by rw [hm.keepAll e2];exact hm⟩
  simp [Builtin.delete_,run_underlying underlying325,go_sem,qa5 mm es clock w hw,qjv,Instr.findKey,run_underlying underlying9,e1,qbn mm es clock _ w hw,Result.andThen]
 ·refine⟨es.eraseIdxIfInBounds j,L.eraseIdx j,fun w hw ty=>?_,?_,hm.erase e2 e3⟩
  ·have e1':Instr.findNow .string (.string t) es.toList 0=some (some (j,v)):=by simpa using e1
   simp [Builtin.delete_,run_underlying underlying325,go_sem,qa5 mm es clock w hw,qjv,Instr.findKey,run_underlying underlying9,e1',qbn mm es clock _ w hw,Result.andThen]
  ·rw [qqd,qcn,hL,qcn]
theorem qgm (xb mm:Nat) (xn:Int) (xtr:Bool) (xtx:ByteArray) (xm:Int) (xa:Option Addr) (xlen xcap:Nat) (es es':Array MapEntry) (clock:Nat) (w:World) (c2:w.cell? ⟨xb,2,none⟩=some (.map (some mm))) (hmm:w.heap[mm]? =some (.map es clock)) (hkw:(Kw.of xtx.data.toList).isSome=false)
  (hD:∀w:World,w.heap[mm]? =some (.map es clock)→∀ty,(Builtin.delete_ #[325,9] ty #[.map (some mm),.string xtx]).run prog w=.ok (.tuple #[]) (setB w mm (.map es' clock))):
  Calls prog 291 #[bp xb,.agg (Dl.cells ⟨3,xn,xtr,xtx,xm,xa,xlen,xcap⟩)] w fun e w'=>e=.returned (.string xtx)∧∃w1,Below w.heap.size w w1∧Lk (setB w1 mm (.map es' clock)) w':=by
 have l2:=qac c2
 have lm:=(Array.getElem?_eq_some_iff.1 hmm).1
 have HM:=hZ hmm
 have HD:=hZ hD
 have HKw:=hZ hkw
 clear hmm hD hkw
 go_enter func291,ntmps291
 go_wp2_with (first|(go_at_call 296;refine(qbt xn xtr xtx xm xa xlen xcap _).mono ?_;rintro e w2 ⟨rfl,hb⟩;have HB2:=hZ hb;clear hb)|(go_at_call 320;refine(qgi xtx _).mono ?_;rintro e w3 ⟨rfl,hl⟩;rw [HKw.out];have HL3:=hZ hl;clear hl;refine Hid.out ?_))
 have hb3:Below w.heap.size w w3:=by
  have h1:Below w.heap.size w w2:=(qab _ _).trans (HB2.out.mono (by simp))
  exact(h1.trans ((bl1 HL3.out).mono h1.size))
 have hbx:w3.heap[w2.heap.size]? =some (.cells #[.string xtx,.int .i64 xm] 382 (0,0)):=by rw [HL3.out.heap];exact heap_alloc_new _ _
 have n0:w3.cell? ⟨w2.heap.size,0,none⟩=some (.string xtx):=by simp only [World.cell?,hbx];rfl
 have k2:w3.cell? ⟨xb,2,none⟩=some (.map (some mm)):=(hb3.cell (p:=⟨xb,2,none⟩) l2).trans c2
 have hm3:w3.heap[mm]? =some (.map es clock):=(hb3.block _ lm).trans HM.out
 have hd3:=HD.out w3.drew hm3
 have hne:w2.heap.size≠mm:=by
  have h1:Below w.heap.size w w2:=(qab _ _).trans (HB2.out.mono (by simp))
  have:=h1.size;omega
 obtain⟨w4,hw4⟩:∃w4,w4=setB w3.drew mm (.map es' clock):=⟨_,rfl⟩
 have n4:w4.cell? ⟨w2.heap.size,0,none⟩=some (.string xtx):=by
  have:w4.heap[w2.heap.size]? =w3.heap[w2.heap.size]?:=by rw [hw4];exact qbl hne
  simp only [World.cell?,this,hbx];rfl
 rw [←hw4]at hd3
 have HB3:=hZ hb3
 have HW4:=hZ hw4
 clear hb3 hbx hm3 hne hw4 HB2 HL3 HD HM
 refine hZ ?_
 go_wp2_with (first|(go_at_call 290;refine(qam _).mono ?_;rintro e w5 ⟨rfl,hww⟩;obtain rfl:=hww.symm))
 go_region
 go_wp2
 go_ret
 exact⟨rfl,w3,HB3.out,by rw [HW4.out];exact⟨rfl,rfl,rfl,rfl⟩⟩
theorem qgn (xb:Nat) (xn:Int) (xtr:Bool) (xtx:ByteArray) (xm:Int) (xa:Option Addr) (xlen xcap:Nat) (w:World) (hkw:(Kw.of xtx.data.toList).isSome=true):
  Calls prog 291 #[bp xb,.agg (Dl.cells ⟨3,xn,xtr,xtx,xm,xa,xlen,xcap⟩)] w fun e w'=>e=.panicked (stopP (stopV 4))∧Below w.heap.size w w':=by
 have HKw:=hZ hkw
 clear hkw
 go_enter func291,ntmps291
 go_wp2_with (first|(go_at_call 296;refine(qbt xn xtr xtx xm xa xlen xcap _).mono ?_;rintro e w2 ⟨rfl,hb⟩;have HB2:=hZ hb;clear hb)|(go_at_call 320;refine(qgi xtx _).mono ?_;rintro e w3 ⟨rfl,hl⟩;rw [HKw.out];have HL3:=hZ hl;clear hl)|(go_at_call 290;refine(qax _).mono ?_;rintro e w5 ⟨rfl,o,rfl⟩))
 have h1:Below w.heap.size w w2:=(qab _ _).trans (HB2.out.mono (by simp))
 have h3:Below w.heap.size w w3:=h1.trans ((bl1 HL3.out).mono h1.size)
 exact⟨rfl,rfl,h3.trans ((qab _ _).mono h3.size)⟩
theorem qcx (xb:Nat) (xk xn:Int) (xtr:Bool) (xtx:ByteArray) (xm:Int) (xa:Option Addr) (xlen xcap:Nat) (w:World) (hk:xk≠3):
  Calls prog 291 #[bp xb,.agg (Dl.cells ⟨xk,xn,xtr,xtx,xm,xa,xlen,xcap⟩)] w fun e w'=>e=.panicked (stopP (stopV 4))∧Below w.heap.size w w':=by
 go_enter func291,ntmps291
 go_wp2_with (first|(go_at_call 296;refine(qgk xk xn xtr xtx xm xa xlen xcap _ hk).mono ?_;rintro e w2 ⟨rfl,hb⟩))
 exact⟨rfl,rfl,(qab _ _).trans (hb.mono (by simp))⟩
end
end Go.Proofs.YtldaocpojcfljaaGreatDoor
