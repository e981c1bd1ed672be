import Derived.Test.YtldaocpojcfljaaGreatDoorC32
import Derived.MapKept
set_option maxRecDepth 100000
set_option maxHeartbeats 4000000
namespace Go.Proofs.YtldaocpojcfljaaGreatDoor
open Tryz hiding parts
open Go.RowKit Go.Shelf
section
open Sc
theorem info382:(prog.info? 382).map (fun i=>(i.zero,i.size,i.bytes))=some (some (.agg #[.string ⟨#[]⟩,.int .i64 0]),2,24):=by kernel_rfl
def idCells (ids:List (ByteArray×Int)):List Value:=ids.flatMap fun p=>[.string p.1,.int .i64 p.2]
theorem qmg (l:List (ByteArray×Int)) (k:Nat) (p:ByteArray×Int) (h:l[k]? =some p):(idCells l)[2*k]? =some (.string p.1)∧(idCells l)[2*k+1]? =some (.int .i64 p.2):=by
 induction l generalizing k with
 |nil=>simp at h
 |cons a r ih=>
  cases k with
  |zero=>simp at h;subst h;simp [idCells]
  |succ k=>
   have:=ih k (by simpa using h)
   simp only [idCells,List.flatMap_cons]at this⊢
   rw [show 2*(k+1)=2*k+2 from by omega,show 2*k+2+1=2*k+1+2 from by omega]
   simpa using this
theorem qkq {w:World} {lo:Nat} {na:Option Addr} {nc:Nat} {ids:List (ByteArray×Int)} (h:w.ownsRow lo 382 2 (.slice na ids.length nc) ids.length (idCells ids)):IdRow w na ids:=by
 intro i p hp
 rcases h.2 with⟨h1,h2⟩|⟨g,cap,cur,h1,hb,hg,hn,hm,hsz,htk⟩
 ·have:=(List.getElem?_eq_some_iff.1 hp).1;omega
 ·cases h1
  obtain⟨a,b⟩:=qmg ids i p hp
  have cc:∀k v,(idCells ids)[k]? =some v→w.cell? ⟨g,k,none⟩=some v:=fun k v hk=>by
   rw [←htk,List.getElem?_take]at hk
   split at hk
   ·simp only [World.cell?,hg];simpa using hk
   ·cases hk
  exact⟨g,rfl,cc _ _ (by rw [Nat.mul_comm];exact a),cc _ _ (by rw [Nat.mul_comm];exact b)⟩
theorem qmf {l:List Dt} {is:List Sc.Id}:idsOf l=some is→is.length=l.length:=by
 induction l generalizing is with
 |nil=>intro h;cases h;rfl
 |cons d r ih=>
  intro h
  cases d with
  |sym t m=>
   simp only [idsOf,Option.map_eq_some_iff]at h
   obtain⟨js,h1,rfl⟩:=h
   simp [ih h1]
  |_=>simp [idsOf]at h
theorem qeu (a b:List Dt):idsOf (a++b)=(idsOf a).bind fun x=>(idsOf b).map fun y=>x++y:=by
 induction a with
 |nil=>simp [idsOf]
 |cons d r ih=>
  cases d with
  |sym t m=>
   simp only [List.cons_append,idsOf,ih]
   cases idsOf r with
   |none=>rfl
   |some x=>cases idsOf b <;> simp
  |_=>simp [idsOf]
theorem qcp (a:List Sc.Id) (i:Sc.Id):Sc.distinct (a++[i])=(Sc.distinct a&&!a.contains i):=by
 induction a with
 |nil=>simp [Sc.distinct]
 |cons j r ih=>
  simp only [List.cons_append,Sc.distinct,ih,List.contains_eq_mem,List.mem_append,List.mem_singleton]
  by_cases h1:j∈r <;> by_cases h2:i∈r <;> by_cases h3:i=j <;> simp [h1,h2,h3] <;> (try (intro h;exact absurd h.symm h3)) <;> (try (intro _ h;exact absurd h.symm h3)) <;> (try (subst h3;simp_all))
theorem qco (a b:List Sc.Id) (h:Sc.distinct (a++b)=true):Sc.distinct a=true:=by
 induction a with
 |nil=>rfl
 |cons j r ih=>
  simp only [List.cons_append,Sc.distinct,Bool.and_eq_true,Bool.not_eq_true',List.contains_eq_mem,decide_eq_false_iff_not,List.mem_append,not_or]at h⊢
  exact⟨h.1.1,ih h.2⟩
def parsOf (l:List Dt):Option (List Sc.Id):=(idsOf l).bind fun is=>if Sc.distinct is then some is else none
theorem qix {l:List Dt} {k:Nat} {is:List Sc.Id} {t:Bs} {m:Int} (hk:l[k]? =some (.sym t m)) (hp:parsOf (l.take k)=some is):parsOf (l.take (k+1))=if is.contains (t,m)then none else some (is++[(t,m)]):=by
 have ht:l.take (k+1)=l.take k++[.sym t m]:=by rw [List.take_add_one,hk];rfl
 unfold parsOf at hp⊢
 rw [ht,qeu]
 cases h:idsOf (l.take k)with
 |none=>rw [h]at hp;cases hp
 |some x=>
  rw [h]at hp
  simp only [Option.bind_some]at hp⊢
  split at hp
  ·rename_i hd
   obtain rfl:x=is:=by simpa using hp
   simp only [idsOf,Option.map_some,Option.bind_some]
   rw [qcp,hd]
   by_cases hc:x.contains (t,m)=true <;> simp
  ·cases hp
theorem qeg {l:List Dt} {k:Nat} (h:parsOf (l.take k)=none):parsOf l=none:=by
 unfold parsOf at h⊢
 rw [←List.take_append_drop k l,qeu]
 cases hx:idsOf (l.take k)with
 |none=>rfl
 |some x=>
  rw [hx]at h
  simp only [Option.bind_some]at h⊢
  cases hy:idsOf (l.drop k)with
  |none=>rfl
  |some y=>
   simp only [Option.map_some,Option.bind_some]
   split
   ·rename_i hd
    rw [qco _ _ hd]at h
    simp at h
   ·rfl
theorem qlt {l:List Dt} {k:Nat} {d:Dt} (hk:l[k]? =some d) (hd:∀t m,d≠.sym t m):parsOf l=none:=by
 have ht:l.take (k+1)=l.take k++[d]:=by rw [List.take_add_one,hk];rfl
 refine qeg (k:=k+1) ?_
 unfold parsOf
 rw [ht,qeu]
 have:idsOf [d]=none:=by
  cases d with
  |sym t m=>exact absurd rfl (hd t m)
  |_=>rfl
 rw [this]
 cases idsOf (l.take k) <;> rfl
def DistP (l:List Dt) (w:World) (e:Ending) (w':World):Prop:=Below w.heap.size w w'∧match parsOf l with
 |some is=>∃na nc ids,e=.returned (.slice na is.length nc)∧ids.map idS=is∧w'.ownsRow w.heap.size 382 2 (.slice na is.length nc) is.length (idCells ids)
 |none=>e=.panicked (stopP (stopV 4))
theorem qjq (l:List Dt) (es:List Dl) (xa:Option Addr) (xlen xcap:Nat) (w:World) (hl:l.length=es.length) (hlen:xlen=es.length) (h100:xlen≤1000000)
  (hsym:∀(i:Nat) (d:Dt) (e:Dl),l[i]? =some d→es[i]? =some e→(e.k=3∧d=.sym e.tx.data.toList e.m)∨(e.k≠3∧∀t m,d≠.sym t m))
  (hrow:∀(i j:Nat) (x:Dl),es[i]? =some x→j<6→∃g o,xa=some ⟨g,o,none⟩∧g<w.heap.size∧w.cell? ⟨g,o+i*6+j,none⟩=x.cells[j]?):
  Calls prog 325 #[.slice xa xlen xcap] w (DistP l w):=by
 obtain⟨i0,hi,hz0',hz1',hz2'⟩:=info_parts info382
 have HL:=hZ hl
 have HLen:=hZ hlen
 have HSym:=hZ hsym
 have HRow:=hZ hrow
 clear hl hlen hsym hrow
 go_enter func325,ntmps325
 go_wp2
 go_loopw [9,3] (fun c s wr=>∃(k:Nat) (na:Option Addr) (nc:Nat) (ids:List (ByteArray×Int)),k≤xlen∧c=.int .i64 (k:Int)∧ids.length=k∧s=.slice na k nc∧parsOf (l.take k)=some (ids.map idS)∧wr.ownsRow w.heap.size 382 2 (.slice na k nc) k (idCells ids)∧Below w.heap.size w wr) (fun c _ _=>xlen-(intOf c).toNat)
 case atStart=>exact⟨0,none,0,[],Nat.zero_le _,rfl,rfl,rfl,rfl,⟨rfl,.inl ⟨rfl,rfl⟩⟩,Below.refl _ _⟩
 case round=>
  obtain⟨k,na,nc,ids,hk,rfl,hil,rfl,hps,hown,hbl⟩:=hrel
  have HIl:=hZ hil
  have HPs:=hZ hps
  have HOwn:=hZ hown
  have HB:=hZ hbl
  clear hil hps hown hbl
  by_cases hlt:k<xlen
  ·have hke:k<es.length:=by rw [←HLen.out];exact hlt
   have hkl:k<l.length:=by rw [HL.out];exact hke
   obtain⟨⟨yk,yn,ytr,ytx,ym,ya,ylen,ycap⟩,hy⟩:∃y,y=es[k]:=⟨_,rfl⟩
   have hey:es[k]? =some ⟨yk,yn,ytr,ytx,ym,ya,ylen,ycap⟩:=by rw [hy];exact List.getElem?_eq_getElem hke
   obtain⟨g,o,rfl,hgw,c00⟩:=HRow.out k 0 _ hey (by omega)
   have cell:∀j,j<6→wr.cell? ⟨g,o+k*6+j,none⟩=(Dl.cells ⟨yk,yn,ytr,ytx,ym,ya,ylen,ycap⟩)[j]?:=fun j hj=>by
    obtain⟨g',o',e1,e2,e3⟩:=HRow.out k j _ hey hj
    cases e1
    exact(HB.out.cell (p:=⟨g,o+k*6+j,none⟩) hgw).trans e3
   have c0:wr.cell? ⟨g,o+k*6,none⟩=some (.int .i64 yk):=cell 0 (by omega)
   have c1:wr.cell? ⟨g,o+k*6+1,none⟩=some (.int .i64 yn):=cell 1 (by omega)
   have c2:wr.cell? ⟨g,o+k*6+2,none⟩=some (.bool ytr):=cell 2 (by omega)
   have c3:wr.cell? ⟨g,o+k*6+3,none⟩=some (.string ytx):=cell 3 (by omega)
   have c4:wr.cell? ⟨g,o+k*6+4,none⟩=some (.int .i64 ym):=cell 4 (by omega)
   have c5:wr.cell? ⟨g,o+k*6+5,none⟩=some (.slice ya ylen ycap):=cell 5 (by omega)
   have hlk:=List.getElem?_eq_getElem hkl
   have hsy:=HSym.out k _ _ hlk hey
   clear cell hy c00 hey
   have hkl':(k:Int)<(xlen:Int):=by omega
   rcases hsy with⟨h3,hsy⟩|⟨h3,hsy⟩
   ·obtain rfl:yk=3:=h3
    rw [hsy]at hlk
    have HSt:=hZ (qix hlk HPs.out)
    have hhas:(ids.map idS).contains (ytx.data.toList,ym)=Has ids ytx ym:=rfl
    have HHas:=hZ hhas
    clear hlk hsy hhas
    go_wp2_with (first|(go_at_call 296;refine(qbt yn ytr ytx ym ya ylen ycap _).mono ?_;rintro e w2 ⟨rfl,hb⟩;refine Hid.out ?_))
    have hb2:Below w.heap.size w w2:=HB.out.trans (((qab _ _).trans (hb.mono (by simp))).mono HB.out.size)
    have hown2:w2.ownsRow w.heap.size 382 2 (.slice na k nc) k (idCells ids):=by
     refine⟨HOwn.out.1,?_⟩
     rcases HOwn.out.2 with h|⟨g2,cap2,cur2,hv,hbb,hg,hr⟩
     ·exact .inl h
     ·exact .inr ⟨g2,cap2,cur2,hv,hbb,by
       have e1:=Below.heap_alloc wr (.cells #[.int .i64 3,.int .i64 yn,.bool ytr,.string ytx,.int .i64 ym,.slice ya ylen ycap] 134) g2 (Array.getElem?_eq_some_iff.1 hg).1
       rw [hb.block _ (by simp;have:=(Array.getElem?_eq_some_iff.1 hg).1;omega),e1];exact hg,hr⟩
    have HB2:=hZ hb2
    have HOwn2:=hZ hown2
    have HC:Hid (∀w',Lk (w2.alloc (.cells #[.string ytx,.int .i64 ym] 382)) w'→Calls prog 362 #[.slice na k nc,.agg #[.string ytx,.int .i64 ym]] w' fun e w3=>e=.returned (.bool (Has ids ytx ym))∧Below w'.heap.size w' w3):=fun w' hw=>by
     have hrr:IdRow w' na ids:=by
      have h1:w2.ownsRow w.heap.size 382 2 (.slice na ids.length nc) ids.length (idCells ids):=by rw [HIl.out];exact HOwn2.out
      intro i p hp
      obtain⟨g5,q1,q2,q3⟩:=qkq h1 i p hp
      exact⟨g5,q1,(qas hw _).trans (qaj q2),(qas hw _).trans (qaj q3)⟩
     have:=qjt ids na nc ytx ym w' hrr (by rw [HIl.out];omega)
     rw [HIl.out]at this;exact this
    have hbox:=heap_alloc_new w2 (.cells #[.string ytx,.int .i64 ym] 382)
    have HBox:=hZ hbox
    clear hb hb2 hown2 hbox HOwn
    cases hh:Has ids ytx ym with
    |true=>
     rw [hh]at HC
     have HH:=hZ hh
     clear hh
     refine hZ ?_
     go_wp2_with (first|(go_at_call 362;refine(HC.out _ (by exact⟨rfl,rfl,rfl,rfl⟩)).mono ?_;rintro e w3 ⟨rfl,hb⟩;have HB3:=hZ hb;clear hb)|(go_at_call 290;refine(qax _).mono ?_;rintro e w4 ⟨rfl,o,rfl⟩))
     have hb3:Below w.heap.size w w3:=HB2.out.trans (((qab _ _).trans (HB3.out.mono (by simp))).mono HB2.out.size)
     refine⟨rfl,hb3.trans ((qab _ _).mono hb3.size),?_⟩
     have:parsOf l=none:=qeg (k:=k+1) (by rw [HSt.out,HHas.out,HH.out];rfl)
     rw [this]
    |false=>
     rw [hh]at HC
     have HH:=hZ hh
     clear hh
     refine hZ ?_
     go_wp2_with (first|(go_at_call 362;refine(HC.out _ (by exact⟨rfl,rfl,rfl,rfl⟩)).mono ?_;rintro e w3 ⟨rfl,hb⟩;refine Hid.out ?_))
     have hb3:Below w.heap.size w w3:=HB2.out.trans (((qab _ _).trans (hb.mono (by simp))).mono HB2.out.size)
     have hbx3:w3.heap[w2.heap.size]? =some (.cells #[.string ytx,.int .i64 ym] 382 (0,0)):=(hb.block _ (by simp)).trans HBox.out
     have n0:w3.cell? ⟨w2.heap.size,0,none⟩=some (.string ytx):=by simp only [World.cell?,hbx3];rfl
     have n1:w3.cell? ⟨w2.heap.size,1,none⟩=some (.int .i64 ym):=by simp only [World.cell?,hbx3];rfl
     have hown3:w3.ownsRow w.heap.size 382 2 (.slice na k nc) k (idCells ids):=by
      refine⟨HOwn2.out.1,?_⟩
      rcases HOwn2.out.2 with h|⟨g2,cap2,cur2,hv,hbb,hg,hr⟩
      ·exact .inl h
      ·exact .inr ⟨g2,cap2,cur2,hv,hbb,by
        have e0:=(Array.getElem?_eq_some_iff.1 hg).1
        rw [hb.block _ (by simp;omega),Below.heap_alloc _ _ _ e0];exact hg,hr⟩
     have HB3:=hZ hb3
     have HOwn3:=hZ hown3
     clear hb hb3 hbx3 hown3 HC HOwn2 HBox
     refine hZ ?_
     go_wp2_with (first|(go_at_call 290;refine(qam _).mono ?_;rintro e w4 ⟨rfl,hww⟩;obtain rfl:=hww.symm)|(at_builtin;refine wpList_append_lies _ rfl _ _ 416 rfl w.heap.size 382 i0 (.agg #[.string ⟨#[]⟩,.int .i64 0]) 2 24 underlying416 hi hz0' hz1' hz2' rfl (by decide) _ _ _ rfl (HOwn3.out.alloc _) ⟨w3.heap.size,0,none⟩ 1 1 [.string ytx,.int .i64 ym] rfl rfl ?c1 ?c2 (by decide) ?c3 ?c4 ?c5 (w3.heap.size+1) ?c6 ?_))
     case c1=>exact World.news_of_block (cs:=#[.string ytx,.int .i64 ym]) (by have:=heap_alloc_new w3 (.cells #[.string ytx,.int .i64 ym] 382);simpa using this)
     case c2=>intro u hu;simp at hu;rcases hu with rfl|rfl <;> rfl
     case c3=>unfold maxLen;omega
     case c4=>omega
     case c5=>have:=HB3.out.size;simp;omega
     case c6=>simp
     intro g4 cap4 w4 hown4 hgrow4 hat4 hlt4
     refine Hid.out ?_
     have hg3:w3.grownBy w4 (Value.slice na k nc).ownBlock:=qbf hgrow4
     have hb4:Below w.heap.size w w4:=⟨hg3.os.trans HB3.out.os,hg3.tape.trans HB3.out.tape,hg3.output.trans HB3.out.output,Nat.le_trans HB3.out.size hg3.size,fun j hj=>by
      rw [hg3.block j (Nat.lt_of_lt_of_le hj HB3.out.size) (fun e=>by have:=(HOwn3.out.lt j e.symm).1;omega)];exact HB3.out.block j hj⟩
     have HB4:=hZ hb4
     have HOwn4:=hZ hown4
     clear hown4 hgrow4 hat4 hlt4 hg3 hb4 HB3 HOwn3
     refine hZ ?_
     go_wp2
     go_roundw
     case rel=>
      refine⟨k+1,some ⟨g4,0,none⟩,cap4,ids++[(ytx,ym)],by omega,by go_num,by simp [HIl.out],rfl,?_,?_,HB4.out⟩
      ·rw [HSt.out,HHas.out,HH.out];simp
      ·have:=HOwn4.out
       simpa [idCells]using this
     case measure=>simp [intOf];omega
   ·have hnot:parsOf l=none:=qlt hlk hsy
    have HNot:=hZ hnot
    clear hlk hsy hnot
    go_wp2_with (first|(go_at_call 296;refine(qgk yk yn ytr ytx ym ya ylen ycap _ h3).mono ?_;rintro e w2 ⟨rfl,hb⟩))
    refine⟨rfl,HB.out.trans (((qab _ _).trans (hb.mono (by simp))).mono HB.out.size),?_⟩
    rw [HNot.out]
  ·have hke:k=xlen:=by omega
   have htk:l.take k=l:=by rw [hke,HLen.out,←HL.out];simp
   have hps:=HPs.out
   rw [htk]at hps
   have HPs2:=hZ hps
   have hnl:¬(k:Int)<(xlen:Int):=by omega
   clear hke htk hps
   go_wp2
   go_ret
   refine⟨HB.out,?_⟩
   rw [HPs2.out]
   exact⟨na,nc,ids,by simp [HIl.out],rfl,by simpa [HIl.out]using HOwn.out⟩
end
section
open Sc
def setB (w:World) (b:Nat) (o:Obj):World:={w with heap:=w.heap.setIfInBounds b o}
theorem qf6 {w:World} {b:Nat} {o x:Obj} (h:w.heap[b]? =some x):(setB w b o).heap[b]? =some o:=by
 have:=(Array.getElem?_eq_some_iff.1 h).1
 simp [setB,this]
theorem qbl {w:World} {b c:Nat} {o:Obj} (h:c≠b):(setB w b o).heap[c]? =w.heap[c]?:=by
 simp [setB,Ne.symm h]
theorem qbw {w:World} {b:Nat} {o:Obj}:(setB w b o).heap.size=w.heap.size:=by simp [setB]
theorem qbn (mp:Nat) (es:Array MapEntry) (clock:Nat) (o:Obj) (w:World) (hw:w.heap[mp]? =some (.map es clock)):(setObj mp o).run prog w=.ok () (setB w mp o):=MapKept.run_setObj_map _ hw
def putI (i:Sc.Id) (v:Value):List (Sc.Id×Value)→List (Sc.Id×Value)
 | []=>[(i,v)]
 |(j,a)::r=>if i=j then(j,v)::r else(j,a)::putI i v r
theorem findI2 (t:ByteArray) (m:Int):∀(es:List MapEntry) (L:List (Sc.Id×Value)) (n:Nat),es.map (fun e=>(e.key,e.val))=L.map (fun p=>(keyV p.1,p.2))→
  ((∀w,(Instr.findAsking 382 (idV t m) es n).run prog w=.ok none w)∧lookI (t.data.toList,m) L=none∧∀v,putI (t.data.toList,m) v L=L++[((t.data.toList,m),v)])∨
  ∃j e0,(∀w,(Instr.findAsking 382 (idV t m) es n).run prog w=.ok (some (n+j,e0.val)) w)∧es[j]? =some e0∧e0.key=idV t m∧lookI (t.data.toList,m) L=some e0.val∧∀v,(es.modify j fun e=>{e with val:=v}).map (fun e=>(e.key,e.val))=(putI (t.data.toList,m) v L).map (fun p=>(keyV p.1,p.2))
 | [],[],n,_=>.inl ⟨fun w=>by simp [Instr.findAsking],rfl,fun _=>rfl⟩
 | [],_::_,n,h=>by simp at h
 |_::_,[],n,h=>by simp at h
 |e::es,(j,v)::L,n,h=>by
  simp only [List.map_cons,List.cons.injEq,Prod.mk.injEq]at h
  obtain⟨⟨h1,h2⟩,h3⟩:=h
  have he:=fun w=>eq382 t ⟨j.1.toArray⟩ m j.2 w
  simp only [qb8]at he
  by_cases hj:(t.data.toList,m)=j
  ·subst hj
   right
   refine⟨0,e,fun w=>?_,rfl,?_,by simp [lookI,h2],fun v=>?_⟩
   ·have he:=he w
    simp [Instr.findAsking,h1,he,h2]
   ·rw [h1]
   ·simp [putI,List.modify,h1,h3]
  ·have hf:(decide (t.data.toList=j.1)&&m==j.2)=false:=by
    by_cases h4:t.data.toList=j.1
    ·have:¬m=j.2:=fun h5=>hj (Prod.ext h4 h5)
     simp [h4,this]
    ·simp [h4]
   simp only [hf]at he
   rcases findI2 t m es L (n+1) h3 with⟨e1,e2,e3⟩|⟨k,e0,e1,e2,e3,e4,e5⟩
   ·left
    exact⟨fun w=>by have he:=he w;simp [Instr.findAsking,h1,he,e1],by simpa [lookI,hj]using e2,fun u=>by simp [putI,hj,e3 u]⟩
   ·right
    refine⟨k+1,e0,fun w=>?_,by simpa using e2,e3,by simpa [lookI,hj]using e4,fun u=>?_⟩
    ·have he:=he w
     simp [Instr.findAsking,h1,he,e1];omega
    ·have:=e5 u
     simp [putI,hj,List.modify_succ_cons,this,h1,h2]
theorem qhx (t:ByteArray) (m:Int) (es:List MapEntry) (L:List (Sc.Id×Value)) (h:es.map (fun e=>(e.key,e.val))=L.map (fun p=>(keyV p.1,p.2))):
  ((∀w,(Instr.findKey 382 (idV t m) es).run prog w=.ok none w)∧lookI (t.data.toList,m) L=none∧∀v,putI (t.data.toList,m) v L=L++[((t.data.toList,m),v)])∨
  ∃j e0,(∀w,(Instr.findKey 382 (idV t m) es).run prog w=.ok (some (j,e0.val)) w)∧es[j]? =some e0∧e0.key=idV t m∧lookI (t.data.toList,m) L=some e0.val∧∀v,(es.modify j fun e=>{e with val:=v}).map (fun e=>(e.key,e.val))=(putI (t.data.toList,m) v L).map (fun p=>(keyV p.1,p.2)):=by
 have fk:∀(w:World) r,(Instr.findAsking 382 (idV t m) es 0).run prog w=.ok r w→(Instr.findKey 382 (idV t m) es).run prog w=.ok r w:=fun w r hr=>by
  cases es with
  |nil=>simp [Instr.findAsking]at hr;subst hr;simp [Instr.findKey,run_underlying underlying382,Instr.findNow]
  |cons e es=>simp [Instr.findKey,run_underlying underlying382,Instr.findNow,Instr.sameNow,hr]
 rcases findI2 t m es L 0 h with⟨e1,e2,e3⟩|⟨j,e0,e1,e2,e3,e4,e5⟩
 ·exact .inl ⟨fun w=>fk w _ (e1 w),e2,e3⟩
 ·exact .inr ⟨j,e0,fun w=>by have:=fk w _ (e1 w);simpa using this,e2,e3,e4,e5⟩
theorem qn0 (t:ByteArray) (m:Int):Instr.sameBits 10000 (idV t m) (idV t m)=true:=by
 have h:(t==t)=true:=by rw [qb8];simp
 simp [Instr.sameBits,h]
theorem qcy {α:Type} (f:α→α):∀(l:List α) (j:Nat) (x:α),x∈l.modify j f→x∈l∨∃y,y∈l∧x=f y
 | [],_,x,h=>by simp at h
 |a::r,0,x,h=>by
  simp [List.modify]at h
  rcases h with rfl|h
  ·exact .inr ⟨a,by simp,rfl⟩
  ·exact .inl (by simp [h])
 |a::r,j+1,x,h=>by
  rw [List.modify_succ_cons]at h
  rcases List.mem_cons.1 h with rfl|h
  ·exact .inl (by simp)
  ·rcases qcy f r j x h with h|⟨y,h1,h2⟩
   ·exact .inl (by simp [h])
   ·exact .inr ⟨y,by simp [h1],h2⟩
theorem qe2 (l:List MapEntry) (j:Nat) (v:Value):(l.modify j fun e=>{e with val:=v}).map (·.born)=l.map (·.born):=by
 induction l generalizing j with
 |nil=>simp
 |cons a r ih=>
  cases j with
  |zero=>simp [List.modify]
  |succ j=>rw [List.modify_succ_cons];simp [ih j]
theorem qmd (l:List MapEntry) (j:Nat) (e0:MapEntry) (h:l[j]? =some e0):(l.modify j fun e=>{e with key:=e0.key})=l:=by
 induction l generalizing j with
 |nil=>simp
 |cons a r ih=>
  cases j with
  |zero=>simp at h;subst h;simp [List.modify]
  |succ j=>rw [List.modify_succ_cons,ih j (by simpa using h)]
theorem qgh (l:List MapEntry) (j:Nat) (e0:MapEntry) (v:Value) (h:l[j]? =some e0):(l.modify j fun e=>{e with key:=e0.key,val:=v})=l.modify j fun e=>{e with val:=v}:=by
 induction l generalizing j with
 |nil=>simp
 |cons a r ih=>
  cases j with
  |zero=>simp at h;subst h;simp [List.modify]
  |succ j=>rw [List.modify_succ_cons,List.modify_succ_cons,ih j (by simpa using h)]
theorem qdy (l:List MapEntry) (hn:(l.map (·.born)).Nodup) (j:Nat) (e0:MapEntry) (h:l[j]? =some e0):l.findIdx? (fun e=>((e.born:Nat):Int)==((e0.born:Nat):Int))=some j:=by
 induction l generalizing j with
 |nil=>simp at h
 |cons a r ih=>
  simp only [List.map_cons,List.nodup_cons]at hn
  cases j with
  |zero=>simp at h;subst h;simp [List.findIdx?_cons]
  |succ j=>
   have h':r[j]? =some e0:=by simpa using h
   have hne:¬(a.born:Int)=(e0.born:Int):=fun e=>hn.1 (List.mem_map.2 ⟨e0,List.mem_of_getElem? h',by omega⟩)
   have hb:((a.born:Int)==(e0.born:Int))=false:=by simpa using hne
   simp only [List.findIdx?_cons,hb]
   rw [ih hn.2 j h']
   rfl
def Stamps (es:Array MapEntry) (clock:Nat):Prop:=(es.toList.map (·.born)).Nodup∧∀e,e∈es.toList→e.born<clock
theorem qe5 (xs:Array MapEntry) (p:MapEntry→Bool):xs.findIdx? p=xs.toList.findIdx? p:=by
 cases xs;simp
theorem entryI (bm:Nat) (es:Array MapEntry) (clock:Nat) (L:List (Sc.Id×Value)) (t:ByteArray) (m:Int) (hL:es.toList.map (fun e=>(e.key,e.val))=L.map (fun p=>(keyV p.1,p.2))) (hs:Stamps es clock):
  ∃(st:Nat) (es1:Array MapEntry) (clock1:Nat),(∀w:World,w.heap[bm]? =some (.map es clock)→(Instr.mapEntry 327 (.map (some bm)) (idV t m)).run prog w=.ok (.tuple #[(lookI (t.data.toList,m) L).getD (.slice none 0 0),.int .i64 (st:Int)]) (setB w bm (.map es1 clock1)))∧
   ∀val,∃es2 clock2,(∀w2:World,w2.heap[bm]? =some (.map es1 clock1)→(Instr.entryStore 327 (.map (some bm)) (.int .i64 (st:Int)) val).run prog w2=.ok () (setB w2 bm (.map es2 clock2)))∧es2.toList.map (fun e=>(e.key,e.val))=(putI (t.data.toList,m) val L).map (fun p=>(keyV p.1,p.2))∧Stamps es2 clock2:=by
 obtain⟨s1,s2⟩:=hs
 have chk:=fun w=>qk0 false t m w
 rcases qhx t m es.toList L hL with⟨e1,e2,e3⟩|⟨j,e0,e1,e2,e3,e4,e5⟩
 ·refine⟨clock,es.push ⟨idV t m,.slice none 0 0,clock⟩,clock+1,fun w hw=>?_,fun val=>⟨es.push ⟨idV t m,val,clock⟩,clock+1,fun w2 hw2=>?_,?_,?_⟩⟩
  ·rw [e2]
   simp [Instr.mapEntry,run_underlying underlying327,go_sem,qa5 bm es clock w hw,chk,e1,qbn bm es clock _ w hw,goInt,Result.andThen]
  ·have hidx:(es.push ⟨idV t m,.slice none 0 0,clock⟩).findIdx? (fun e=>((e.born:Nat):Int)==((clock:Nat):Int))=some es.size:=by
    rw [qe5]
    have:=qdy (es.push ⟨idV t m,.slice none 0 0,clock⟩).toList (by
     simp only [Array.toList_push,List.map_append,List.map_cons,List.map_nil]
     refine List.nodup_append.2 ⟨s1,by simp,fun a ha c hc e=>?_⟩
     simp only [List.mem_singleton]at hc
     obtain⟨x,hx,rfl⟩:=List.mem_map.1 ha
     have:=s2 x hx
     omega) es.size ⟨idV t m,.slice none 0 0,clock⟩ (by simp)
    exact this
   have hmod:(es.push ⟨idV t m,.slice none 0 0,clock⟩).modify es.size (fun e=>{e with val:=val})=es.push ⟨idV t m,val,clock⟩:=by
    apply Array.ext'
    rw [Array.toList_modify,Array.toList_push,Array.toList_push,←Array.length_toList]
    generalize es.toList=l
    induction l with
    |nil=>rfl
    |cons a r ih=>simp [List.modify_succ_cons,ih]
   simp [Instr.entryStore,go_sem,qa5 bm _ _ w2 hw2,asInt,asIntOf,hidx,hmod,qbn bm _ _ _ w2 hw2,Result.andThen]
  ·rw [e3];simp [hL]
  ·refine⟨?_,fun e he=>?_⟩
   ·simp only [Array.toList_push,List.map_append,List.map_cons,List.map_nil]
    refine List.nodup_append.2 ⟨s1,by simp,fun a ha c hc e=>?_⟩
    simp only [List.mem_singleton]at hc
    obtain⟨x,hx,rfl⟩:=List.mem_map.1 ha
    have:=s2 x hx
    omega
   ·simp only [Array.toList_push,List.mem_append,List.mem_singleton]at he
    rcases he with he|rfl
    ·have:=s2 e he;omega
    ·simp
 ·have hj:es[j]? =some e0:=by simpa using e2
  have hsame:es.modify j (fun e=>{e with key:=idV t m})=es:=by
   apply Array.ext'
   rw [Array.toList_modify,←e3,qmd _ _ _ e2]
  have hk:(Instr.keyThatStays (idV t m) (idV t m))=pure (idV t m):=by
   unfold Instr.keyThatStays;rw [qn0];rfl
  refine⟨e0.born,es,clock,fun w hw=>?_,fun val=>⟨es.modify j (fun e=>{e with val:=val}),clock,fun w2 hw2=>?_,?_,?_⟩⟩
  ·rw [e4]
   simp [Instr.mapEntry,run_underlying underlying327,go_sem,qa5 bm es clock w hw,chk,e1,hj,e3,hk,hsame,qbn bm es clock _ w hw,goInt,Result.andThen]
  ·have hidx:es.findIdx? (fun e=>((e.born:Nat):Int)==((e0.born:Nat):Int))=some j:=by
    rw [qe5];exact qdy _ s1 j e0 e2
   simp [Instr.entryStore,go_sem,qa5 bm _ _ w2 hw2,asInt,asIntOf,hidx,qbn bm _ _ _ w2 hw2,Result.andThen]
  ·rw [Array.toList_modify];exact e5 val
  ·refine⟨by rw [Array.toList_modify,qe2];exact s1,fun e he=>?_⟩
   rw [Array.toList_modify]at he
   rcases qcy _ _ _ _ he with h|⟨y,h1,rfl⟩
   ·exact s2 e h
   ·exact s2 y h1
theorem updateI (bm:Nat) (es:Array MapEntry) (clock:Nat) (L:List (Sc.Id×Value)) (t:ByteArray) (m:Int) (hL:es.toList.map (fun e=>(e.key,e.val))=L.map (fun p=>(keyV p.1,p.2))) (hs:Stamps es clock) (hk:(lookI (t.data.toList,m) L).isSome) (val:Value):
  ∃es2:Array MapEntry,(∀w:World,w.heap[bm]? =some (.map es clock)→(Instr.mapUpdate 327 (.map (some bm)) (idV t m) val).run prog w=.ok () (setB w bm (.map es2 clock)))∧es2.toList.map (fun e=>(e.key,e.val))=(putI (t.data.toList,m) val L).map (fun p=>(keyV p.1,p.2))∧Stamps es2 clock:=by
 obtain⟨s1,s2⟩:=hs
 have chk:=fun w=>qk0 false t m w
 rcases qhx t m es.toList L hL with⟨e1,e2,e3⟩|⟨j,e0,e1,e2,e3,e4,e5⟩
 ·rw [e2]at hk;cases hk
 ·have hj:es[j]? =some e0:=by simpa using e2
  have hmod:es.modify j (fun e=>{e with key:=idV t m,val:=val})=es.modify j (fun e=>{e with val:=val}):=by
   apply Array.ext'
   rw [Array.toList_modify,Array.toList_modify,←e3,qgh _ _ _ _ e2]
  have hk:(Instr.keyThatStays (idV t m) (idV t m))=pure (idV t m):=by
   unfold Instr.keyThatStays;rw [qn0];rfl
  refine⟨es.modify j (fun e=>{e with val:=val}),fun w hw=>?_,?_,?_⟩
  ·simp [Instr.mapUpdate,run_underlying underlying327,go_sem,qa5 bm es clock w hw,chk,e1,hj,e3,hk,hmod,qbn bm es clock _ w hw,Result.andThen]
  ·rw [Array.toList_modify];exact e5 val
  ·refine⟨by rw [Array.toList_modify,qe2];exact s1,fun e he=>?_⟩
   rw [Array.toList_modify]at he
   rcases qcy _ _ _ _ he with h|⟨y,h1,rfl⟩
   ·exact s2 e h
   ·exact s2 y h1
end
section
open Sc
theorem qbd {w w':World} {lo e s:Nat} {v:Value} {n:Nat} {xs:List Value} (h:w.ownsRow lo e s v n xs) (hk:∀g,v.ownBlock=some g→w'.heap[g]? =w.heap[g]?):w'.ownsRow lo e s v n xs:=by
 refine⟨h.1,?_⟩
 rcases h.2 with h|⟨g,cap,cur,hv,hb,hg,hr⟩
 ·exact .inl h
 ·exact .inr ⟨g,cap,cur,hv,hb,by rw [hk g (by rw [hv];rfl)];exact hg,hr⟩
abbrev own (L:List (Sc.Id×Value)):List Nat:=L.filterMap (·.2.ownBlock)
theorem qhd {i:Sc.Id} {v:Value}:∀{L:List (Sc.Id×Value)},(L.map (·.1)).Nodup→((putI i v L).map (·.1)).Nodup∧∀j,j∈(putI i v L).map (·.1)→j=i∨j∈L.map (·.1)
 | [],_=>by simp [putI]
 |(j,a)::r,h=>by
  simp only [List.map_cons,List.nodup_cons]at h
  by_cases hj:i=j
  ·subst hj
   simp only [putI,if_pos,List.map_cons,List.nodup_cons]
   exact⟨h,fun k hk=>by rcases List.mem_cons.1 hk with rfl|hk <;> simp_all⟩
  ·obtain⟨h1,h2⟩:=qhd (i:=i) (v:=v) h.2
   simp only [putI,if_neg hj,List.map_cons,List.nodup_cons]
   refine⟨⟨fun hm=>?_,h1⟩,fun k hk=>?_⟩
   ·rcases h2 j hm with rfl|hm
    ·exact hj rfl
    ·exact h.1 hm
   ·rcases List.mem_cons.1 hk with rfl|hk
    ·right;simp
    ·rcases h2 k hk with rfl|hk
     ·exact .inl rfl
     ·right;simp only [List.mem_cons];exact .inr hk
theorem qkg {i:Sc.Id} {v:Value}:∀{L:List (Sc.Id×Value)},(L.map (·.1)).Nodup→∀{p:Sc.Id×Value},p∈putI i v L→p=(i,v)∨(p∈L∧p.1≠i)
 | [],_,p,h=>by simp [putI]at h;exact .inl h
 |(j,a)::r,hn,p,h=>by
  simp only [List.map_cons,List.nodup_cons]at hn
  by_cases hj:i=j
  ·subst hj
   simp only [putI,if_pos]at h
   rcases List.mem_cons.1 h with rfl|h
   ·exact .inl rfl
   ·refine .inr ⟨by simp [h],fun e=>hn.1 ?_⟩
    exact List.mem_map.2 ⟨p,h,e⟩
  ·simp only [putI,if_neg hj]at h
   rcases List.mem_cons.1 h with rfl|h
   ·exact .inr ⟨by simp,fun e=>hj e.symm⟩
   ·rcases qkg hn.2 h with h|⟨h1,h2⟩
    ·exact .inl h
    ·exact .inr ⟨by simp [h1],h2⟩
theorem qhc {i j:Sc.Id} {v:Value}:∀{L:List (Sc.Id×Value)},lookI j (putI i v L)=none→j≠i∧lookI j L=none
 | [],h=>by
  by_cases e:j=i <;> simp [putI,lookI,e]at h
  exact⟨e,rfl⟩
 |(k,a)::r,h=>by
  by_cases hk:i=k
  ·subst hk
   simp only [putI,if_pos,lookI]at h
   by_cases e:j=i
   ·simp [e]at h
   ·simp only [if_neg e]at h
    exact⟨e,by simp [lookI,e,h]⟩
  ·simp only [putI,if_neg hk,lookI]at h
   by_cases e:j=k
   ·simp [e]at h
   ·simp only [if_neg e]at h
    obtain⟨h1,h2⟩:=qhc h
    exact⟨h1,by simp [lookI,e,h2]⟩
theorem qoe {i:Sc.Id} {v:Value} {g:Nat} (hv:v.ownBlock=some g):∀{L:List (Sc.Id×Value)},(L.map (·.1)).Nodup→(own L).Nodup→(∀u,lookI i L=some u→u.ownBlock=some g∨g∉own L)→(lookI i L=none→g∉own L)→
  (own (putI i v L)).Nodup∧∀b,b∈own (putI i v L)→b=g∨b∈own L
 | [],_,_,_,_=>by simp [own,putI,hv]
 |(j,a)::r,hn,ho,h1,h2=>by
  simp only [List.map_cons,List.nodup_cons]at hn
  have hcons:own ((j,a)::r)=(match a.ownBlock with|some b=>b::own r|none=>own r):=by
   simp only [own,List.filterMap_cons]
   cases a.ownBlock <;> rfl
  by_cases hj:i=j
  ·subst hj
   have e1:own (putI i v ((i,a)::r))=g::own r:=by simp [own,putI,hv]
   rw [e1]
   have hl:lookI i ((i,a)::r)=some a:=by simp [lookI]
   have hgr:g∉own r:=by
    rcases h1 a hl with h|h
    ·rw [hcons,h]at ho
     exact(List.nodup_cons.1 ho).1
    ·intro hm
     apply h
     rw [hcons]
     cases a.ownBlock <;> simp [hm]
   have hrn:(own r).Nodup:=by
    rw [hcons]at ho
    cases ha:a.ownBlock <;> rw [ha]at ho
    ·exact ho
    ·exact(List.nodup_cons.1 ho).2
   refine⟨List.nodup_cons.2 ⟨hgr,hrn⟩,fun b hb=>?_⟩
   rcases List.mem_cons.1 hb with rfl|hb
   ·exact .inl rfl
   ·right
    rw [hcons]
    cases a.ownBlock <;> simp [hb]
  ·have hl:lookI i ((j,a)::r)=lookI i r:=by simp [lookI,hj]
   rw [hl]at h1 h2
   have sub:g∉own ((j,a)::r)→g∉own r:=fun h hm=>h (by rw [hcons];cases a.ownBlock <;> simp [hm])
   have hrn:(own r).Nodup:=by
    rw [hcons]at ho
    cases ha:a.ownBlock <;> rw [ha]at ho
    ·exact ho
    ·exact(List.nodup_cons.1 ho).2
   obtain⟨q1,q2⟩:=qoe hv hn.2 hrn (fun u hu=>(h1 u hu).imp id sub) (fun hu=>sub (h2 hu))
   have e1:own (putI i v ((j,a)::r))=(match a.ownBlock with|some b=>b::own (putI i v r)|none=>own (putI i v r)):=by
    simp only [own,putI,if_neg hj,List.filterMap_cons]
    cases a.ownBlock <;> rfl
   rw [e1]
   cases ha:a.ownBlock with
   |none=>
    refine⟨q1,fun b hb=>?_⟩
    rw [hcons,ha]
    exact q2 b hb
   |some c=>
    rw [hcons,ha]at ho
    have hcr:=(List.nodup_cons.1 ho).1
    have hcg:c≠g:=fun e=>by
     subst e
     cases hu:lookI i r with
     |none=>exact h2 hu (by rw [hcons,ha];simp)
     |some u=>
      rcases h1 u hu with h|h
      ·exact hcr (List.mem_filterMap.2 ⟨_,qb5 hu,h⟩)
      ·exact h (by rw [hcons,ha];simp)
    refine⟨List.nodup_cons.2 ⟨fun hm=>?_,q1⟩,fun b hb=>?_⟩
    ·rcases q2 c hm with h|h
     ·exact hcg h
     ·exact hcr h
    ·rw [hcons,ha]
     rcases List.mem_cons.1 hb with rfl|hb
     ·right;simp
     ·rcases q2 b hb with h|h
      ·exact .inl h
      ·right;simp only [List.mem_cons];exact .inr h
def spU (sp:Sc.Id→List (Nat×Nat)) (i:Sc.Id) (p:List (Nat×Nat)):Sc.Id→List (Nat×Nat):=fun j=>if j=i then p else sp j
theorem ScMapF.put {X:Xe} {sp:Sc.Id→List (Nat×Nat)} {w w3 w4:World} {L:List (Sc.Id×Value)} {i:Sc.Id} {p:List (Nat×Nat)} {v:Value} {es2:Array MapEntry} {clock2:Nat} (h:ScMapF X sp w L)
  (hm:w4.heap[X.bm]? =some (.map es2 clock2)) (he:es2.toList.map (fun e=>(e.key,e.val))=(putI i v L).map (fun p=>(keyV p.1,p.2))) (hs:Stamps es2 clock2) (hb:X.bm<X.lo)
  (h4:∀b,b≠X.bm→w4.heap[b]? =w3.heap[b]?)
  (hv:w3.ownsRow X.lo 459 2 v p.length (spotCells p))
  (hk:∀q,q∈L→q.1≠i→∀g,q.2.ownBlock=some g→w3.heap[g]? =w.heap[g]?)
  (hg:∀g,v.ownBlock=some g→(∀u,lookI i L=some u→u.ownBlock=some g∨g∉own L)∧(lookI i L=none→g∉own L)) (hvs:(∃g,v.ownBlock=some g)∨own (putI i v L)=own L):
  ScMapF X (spU sp i p) w4 (putI i v L)∧∀b,b∈own (putI i v L)→v.ownBlock=some b∨b∈own L:=by
 obtain⟨_,hnd,hown,hnone,hbn⟩:=h
 have ho:(own (putI i v L)).Nodup∧∀b,b∈own (putI i v L)→v.ownBlock=some b∨b∈own L:=by
  rcases hvs with⟨g,hvg⟩|heq
  ·obtain⟨a,b⟩:=hg g hvg
   obtain⟨q1,q2⟩:=qoe hvg hnd hbn a b
   exact⟨q1,fun c hc=>(q2 c hc).imp (fun e=>by rw [e];exact hvg) id⟩
  ·rw [heq];exact⟨hbn,fun b hb=>.inr hb⟩
 refine⟨⟨⟨es2,clock2,hm,he,hs.1,hs.2⟩,(qhd hnd).1,fun q hq=>?_,fun j hj=>?_,ho.1⟩,ho.2⟩
 ·rcases qkg hnd hq with rfl|⟨hq,hne⟩
  ·have e1:spU sp i p i=p:=if_pos rfl
   simp only [e1]
   refine qbd hv fun g hgv=>h4 g ?_
   have:=(hv.lt g hgv).1
   omega
  ·have e1:spU sp i p q.1=sp q.1:=if_neg hne
   rw [e1]
   have h0:=hown q hq
   refine qbd h0 fun g hgv=>?_
   have h1:=(h0.lt g hgv).1
   rw [h4 g (by omega),hk q hq hne g hgv]
 ·obtain⟨h1,h2⟩:=qhc hj
  show(if j=i then p else sp j)=[]
  rw [if_neg h1];exact hnone j h2
end
end Go.Proofs.YtldaocpojcfljaaGreatDoor
