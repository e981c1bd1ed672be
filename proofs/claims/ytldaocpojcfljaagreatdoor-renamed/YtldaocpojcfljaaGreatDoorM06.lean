import Derived.Test.YtldaocpojcfljaaGreatDoorM05
import Derived.MapKept
set_option maxRecDepth 100000
set_option maxHeartbeats 4000000
namespace Go.Proofs.YtldaocpojcfljaaGreatDoor
open Tryz hiding parts
open Go.RowKit Go.Shelf
open Sc
variable {G H:Gh}{K:Rl}{S:Sub}{X Y:Xe}{b f g lo n:Nat}{e:Dl}{e':En}{ex:Ex}{k:Int}{l r:List Dt}{m:Mc}{na:OA}{o:Obj}{s t:Bs}{w w' w0 w2 w3 w4:Wd}{x:Xs}{xs:List Vu}
theorem q0j:(prog.info? 382).map (λi=>(i.zero,i.size,i.bytes))=some (some (.agg #[.string ⟨#[]⟩,.int .i64 0]),2,24):=by kernel_rfl
def qcf(ids:List (BA×Int)):List Vu:=ids.flatMap λp=>[.string p.1,.int .i64 p.2]
theorem qqf(l:List (BA×Int))(k:Nat)(p:BA×Int)(h:l[k]? =some p):(qcf l)[2*k]? =some (.string p.1)/\(qcf l)[2*k+1]? =some (.int .i64 p.2):=by
 induction l generalizing k with
 |nil=>simp at h
 |cons a r b=>
  cases k with
  |zero=>simp at h;subst h;simp[qcf]
  |succ k=>
   have:=b k (by simpa using h);simp only[qcf,List.flatMap_cons]at this|-;rw[show 2*(k+1)=2*k+2 from by omega,show 2*k+2+1=2*k+1+2 from by omega];simpa using this
theorem qot{j:Nat}{ids:List (BA×Int)}(h:w.ownsRow lo 382 2 (.slice na ids.length j) ids.length (qcf ids)):IdRow w na ids:=by
 intro i p e;rcases h.2 with⟨f,o⟩|⟨g,cap,l,f,q,m,r,s,n,d⟩
 ·have:=(eL.1 e).1;omega
 ·cases f;obtain⟨a,b⟩:=qqf ids i p e;have cc:∀k v,(qcf ids)[k]? =some v->w.cell? ⟨g,k,none⟩=some v:=λk v c=>by
   rw[<-d,List.getElem?_take]at c;split at c
   ·simp only[World.cell?,m];simpa using c
   ·cases c
  exact⟨g,rfl,cc _ _ (by rw[Nat.mul_comm];exact a),cc _ _ (by rw[Nat.mul_comm];exact b)⟩
theorem qqe{l:List Dt}{a:List Sc.Id}:qcw l=some a->a.length=l.length:=by
 induction l generalizing a with
 |nil=>intro h;cases h;rfl
 |cons d r b=>
  intro h;cases d with
  |sym t m=>
   simp only[qcw,Option.map_eq_some_iff]at h;obtain⟨e,c,rfl⟩:=h;simp[b c]
  |_=>simp[qcw]at h
theorem qhk(a b:List Dt):qcw (a++b)=(qcw a).bind λx=>(qcw b).map λy=>x++y:=by
 induction a with
 |nil=>simp[qcw]
 |cons d r c=>
  cases d with
  |sym t m=>
   simp only[List.cons_append,qcw,c];cases qcw r with
   |none=>rfl
   |some x=>cases qcw b <;> simp
  |_=>simp[qcw]
theorem qd5(a:List Sc.Id)(i:Sc.Id):Sc.distinct (a++[i])=(Sc.distinct a&&!a.contains i):=by
 induction a with
 |nil=>simp[Sc.distinct]
 |cons j r c=>
  simp only[List.cons_append,Sc.distinct,c,List.contains_eq_mem,List.mem_append,List.mem_singleton];by_cases d:j∈r <;> by_cases e:i∈r <;> by_cases b:i=j <;> simp[d,e,b] <;> (try (intro h;exact absurd h.symm b)) <;> (try (intro _ h;exact absurd h.symm b)) <;> (try (subst b;simp_all))
theorem qd4(a b:List Sc.Id)(h:Sc.distinct (a++b)=true):Sc.distinct a=true:=by
 induction a with
 |nil=>rfl
 |cons j r c=>
  simp only[List.cons_append,Sc.distinct,Bool.and_eq_true,Bool.not_eq_true',List.contains_eq_mem,decide_eq_false_iff_not,List.mem_append,not_or]at h|-;exact⟨h.1.1,c h.2⟩
def qcj(l:List Dt):Option (List Sc.Id):=(qcw l).bind λis=>if Sc.distinct is then some is else none
theorem qmk{l:List Dt}{k:Nat}{is:List Sc.Id}{t:Bs}{m:Int}(b:l[k]? =some (.sym t m))(a:qcj (l.take k)=some is):qcj (l.take (k+1))=if is.contains (t,m)then none else some (is++[(t,m)]):=by
 have c:l.take (k+1)=l.take k++[.sym t m]:=by rw[List.take_add_one,b];rfl
 unfold qcj at a|-;rw[c,qhk];cases h:qcw (l.take k)with
 |none=>rw[h]at a;cases a
 |some x=>
  rw[h]at a;simp only[Option.bind_some]at a|-;split at a
  ·rename_i d;obtain rfl:x=is:=by simpa using a
   simp only[qcw,Option.map_some,Option.bind_some];rw[qd5,d];by_cases e:x.contains (t,m)=true <;> simp
  ·cases a
theorem qg3{l:List Dt}{k:Nat}(h:qcj (l.take k)=none):qcj l=none:=by
 unfold qcj at h|-;rw[<-List.take_append_drop k l,qhk];cases hx:qcw (l.take k)with
 |none=>rfl
 |some x=>
  rw[hx]at h;simp only[Option.bind_some]at h|-;cases hy:qcw (l.drop k)with
  |none=>rfl
  |some y=>
   simp only[Option.map_some,Option.bind_some];split
   ·rename_i a;rw[qd4 _ _ a]at h;simp at h
   ·rfl
theorem qpx{l:List Dt}{k:Nat}{d:Dt}(a:l[k]? =some d)(b:∀t m,d≠.sym t m):qcj l=none:=by
 have c:l.take (k+1)=l.take k++[d]:=by rw[List.take_add_one,a];rfl
 refine qg3 (k:=k+1) ?_;unfold qcj;rw[c,qhk];have:qcw [d]=none:=by
  cases d with
  |sym t m=>exact absurd rfl (b t m)
  |_=>rfl
 rw[this];cases qcw (l.take k) <;> rfl
def q6v(l:List Dt)(w:Wd)(e:En)(w':Wd):Prop:=Below w.heap.size w w'/\match qcj l with
 |some is=>∃na nc ids,e=.returned (.slice na is.length nc)/\ids.map idS=is/\w'.ownsRow w.heap.size 382 2 (.slice na is.length nc) is.length (qcf ids)
 |none=>e=.panicked (qan (qap 4))
theorem qne(l:List Dt)(es:List Dl)(xa:OA)(xlen a5:Nat)(w:Wd)(hl:l.length=es.length)(S:xlen=es.length)(d6:xlen<=1000000)
  (T:∀(i:Nat) (d:Dt) (e:Dl),l[i]? =some d->es[i]? =some e->(e.k=3/\d=.sym e.tx.data.toList e.m)\/(e.k≠3/\∀t m,d≠.sym t m))
  (U:∀(i j:Nat) (x:Dl),es[i]? =some x->j<6->∃g o,xa=some ⟨g,o,none⟩/\g<w.heap.size/\w.cell? ⟨g,o+i*6+j,none⟩=x.cells[j]?):
  Calls prog 325 #[.slice xa xlen a5] w (q6v l w):=by
 obtain⟨i0,hi,a6,a7,a8⟩:=info_parts q0j;have HL:=hZ hl;have V:=hZ S;have a9:=hZ T;have W:=hZ U;clear hl S T U;go_enter func325,ntmps325
 go_wp2;go_loopw [9,3] (λc s wr=>∃(k:Nat) (na:OA) (P:Nat) (ids:List (BA×Int)),k<=xlen/\c=.int .i64 (k:Int)/\ids.length=k/\s=.slice na k P/\qcj (l.take k)=some (ids.map idS)/\wr.ownsRow w.heap.size 382 2 (.slice na k P) k (qcf ids)/\Below w.heap.size w wr) (λc _ _=>xlen-(intOf c).toNat)
 case atStart=>exact⟨0,none,0,[],Nat.zero_le _,rfl,rfl,rfl,rfl,⟨rfl,.inl ⟨rfl,rfl⟩⟩,Below.refl _ _⟩
 case round=>
  obtain⟨k,na,P,ids,hk,rfl,b0,rfl,B,X,b1⟩:=hrel;have C:=hZ b0;have b2:=hZ B;have z:=hZ X;have HB:=hZ b1;clear b0 B X b1;by_cases c9:k<xlen
  ·have H:k<es.length:=by rw[<-V.out];exact c9
   have d0:k<l.length:=by rw[HL.out];exact H
   obtain⟨⟨yk,yn,D,a,ym,ya,f,n⟩,hy⟩:∃y,y=es[k]:=⟨_,rfl⟩;have Q:es[k]? =some ⟨yk,yn,D,a,ym,ya,f,n⟩:=by rw[hy];exact eG H
   obtain⟨g,o,rfl,d1,d2⟩:=W.out k 0 _ Q (by omega);have cell:∀j,j<6->wr.cell? ⟨g,o+k*6+j,none⟩=(Dl.cells ⟨yk,yn,D,a,ym,ya,f,n⟩)[j]?:=λj hj=>by
    obtain⟨g',o',e1,e2,e3⟩:=W.out k j _ Q hj;cases e1;exact(HB.out.cell (p:=⟨g,o+k*6+j,none⟩) d1).trans e3
   have c0:wr.cell? ⟨g,o+k*6,none⟩=some (.int .i64 yk):=cell 0 (by omega);have c1:wr.cell? ⟨g,o+k*6+1,none⟩=some (.int .i64 yn):=cell 1 (by omega);have c2:wr.cell? ⟨g,o+k*6+2,none⟩=some (.bool D):=cell 2 (by omega);have c3:wr.cell? ⟨g,o+k*6+3,none⟩=some (.string a):=cell 3 (by omega);have c4:wr.cell? ⟨g,o+k*6+4,none⟩=some (.int .i64 ym):=cell 4 (by omega);have c5:wr.cell? ⟨g,o+k*6+5,none⟩=some (.slice ya f n):=cell 5 (by omega);have E:=eG d0;have r:=a9.out k _ _ E Q;clear cell hy d2 Q;have d7:(k:Int)<(xlen:Int):=by omega
   rcases r with⟨h3,r⟩|⟨h3,r⟩
   ·obtain rfl:yk=3:=h3;rw[r]at E;have b3:=hZ (qmk E b2.out);have Y:(ids.map idS).contains (a.data.toList,ym)=Has ids a ym:=rfl;have Z:=hZ Y;clear E r Y;go_wp2_with (first|(go_at_call 296;refine(qa8 yn D a ym ya f n _).mono ?_;rintro e w2 ⟨rfl,F⟩;refine Hid.out ?_))
    have b4:Below w.heap.size w w2:=HB.out.trans (((qaa _ _).trans (F.mono (by simp))).mono HB.out.size);have I:w2.ownsRow w.heap.size 382 2 (.slice na k P) k (qcf ids):=by
     refine⟨z.out.1,?_⟩;rcases z.out.2 with h|⟨g2,J,K,hv,a3,hg,hr⟩
     ·exact .inl h
     ·exact .inr ⟨g2,J,K,hv,a3,by
       have e1:=eH wr (.cells #[.int .i64 3,.int .i64 yn,.bool D,.string a,.int .i64 ym,.slice ya f n] 134) g2 (eE.1 hg).1;rw[F.block _ (by simp;have:=(eE.1 hg).1;omega),e1];exact hg,hr⟩
    have R:=hZ b4;have q:=hZ I;have HC:Hid (∀w',Lk (w2.alloc (.cells #[.string a,.int .i64 ym] 382)) w'->Calls prog 362 #[.slice na k P,.agg #[.string a,.int .i64 ym]] w' λe w3=>e=.returned (.bool (Has ids a ym))/\Below w'.heap.size w' w3):=λw' hw=>by
     have d3:IdRow w' na ids:=by
      have h1:w2.ownsRow w.heap.size 382 2 (.slice na ids.length P) ids.length (qcf ids):=by rw[C.out];exact q.out
      intro i p hp;obtain⟨g5,q1,q2,q3⟩:=qot h1 i p hp;exact⟨g5,q1,(qaw hw _).trans (qat q2),(qaw hw _).trans (qat q3)⟩
     have:=qnj ids na P a ym w' d3 (by rw[C.out];omega);rw[C.out]at this;exact this
    have a0:=eN w2 (.cells #[.string a,.int .i64 ym] 382);have a1:=hZ a0;clear F b4 I a0 z;cases hh:Has ids a ym with
    |true=>
     rw[hh]at HC;have HH:=hZ hh;clear hh;refine hZ ?_;go_wp2_with (first|(go_at_call 362;refine(HC.out _ (by exact⟨rfl,rfl,rfl,rfl⟩)).mono ?_;rintro e w3 ⟨rfl,F⟩;have b:=hZ F;clear F)|(go_at_call 290;refine(qav _).mono ?_;rintro e w4 ⟨rfl,o,rfl⟩))
     have L:Below w.heap.size w w3:=R.out.trans (((qaa _ _).trans (b.out.mono (by simp))).mono R.out.size);refine⟨rfl,L.trans ((qaa _ _).mono L.size),?_⟩;have:qcj l=none:=qg3 (k:=k+1) (by rw[b3.out,Z.out,HH.out];rfl);rw[this]
    |false=>
     rw[hh]at HC;have HH:=hZ hh;clear hh;refine hZ ?_;go_wp2_with (first|(go_at_call 362;refine(HC.out _ (by exact⟨rfl,rfl,rfl,rfl⟩)).mono ?_;rintro e w3 ⟨rfl,F⟩;refine Hid.out ?_))
     have L:Below w.heap.size w w3:=R.out.trans (((qaa _ _).trans (F.mono (by simp))).mono R.out.size);have M:w3.heap[w2.heap.size]? =some (.cells #[.string a,.int .i64 ym] 382 (0,0)):=(F.block _ (by simp)).trans a1.out;have n0:w3.cell? ⟨w2.heap.size,0,none⟩=some (.string a):=by simp only[World.cell?,M];rfl
     have n1:w3.cell? ⟨w2.heap.size,1,none⟩=some (.int .i64 ym):=by simp only[World.cell?,M];rfl
     have N:w3.ownsRow w.heap.size 382 2 (.slice na k P) k (qcf ids):=by
      refine⟨q.out.1,?_⟩;rcases q.out.2 with h|⟨g2,J,K,hv,a3,hg,hr⟩
      ·exact .inl h
      ·exact .inr ⟨g2,J,K,hv,a3,by
        have e0:=(eE.1 hg).1;rw[F.block _ (by simp;omega),eH _ _ _ e0];exact hg,hr⟩
     have b:=hZ L;have v:=hZ N;clear F L M N HC q a1;refine hZ ?_;go_wp2_with (first|(go_at_call 290;refine(qak _).mono ?_;rintro e w4 ⟨rfl,d4⟩;obtain rfl:=d4.symm)|(at_builtin;refine wpList_append_lies _ rfl _ _ 416 rfl w.heap.size 382 i0 (.agg #[.string ⟨#[]⟩,.int .i64 0]) 2 24 underlying416 hi a6 a7 a8 rfl (by decide) _ _ _ rfl (v.out.alloc _) ⟨w3.heap.size,0,none⟩ 1 1 [.string a,.int .i64 ym] rfl rfl ?c1 ?c2 (by decide) ?c3 ?c4 ?c5 (w3.heap.size+1) ?c6 ?_))
     case c1=>exact World.news_of_block (cs:=#[.string a,.int .i64 ym]) (by have:=eN w3 (.cells #[.string a,.int .i64 ym] 382);simpa using this)
     case c2=>intro u hu;simp at hu;rcases hu with rfl|rfl <;> rfl
     case c3=>unfold maxLen;omega
     case c4=>omega
     case c5=>have:=b.out.size;simp;omega
     case c6=>simp
     intro g4 b5 w4 O A b6 b7;refine Hid.out ?_;have G:w3.grownBy w4 (Value.slice na k P).ownBlock:=qcg A;have b8:Below w.heap.size w w4:=⟨G.os.trans b.out.os,G.tape.trans b.out.tape,G.output.trans b.out.output,eT b.out.size G.size,λj hj=>by
      rw[G.block j (eW hj b.out.size) (λe=>by have:=(v.out.lt j e.symm).1;omega)];exact b.out.block j hj⟩
     have d5:=hZ b8;have a4:=hZ O;clear O A b6 b7 G b8 b v;refine hZ ?_;go_wp2;go_roundw
     case rel=>
      refine⟨k+1,some ⟨g4,0,none⟩,b5,ids++[(a,ym)],by omega,by go_num,by simp[C.out],rfl,?_,?_,d5.out⟩
      ·rw[b3.out,Z.out,HH.out];simp
      ·have:=a4.out;simpa[qcf]using this
     case measure=>simp[intOf];omega
   ·have a2:qcj l=none:=qpx E r;have b9:=hZ a2;clear E r a2;go_wp2_with (first|(go_at_call 296;refine(qe5 yk yn D a ym ya f n _ h3).mono ?_;rintro e w2 ⟨rfl,F⟩))
    refine⟨rfl,HB.out.trans (((qaa _ _).trans (F.mono (by simp))).mono HB.out.size),?_⟩;rw[b9.out]
  ·have H:k=xlen:=by omega
   have c7:l.take k=l:=by rw[H,V.out,<-HL.out];simp
   have B:=b2.out;rw[c7]at B;have c8:=hZ B;have d8:¬(k:Int)<(xlen:Int):=by omega
   clear H c7 B;go_wp2;go_ret;refine⟨HB.out,?_⟩;rw[c8.out];exact⟨na,P,ids,by simp[C.out],rfl,by simpa[C.out]using z.out⟩
def setB(w:Wd)(b:Nat)(o:Obj):Wd:={w with heap:=w.heap.setIfInBounds b o}
theorem qi7{x:Obj}(h:w.heap[b]? =some x):(setB w b o).heap[b]? =some o:=by
 have:=(eE.1 h).1;simp[setB,this]
theorem qb5{c:Nat}(h:c≠b):(setB w b o).heap[c]? =w.heap[c]?:=by
 simp[setB,Ne.symm h]
theorem qcr:(setB w b o).heap.size=w.heap.size:=by simp[setB]
theorem qb0(b:Nat)(es:Array MapEntry)(a:Nat)(o:Obj)(w:Wd)(c:w.heap[b]? =some (.map es a)):(setObj b o).run prog w=.ok () (setB w b o):=MapKept.run_setObj_map _ c
def qc3(i:Sc.Id)(v:Vu):List (Sc.Id×Vu)->List (Sc.Id×Vu)
 | []=>[(i,v)]
 |(j,a)::r=>if i=j then(j,v)::r else(j,a)::qc3 i v r
theorem qx2(t:BA)(m:Int):∀(es:List MapEntry) (L:List (Sc.Id×Vu)) (n:Nat),es.map (λe=>(e.key,e.val))=L.map (λp=>(qop p.1,p.2))->
  ((∀w,(Instr.findAsking 382 (idV t m) es n).run prog w=.ok none w)/\qay (t.data.toList,m) L=none/\∀v,qc3 (t.data.toList,m) v L=L++[((t.data.toList,m),v)])\/
  ∃j b,(∀w,(Instr.findAsking 382 (idV t m) es n).run prog w=.ok (some (n+j,b.val)) w)/\es[j]? =some b/\b.key=idV t m/\qay (t.data.toList,m) L=some b.val/\∀v,(es.modify j λe=>{e with val:=v}).map (λe=>(e.key,e.val))=(qc3 (t.data.toList,m) v L).map (λp=>(qop p.1,p.2))
 | [],[],n,_=>.inl ⟨λw=>by simp[Instr.findAsking],rfl,λ_=>rfl⟩
 | [],_::_,n,h=>by simp at h
 |_::_,[],n,h=>by simp at h
 |e::es,(j,v)::L,n,h=>by
  simp only[List.map_cons,List.cons.injEq,Prod.mk.injEq]at h;obtain⟨⟨c,f⟩,i⟩:=h;have a:=λw=>q23 t ⟨j.1.toArray⟩ m j.2 w
  simp only[qdg]at a;by_cases d:(t.data.toList,m)=j
  ·subst d;right;refine⟨0,e,λw=>?_,rfl,?_,by simp[qay,f],λv=>?_⟩
   ·have a:=a w;simp[Instr.findAsking,c,a,f]
   ·rw[c]
   ·simp[qc3,List.modify,c,i]
  ·have l:(decide (t.data.toList=j.1)&&m==j.2)=false:=by
    by_cases g:t.data.toList=j.1
    ·have:¬m=j.2:=λo=>d (Prod.ext g o)
     simp[g,this]
    ·simp[g]
   simp only[l]at a;rcases qx2 t m es L (n+1) i with⟨e1,e2,e3⟩|⟨k,b,e1,e2,e3,e4,e5⟩
   ·left;exact⟨λw=>by have a:=a w;simp[Instr.findAsking,c,a,e1],by simpa[qay,d]using e2,λu=>by simp[qc3,d,e3 u]⟩
   ·right;refine⟨k+1,b,λw=>?_,by simpa using e2,e3,by simpa[qay,d]using e4,λu=>?_⟩
    ·have a:=a w;simp[Instr.findAsking,c,a,e1];omega
    ·have:=e5 u;simp[qc3,d,List.modify_succ_cons,this,c,f]
theorem qlo(t:BA)(m:Int)(es:List MapEntry)(L:List (Sc.Id×Vu))(h:es.map (λe=>(e.key,e.val))=L.map (λp=>(qop p.1,p.2))):
  ((∀w,(Instr.findKey 382 (idV t m) es).run prog w=.ok none w)/\qay (t.data.toList,m) L=none/\∀v,qc3 (t.data.toList,m) v L=L++[((t.data.toList,m),v)])\/
  ∃j a,(∀w,(Instr.findKey 382 (idV t m) es).run prog w=.ok (some (j,a.val)) w)/\es[j]? =some a/\a.key=idV t m/\qay (t.data.toList,m) L=some a.val/\∀v,(es.modify j λe=>{e with val:=v}).map (λe=>(e.key,e.val))=(qc3 (t.data.toList,m) v L).map (λp=>(qop p.1,p.2)):=by
 have c:∀(w:Wd) r,(Instr.findAsking 382 (idV t m) es 0).run prog w=.ok r w->(Instr.findKey 382 (idV t m) es).run prog w=.ok r w:=λw r b=>by
  cases es with
  |nil=>simp[Instr.findAsking]at b;subst b;simp[Instr.findKey,run_underlying underlying382,Instr.findNow]
  |cons e es=>simp[Instr.findKey,run_underlying underlying382,Instr.findNow,Instr.sameNow,b]
 rcases qx2 t m es L 0 h with⟨e1,e2,e3⟩|⟨j,a,e1,e2,e3,e4,e5⟩
 ·exact .inl ⟨λw=>c w _ (e1 w),e2,e3⟩
 ·exact .inr ⟨j,a,λw=>by have:=c w _ (e1 w);simpa using this,e2,e3,e4,e5⟩
theorem qr2(t:BA)(m:Int):Instr.sameBits 10000 (idV t m) (idV t m)=true:=by
 have h:(t==t)=true:=by rw[qdg];simp
 simp[Instr.sameBits,h]
theorem qen{α:Type}(f:α->α):∀(l:List α) (j:Nat) (x:α),x∈l.modify j f->x∈l\/∃y,y∈l/\x=f y
 | [],_,x,h=>by simp at h
 |a::r,0,x,h=>by
  simp[List.modify]at h;rcases h with rfl|h
  ·exact .inr ⟨a,by simp,rfl⟩
  ·exact .inl (by simp[h])
 |a::r,j+1,x,h=>by
  rw[List.modify_succ_cons]at h;rcases List.mem_cons.1 h with rfl|h
  ·exact .inl (by simp)
  ·rcases qen f r j x h with h|⟨y,b,c⟩
   ·exact .inl (by simp[h])
   ·exact .inr ⟨y,by simp[b],c⟩
theorem qhy(l:List MapEntry)(j:Nat)(v:Vu):(l.modify j λe=>{e with val:=v}).map (·.born)=l.map (·.born):=by
 induction l generalizing j with
 |nil=>simp
 |cons a r b=>
  cases j with
  |zero=>simp[List.modify]
  |succ j=>rw[List.modify_succ_cons];simp[b j]
theorem qqb(l:List MapEntry)(j:Nat)(b:MapEntry)(h:l[j]? =some b):(l.modify j λe=>{e with key:=b.key})=l:=by
 induction l generalizing j with
 |nil=>simp
 |cons a r c=>
  cases j with
  |zero=>simp at h;subst h;simp[List.modify]
  |succ j=>rw[List.modify_succ_cons,c j (by simpa using h)]
theorem qjp(l:List MapEntry)(j:Nat)(b:MapEntry)(v:Vu)(h:l[j]? =some b):(l.modify j λe=>{e with key:=b.key,val:=v})=l.modify j λe=>{e with val:=v}:=by
 induction l generalizing j with
 |nil=>simp
 |cons a r c=>
  cases j with
  |zero=>simp at h;subst h;simp[List.modify]
  |succ j=>rw[List.modify_succ_cons,List.modify_succ_cons,c j (by simpa using h)]
theorem qga(l:List MapEntry)(b:(l.map (·.born)).Nodup)(j:Nat)(e0:MapEntry)(h:l[j]? =some e0):l.findIdx? (λe=>((e.born:Nat):Int)==((e0.born:Nat):Int))=some j:=by
 induction l generalizing j with
 |nil=>simp at h
 |cons a r d=>
  simp only[List.map_cons,List.nodup_cons]at b;cases j with
  |zero=>simp at h;subst h;simp[List.findIdx?_cons]
  |succ j=>
   have c:r[j]? =some e0:=by simpa using h
   have hne:¬(a.born:Int)=(e0.born:Int):=λe=>b.1 (List.mem_map.2 ⟨e0,List.mem_of_getElem? c,by omega⟩)
   have f:((a.born:Int)==(e0.born:Int))=false:=by simpa using hne
   simp only[List.findIdx?_cons,f];rw[d b.2 j c];rfl
def qiy(es:Array MapEntry)(clock:Nat):Prop:=(es.toList.map (·.born)).Nodup/\∀e,e∈es.toList->e.born<clock
theorem qh0(xs:Array MapEntry)(p:MapEntry->Bool):xs.findIdx? p=xs.toList.findIdx? p:=by
 cases xs;simp
theorem q24(d:Nat)(es:Array MapEntry)(b:Nat)(L:List (Sc.Id×Vu))(t:BA)(m:Int)(D:es.toList.map (λe=>(e.key,e.val))=L.map (λp=>(qop p.1,p.2)))(E:qiy es b):
  ∃(st:Nat) (q:Array MapEntry) (f:Nat),(∀w:Wd,w.heap[d]? =some (.map es b)->(Instr.mapEntry 327 (.map (some d)) (idV t m)).run prog w=.ok (.tuple #[(qay (t.data.toList,m) L).getD (.slice none 0 0),.int .i64 (st:Int)]) (setB w d (.map q f)))/\
   ∀val,∃k clock2,(∀w2:Wd,w2.heap[d]? =some (.map q f)->(Instr.entryStore 327 (.map (some d)) (.int .i64 (st:Int)) val).run prog w2=.ok () (setB w2 d (.map k clock2)))/\k.toList.map (λe=>(e.key,e.val))=(qc3 (t.data.toList,m) val L).map (λp=>(qop p.1,p.2))/\qiy k clock2:=by
 obtain⟨s1,s⟩:=E;have u:=λw=>qo4 false t m w
 rcases qlo t m es.toList L D with⟨e1,e2,e3⟩|⟨j,e0,e1,e2,e3,e4,e5⟩
 ·refine⟨b,es.push ⟨idV t m,.slice none 0 0,b⟩,b+1,λw v=>?_,λval=>⟨es.push ⟨idV t m,val,b⟩,b+1,λw2 g=>?_,?_,?_⟩⟩
  ·rw[e2];simp[Instr.mapEntry,run_underlying underlying327,go_sem,qa4 d es b w v,u,e1,qb0 d es b _ w v,goInt,Result.andThen]
  ·have i:(es.push ⟨idV t m,.slice none 0 0,b⟩).findIdx? (λe=>((e.born:Nat):Int)==((b:Nat):Int))=some es.size:=by
    rw[qh0];have:=qga (es.push ⟨idV t m,.slice none 0 0,b⟩).toList (by
     simp only[Array.toList_push,List.map_append,List.map_cons,List.map_nil];refine List.nodup_append.2 ⟨s1,by simp,λa A c B e=>?_⟩;simp only[List.mem_singleton]at B;obtain⟨x,C,rfl⟩:=List.mem_map.1 A;have:=s x C;omega) es.size ⟨idV t m,.slice none 0 0,b⟩ (by simp)
    exact this
   have z:(es.push ⟨idV t m,.slice none 0 0,b⟩).modify es.size (λe=>{e with val:=val})=es.push ⟨idV t m,val,b⟩:=by
    apply Array.ext';rw[Array.toList_modify,Array.toList_push,Array.toList_push,<-Array.length_toList];generalize es.toList=l;induction l with
    |nil=>rfl
    |cons a r F=>simp[List.modify_succ_cons,F]
   simp[Instr.entryStore,go_sem,qa4 d _ _ w2 g,asInt,asIntOf,i,z,qb0 d _ _ _ w2 g,Result.andThen]
  ·rw[e3];simp[D]
  ·refine⟨?_,λe n=>?_⟩
   ·simp only[Array.toList_push,List.map_append,List.map_cons,List.map_nil];refine List.nodup_append.2 ⟨s1,by simp,λa A c B e=>?_⟩;simp only[List.mem_singleton]at B;obtain⟨x,C,rfl⟩:=List.mem_map.1 A;have:=s x C;omega
   ·simp only[Array.toList_push,List.mem_append,List.mem_singleton]at n;rcases n with n|rfl
    ·have:=s e n;omega
    ·simp
 ·have G:es[j]? =some e0:=by simpa using e2
  have o:es.modify j (λe=>{e with key:=idV t m})=es:=by
   apply Array.ext';rw[Array.toList_modify,<-e3,qqb _ _ _ e2]
  have H:(Instr.keyThatStays (idV t m) (idV t m))=pure (idV t m):=by
   unfold Instr.keyThatStays;rw[qr2];rfl
  refine⟨e0.born,es,b,λw v=>?_,λval=>⟨es.modify j (λe=>{e with val:=val}),b,λw2 g=>?_,?_,?_⟩⟩
  ·rw[e4];simp[Instr.mapEntry,run_underlying underlying327,go_sem,qa4 d es b w v,u,e1,G,e3,H,o,qb0 d es b _ w v,goInt,Result.andThen]
  ·have i:es.findIdx? (λe=>((e.born:Nat):Int)==((e0.born:Nat):Int))=some j:=by
    rw[qh0];exact qga _ s1 j e0 e2
   simp[Instr.entryStore,go_sem,qa4 d _ _ w2 g,asInt,asIntOf,i,qb0 d _ _ _ w2 g,Result.andThen]
  ·rw[Array.toList_modify];exact e5 val
  ·refine⟨by rw[Array.toList_modify,qhy];exact s1,λe n=>?_⟩;rw[Array.toList_modify]at n;rcases qen _ _ _ _ n with h|⟨y,I,rfl⟩
   ·exact s e h
   ·exact s y I
theorem qyj(b:Nat)(es:Array MapEntry)(clock:Nat)(L:List (Sc.Id×Vu))(t:BA)(m:Int)(l:es.toList.map (λe=>(e.key,e.val))=L.map (λp=>(qop p.1,p.2)))(n:qiy es clock)(d:(qay (t.data.toList,m) L).isSome)(val:Vu):
  ∃a:Array MapEntry,(∀w:Wd,w.heap[b]? =some (.map es clock)->(Instr.mapUpdate 327 (.map (some b)) (idV t m) val).run prog w=.ok () (setB w b (.map a clock)))/\a.toList.map (λe=>(e.key,e.val))=(qc3 (t.data.toList,m) val L).map (λp=>(qop p.1,p.2))/\qiy a clock:=by
 obtain⟨s1,g⟩:=n;have f:=λw=>qo4 false t m w
 rcases qlo t m es.toList L l with⟨e1,e2,e3⟩|⟨j,e0,e1,e2,e3,e4,e5⟩
 ·rw[e2]at d;cases d
 ·have o:es[j]? =some e0:=by simpa using e2
  have c:es.modify j (λe=>{e with key:=idV t m,val:=val})=es.modify j (λe=>{e with val:=val}):=by
   apply Array.ext';rw[Array.toList_modify,Array.toList_modify,<-e3,qjp _ _ _ _ e2]
  have d:(Instr.keyThatStays (idV t m) (idV t m))=pure (idV t m):=by
   unfold Instr.keyThatStays;rw[qr2];rfl
  refine⟨es.modify j (λe=>{e with val:=val}),λw i=>?_,?_,?_⟩
  ·simp[Instr.mapUpdate,run_underlying underlying327,go_sem,qa4 b es clock w i,f,e1,o,e3,d,c,qb0 b es clock _ w i,Result.andThen]
  ·rw[Array.toList_modify];exact e5 val
  ·refine⟨by rw[Array.toList_modify,qhy];exact s1,λe k=>?_⟩;rw[Array.toList_modify]at k;rcases qen _ _ _ _ k with h|⟨y,q,rfl⟩
   ·exact g e h
   ·exact g y q
theorem qbr{e s:Nat}{v:Vu}(h:w.ownsRow lo e s v n xs)(c:∀g,v.ownBlock=some g->w'.heap[g]? =w.heap[g]?):w'.ownsRow lo e s v n xs:=by
 refine⟨h.1,?_⟩;rcases h.2 with h|⟨g,cap,a,b,d,f,i⟩
 ·exact .inl h
 ·exact .inr ⟨g,cap,a,b,d,by rw[c g (by rw[b];rfl)];exact f,i⟩
abbrev own(L:List (Sc.Id×Vu)):List Nat:=L.filterMap (·.2.ownBlock)
theorem qkz{i:Sc.Id}{v:Vu}:∀{L:List (Sc.Id×Vu)},(L.map (·.1)).Nodup->((qc3 i v L).map (·.1)).Nodup/\∀j,j∈(qc3 i v L).map (·.1)->j=i\/j∈L.map (·.1)
 | [],_=>by simp[qc3]
 |(j,a)::r,h=>by
  simp only[List.map_cons,List.nodup_cons]at h;by_cases b:i=j
  ·subst b;simp only[qc3,if_pos,List.map_cons,List.nodup_cons];exact⟨h,λk hk=>by rcases List.mem_cons.1 hk with rfl|hk <;> simp_all⟩
  ·obtain⟨d,c⟩:=qkz (i:=i) (v:=v) h.2;simp only[qc3,if_neg b,List.map_cons,List.nodup_cons];refine⟨⟨λhm=>?_,d⟩,λk hk=>?_⟩
   ·rcases c j hm with rfl|hm
    ·exact b rfl
    ·exact h.1 hm
   ·rcases List.mem_cons.1 hk with rfl|hk
    ·right;simp
    ·rcases c k hk with rfl|hk
     ·exact .inl rfl
     ·right;simp only[List.mem_cons];exact .inr hk
theorem qod{i:Sc.Id}{v:Vu}:∀{L:List (Sc.Id×Vu)},(L.map (·.1)).Nodup->∀{p:Sc.Id×Vu},p∈qc3 i v L->p=(i,v)\/(p∈L/\p.1≠i)
 | [],_,p,h=>by simp[qc3]at h;exact .inl h
 |(j,a)::r,hn,p,h=>by
  simp only[List.map_cons,List.nodup_cons]at hn;by_cases b:i=j
  ·subst b;simp only[qc3,if_pos]at h;rcases List.mem_cons.1 h with rfl|h
   ·exact .inl rfl
   ·refine .inr ⟨by simp[h],λe=>hn.1 ?_⟩;exact List.mem_map.2 ⟨p,h,e⟩
  ·simp only[qc3,if_neg b]at h;rcases List.mem_cons.1 h with rfl|h
   ·exact .inr ⟨by simp,λe=>b e.symm⟩
   ·rcases qod hn.2 h with h|⟨c,d⟩
    ·exact .inl h
    ·exact .inr ⟨by simp[c],d⟩
theorem qky{i j:Sc.Id}{v:Vu}:∀{L:List (Sc.Id×Vu)},qay j (qc3 i v L)=none->j≠i/\qay j L=none
 | [],h=>by
  by_cases e:j=i <;> simp[qc3,qay,e]at h
  exact⟨e,rfl⟩
 |(k,a)::r,h=>by
  by_cases b:i=k
  ·subst b;simp only[qc3,if_pos,qay]at h;by_cases e:j=i
   ·simp[e]at h
   ·simp only[if_neg e]at h;exact⟨e,by simp[qay,e,h]⟩
  ·simp only[qc3,if_neg b,qay]at h;by_cases e:j=k
   ·simp[e]at h
   ·simp only[if_neg e]at h;obtain⟨c,d⟩:=qky h;exact⟨c,by simp[qay,e,d]⟩
theorem qsk{i:Sc.Id}{v:Vu}{g:Nat}(n:v.ownBlock=some g):∀{L:List (Sc.Id×Vu)},(L.map (·.1)).Nodup->(own L).Nodup->(∀u,qay i L=some u->u.ownBlock=some g\/g∉own L)->(qay i L=none->g∉own L)->
  (own (qc3 i v L)).Nodup/\∀b,b∈own (qc3 i v L)->b=g\/b∈own L
 | [],_,_,_,_=>by simp[own,qc3,n]
 |(j,a)::r,hn,ho,h1,h2=>by
  simp only[List.map_cons,List.nodup_cons]at hn;have d:own ((j,a)::r)=(match a.ownBlock with|some b=>b::own r|none=>own r):=by
   simp only[own,List.filterMap_cons];cases a.ownBlock <;> rfl
  by_cases o:i=j
  ·subst o;have e1:own (qc3 i v ((i,a)::r))=g::own r:=by simp[own,qc3,n]
   rw[e1];have p:qay i ((i,a)::r)=some a:=by simp[qay]
   have q:g∉own r:=by
    rcases h1 a p with h|h
    ·rw[d,h]at ho;exact(List.nodup_cons.1 ho).1
    ·intro l;apply h;rw[d];cases a.ownBlock <;> simp[l]
   have f:(own r).Nodup:=by
    rw[d]at ho;cases ha:a.ownBlock <;> rw[ha]at ho
    ·exact ho
    ·exact(List.nodup_cons.1 ho).2
   refine⟨List.nodup_cons.2 ⟨q,f⟩,λb hb=>?_⟩;rcases List.mem_cons.1 hb with rfl|hb
   ·exact .inl rfl
   ·right;rw[d];cases a.ownBlock <;> simp[hb]
  ·have p:qay i ((j,a)::r)=qay i r:=by simp[qay,o]
   rw[p]at h1 h2;have sub:g∉own ((j,a)::r)->g∉own r:=λh l=>h (by rw[d];cases a.ownBlock <;> simp[l])
   have f:(own r).Nodup:=by
    rw[d]at ho;cases ha:a.ownBlock <;> rw[ha]at ho
    ·exact ho
    ·exact(List.nodup_cons.1 ho).2
   obtain⟨w,s⟩:=qsk n hn.2 f (λu k=>(h1 u k).imp id sub) (λk=>sub (h2 k));have e1:own (qc3 i v ((j,a)::r))=(match a.ownBlock with|some b=>b::own (qc3 i v r)|none=>own (qc3 i v r)):=by
    simp only[own,qc3,if_neg o,List.filterMap_cons];cases a.ownBlock <;> rfl
   rw[e1];cases ha:a.ownBlock with
   |none=>
    refine⟨w,λb hb=>?_⟩;rw[d,ha];exact s b hb
   |some c=>
    rw[d,ha]at ho;have m:=(List.nodup_cons.1 ho).1;have t:c≠g:=λe=>by
     subst e;cases k:qay i r with
     |none=>exact h2 k (by rw[d,ha];simp)
     |some u=>
      rcases h1 u k with h|h
      ·exact m (List.mem_filterMap.2 ⟨_,qdc k,h⟩)
      ·exact h (by rw[d,ha];simp)
    refine⟨List.nodup_cons.2 ⟨λl=>?_,w⟩,λb hb=>?_⟩
    ·rcases s c l with h|h
     ·exact t h
     ·exact m h
    ·rw[d,ha];rcases List.mem_cons.1 hb with rfl|hb
     ·right;simp
     ·rcases s b hb with h|h
      ·exact .inl h
      ·right;simp only[List.mem_cons];exact .inr h
def spU(sp:Sc.Id->List (Nat×Nat))(i:Sc.Id)(p:List (Nat×Nat)):Sc.Id->List (Nat×Nat):=λj=>if j=i then p else sp j
theorem ScMapF.put{sp:Sc.Id->List (Nat×Nat)}{L:List (Sc.Id×Vu)}{i:Sc.Id}{p:List (Nat×Nat)}{v:Vu}{f:Array MapEntry}{d:Nat}(h:ScMapF X sp w L)
  (E:w4.heap[X.bm]? =some (.map f d))(F:f.toList.map (λe=>(e.key,e.val))=(qc3 i v L).map (λp=>(qop p.1,p.2)))(x:qiy f d)(y:X.bm<X.lo)
  (z:∀b,b≠X.bm->w4.heap[b]? =w3.heap[b]?)
  (A:w3.ownsRow X.lo 459 2 v p.length (qaz p))
  (G:∀q,q∈L->q.1≠i->∀g,q.2.ownBlock=some g->w3.heap[g]? =w.heap[g]?)
  (H:∀g,v.ownBlock=some g->(∀u,qay i L=some u->u.ownBlock=some g\/g∉own L)/\(qay i L=none->g∉own L))(t:(∃g,v.ownBlock=some g)\/own (qc3 i v L)=own L):
  ScMapF X (spU sp i p) w4 (qc3 i v L)/\∀b,b∈own (qc3 i v L)->v.ownBlock=some b\/b∈own L:=by
 obtain⟨_,l,o,m,r⟩:=h;have B:(own (qc3 i v L)).Nodup/\∀b,b∈own (qc3 i v L)->v.ownBlock=some b\/b∈own L:=by
  rcases t with⟨g,n⟩|heq
  ·obtain⟨a,b⟩:=H g n;obtain⟨I,J⟩:=qsk n l r a b;exact⟨I,λc K=>(J c K).imp (λe=>by rw[e];exact n) id⟩
  ·rw[heq];exact⟨r,λb y=>.inr y⟩
 refine⟨⟨⟨f,d,E,F,x.1,x.2⟩,(qkz l).1,λq s=>?_,λj M=>?_,B.1⟩,B.2⟩
 ·rcases qod l s with rfl|⟨s,hne⟩
  ·have e1:spU sp i p i=p:=if_pos rfl;simp only[e1];refine qbr A λg k=>z g ?_
   have:=(A.lt g k).1;omega
  ·have e1:spU sp i p q.1=sp q.1:=if_neg hne;rw[e1];have C:=o q s;refine qbr C λg k=>?_
   have D:=(C.lt g k).1;rw[z g (by omega),G q s hne g k]
 ·obtain⟨D,N⟩:=qky M;show(if j=i then p else sp j)=[];rw[if_neg D];exact m j N
theorem q0g:(prog.info? 459).map (λi=>(i.zero,i.size,i.bytes))=some (some (.agg #[.int .i64 0,.int .i64 0]),2,16):=by kernel_rfl
structure Tw (X:Xe) (O:Nat->Prop) (w w':Wd):Prop where
 os:w'.os=w.os
 tape:w'.tape=w.tape
 output:w'.output=w.output
 size:w.heap.size<=w'.heap.size
 blk:∀{k:Nat},k<w.heap.size->k≠X.ab->k≠X.bm->¬O k->w'.heap[k]? =w.heap[k]?
theorem Tw.cell{O:Nat->Prop}(h:Tw X O w w'){o:Nat}{v:Vu}(a:w.cell? ⟨b,o,none⟩=some v)(c:b≠X.ab)(d:b≠X.bm)(e:¬O b):w'.cell? ⟨b,o,none⟩=some v:=by
 have:=h.blk (qae a) c d e;simp only[World.cell?,this]at a|-;exact a
def q64(X:Xe)(sp:Sc.Id->List (Nat×Nat))(L:List (Sc.Id×Vu))(i:Sc.Id)(p:Nat×Nat)(_O:Nat->Prop)(_w0 w:Wd)(w':Wd):Prop:=
 ∃L',ScMapF X (spU sp i (sp i++[p])) w' L'/\(∀b,b∈own L'->b∈own L\/w.heap.size<=b)/\(w'.os=w.os/\w'.tape=w.tape/\w'.output=w.output/\w.heap.size<=w'.heap.size/\∀k,k<w.heap.size->k≠X.bm->k∉own L->w'.heap[k]? =w.heap[k]?)
theorem qeu(a b:List (Nat×Nat)):qaz (a++b)=qaz a++qaz b:=by simp[qaz]
theorem qoj{X:Xe}{sp:Sc.Id->List (Nat×Nat)}{w:Wd}{L:List (Sc.Id×Vu)}(h:ScMapF X sp w L)(i:Sc.Id):w.ownsRow X.lo 459 2 ((qay i L).getD (.slice none 0 0)) (sp i).length (qaz (sp i)):=by
 cases hl:qay i L with
 |some v=>exact h.2.2.1 _ (qdc hl)
 |none=>rw[h.2.2.2.1 i hl];exact⟨rfl,.inl ⟨rfl,rfl⟩⟩
theorem qw6{sp:Sc.Id->List (Nat×Nat)}{z:Wd}{L:List (Sc.Id×Vu)}{t:BA}{m:Int}{p:Nat×Nat}{O:Nat->Prop}{K:Array MapEntry}{r:Nat}{cap:Nat}{o:Array MapEntry}{d:Nat}
  (h:ScMapF X sp w L)(hb:X.bm<X.lo)(_:X.lo<=w.heap.size)
  (h2:z.os=w.os/\z.tape=w.tape/\z.output=w.output/\w.heap.size<=z.heap.size/\∀k,k<w.heap.size->k≠X.bm->z.heap[k]? =w.heap[k]?)
  (N:w3.heap[X.bm]? =some (.map K r))
  (P:o.toList.map (λe=>(e.key,e.val))=(qc3 (t.data.toList,m) (.slice (some ⟨g,0,none⟩) ((sp (t.data.toList,m)).length+1) cap) L).map (λp=>(qop p.1,p.2)))(hs:qiy o d)
  (C:w3.ownsRow X.lo 459 2 (.slice (some ⟨g,0,none⟩) ((sp (t.data.toList,m)).length+1) cap) ((sp (t.data.toList,m)).length+1) (qaz (sp (t.data.toList,m))++[.int .i64 (p.1:Int),.int .i64 (p.2:Int)]))
  (l:z.grownBy w3 ((qay (t.data.toList,m) L).getD (.slice none 0 0)).ownBlock)(D:((qay (t.data.toList,m) L).getD (.slice none 0 0)).ownBlock=some g\/g=z.heap.size)(w':Wd)(H:Lk (setB w3 X.bm (.map o d)) w'):
  q64 X sp L (t.data.toList,m) p O w0 w w':=by
 obtain⟨a1,a2,a3,a4,Z⟩:=h2;have hne:∀b,b≠X.bm->(setB w3 X.bm (.map o d)).heap[b]? =w3.heap[b]?:=λb f=>qb5 f
 have E:∀u,qay (t.data.toList,m) L=some u->∀c,u.ownBlock=some c->c∈own L:=λu hu c n=>List.mem_filterMap.2 ⟨_,qdc hu,n⟩
 have F:∀c,c∈own L->X.lo<=c/\c<w.heap.size:=λc n=>by
  obtain⟨q,I,P⟩:=List.mem_filterMap.1 n;exact(h.2.2.1 q I).lt c P
 have s:∀c,((qay (t.data.toList,m) L).getD (.slice none 0 0)).ownBlock=some c->c∈own L:=λc n=>by
  cases hl:qay (t.data.toList,m) L with
  |none=>rw[hl]at n;cases n
  |some u=>rw[hl]at n;exact E u hl c n
 have hg:∀c,Value.ownBlock (.slice (some ⟨g,0,none⟩) ((sp (t.data.toList,m)).length+1) cap)=some c->(∀u,qay (t.data.toList,m) L=some u->u.ownBlock=some c\/c∉own L)/\(qay (t.data.toList,m) L=none->c∉own L):=λc n=>by
  obtain rfl:g=c:=by simpa[Value.ownBlock]using n
  rcases D with h1|h1
  ·cases hl:qay (t.data.toList,m) L with
   |none=>rw[hl]at h1;cases h1
   |some u=>rw[hl]at h1;exact⟨λu' Q=>by cases Q;exact .inl h1,nofun⟩
  ·have:g∉own L:=λhm=>by have:=F g hm;omega
   exact⟨λ_ _=>.inr this,λ_=>this⟩
 have hp:(sp (t.data.toList,m)++[p]).length=(sp (t.data.toList,m)).length+1:=by simp
 have R:qaz (sp (t.data.toList,m)++[p])=qaz (sp (t.data.toList,m))++[.int .i64 (p.1:Int),.int .i64 (p.2:Int)]:=by rw[qeu];simp[qaz]
 have J:w'.heap=(setB w3 X.bm (.map o d)).heap:=H.heap;obtain⟨q1,q2⟩:=h.put (w3:=w3) (w4:=w') (i:=(t.data.toList,m)) (p:=sp (t.data.toList,m)++[p]) (v:=.slice (some ⟨g,0,none⟩) ((sp (t.data.toList,m)).length+1) cap) (by rw[J];exact qi7 N) P hs hb (λb f=>by rw[J];exact hne b f) (by rw[hp,R];exact C)
  (λq I S c n=>by
   have T:c∈own L:=List.mem_filterMap.2 ⟨_,I,n⟩;have U:=F c T;rw[l.block c (by omega) (λe=>?_),Z c U.2 (by omega)];cases hl:qay (t.data.toList,m) L with
   |none=>rw[hl]at e;cases e
   |some u=>
    rw[hl]at e;have e:some c=u.ownBlock:=e;have V:=h.2.2.2.2;have:∀(M:List (Sc.Id×Vu)),(own M).Nodup->∀a b,a∈M->b∈M->a.2.ownBlock=some c->b.2.ownBlock=some c->a=b:=by
     intro M;induction M with
     |nil=>intro _ a b W;cases W
     |cons x M ih=>
      intro y a b W f A B;have j:own (x::M)=(match x.2.ownBlock with|some b=>b::own M|none=>own M):=by
       simp only[own,List.filterMap_cons];cases x.2.ownBlock <;> rfl
      rcases List.mem_cons.1 W with rfl|ha2
      ·rcases List.mem_cons.1 f with rfl|hb2
       ·rfl
       ·rw[j,A]at y;exact absurd (List.mem_filterMap.2 ⟨_,hb2,B⟩) (List.nodup_cons.1 y).1
      ·rcases List.mem_cons.1 f with rfl|hb2
       ·rw[j,B]at y;exact absurd (List.mem_filterMap.2 ⟨_,ha2,A⟩) (List.nodup_cons.1 y).1
       ·refine ih ?_ a b ha2 hb2 A B;rw[j]at y;cases hx:x.2.ownBlock <;> rw[hx]at y
        ·exact y
        ·exact(List.nodup_cons.1 y).2
    have:=this L V q ((t.data.toList,m),u) I (qdc hl) n e.symm;exact S (by rw[this])) hg (.inl ⟨g,rfl⟩)
 refine⟨_,q1,λb f=>?_,H.os.trans (l.os.trans a1),H.tape.trans (l.tape.trans a2),H.output.trans (l.output.trans a3),?_,λk hk G Y=>?_⟩
 ·rcases q2 b f with e|e
  ·obtain rfl:g=b:=by simpa[Value.ownBlock]using e
   rcases D with h1|h1
   ·exact .inl (s _ h1)
   ·right;omega
  ·exact .inl e
 ·rw[J,qcr];exact eT a4 l.size
 ·rw[J,hne k G,l.block k (by omega) (λe=>Y (s k e.symm)),Z k hk G]
def spN(sp:Sc.Id->List (Nat×Nat))(l:List Sc.Id)(d:Nat):Sc.Id->List (Nat×Nat):=λj=>sp j++(match qbl j l with|some n=>[(d,n)]|none=>[])
theorem qip(j i:Sc.Id):∀l:List Sc.Id,qbl j (l++[i])=match qbl j l with|some n=>some n|none=>if i=j then some l.length else none
 | []=>by simp[qbl]
 |k::r=>by
  simp only[List.cons_append,qbl];by_cases h:k=j
  ·simp[h]
  ·simp only[if_neg h,qip j i r];cases qbl j r with
   |some n=>simp
   |none=>by_cases e:i=j <;> simp[e]
theorem qer{j:Sc.Id}:∀{l:List Sc.Id},j∉l->qbl j l=none
 | [],_=>rfl
 |k::r,h=>by
  simp only[List.mem_cons,not_or]at h;simp[qbl,Ne.symm h.1,qer h.2]
theorem qu9(sp:Sc.Id->List (Nat×Nat))(l:List Sc.Id)(i:Sc.Id)(d:Nat)(h:i∉l):spN sp (l++[i]) d=spU (spN sp l d) i (spN sp l d i++[(d,l.length)]):=by
 funext j
 unfold spU spN;rw[qip];by_cases e:j=i
 ·subst e;rw[qer h];simp
 ·rw[if_neg e];cases qbl j l with
  |some n=>rfl
  |none=>simp[Ne.symm e]
theorem qyy(sp:Sc.Id->List (Nat×Nat))(d:Nat):spN sp [] d=sp:=by
 funext j;simp[spN,qbl]
theorem qkm(l:List Sc.Id)(r:qaj):spN (λi=>qci i r) l (r.length+1)=λi=>qci i (l::r):=rfl
def q7v(X:Xe)(sp:Sc.Id->List (Nat×Nat))(L:List (Sc.Id×Vu))(l:List Sc.Id)(d:Nat)(w:Wd)(e:En)(w':Wd):Prop:=
 e=.returned (.tuple #[])/\∃L',ScMapF X (spN sp l (d+1)) w' L'/\(∀b,b∈own L'->b∈own L\/w.heap.size<=b)/\Tw X (λb=>b∈own L) w w'/\w'.heap[X.ab]? =some (.cells #[.int .i64 ((d:Int)+1),.map (some X.bm)] 329 (0,0))
theorem qtw{sp:Sc.Id->List (Nat×Nat)}{L e:List (Sc.Id×Vu)}{i:Sc.Id}{p:Nat×Nat}{O:Nat->Prop}{w1:Wd}(m:O=λb=>b∈own L)(h:q64 X sp e i p O w0 w1 w')(a:Tw X O w w1)(c:∀b,b∈own e->b∈own L\/w.heap.size<=b):
  ∃d,ScMapF X (spU sp i (sp i++[p])) w' d/\(∀b,b∈own d->b∈own L\/w.heap.size<=b)/\Tw X O w w'/\∀k,k<w1.heap.size->k≠X.bm->k∉own e->w'.heap[k]? =w1.heap[k]?:=by
 obtain⟨d,n,o,q,r,s,t,f⟩:=h;refine⟨d,n,λb u=>?_,⟨q.trans a.os,r.trans a.tape,s.trans a.output,eT a.size t,fun {k} g v j l=>?_⟩,f⟩
 ·rcases o b u with h|h
  ·exact c b h
  ·right;have:=a.size;omega
 ·rw[f k (eW g a.size) j (λx=>?_),a.blk g v j l];rcases c k x with h|h
  ·subst m;exact l h
  ·omega
theorem qw5(X:Xe)(sp:Sc.Id->List (Nat×Nat))(L:List (Sc.Id×Vu))(h:List (BA×Int))(na:OA)(nc d:Nat)(w:Wd)(hm:ScMapF X sp w L)(Z:w.heap[X.ab]? =some (.cells #[.int .i64 (d:Int),.map (some X.bm)] 329 (0,0)))
  (hr:IdRow w na h)(c6:∀g,na=some ⟨g,0,none⟩->g≠X.ab/\g≠X.bm/\g∉own L)(hd:Sc.distinct (h.map idS)=true)(hn:h.length<=1000000)(i3:d<=1000000000)(c7:∀i,(sp i).length<=1000000000)(g4:X.ab<X.lo/\X.bm<X.lo/\X.ab≠X.bm/\X.lo<=w.heap.size):
  Calls prog 359 #[bp X.ab,.slice na h.length nc] w (q7v X sp L (h.map idS) d w):=by
 obtain⟨i0,hi,c8,c9,d0⟩:=info_parts q0g;obtain⟨nn,b5⟩:∃nn,nn=h.length:=⟨_,rfl⟩;rw[<-b5]at hn|-;have HN:=hZ b5;have HM:=hZ hm;have g5:=hZ Z;have HR:=hZ hr;have g6:=hZ c6;have HD:=hZ hd;have g7:=hZ c7;obtain⟨l1,l2,l3,l4⟩:=g4;have a0:w.cell? ⟨X.ab,0,none⟩=some (.int .i64 (d:Int)):=by simp[World.cell?,Z]
 have af:w.frozen? ⟨X.ab,0,none⟩=false:=by simp[World.frozen?,Z]
 clear hm Z hr c6 hd c7 b5;go_enter func359,ntmps359
 go_wp2;go_loopw [15] (λc wr=>∃(k:Nat) (Y:List (Sc.Id×Vu)),k<=nn/\c=.int .i64 (k:Int)/\ScMapF X (spN sp ((h.map idS).take k) (d+1)) wr Y/\(∀b,b∈own Y->b∈own L\/w.heap.size<=b)/\Tw X (λb=>b∈own L) w wr/\wr.heap[X.ab]? =some (.cells #[.int .i64 ((d:Int)+1),.map (some X.bm)] 329 (0,0))) (λc _=>nn-(intOf c).toNat)
 case atStart=>
  have d1:(w.setCell ⟨X.ab,0,none⟩ (.int .i64 ((d:Int)+1))).heap[X.ab]? =some (.cells #[.int .i64 ((d:Int)+1),.map (some X.bm)] 329 (0,0)):=by
   simp[World.setCell,Array.getElem?_modify,g5.out]
  have J:∀b,b≠X.ab->(w.setCell ⟨X.ab,0,none⟩ (.int .i64 ((d:Int)+1))).heap[b]? =w.heap[b]?:=λb hb=>qab (a:=⟨X.ab,0,none⟩) b hb
  refine⟨0,L,Nat.zero_le _,rfl,?_,λb hb=>.inl hb,⟨rfl,rfl,rfl,by rw[qag];exact eR _,fun {k} _ h1 _ _=>J k h1⟩,d1⟩;obtain⟨q1,q2,q3,q4⟩:=HM.out;rw[List.take_zero,qyy];exact⟨by rw[J _ (Ne.symm l3)];exact q1,q2,λp hp=>qbr (q3 p hp) λg hg=>J g (by have:=((q3 p hp).lt g hg).1;omega),q4⟩
 case round=>
  obtain⟨k,Y,hk,rfl,H,d2,ht,K⟩:=hrel;have A:=hZ H;have b6:=hZ d2;have HT:=hZ ht;have D:=hZ K;have M:X.ab<wr.heap.size:=(eE.1 K).1;clear H d2 ht K;by_cases g8:k<nn
  ·have g9:k<h.length:=by rw[<-HN.out];exact g8
   have hp:h[k]? =some h[k]:=eG g9;obtain⟨⟨l,n⟩,d3⟩:∃p,p=h[k]:=⟨_,rfl⟩;rw[<-d3]at hp;obtain⟨g,rfl,r0,r1⟩:=HR.out k _ hp;obtain⟨n1,n2,n3⟩:=g6.out g rfl;have h0:wr.cell? ⟨g,k*2,none⟩=some (.string l):=HT.out.cell r0 n1 n2 n3;have h3:wr.cell? ⟨g,k*2+1,none⟩=some (.int .i64 n):=HT.out.cell r1 n1 n2 n3;have I:(h.map idS).take (k+1)=(h.map idS).take k++[idS (l,n)]:=by rw[List.take_add_one,List.getElem?_map,hp];rfl
   have a3:idS (l,n)∉(h.map idS).take k:=by
    have h1:=qd4 ((h.map idS).take (k+1)) ((h.map idS).drop (k+1)) (by rw[List.take_append_drop];exact HD.out);rw[I,qd5]at h1;simp only[Bool.and_eq_true,Bool.not_eq_true',List.contains_eq_mem,decide_eq_false_iff_not]at h1;exact h1.2
   have a4:((h.map idS).take k).length=k:=by simp;omega
   have b7:=qu9 sp _ _ (d+1) a3;rw[<-I,a4]at b7;have b8:=hZ b7;obtain⟨⟨es,N,m1,m2,m3,m4⟩,b9⟩:=A.out;obtain⟨st,c0,y,d4,d5⟩:=q24 X.bm es N Y l n m2 ⟨m3,m4⟩;generalize a5:spN sp ((h.map idS).take k) (d+1)=spk at A b8;have d6:(spk (l.data.toList,n)).length<=2000000000:=by
    rw[<-a5];unfold spN;have:=g7.out (l.data.toList,n);rw[List.length_append];cases qbl (l.data.toList,n) ((h.map idS).take k) <;> simp <;> omega
   have a6:X.bm<wr.heap.size:=(eE.1 m1).1;obtain⟨W0,P⟩:∃W0,W0=(wr.alloc (.cells #[.string l,.int .i64 n] 382)):=⟨_,rfl⟩;have c1:Below wr.heap.size wr W0:=by rw[P];exact qaa _ _
   have a1:W0.heap[wr.heap.size]? =some (.cells #[.string l,.int .i64 n] 382 (0,0)):=by rw[P];exact eN _ _
   have d7:W0.heap.size=wr.heap.size+1:=by rw[P];simp
   have x0:W0.cell? ⟨wr.heap.size,0,none⟩=some (.string l):=by simp only[World.cell?,a1];rfl
   have x1:W0.cell? ⟨wr.heap.size,1,none⟩=some (.int .i64 n):=by simp only[World.cell?,a1];rfl
   have Q:W0.heap[X.ab]? =some (.cells #[.int .i64 ((d:Int)+1),.map (some X.bm)] 329 (0,0)):=by rw[c1.block _ M];exact D.out
   have y0:W0.cell? ⟨X.ab,0,none⟩=some (.int .i64 ((d:Int)+1)):=by simp only[World.cell?,Q];rfl
   have y1:W0.cell? ⟨X.ab,1,none⟩=some (.map (some X.bm)):=by simp only[World.cell?,Q];rfl
   obtain⟨W1,s⟩:∃W1,W1=(W0.alloc (.cells #[.int .i64 ((d:Int)+1),.int .i64 (k:Int)] 459)).drew:=⟨_,rfl⟩;have r:Below wr.heap.size wr W1:=by
    rw[s];exact(c1.alloc (by show wr.heap.size<=W0.heap.size;omega) _).trans ((bl0 (by exact⟨rfl,rfl,rfl,rfl⟩)).mono (by show wr.heap.size<=(W0.heap.push _).size;simp;omega))
   have d8:W1.heap[W0.heap.size]? =some (.cells #[.int .i64 ((d:Int)+1),.int .i64 (k:Int)] 459 (0,0)):=by
    rw[s];exact eN W0 (.cells #[.int .i64 ((d:Int)+1),.int .i64 (k:Int)] 459)
   have d9:W1.heap.size=wr.heap.size+2:=by rw[s];show(W0.heap.push _).size=_;simp[d7]
   have R:W1.heap[X.bm]? =some (.map es N):=by rw[r.block _ a6];exact m1
   have a7:=d4 W1 R;obtain⟨o,B⟩:∃o,o=setB W1 X.bm (.map c0 y):=⟨_,rfl⟩;rw[<-B]at a7;have a8:o.heap[X.bm]? =some (.map c0 y):=by rw[B];exact qi7 R
   have e0:o.heap.size=wr.heap.size+2:=by rw[B,qcr];exact d9
   have v:∀b,b≠X.bm->o.heap[b]? =W1.heap[b]?:=λb hb=>by rw[B];exact qb5 hb
   have a9:o.heap[W0.heap.size]? =some (.cells #[.int .i64 ((d:Int)+1),.int .i64 (k:Int)] 459 (0,0)):=by rw[v _ (by omega)];exact d8
   have h2:o.os=wr.os/\o.tape=wr.tape/\o.output=wr.output/\wr.heap.size<=o.heap.size/\∀b,b<wr.heap.size->b≠X.bm->o.heap[b]? =wr.heap[b]?:=by
    refine⟨by rw[B];exact r.os,by rw[B];exact r.tape,by rw[B];exact r.output,by omega,λb hb hne=>by rw[v b hne,r.block b hb]⟩
   have C:=qoj A.out (l.data.toList,n);have h9:∀c,c∈own Y->X.lo<=c/\c<wr.heap.size:=λc hc=>by
    obtain⟨q,hq,he⟩:=List.mem_filterMap.1 hc;exact(A.out.2.2.1 q hq).lt c he
   have S:o.ownsRow X.lo 459 2 ((qay (l.data.toList,n) Y).getD (.slice none 0 0)) (spk (l.data.toList,n)).length (qaz (spk (l.data.toList,n))):=qbr C λc hc=>h2.2.2.2.2 c (C.lt c hc).2 (by have:=(C.lt c hc).1;omega)
   have E:∀c,((qay (l.data.toList,n) Y).getD (.slice none 0 0)).ownBlock=some c->X.lo<=c/\c<wr.heap.size:=λc hc=>C.lt c hc
   have e6:X.lo<=wr.heap.size:=eT l4 HT.out.size;have b0:=hZ E;have c2:=hZ S;have H2:=hZ h2;have e7:=hZ d5;have b1:=hZ a9;have e8:=hZ a8;have e9:=hZ v;have i1:(k:Int)<(nn:Int):=by omega
   have z0:W1.cell? ⟨wr.heap.size,0,none⟩=some (.string l):=by
    rw[s];exact qat (w:=W0) x0
   have z1:W1.cell? ⟨wr.heap.size,1,none⟩=some (.int .i64 n):=by rw[s];exact qat (w:=W0) x1
   have z2:W1.cell? ⟨X.ab,0,none⟩=some (.int .i64 ((d:Int)+1)):=by rw[s];exact qat (w:=W0) y0
   have z3:W1.cell? ⟨X.ab,1,none⟩=some (.map (some X.bm)):=by rw[s];exact qat (w:=W0) y1
   have HZ:=hZ (And.intro z0 (And.intro z1 (And.intro z2 z3)));have F:Hid (o.heap[X.ab]? =some (.cells #[.int .i64 ((d:Int)+1),.map (some X.bm)] 329 (0,0))/\o.heap[wr.heap.size]? =some (.cells #[.string l,.int .i64 n] 382 (0,0))):=by
    refine⟨by rw[v _ l3,r.block _ M];exact D.out,?_⟩;rw[v _ (by omega),s];have e5:=eH W0 (.cells #[.int .i64 ((d:Int)+1),.int .i64 (k:Int)] 459) wr.heap.size (by omega);exact e5.trans a1
   clear hp d3 r0 r1 m1 m2 m3 m4 b9 d4 d5 a1 c1 Q r d8 R a8 v a9 h2 C S E a3 a4 b7 I z0 z1 z2 z3 a5;have c3:Hid (∀j u,[Value.int .i64 ((d:Int)+1),.int .i64 (k:Int)][j]? =some u->o.cell? ((⟨W0.heap.size,0,none⟩:Addr).add j)=some u):=World.news_of_block (cs:=#[.int .i64 ((d:Int)+1),.int .i64 (k:Int)]) b1.out;have f0:Hid (∀u∈[Value.int .i64 ((d:Int)+1),.int .i64 (k:Int)],u.oneCell'=true):=by
    intro u hu;simp at hu;rcases hu with rfl|rfl <;> rfl
   have f1:Hid ((spk (l.data.toList,n)).length+1<=maxLen):=by
    have:(spk (l.data.toList,n)).length+1<=maxLen:=by unfold maxLen;omega
    exact this
   have h4:Hid (((spk (l.data.toList,n)).length+1)*16<=140737488355328):=by
    have:((spk (l.data.toList,n)).length+1)*16<=140737488355328:=by omega
    exact this
   have f2:Hid (X.lo<=o.heap.size):=by
    have:X.lo<=o.heap.size:=by omega
    exact this
   have f3:Hid (X.bm<X.lo/\X.ab<X.lo/\X.lo<=wr.heap.size/\X.ab≠X.bm/\X.bm<wr.heap.size/\X.ab<wr.heap.size/\o.heap.size=wr.heap.size+2):=⟨l2,l1,e6,l3,a6,M,e0⟩;have a2:Hid (∀(g3 x:Nat) (w3:Wd),w3.ownsRow X.lo 459 2 (.slice (some ⟨g3,0,none⟩) ((spk (l.data.toList,n)).length+1) x) ((spk (l.data.toList,n)).length+1) (qaz (spk (l.data.toList,n))++[.int .i64 ((d:Int)+1),.int .i64 (k:Int)])->o.grownBy w3 ((qay (l.data.toList,n) Y).getD (.slice none 0 0)).ownBlock->(((qay (l.data.toList,n) Y).getD (.slice none 0 0)).ownBlock=some g3\/g3=o.heap.size)->
     ∃w4,(Instr.entryStore 327 (.map (some X.bm)) (.int .i64 (st:Int)) (.slice (some ⟨g3,0,none⟩) ((spk (l.data.toList,n)).length+1) x)).run prog w3=.ok () w4/\(w3.cell? ⟨wr.heap.size,0,none⟩=some (.string l)/\w3.cell? ⟨wr.heap.size,1,none⟩=some (.int .i64 n)/\w3.cell? ⟨X.ab,0,none⟩=some (.int .i64 ((d:Int)+1))/\w3.cell? ⟨X.ab,1,none⟩=some (.map (some X.bm)))/\(w4.cell? ⟨wr.heap.size,0,none⟩=some (.string l)/\w4.cell? ⟨wr.heap.size,1,none⟩=some (.int .i64 n)/\w4.cell? ⟨X.ab,0,none⟩=some (.int .i64 ((d:Int)+1))/\w4.cell? ⟨X.ab,1,none⟩=some (.map (some X.bm)))/\
      ∃L',ScMapF X (spN sp ((h.map idS).take (k+1)) (d+1)) w4 L'/\(∀b,b∈own L'->b∈own L\/w.heap.size<=b)/\Tw X (λb=>b∈own L) w w4/\w4.heap[X.ab]? =some (.cells #[.int .i64 ((d:Int)+1),.map (some X.bm)] 329 (0,0))):=λg3 x w3 ho hg ha=>by
    obtain⟨c4,z,f4,h5,f5⟩:=e7.out (.slice (some ⟨g3,0,none⟩) ((spk (l.data.toList,n)).length+1) x);obtain⟨q1,q2,q3,q4,q5,q6,q7⟩:=f3.out;have c5:∀b,b<o.heap.size->(b<X.lo\/wr.heap.size<=b)->w3.heap[b]? =o.heap[b]?:=λb hb hc=>hg.block b hb λe=>by
     have:=b0.out b e.symm;omega
    have f6:w3.heap[X.bm]? =some (.map c0 y):=by rw[c5 _ (by omega) (.inl q1)];exact e8.out
    have T:w3.heap[X.ab]? =some (.cells #[.int .i64 ((d:Int)+1),.map (some X.bm)] 329 (0,0)):=by rw[c5 _ (by omega) (.inl q2)];exact F.out.1
    have U:w3.heap[wr.heap.size]? =some (.cells #[.string l,.int .i64 n] 382 (0,0)):=by rw[c5 _ (by omega) (.inr (eR _))];exact F.out.2
    have V:(setB w3 X.bm (.map c4 z)).heap[X.ab]? =some (.cells #[.int .i64 ((d:Int)+1),.map (some X.bm)] 329 (0,0)):=by rw[qb5 q4];exact T
    have b2:(setB w3 X.bm (.map c4 z)).heap[wr.heap.size]? =some (.cells #[.string l,.int .i64 n] 382 (0,0)):=by rw[qb5 (by omega)];exact U
    have hE:=qw6 (t:=l) (m:=n) (p:=(d+1,k)) (O:=λb=>b∈own L) (w0:=w) A.out q1 q3 H2.out f6 h5 f5 ho hg ha (setB w3 X.bm (.map c4 z)) ⟨rfl,rfl,rfl,rfl⟩;obtain⟨L',e1,e2,e3,_⟩:=qtw rfl hE HT.out b6.out;refine⟨_,f4 w3 f6,⟨by simp only[World.cell?,U];rfl,by simp only[World.cell?,U];rfl,by simp only[World.cell?,T];rfl,by simp only[World.cell?,T];rfl⟩,⟨by simp only[World.cell?,b2];rfl,by simp only[World.cell?,b2];rfl,by simp only[World.cell?,V];rfl,by simp only[World.cell?,V];rfl⟩,L',?_,e2,e3,V⟩;rw[b8.out];exact e1
   have h6:Hid (o.cell? ⟨wr.heap.size,0,none⟩=some (.string l)/\o.cell? ⟨wr.heap.size,1,none⟩=some (.int .i64 n)/\o.cell? ⟨X.ab,0,none⟩=some (.int .i64 ((d:Int)+1))/\o.cell? ⟨X.ab,1,none⟩=some (.map (some X.bm))):=by
    obtain⟨e1,e2⟩:=F.out;exact⟨by simp only[World.cell?,e2];rfl,by simp only[World.cell?,e2];rfl,by simp only[World.cell?,e1];rfl,by simp only[World.cell?,e1];rfl⟩
   rw[s]at a7 HZ;clear s B d9 e7 b1 e8 e9 F H2 A b6 HT D b8 b0 e0 d6;go_wp2_with (fail)
   rw[<-P];clear P d7 h0 h3;go_region_held3 (λw'=>w'.cell? ⟨wr.heap.size,0,none⟩=some (.string l)/\w'.cell? ⟨wr.heap.size,1,none⟩=some (.int .i64 n)/\w'.cell? ⟨X.ab,0,none⟩=some (.int .i64 ((d:Int)+1))/\w'.cell? ⟨X.ab,1,none⟩=some (.map (some X.bm)))
    (first|(exact h7.out)|(exact h8.out)|(exact h6.out)|(exact HZ.out)|(exact⟨x0,x1,y0,y1⟩)|go_keep)
    (first|(refine step_append_lies _ rfl _ _ 457 rfl X.lo 459 i0 (.agg #[.int .i64 0,.int .i64 0]) 2 16 underlying457 hi c8 c9 d0 rfl (by decide) _ _ _ rfl c2.out ⟨W0.heap.size,0,none⟩ 1 1 [.int .i64 ((d:Int)+1),.int .i64 (k:Int)] rfl rfl c3.out f0.out (by decide) f1.out h4.out f2.out o.heap.size rfl ?_;intro g3 x w3 W G b3 f7;obtain⟨w4,i2,f8,f9,b4⟩:=a2.out g3 x w3 W G b3;have h8:=hZ f8;have h7:=hZ f9;have g0:=hZ b4;clear W G b3 f7 f8 f9 b4))
   all_goals
    go_wp2;go_roundw
    case rel=>
     obtain⟨L',e1,e2,e3,e4⟩:=g0.out;exact⟨k+1,L',by omega,by go_num,e1,e2,e3,e4⟩
    case measure=>simp[intOf];omega
  ·have g1:k=nn:=by omega
   have I:(h.map idS).take k=h.map idS:=by rw[g1,HN.out,<-List.length_map (f:=idS),List.take_length]
   have H:=A.out;rw[I]at H;have g2:=hZ H;have i4:¬(k:Int)<(nn:Int):=by omega
   clear g1 I H A;go_wp2;go_end0;exact⟨rfl,Y,g2.out,b6.out,HT.out,D.out⟩
theorem qvc(g n cap:Nat)(b:n+1<=cap)(_:n+1<=2000000000)(w:Wd):(Instr.slice 457 (.slice (some ⟨g,0,none⟩) (n+1) cap) none (some (.int .i64 (n:Int))) none).run prog w=.ok (.slice (some ⟨g,0,none⟩) n cap) w:=by
 have a:(n:Int)<=cap:=by omega
 have c:n<=cap:=by omega
 simp[Instr.slice,Instr.sliceBounds,run_underlying underlying457,go_sem,a]
theorem qsi{v:Vu}{x y:Vu}(h:w.ownsRow lo 459 2 v (n+1) (xs++[x,y])):∃g cap,v=.slice (some ⟨g,0,none⟩) (n+1) cap/\n+1<=cap/\w.ownsRow lo 459 2 (.slice (some ⟨g,0,none⟩) n cap) n xs:=by
 obtain⟨e,f⟩:=h;have d:xs.length=n*2:=by simp at e;omega
 rcases f with⟨_,o⟩|⟨g,cap,a,i,j,k,l,m,b,c⟩
 ·omega
 ·refine⟨g,cap,i,l,d,.inr ⟨g,cap,a,rfl,j,k,by omega,m,b,?_⟩⟩;have:(a.toList.take ((n+1)*2)).take (n*2)=xs:=by rw[c,<-d];simp
  rw[<-this,List.take_take];congr 1;omega
def spL(sp:Sc.Id->List (Nat×Nat))(l:List Sc.Id)(d k:Nat):Sc.Id->List (Nat×Nat):=λj=>if j∈l.take k then sp j else spN sp l d j
theorem qva(sp:Sc.Id->List (Nat×Nat))(l:List Sc.Id)(d:Nat):spL sp l d 0=spN sp l d:=by funext j;simp[spL]
theorem qyz(sp:Sc.Id->List (Nat×Nat))(l:List Sc.Id)(d:Nat):spL sp l d l.length=sp:=by
 funext j
 unfold spL;by_cases h:j∈l
 ·simp[h]
 ·simp[h,spN,qer h]
theorem qvb(sp:Sc.Id->List (Nat×Nat))(l:List Sc.Id)(d k:Nat)(i:Sc.Id)(h:l[k]? =some i):spL sp l d (k+1)=spU (spL sp l d k) i (sp i):=by
 funext j
 unfold spL spU;rw[List.take_add_one,h];by_cases e:j=i
 ·subst e;simp
 ·simp[e]
theorem qio{i:Sc.Id}:∀{l:List Sc.Id},i∈l->∃n,qbl i l=some n
 | [],h=>by simp at h
 |j::r,h=>by
  by_cases e:j=i
  ·exact⟨0,by simp[qbl,e]⟩
  ·rcases List.mem_cons.1 h with rfl|h
   ·exact absurd rfl e
   ·obtain⟨n,a⟩:=qio h;exact⟨n+1,by simp[qbl,e,a]⟩
theorem q1s(sp:Sc.Id->List (Nat×Nat))(l:List Sc.Id)(d k:Nat)(i:Sc.Id)(h:l[k]? =some i)(a:i∉l.take k):∃n,spL sp l d k i=sp i++[(d,n)]:=by
 obtain⟨n,b⟩:=qio (List.mem_of_getElem? h);exact⟨n,by simp[spL,a,spN,b]⟩
def q7t(X:Xe)(sp:Sc.Id->List (Nat×Nat))(L:List (Sc.Id×Vu))(d:Nat)(w:Wd)(e:En)(w':Wd):Prop:=
 e=.returned (.tuple #[])/\∃L',ScMapF X sp w' L'/\(∀b,b∈own L'->b∈own L)/\Tw X (λb=>b∈own L) w w'/\w'.heap[X.ab]? =some (.cells #[.int .i64 (d:Int),.map (some X.bm)] 329 (0,0))
theorem qof{i:Sc.Id}{u v:Vu}(h:v.ownBlock=u.ownBlock):∀{L:List (Sc.Id×Vu)},qay i L=some u->own (qc3 i v L)=own L
 | [],hl=>by simp[qay]at hl
 |(j,a)::r,hl=>by
  by_cases e:i=j
  ·subst e;simp[qay]at hl;subst hl;simp only[own,qc3,if_pos,List.filterMap_cons,h]
  ·simp only[qay,if_neg e]at hl;have:=qof h hl;simp only[own,qc3,if_neg e,List.filterMap_cons]at this|-;rw[this]
theorem qwc(X:Xe)(sp:Sc.Id->List (Nat×Nat))(L:List (Sc.Id×Vu))(e:List (BA×Int))(na:OA)(nc d:Nat)(w:Wd)(hm:ScMapF X (spN sp (e.map idS) (d+1)) w L)(J:w.heap[X.ab]? =some (.cells #[.int .i64 ((d:Int)+1),.map (some X.bm)] 329 (0,0)))
  (hr:IdRow w na e)(a1:∀g,na=some ⟨g,0,none⟩->g≠X.ab/\g≠X.bm/\g∉own L)(hd:Sc.distinct (e.map idS)=true)(hn:e.length<=1000000)(d4:d<=1000000000)(a2:∀i,(sp i).length<=1000000000)(c0:X.ab<X.lo/\X.bm<X.lo/\X.ab≠X.bm/\X.lo<=w.heap.size):
  Calls prog 360 #[bp X.ab,.slice na e.length nc] w (q7t X sp L d w):=by
 obtain⟨nn,U⟩:∃nn,nn=e.length:=⟨_,rfl⟩;rw[<-U]at hn|-;have HN:=hZ U;have HM:=hZ hm;have c1:=hZ J;have HR:=hZ hr;have c2:=hZ a1;have HD:=hZ hd;have c3:=hZ a2;obtain⟨l1,l2,l3,l4⟩:=c0;have a0:w.cell? ⟨X.ab,0,none⟩=some (.int .i64 ((d:Int)+1)):=by simp[World.cell?,J]
 have af:w.frozen? ⟨X.ab,0,none⟩=false:=by simp[World.frozen?,J]
 have d1:(d:Int)+1-1=d:=by omega
 clear hm J hr a1 hd a2 U;go_enter func360,ntmps360
 go_wp2;go_loopw [16] (λc wr=>∃(k:Nat) (L1:List (Sc.Id×Vu)),k<=nn/\c=.int .i64 (k:Int)/\ScMapF X (spL sp (e.map idS) (d+1) k) wr L1/\(∀b,b∈own L1->b∈own L)/\Tw X (λb=>b∈own L) w wr/\wr.heap[X.ab]? =some (.cells #[.int .i64 (d:Int),.map (some X.bm)] 329 (0,0))) (λc _=>nn-(intOf c).toNat)
 case atStart=>
  have a3:(w.setCell ⟨X.ab,0,none⟩ (.int .i64 (d:Int))).heap[X.ab]? =some (.cells #[.int .i64 (d:Int),.map (some X.bm)] 329 (0,0)):=by
   simp[World.setCell,Array.getElem?_modify,c1.out]
  have B:∀b,b≠X.ab->(w.setCell ⟨X.ab,0,none⟩ (.int .i64 (d:Int))).heap[b]? =w.heap[b]?:=λb P=>qab (a:=⟨X.ab,0,none⟩) b P
  refine⟨0,L,Nat.zero_le _,rfl,?_,λb P=>P,⟨rfl,rfl,rfl,by rw[qag];exact eR _,fun {k} _ Q _ _=>B k Q⟩,a3⟩;obtain⟨q1,q2,q3,q4⟩:=HM.out;rw[qva];exact⟨by rw[B _ (Ne.symm l3)];exact q1,q2,λp V=>qbr (q3 p V) λg hg=>B g (by have:=((q3 p V).lt g hg).1;omega),q4⟩
 case round=>
  obtain⟨k,L1,hk,rfl,A,a4,ht,C⟩:=hrel;have t:=hZ A;have W:=hZ a4;have H:=hZ ht;have D:=hZ C;have a5:X.ab<wr.heap.size:=(eE.1 C).1;clear A a4 ht C;by_cases c4:k<nn
  ·have c5:k<e.length:=by rw[<-HN.out];exact c4
   have V:e[k]? =some e[k]:=eG c5;obtain⟨⟨m,n⟩,a6⟩:∃p,p=e[k]:=⟨_,rfl⟩;rw[<-a6]at V;obtain⟨g,rfl,r0,r1⟩:=HR.out k _ V;obtain⟨n1,n2,n3⟩:=c2.out g rfl;have c6:wr.cell? ⟨g,k*2,none⟩=some (.string m):=H.out.cell r0 n1 n2 n3;have c7:wr.cell? ⟨g,k*2+1,none⟩=some (.int .i64 n):=H.out.cell r1 n1 n2 n3;have K:(e.map idS)[k]? =some (m.data.toList,n):=by rw[List.getElem?_map,V];rfl
   have E:(e.map idS).take (k+1)=(e.map idS).take k++[idS (m,n)]:=by rw[List.take_add_one,K];rfl
   have R:(m.data.toList,n)∉(e.map idS).take k:=by
    have Q:=qd4 ((e.map idS).take (k+1)) ((e.map idS).drop (k+1)) (by rw[List.take_append_drop];exact HD.out);rw[E,qd5]at Q;simp only[Bool.and_eq_true,Bool.not_eq_true',List.contains_eq_mem,decide_eq_false_iff_not]at Q;exact Q.2
   obtain⟨n0,a7⟩:=q1s sp (e.map idS) (d+1) k _ K R;have a8:=qvb sp (e.map idS) (d+1) k _ K;have a9:=hZ a8;have r:=qoj t.out (m.data.toList,n);rw[a7]at r;have S:(sp (m.data.toList,n)++[(d+1,n0)]).length=(sp (m.data.toList,n)).length+1:=by simp
   rw[S,qeu]at r;obtain⟨I,f,z,b0,M⟩:=qsi (x:=.int .i64 ((d+1:Nat):Int)) (y:=.int .i64 (n0:Int)) (by simpa[qaz]using r);have b1:=c3.out (m.data.toList,n);generalize c8:(sp (m.data.toList,n)).length=sn at z b0 M b1 r;have o:qay (m.data.toList,n) L1=some (.slice (some ⟨I,0,none⟩) (sn+1) f):=by
    cases hl:qay (m.data.toList,n) L1 with
    |none=>rw[hl]at z;simp at z
    |some u=>rw[hl]at z;simp at z;rw[z]
   obtain⟨⟨es,j,m1,m2,m3,m4⟩,Y⟩:=t.out;have b2:X.bm<wr.heap.size:=(eE.1 m1).1;obtain⟨c9,b3,b4,b5⟩:=qyj X.bm es j L1 m n m2 ⟨m3,m4⟩ (by rw[o];rfl) (.slice (some ⟨I,0,none⟩) sn f);have F:∀w',w'.heap[X.bm]? =some (.map es j)->(Instr.lookup 327 (.map (some X.bm)) (idV m n) false).run prog w'=.ok (.slice (some ⟨I,0,none⟩) (sn+1) f) w':=λw' d0=>by
    rw[qhe X.bm es j L1 m n w' d0 m2,o];rfl
   obtain⟨W0,N⟩:∃W0,W0=(wr.alloc (.cells #[.string m,.int .i64 n] 382)):=⟨_,rfl⟩;have l:Below wr.heap.size wr W0:=by rw[N];exact qaa _ _
   have Z:W0.heap[wr.heap.size]? =some (.cells #[.string m,.int .i64 n] 382 (0,0)):=by rw[N];exact eN _ _
   have x0:W0.cell? ⟨wr.heap.size,0,none⟩=some (.string m):=by simp only[World.cell?,Z];rfl
   have x1:W0.cell? ⟨wr.heap.size,1,none⟩=some (.int .i64 n):=by simp only[World.cell?,Z];rfl
   have G:W0.heap[X.ab]? =some (.cells #[.int .i64 (d:Int),.map (some X.bm)] 329 (0,0)):=by rw[l.block _ a5];exact D.out
   have y1:W0.cell? ⟨X.ab,1,none⟩=some (.map (some X.bm)):=by simp only[World.cell?,G];rfl
   have O:W0.heap[X.bm]? =some (.map es j):=by rw[l.block _ b2];exact m1
   have d2:=F W0.drew O;have b6:=b3 W0.drew.drew O;have d5:∀w,(Instr.slice 457 (.slice (some ⟨I,0,none⟩) (sn+1) f) none (some (.int .i64 (sn:Int))) none).run prog w=.ok (.slice (some ⟨I,0,none⟩) sn f) w:=λw=>qvc I sn f b0 (by omega) w
   have d6:(sn:Int)+1-1=sn:=by omega
   obtain⟨w4,s⟩:∃w4,w4=setB W0.drew.drew X.bm (.map c9 j):=⟨_,rfl⟩;rw[<-s]at b6;have b7:Hid (∃L',ScMapF X (spL sp (e.map idS) (d+1) (k+1)) w4 L'/\(∀b,b∈own L'->b∈own L)/\Tw X (λb=>b∈own L) w w4/\w4.heap[X.ab]? =some (.cells #[.int .i64 (d:Int),.map (some X.bm)] 329 (0,0))):=by
    have hne:∀b,b≠X.bm->w4.heap[b]? =W0.heap[b]?:=λb P=>by rw[s];exact qb5 P
    have T:own (qc3 (m.data.toList,n) (.slice (some ⟨I,0,none⟩) sn f) L1)=own L1:=qof (u:=.slice (some ⟨I,0,none⟩) (sn+1) f) (v:=.slice (some ⟨I,0,none⟩) sn f) rfl o;obtain⟨q1,q2⟩:=t.out.put (w3:=W0) (w4:=w4) (i:=(m.data.toList,n)) (p:=sp (m.data.toList,n)) (v:=.slice (some ⟨I,0,none⟩) sn f) (by rw[s];exact qi7 (w:=W0.drew.drew) O) b4 b5 l2 hne
     (by rw[c8];exact qbr M λc hc=>l.block c (M.lt c hc).2)
     (λq hq _ c hc=>l.block c ((t.out.2.2.1 q hq).lt c hc).2)
     (λc hc=>⟨λu hu=>by rw[o]at hu;cases hu;exact .inl hc,λh=>by rw[o]at h;cases h⟩) (.inr T)
    refine⟨_,by rw[a9.out];exact q1,λb P=>W.out b (by rw[T]at P;exact P),⟨by rw[s];exact l.os.trans H.out.os,by rw[s];exact l.tape.trans H.out.tape,by rw[s];exact l.output.trans H.out.output,?_,fun {c} Q h2 h3 h4=>?_⟩,by rw[hne _ l3];exact G⟩
    ·rw[s,qcr];exact eT H.out.size l.size
    ·rw[hne c h3,l.block c (eW Q H.out.size)];exact H.out.blk Q h2 h3 h4
   have d3:(k:Int)<(nn:Int):=by omega
   clear V a6 r0 r1 m1 m2 m3 m4 Y b3 F Z l G O r M R K E a8 a7 S o z b4 b5 s t W H D a9;go_wp2_with (fail)
   rw[<-N];clear N c6 c7;go_region
   go_wp2_with (fail)
   go_region
   go_wp2;go_roundw
   case rel=>
    obtain⟨L',e1,e2,e3,e4⟩:=b7.out;exact⟨k+1,L',by omega,by go_num,e1,e2,e3,e4⟩
   case measure=>simp[intOf];omega
  ·have b8:k=nn:=by omega
   have E:k=(e.map idS).length:=by rw[b8,HN.out];simp
   have A:=t.out;rw[E,qyz]at A;have b9:=hZ A;have d7:¬(k:Int)<(nn:Int):=by omega
   clear b8 E A t;go_wp2;go_end0;exact⟨rfl,L1,b9.out,W.out,H.out,D.out⟩
theorem info134:(prog.info? 134).map (λi=>(i.zero,i.size,i.bytes))=some (some (.agg #[.int .i64 0,.int .i64 0,.bool false,.string ⟨#[]⟩,.int .i64 0,.slice none 0 0]),6,72):=by kernel_rfl
theorem qk7(a:OA)(n c:Nat)(w:Wd):Calls prog 238 #[.slice a n c] w λe w'=>e=.returned (.agg (Dl.cells ⟨4,0,false,⟨#[]⟩,0,a,n,c⟩))/\∃o,Lk (w.alloc o) w':=by
 go_enter func238,ntmps238
 go_wp2;refine bodyPost_ret (v:=.agg #[.int .i64 4,.int .i64 0,.bool false,.string ⟨#[]⟩,.int .i64 0,.slice a n c]) (by simp[results,results238,go_sem, *]) rfl ?_;exact⟨rfl,_,⟨rfl,rfl,rfl,rfl⟩⟩
theorem qij(c n a:Nat)(d:OA)(w:Wd)(Q:En->Wd->Prop)(f:n<3)
  (b:∀w',Below w.heap.size w w'->Q (.panicked (qan (qap 4))) w'):
  Calls prog 337 #[bp c,.slice d n a] w Q:=by
 have g:=hZ b;have h:n=0\/n=1\/n=2:=by omega
 clear b f;rcases h with rfl|rfl|rfl;all_goals
  go_enter func337,ntmps337
  go_wp2_with (first|(go_at_call 290;refine(qav _).mono ?_;rintro e w2 ⟨rfl,o,rfl⟩))
  exact⟨rfl,g.out _ (qaa _ _)⟩
theorem qm4(d g o n a:Nat)(b:Int)(w:Wd)(Q:En->Wd->Prop)(c0:w.cell? ⟨g,o+6,none⟩=some (.int .i64 b))(f:b≠4)(j:n+3<=1000000)
  (c:∀w',Below w.heap.size w w'->Q (.panicked (qan (qap 4))) w'):
  Calls prog 337 #[bp d,.slice (some ⟨g,o,none⟩) (n+3) a] w Q:=by
 have h:=hZ c;have i:(b==4)=false:=by simpa using f
 have k:(3:Int)<=(n:Int)+3:=by omega
 have l:(1:Int)<(n:Int)+3:=by omega
 clear c;go_enter func337,ntmps337
 go_wp2_with (first|(go_at_call 290;refine(qav _).mono ?_;rintro e w2 ⟨rfl,o,rfl⟩))
 exact⟨rfl,h.out _ (qaa _ _)⟩
def qch(l:List Dl):List Vu:=l.flatMap λe=>e.cells.toList
theorem qhq(a:List Dl)(e:Dl):qch (a++[e])=qch a++e.cells.toList:=by simp[qch]
def q6w(xb mb:Nat)(v:Vu)(blen:Nat)(xs:List Vu)(Q:En->Wd->Prop)(q:Nat)(W:Wd):Prop:=∀g6 cap6 w6,W.grownBy w6 (some q)->(g6=q\/W.heap.size<=g6)->w6.ownsRow q 241 1 (.slice (some ⟨g6,0,none⟩) (1+blen) cap6) (1+blen) ([v]++xs)->w6.cell? ⟨xb,0,none⟩=some (bp mb)/\∀w7,Lk w6 w7->Calls prog 333 #[bp mb,.slice (some ⟨g6,0,none⟩) (1+blen) cap6] w7 (RX xb mb Q)
def q63(xb mb blen:Nat)(u:Vu)(w4:Wd)(xs:List Vu)(ga c:Nat):Prop:=u=.slice (some ⟨ga,0,none⟩) blen c/\xs.length=blen/\w4.cell? ⟨xb,0,none⟩=some (bp mb)/\(∀j x,xs[j]? =some x->w4.cell? ⟨ga,j,none⟩=some x)/\(∀x∈xs,x.oneCell'=true)
def q7s(xb mb:Nat)(body:Vu)(na:OA)(nc:Nat)(va:OA)(vc blen:Nat)(wr:Wd)(Q:En->Wd->Prop):Prop:=
 ∀w1,Below wr.heap.size wr w1->Calls prog 293 #[bp xb,.agg (Dl.cells ⟨4,0,false,⟨#[]⟩,0,na,blen,nc⟩),body] w1 (RetP (λv w2=>∃kc cc,v=.func (.func kc) #[] cc/\w2.cell? ⟨xb,0,none⟩=some (bp mb)/\
  (∀w3,Lk (w2.alloc (.cells #[v] 241)) w3->Calls prog 334 #[bp xb,.slice va blen vc] w3 (RetP (λu w4=>∃xs ga c,q63 xb mb blen u w4 xs ga c/\w4.heap[w2.heap.size]? =some (.cells #[v] 241 (0,0))/\q6w xb mb v blen xs Q w2.heap.size w4) Q))/\
  (∀w3,Lk w2 w3->Calls prog 334 #[bp xb,.slice va blen vc] w3 (RetP (λu w4=>∃xs ga c,q63 xb mb blen u w4 xs ga c/\q6w xb mb v blen xs Q w4.heap.size (w4.alloc (.cells #[v] 241))) Q))) Q)
theorem qgv{P:Program}(w:Wd){q:Array Oper}{o:Oper}{a:Act}{K:Act->Wd->Prop}{Q:Exit->Act->Wd->Prop}{E:Prop}(y:o.guard=none)(s x:Operand)(t:TypeId)
  (H:o.op=.call {callee:=.builtin .append,args:=#[s,x],argTypes:=#[t,t]})
  (d:Nat)(e:TypeId)(i:TypeInfo)(z:Vu)(size b:Nat)(I:P.underlying t=some (.slice e))(J:P.info? e=some i)(L:i.zero=some z)
  (k:i.size=size)(A:i.bytes=b)(B:z.cells.size=size)(C:0<size)
  (v:Vu)(n:Nat)(xs:List Vu)(M:a.eval s=v)(r:w.ownsRow d e size v n xs)
  (D:Addr)(m c:Nat)(news:List Vu)(N:a.eval x=.slice (some D) m c)(O:news.length=m*size)(l:∀j u,news[j]? =some u->w.cell? (D.add j)=some u)(R:∀u∈news,u.oneCell'=true)
  (S:0<n+m)(F:n+m<=maxLen)(f:(n+m)*b<=140737488355328)(p:d<=w.heap.size)
  (h:∀g cap w',w'.ownsRow d e size (.slice (some ⟨g,0,none⟩) (n+m) cap) (n+m) (xs++news)->w.grownBy w' v.ownBlock->(v.ownBlock=some g\/g=w.heap.size)->K (a.put o.dst (.slice (some ⟨g,0,none⟩) (n+m) cap)) w'):
  if Region.wanted o (yielded q a.tmps)=true then Oper.wp P o a w K Q else E:=by
 have T:Region.wanted o (yielded q a.tmps)=true:=by simp[Region.wanted,y]
 rw[if_pos T];obtain⟨X,w',U,G,V,_,h5⟩:=run_append_own_at (P:=P) w d t o.type e i z size b I J L k A B C v n xs r D m c news O l R F f p;obtain⟨g,cap,rfl,_,W⟩:=G.form S;unfold Oper.wp execOp;simp only[H,resolve,invoke,builtin,Sem.run_bind,Sem.run_pure,Result.andThen_ok,List.map_toArray,List.map_cons,List.map_nil,M,N,U];refine h g cap w' G V ?_;rcases h5 with h5|h5
 ·exact .inl (by rw[<-h5];rfl)
 ·exact .inr (by simpa[Value.ownBlock]using h5)
def qnw(w wr:Wd)(na:OA)(nc:Nat)(va:OA)(vc k:Nat)(ns vs:List Dl):Prop:=
 ns.length=k/\vs.length=k/\wr.ownsRow w.heap.size 134 6 (.slice na k nc) k (qch ns)/\wr.ownsRow w.heap.size 134 6 (.slice va k vc) k (qch vs)/\(∀b,Value.ownBlock (.slice na k nc)=some b->Value.ownBlock (.slice va k vc)≠some b)/\Below w.heap.size w wr
def qut(w:Wd)(bd:Nat->Option (Dl×Dl))(i:Nat)(y:Dl):Prop:=match bd i with
 |some (a,b)=>y.len=2/\∃gb ob,y.a=some ⟨gb,ob,none⟩/\gb<w.heap.size/\(∀j,j<6->w.cell? ⟨gb,ob+j,none⟩=a.cells[j]?)/\(∀j,j<6->w.cell? ⟨gb,ob+6+j,none⟩=b.cells[j]?)
 |none=>y.len≠2
theorem qwb(xb mb g o n m:Nat)(_:Int)(_:Bool)(_:BA)(_:Int)(ya:OA)(blen h2:Nat)(es:List Dl)(bd:Nat->Option (Dl×Dl))(w:Wd)(Q:En->Wd->Prop)(hn:n+3<=1000000)(j8:n+3<=m)
  (c0:w.cell? ⟨g,o+6,none⟩=some (.int .i64 4))(c5:w.cell? ⟨g,o+6+5,none⟩=some (.slice ya blen h2))(H:blen=es.length)(l4:blen<=30000)
  (c8:∀(i j:Nat) (x:Dl),es[i]? =some x->j<6->∃g o,ya=some ⟨g,o,none⟩/\g<w.heap.size/\w.cell? ⟨g,o+i*6+j,none⟩=x.cells[j]?)
  (h4:∀i x,es[i]? =some x->qut w bd i x)
  (hQ:(∃i,i<blen/\bd i=none)->∀w',Below w.heap.size w w'->Q (.panicked (qan (qap 4))) w')
  (hK:∀wr na nc va vc ns vs,(∀i a b,ns[i]? =some a->vs[i]? =some b->bd i=some (a,b))->qnw w wr na nc va vc blen ns vs->q7s xb mb (.slice (tlD g o m 2) (n+1) (m-2)) na nc va vc blen wr Q):
  Calls prog 337 #[bp xb,.slice (some ⟨g,o,none⟩) (n+3) m] w Q:=by
 obtain⟨i0,hi,c9,d6,d7⟩:=info_parts info134;obtain⟨i1,f8,h5,h6,h7⟩:=info_parts qm7;have l5:∀w,(Instr.slice 132 (.slice (some ⟨g,o,none⟩) (n+3) m) (some (.int .i64 2)) none none).run prog w=.ok (.slice (tlD g o m 2) (n+1) (m-2)) w:=λw=>qfd g o (n+1) m j8 w
 have h3:(3:Int)<=(n:Int)+3:=by omega
 have h1:(1:Int)<(n:Int)+3:=by omega
 have HB:=hZ H;have d8:=hZ c8;have j9:=hZ h4;have HQ:=hZ hQ;have HK:=hZ hK;clear H c8 h4 hQ hK;go_enter func337,ntmps337
 go_wp2_with (first|(go_at_call 290;refine(qak _).mono ?_;rintro e w2 ⟨rfl,f9⟩;obtain rfl:=f9.symm))
 go_loopw [26,5,6] (λc s1 s2 wr=>∃(k:Nat) (na:OA) (nc:Nat) (va:OA) (vc:Nat) (ns vs:List Dl),k<=blen/\c=.int .i64 (k:Int)/\s1=.slice na k nc/\s2=.slice va k vc/\(∀i a b,ns[i]? =some a->vs[i]? =some b->bd i=some (a,b))/\qnw w wr na nc va vc k ns vs) (λc _ _ _=>blen-(intOf c).toNat)
 case atStart=>exact⟨0,none,0,none,0,[],[],Nat.zero_le _,rfl,rfl,rfl,λi a b h=>by simp at h,rfl,rfl,⟨rfl,.inl ⟨rfl,rfl⟩⟩,⟨rfl,.inl ⟨rfl,rfl⟩⟩,λb h=>by simp[Value.ownBlock]at h,Below.refl _ _⟩
 case round=>
  obtain⟨k,na,nc,va,vc,ns,vs,hk,rfl,rfl,rfl,h8,l⟩:=hrel;have g0:=hZ h8;have d:=hZ l;clear h8 l;by_cases g3:k<blen
  ·have a4:k<es.length:=by rw[<-HB.out];exact g3
   obtain⟨⟨zk,zn,X,Y,zm,za,I,q⟩,hz⟩:∃y,y=es[k]:=⟨_,rfl⟩;have b8:es[k]? =some ⟨zk,zn,X,Y,zm,za,I,q⟩:=by rw[hz];exact eG a4
   obtain⟨gy,oy,rfl,k0,k1⟩:=d8.out k 0 _ b8 (by omega);have J:=d.out.2.2.2.2.2;have cell:∀j,j<6->wr.cell? ⟨gy,oy+k*6+j,none⟩=(Dl.cells ⟨zk,zn,X,Y,zm,za,I,q⟩)[j]?:=λj hj=>by
    obtain⟨g',o',e1,e2,e3⟩:=d8.out k j _ b8 hj;cases e1;exact(J.cell (p:=⟨gy,oy+k*6+j,none⟩) k0).trans e3
   have d0:wr.cell? ⟨gy,oy+k*6,none⟩=some (.int .i64 zk):=cell 0 (by omega);have d1:wr.cell? ⟨gy,oy+k*6+1,none⟩=some (.int .i64 zn):=cell 1 (by omega);have d2:wr.cell? ⟨gy,oy+k*6+2,none⟩=some (.bool X):=cell 2 (by omega);have d3:wr.cell? ⟨gy,oy+k*6+3,none⟩=some (.string Y):=cell 3 (by omega);have d4:wr.cell? ⟨gy,oy+k*6+4,none⟩=some (.int .i64 zm):=cell 4 (by omega);have d5:wr.cell? ⟨gy,oy+k*6+5,none⟩=some (.slice za I q):=cell 5 (by omega);have Z:=j9.out k _ b8;have l2:(k:Int)<(blen:Int):=by omega
   clear cell hz k1 b8;unfold qut at Z;cases hbk:bd k with
   |none=>
    rw[hbk]at Z;have hne:((I:Int)==2)=false:=by have h:I≠2:=Z;simp;omega
    have g4:=hZ hbk;clear Z hbk;go_wp2_with (first|(go_at_call 290;refine(qav _).mono ?_;rintro e w2 ⟨rfl,o,rfl⟩))
    exact⟨rfl,HQ.out ⟨k,g3,g4.out⟩ _ (d.out.2.2.2.2.2.trans (((qaa _ _).alloc (by simp) _).mono d.out.2.2.2.2.2.size))⟩
   |some ab=>
    obtain⟨⟨pk,pn,M,N,pm,pa,r,s⟩,⟨qk,qn,O,P,qm,qa,t,z⟩⟩:=ab;rw[hbk]at Z;obtain⟨rfl,B,C,rfl,h9,hp,hq⟩:=Z;have g4:=hZ hbk;have K:∀(W:Wd),Below w.heap.size w W->∀j,j<6->W.cell? ⟨B,C+j,none⟩=(Dl.cells ⟨pk,pn,M,N,pm,pa,r,s⟩)[j]?:=λW hW j hj=>(hW.cell (p:=⟨B,C+j,none⟩) h9).trans (hp j hj)
    have i2:∀(W:Wd),Below w.heap.size w W->∀j,j<6->W.cell? ⟨B,C+6+j,none⟩=(Dl.cells ⟨qk,qn,O,P,qm,qa,t,z⟩)[j]?:=λW hW j hj=>(hW.cell (p:=⟨B,C+6+j,none⟩) h9).trans (hq j hj)
    have l6:=hZ K;have a0:=hZ i2;obtain⟨W0,a1⟩:∃W0,W0=wr.alloc (.cells (Dl.cells ⟨zk,zn,X,Y,zm,some ⟨B,C,none⟩,2,q⟩) 134):=⟨_,rfl⟩;have E:Below w.heap.size w W0:=by rw[a1];exact J.trans ((qaa _ _).mono J.size)
    have S:W0.heap[wr.heap.size]? =some (.cells (Dl.cells ⟨zk,zn,X,Y,zm,some ⟨B,C,none⟩,2,q⟩) 134 (0,0)):=by rw[a1];exact eN _ _
    have x5:W0.cell? ⟨wr.heap.size,5,none⟩=some (.slice (some ⟨B,C,none⟩) 2 q):=by simp only[World.cell?,S];rfl
    have u0:W0.cell? ⟨B,C,none⟩=some (.int .i64 pk):=K W0 E 0 (by omega);have u1:W0.cell? ⟨B,C+1,none⟩=some (.int .i64 pn):=K W0 E 1 (by omega);have u2:W0.cell? ⟨B,C+2,none⟩=some (.bool M):=K W0 E 2 (by omega);have u3:W0.cell? ⟨B,C+3,none⟩=some (.string N):=K W0 E 3 (by omega);have u4:W0.cell? ⟨B,C+4,none⟩=some (.int .i64 pm):=K W0 E 4 (by omega);have u5:W0.cell? ⟨B,C+5,none⟩=some (.slice pa r s):=K W0 E 5 (by omega);obtain⟨_,_,b9,c7,d9,_⟩:=d.out;have e0:W0.ownsRow w.heap.size 134 6 (.slice na k nc) k (qch ns):=qbr b9 λc A=>by rw[a1];exact eH _ _ _ (b9.lt c A).2
    have e7:W0.ownsRow w.heap.size 134 6 (.slice va k vc) k (qch vs):=qbr c7 λc A=>by rw[a1];exact eH _ _ _ (c7.lt c A).2
    have i3:=hZ e0;have i4:=hZ e7;have a2:=hZ E;have i5:=hZ S;have k2:wr.heap.size<W0.heap.size:=(eE.1 S).1;have l7:Hid (w.heap.size<=wr.heap.size):=J.size;have e8:=hZ d9;have k3:Hid (∀c,Value.ownBlock (.slice va k vc)=some c->c<wr.heap.size):=λc A=>(c7.lt c A).2
    have k4:Hid (∀c,Value.ownBlock (.slice na k nc)=some c->c<wr.heap.size):=λc A=>(b9.lt c A).2
    have l3:w.heap.size<=W0.heap.size:=E.size;clear hbk hp hq K i2 E S b9 c7 e0 e7 d9 J;go_wp2_with (first|(go_at_call 290;rw[<-a1];clear a1;refine(qak _).mono ?_;rintro e w2 ⟨rfl,f9⟩;obtain rfl:=f9.symm;refine Hid.out ?_))
    refine hZ ?_;go_wp2_with (at_builtin;refine wpList_append_lies _ rfl _ _ 132 rfl w.heap.size 134 i0 (.agg #[.int .i64 0,.int .i64 0,.bool false,.string ⟨#[]⟩,.int .i64 0,.slice none 0 0]) 6 72 underlying132 hi c9 d6 d7 rfl (by decide) _ _ _ rfl (i3.out.alloc _) ⟨W0.heap.size,0,none⟩ 1 1 [.int .i64 pk,.int .i64 pn,.bool M,.string N,.int .i64 pm,.slice pa r s] rfl rfl ?c1 ?c2 (by decide) ?c3 ?c4 ?c5 (W0.heap.size+1) ?c6 ?_)
    case c1=>exact World.news_of_block (cs:=#[.int .i64 pk,.int .i64 pn,.bool M,.string N,.int .i64 pm,.slice pa r s]) (by have:=eN W0 (.cells #[.int .i64 pk,.int .i64 pn,.bool M,.string N,.int .i64 pm,.slice pa r s] 134);simpa using this)
    case c2=>intro u hu;simp at hu;rcases hu with rfl|rfl|rfl|rfl|rfl|rfl <;> rfl
    case c3=>unfold maxLen;omega
    case c4=>omega
    case c5=>simp;omega
    case c6=>simp
    intro g1 i6 w1 a5 T e9 f0;refine Hid.out ?_;have a3:W0.grownBy w1 (Value.slice na k nc).ownBlock:=qcg T;have F:∀b,b<W0.heap.size->(Value.slice na k nc).ownBlock≠some b->w1.heap[b]? =W0.heap[b]?:=λb H hne=>a3.block b H λe=>hne e.symm
    have G:Below w.heap.size w w1:=⟨a3.os.trans a2.out.os,a3.tape.trans a2.out.tape,a3.output.trans a2.out.output,eT a2.out.size a3.size,λj hj=>by
     rw[F j (eW hj a2.out.size) (λe=>by have:=(i3.out.lt j e).1;omega)];exact a2.out.block j hj⟩
    have a6:w1.heap[wr.heap.size]? =some (.cells (Dl.cells ⟨zk,zn,X,Y,zm,some ⟨B,C,none⟩,2,q⟩) 134 (0,0)):=by
     rw[F _ k2 (λe=>by have:=k4.out _ e;omega)];exact i5.out
    have y5:w1.cell? ⟨wr.heap.size,5,none⟩=some (.slice (some ⟨B,C,none⟩) 2 q):=by simp only[World.cell?,a6];rfl
    have v0:w1.cell? ⟨B,C+6,none⟩=some (.int .i64 qk):=a0.out w1 G 0 (by omega);have v1:w1.cell? ⟨B,C+6+1,none⟩=some (.int .i64 qn):=a0.out w1 G 1 (by omega);have v2:w1.cell? ⟨B,C+6+2,none⟩=some (.bool O):=a0.out w1 G 2 (by omega);have v3:w1.cell? ⟨B,C+6+3,none⟩=some (.string P):=a0.out w1 G 3 (by omega);have v4:w1.cell? ⟨B,C+6+4,none⟩=some (.int .i64 qm):=a0.out w1 G 4 (by omega);have v5:w1.cell? ⟨B,C+6+5,none⟩=some (.slice qa t z):=a0.out w1 G 5 (by omega);have f1:w1.ownsRow w.heap.size 134 6 (.slice va k vc) k (qch vs):=qbr i4.out λc A=>F c (i4.out.lt c A).2 λe=>e8.out c e A
    have f2:∀c,Value.ownBlock (.slice va k vc)=some c->c≠g1:=λc A e=>by
     subst e;rcases e9 with h|h
     ·exact e8.out c h A
     ·have:=k3.out c A;omega
    have a7:=hZ a5;have a8:=hZ f1;have D:=hZ G;have a9:=hZ f2;have l8:w.heap.size<=w1.heap.size:=G.size;have f3:Hid (g1<w1.heap.size):=f0;clear a5 T e9 f0 a3 F G a6 f1 f2 u0 u1 u2 u3 u4 u5 x5;refine hZ ?_;go_wp2_with (at_builtin;refine wpList_append_lies _ rfl _ _ 132 rfl w.heap.size 134 i0 (.agg #[.int .i64 0,.int .i64 0,.bool false,.string ⟨#[]⟩,.int .i64 0,.slice none 0 0]) 6 72 underlying132 hi c9 d6 d7 rfl (by decide) _ _ _ rfl (a8.out.alloc _) ⟨w1.heap.size,0,none⟩ 1 1 [.int .i64 qk,.int .i64 qn,.bool O,.string P,.int .i64 qm,.slice qa t z] rfl rfl ?e1 ?e2 (by decide) ?e3 ?e4 ?e5 (w1.heap.size+1) ?e6 ?_)
    case e1=>exact World.news_of_block (cs:=#[.int .i64 qk,.int .i64 qn,.bool O,.string P,.int .i64 qm,.slice qa t z]) (by have:=eN w1 (.cells #[.int .i64 qk,.int .i64 qn,.bool O,.string P,.int .i64 qm,.slice qa t z] 134);simpa using this)
    case e2=>intro u hu;simp at hu;rcases hu with rfl|rfl|rfl|rfl|rfl|rfl <;> rfl
    case e3=>unfold maxLen;omega
    case e4=>omega
    case e5=>simp;omega
    case e6=>simp
    intro g2 i7 w2 b0 U f4 i8;refine Hid.out ?_;have R:w1.grownBy w2 (Value.slice va k vc).ownBlock:=qcg U;have i9:Hid (qnw w w2 (some ⟨g1,0,none⟩) i6 (some ⟨g2,0,none⟩) i7 (k+1) (ns++[⟨pk,pn,M,N,pm,pa,r,s⟩]) (vs++[⟨qk,qn,O,P,qm,qa,t,z⟩])):=by
     obtain⟨g5,g7,_⟩:=d.out;refine⟨by simp[g5],by simp[g7],?_,?_,?_,?_⟩
     ·rw[qhq];refine qbr a7.out λc A=>R.block c (a7.out.lt c A).2 λe=>?_
      obtain rfl:g1=c:=by simpa[Value.ownBlock]using A
      exact a9.out _ e.symm rfl
     ·rw[qhq];exact b0
     ·intro b H g8;obtain rfl:g1=b:=by simpa[Value.ownBlock]using H
      have g8:g2=g1:=by simpa[Value.ownBlock]using g8
      rcases f4 with h|h
      ·exact a9.out _ h g8
      ·have:=f3.out;omega
     ·exact⟨R.os.trans D.out.os,R.tape.trans D.out.tape,R.output.trans D.out.output,eT D.out.size R.size,λj hj=>by
       rw[R.block j (eW hj D.out.size) (λe=>by have:=(a8.out.lt j e.symm).1;omega)];exact D.out.block j hj⟩
    have j0:Hid (∀i a b,(ns++[(⟨pk,pn,M,N,pm,pa,r,s⟩:Dl)])[i]? =some a->(vs++[(⟨qk,qn,O,P,qm,qa,t,z⟩:Dl)])[i]? =some b->bd i=some (a,b)):=λi a b ha H=>by
     obtain⟨g5,g7,_⟩:=d.out;by_cases j1:i<k
     ·rw[eA (by omega)]at ha H;exact g0.out i a b ha H
     ·have f8:=(eL.1 ha).1;have j1:i=k:=by simp at f8;omega
      subst j1;rw[eB (by omega)]at ha H;simp[g5]at ha;simp[g7]at H;rw[<-ha,<-H];exact g4.out
    clear b0 U f4 i8 R a7 a8 a9 f3 D v0 v1 v2 v3 v4 v5 y5;refine hZ ?_;go_wp2;go_roundw
    case rel=>exact⟨k+1,_,_,_,_,_,_,by omega,by go_num,rfl,rfl,j0.out,i9.out⟩
    case measure=>simp[intOf];omega
  ·have a4:k=blen:=by omega
   have l:=d.out;rw[a4]at l;have j2:=HK.out wr na nc va vc ns vs g0.out l;have j3:=hZ j2;have k5:¬(k:Int)<(blen:Int):=by omega
   rw[a4];clear a4 l j2 HK d g0 k5 g3 hk;go_wp2_with (fail)
   go_region_held2 (λ_=>True) (first|(exact trivial))
    (first
     |(go_at_call 238;refine(qk7 na blen nc _).mono ?_;rintro e w1 ⟨rfl,o1,hl⟩;have D:Hid (Below wr.heap.size wr w1):=(have H:=bl1 hl;⟨H.os,H.tape,H.output,H.size,H.block⟩);clear hl)
     |(go_at_call 293;refine(j3.out _ D.out).mono ?_;rintro e w2 (⟨ps,rfl,hq⟩|⟨v,rfl,kc,cc,rfl,A,hA,hB⟩);(exact⟨rfl,hq⟩);have k6:=hZ A;have HA:=hZ hA;have k7:=hZ hB;clear A hA hB))
   all_goals
    have d0:=k6.out;go_wp2_with (fail)
    clear D j3;go_region_held2 (λw'=>w'.cell? ⟨xb,0,none⟩=some (bp mb)) (first|(exact k8.out)|(exact k9.out)|(exact g9.out)|(exact qat g9.out)|(exact d0)|(exact qat d0)|go_keep)
     (first
      |(go_at_call 334;refine(HA.out _ (by exact⟨rfl,rfl,rfl,rfl⟩)).mono ?_;rintro e w4 (⟨ps,rfl,hq⟩|⟨u,rfl,xs,ga,c4,⟨rfl,b1,b2,f,L⟩,h0,hk⟩);(exact⟨rfl,hq⟩);have g9:=hZ b2;have j4:Hid (xs.length=blen*1):=(b1.trans (Nat.mul_one blen).symm);have f5:Hid (w4.ownsRow w2.heap.size 241 1 (.slice (some ⟨w2.heap.size,0,none⟩) 1 1) 1 [.func (.func kc) #[] cc]):=⟨rfl,.inr ⟨w2.heap.size,1,#[.func (.func kc) #[] cc],rfl,eR _,h0,eR _,by unfold maxLen;omega,rfl,rfl⟩⟩;have b3:Hid (w2.heap.size<=w4.heap.size):=Nat.le_of_lt (eE.1 h0).1;have b4:Hid (∀j x,xs[j]? =some x->w4.cell? ((⟨ga,0,none⟩:Addr).add j)=some x):=(λj x hx=>by have b5:(⟨ga,0,none⟩:Addr).add j=⟨ga,j,none⟩:=(by unfold Addr.add;split <;> simp_all);rw[b5];exact f j x hx);have f6:=hZ L;have b6:=hZ hk;clear b1 b2 f L h0 hk)
      |(go_at_call 334;refine(k7.out _ (by exact⟨rfl,rfl,rfl,rfl⟩)).mono ?_;rintro e w4 (⟨ps,rfl,hq⟩|⟨u,rfl,xs,ga,c4,⟨rfl,b1,b2,f,L⟩,hk⟩);(exact⟨rfl,hq⟩);have g9:=hZ b2;have j4:Hid (xs.length=blen*1):=(b1.trans (Nat.mul_one blen).symm);have f5:Hid ((w4.alloc (.cells #[.func (.func kc) #[] cc] 241)).ownsRow w4.heap.size 241 1 (.slice (some ⟨w4.heap.size,0,none⟩) 1 1) 1 [.func (.func kc) #[] cc]):=⟨rfl,.inr ⟨w4.heap.size,1,#[.func (.func kc) #[] cc],rfl,eR _,eN _ _,eR _,by unfold maxLen;omega,rfl,rfl⟩⟩;have b3:Hid (w4.heap.size<=(w4.alloc (.cells #[.func (.func kc) #[] cc] 241)).heap.size):=(by simp[RowKit.Hid]);have b4:Hid (∀j x,xs[j]? =some x->(w4.alloc (.cells #[.func (.func kc) #[] cc] 241)).cell? ((⟨ga,0,none⟩:Addr).add j)=some x):=(λj x hx=>by have b5:(⟨ga,0,none⟩:Addr).add j=⟨ga,j,none⟩:=(by unfold Addr.add;split <;> simp_all);rw[b5];exact qat (f j x hx));have f6:=hZ L;have b6:=hZ hk;clear b1 b2 f L hk)
      |(refine qgv _ rfl _ _ 426 rfl _ 241 i1 .nilFunc 1 8 underlying426 f8 h5 h6 h7 rfl (by decide) _ _ _ rfl f5.out ⟨ga,0,none⟩ blen c4 xs rfl j4.out b4.out f6.out (by omega) (by unfold maxLen;omega) (by omega) b3.out ?_;intro g6 j5 w6 b7 V f7;obtain⟨j6,j7⟩:=b6.out g6 j5 w6 V (f7.imp (λh=>(Option.some.inj h).symm) (λh=>Nat.le_of_eq h.symm)) b7;clear f7;have k9:=hZ j6;have l0:=hZ j7;clear b7 V j6 j7)
      |(go_at_call 333;refine(l0.out _ (by exact⟨rfl,rfl,rfl,rfl⟩)).mono ?_;rintro e w8 (⟨ps,rfl,hq⟩|⟨v,rfl,A,hq⟩);(exact⟨rfl,hq⟩);have k8:=hZ A;have l1:=hZ hq;clear A hq))
    all_goals go_wp2
    all_goals exact l1.out
theorem qhn(t:BA):∀(es:List MapEntry) (L:List (List UInt8×Vu)) (n:Nat),es.map (λe=>(e.key,e.val))=L.map (λp=>(Value.string ⟨p.1.toArray⟩,p.2))->
  (Instr.findNow .string (.string t) es n=some none/\∀p,p∈L->p.1≠t.data.toList)\/∃j v,Instr.findNow .string (.string t) es n=some (some (n+j,v))/\∃p,L[j]? =some p/\p.1=t.data.toList
 | [],[],n,_=>.inl ⟨rfl,λp hp=>by simp at hp⟩
 | [],_::_,n,h=>by simp at h
 |_::_,[],n,h=>by simp at h
 |e::es,(s,b)::L,n,h=>by
  simp only[List.map_cons,List.cons.injEq,Prod.mk.injEq]at h;obtain⟨⟨c,d⟩,f⟩:=h;simp only[Instr.findNow,c,Instr.sameNow,qdg];by_cases a:t.data.toList=s
  ·right;exact⟨0,b,by simp[a,d],(s,b),rfl,a.symm⟩
  ·rcases qhn t es L (n+1) f with⟨e1,e2⟩|⟨j,v,e1,p,e2,e3⟩
   ·left;refine⟨by simp[a,e1],λp hp=>?_⟩;rcases List.mem_cons.1 hp with rfl|hp
    ·exact λe=>a e.symm
    ·exact e2 p hp
   ·right;exact⟨j+1,v,by simp[a,e1];omega,p,by simpa using e2,e3⟩
theorem qd2{α β:Type}(f:α->β):∀(l:List α) (j:Nat),(l.eraseIdx j).map f=(l.map f).eraseIdx j
 | [],_=>by simp
 |a::r,0=>by simp
 |a::r,j+1=>by simp[qd2 f r j]
theorem McRows.erase{R:Gh->Macro->Vu->Prop}:∀{ms:List Macro} {L:List (Bs×Vu)} {j:Nat} {p:Bs×Vu},McRows R G ms L->L[j]? =some p->p.1=s->McRows R G (ms.filter λm=>!(m.name==s)) (L.eraseIdx j)
 |_,_,j,p,.nil,h,_=>by simp at h
 |_,_,0,p,.cons mc v ms L d b a,h,e=>by
  simp at h;subst h;subst e;have:(ms.filter λm=>!(m.name==mc.name))=ms:=List.filter_eq_self.2 λm f=>by simpa using b m f
  simp[this];exact a
 |_,_,j+1,p,.cons mc v ms L d b a,h,e=>by
  have n:L[j]? =some p:=by simpa using h
  have c:∃m,m∈ms/\m.name=s:=by
   clear b h;have:∀{ms:List Macro} {L:List (Bs×Vu)} {j:Nat} {p:Bs×Vu},McRows R G ms L->L[j]? =some p->∃m,m∈ms/\m.name=p.1:=by
    intro ms L j p a h;induction a generalizing j with
    |nil=>simp at h
    |cons mc v ms L d b a o=>
     cases j with
     |zero=>simp at h;subst h;exact⟨mc,by simp,rfl⟩
     |succ j=>obtain⟨m,g,i⟩:=o (by simpa using h);exact⟨m,by simp[g],i⟩
   obtain⟨m,g,i⟩:=this a n;exact⟨m,g,i.trans e⟩
  obtain⟨m,k,l⟩:=c;have hne:(mc.name==s)=false:=by
   have:=b m k;simp;exact λe=>this (by rw[l,e])
  simp only[List.eraseIdx_cons_succ];rw[List.filter_cons_of_pos (by simp[hne])];exact .cons mc v _ _ d (λm f=>b m (List.mem_filter.1 f).1) (McRows.erase a n e)
theorem McRows.keepAll{R:Gh->Macro->Vu->Prop}{ms:List Macro}{L:List (Bs×Vu)}(h:McRows R G ms L)(a:∀p,p∈L->p.1≠s):(ms.filter λm=>!(m.name==s))=ms:=by
 induction h with
 |nil=>rfl
 |cons mc v ms L e f g b=>
  have c:=a (mc.name,v) (by simp);rw[List.filter_cons_of_pos (by simpa using c),b λp d=>a p (by simp[d])]
theorem quj(es:Array MapEntry)(j:Nat):(es.eraseIdxIfInBounds j).toList=es.toList.eraseIdx j:=by
 simp[Array.eraseIdxIfInBounds];split
 ·simp
 ·rw[List.eraseIdx_of_length_le (by simp;omega)]
theorem qqv(b:Nat)(es:Array MapEntry)(a:Nat)(L:List (Bs×Vu))(R:Gh->Macro->Vu->Prop)(G:Gh)(i:List Macro)(t:BA)(f:es.toList.map (λe=>(e.key,e.val))=L.map (λp=>(Value.string ⟨p.1.toArray⟩,p.2)))(g:McRows R G i L):
  ∃c k,(∀w:Wd,w.heap[b]? =some (.map es a)->∀ty,(Builtin.delete_ #[325,9] ty #[.map (some b),.string t]).run prog w=.ok (.tuple #[]) (setB w b (.map c a)))/\c.toList.map (λe=>(e.key,e.val))=k.map (λp=>(Value.string ⟨p.1.toArray⟩,p.2))/\McRows R G (i.filter λm=>!(m.name==t.data.toList)) k:=by
 rcases qhn t es.toList L 0 f with⟨e1,e2⟩|⟨j,v,e1,p,e2,e3⟩
 ·refine⟨es,L,λw d ty=>?_,f,by rw[g.keepAll e2];exact g⟩;simp[Builtin.delete_,run_underlying underlying325,go_sem,qa4 b es a w d,qh8,Instr.findKey,run_underlying underlying9,e1,qb0 b es a _ w d,Result.andThen]
 ·refine⟨es.eraseIdxIfInBounds j,L.eraseIdx j,λw d ty=>?_,?_,g.erase e2 e3⟩
  ·have h:Instr.findNow .string (.string t) es.toList 0=some (some (j,v)):=by simpa using e1
   simp[Builtin.delete_,run_underlying underlying325,go_sem,qa4 b es a w d,qh8,Instr.findKey,run_underlying underlying9,h,qb0 b es a _ w d,Result.andThen]
  ·rw[quj,qd2,f,qd2]
theorem qjw(q mm:Nat)(z:Int)(m:Bool)(b:BA)(s:Int)(A:OA)(f g:Nat)(es h:Array MapEntry)(a:Nat)(w:Wd)(c2:w.cell? ⟨q,2,none⟩=some (.map (some mm)))(i:w.heap[mm]? =some (.map es a))(n:(Kw.of b.data.toList).isSome=false)
  (B:∀w:Wd,w.heap[mm]? =some (.map es a)->∀ty,(Builtin.delete_ #[325,9] ty #[.map (some mm),.string b]).run prog w=.ok (.tuple #[]) (setB w mm (.map h a))):
  Calls prog 291 #[bp q,.agg (Dl.cells ⟨3,z,m,b,s,A,f,g⟩)] w λe w'=>e=.returned (.string b)/\∃w1,Below w.heap.size w w1/\Lk (setB w1 mm (.map h a)) w':=by
 have G:=qae c2;have H:=(eE.1 i).1;have C:=hZ i;have D:=hZ B;have t:=hZ n;clear i B n;go_enter func291,ntmps291
 go_wp2_with (first|(go_at_call 296;refine(qa8 z m b s A f g _).mono ?_;rintro e w2 ⟨rfl,E⟩;have j:=hZ E;clear E)|(go_at_call 320;refine(qjr b _).mono ?_;rintro e w3 ⟨rfl,F⟩;rw[t.out];have k:=hZ F;clear F;refine Hid.out ?_))
 have c:Below w.heap.size w w3:=by
  have r:Below w.heap.size w w2:=(qaa _ _).trans (j.out.mono (by simp));exact(r.trans ((bl1 k.out).mono r.size))
 have l:w3.heap[w2.heap.size]? =some (.cells #[.string b,.int .i64 s] 382 (0,0)):=by rw[k.out.heap];exact eN _ _
 have I:w3.cell? ⟨w2.heap.size,0,none⟩=some (.string b):=by simp only[World.cell?,l];rfl
 have J:w3.cell? ⟨q,2,none⟩=some (.map (some mm)):=(c.cell (p:=⟨q,2,none⟩) G).trans c2;have o:w3.heap[mm]? =some (.map es a):=(c.block _ H).trans C.out;have u:=D.out w3.drew o;have hne:w2.heap.size≠mm:=by
  have r:Below w.heap.size w w2:=(qaa _ _).trans (j.out.mono (by simp));have:=r.size;omega
 obtain⟨w4,d⟩:∃w4,w4=setB w3.drew mm (.map h a):=⟨_,rfl⟩;have K:w4.cell? ⟨w2.heap.size,0,none⟩=some (.string b):=by
  have:w4.heap[w2.heap.size]? =w3.heap[w2.heap.size]?:=by rw[d];exact qb5 hne
  simp only[World.cell?,this,l];rfl
 rw[<-d]at u;have v:=hZ c;have x:=hZ d;clear c l o hne d j k D C;refine hZ ?_;go_wp2_with (first|(go_at_call 290;refine(qak _).mono ?_;rintro e L ⟨rfl,y⟩;obtain rfl:=y.symm))
 go_region
 go_wp2;go_ret;exact⟨rfl,w3,v.out,by rw[x.out];exact⟨rfl,rfl,rfl,rfl⟩⟩
theorem qjx(r:Nat)(j:Int)(d:Bool)(a:BA)(k:Int)(l:OA)(b c:Nat)(w:Wd)(f:(Kw.of a.data.toList).isSome=true):
  Calls prog 291 #[bp r,.agg (Dl.cells ⟨3,j,d,a,k,l,b,c⟩)] w λe w'=>e=.panicked (qan (qap 4))/\Below w.heap.size w w':=by
 have g:=hZ f;clear f;go_enter func291,ntmps291
 go_wp2_with (first|(go_at_call 296;refine(qa8 j d a k l b c _).mono ?_;rintro e w2 ⟨rfl,m⟩;have h:=hZ m;clear m)|(go_at_call 320;refine(qjr a _).mono ?_;rintro e w3 ⟨rfl,n⟩;rw[g.out];have i:=hZ n;clear n)|(go_at_call 290;refine(qav _).mono ?_;rintro e s ⟨rfl,o,rfl⟩))
 have p:Below w.heap.size w w2:=(qaa _ _).trans (h.out.mono (by simp));have q:Below w.heap.size w w3:=p.trans ((bl1 i.out).mono p.size);exact⟨rfl,rfl,q.trans ((qaa _ _).mono q.size)⟩
theorem qej(j:Nat)(f g:Int)(c:Bool)(d:BA)(h:Int)(i:OA)(a b:Nat)(w:Wd)(k:f≠3):
  Calls prog 291 #[bp j,.agg (Dl.cells ⟨f,g,c,d,h,i,a,b⟩)] w λe w'=>e=.panicked (qan (qap 4))/\Below w.heap.size w w':=by
 go_enter func291,ntmps291
 go_wp2_with (first|(go_at_call 296;refine(qe5 f g c d h i a b _ k).mono ?_;rintro e w2 ⟨rfl,l⟩))
 exact⟨rfl,rfl,(qaa _ _).trans (l.mono (by simp))⟩
theorem qtm(B:Nat)(E F:Int)(x:Bool)(y:BA)(G:Int)(H:OA)(h i:Nat)(w:Wd)(Q:En->Wd->Prop)
  (T:∀w',Lk (w.alloc (.cells (Dl.cells ⟨E,F,x,y,G,H,h,i⟩) 134)) w'->Calls prog 231 #[bp B,.agg (Dl.cells ⟨E,F,x,y,G,H,h,i⟩)] w' (RetP (λv w2=>∃e2:Dl,v=.agg e2.cells/\w2.heap[w.heap.size]? =some (.cells (Dl.cells ⟨E,F,x,y,G,H,h,i⟩) 134 (0,0))/\
   ∀W,Lk (qdh w2 w.heap.size (.int .i64 e2.k) (.int .i64 e2.n) (.bool e2.tr) (.string e2.tx) (.int .i64 e2.m) (.slice e2.a e2.len e2.cap)) W->Calls prog 232 #[bp B,.agg e2.cells] W λe w3=>∃s:BA,e=.returned (.string s)/\Below W.heap.size W w3/\
    ((s=⟨#[100,101,102,105,110,101]⟩/\∀w4,Lk w3 w4->Calls prog 233 #[bp B,.slice e2.a e2.len e2.cap] w4 (RQ Q))\/
     (s=⟨#[100,101,102,105,110,101,45,115,121,110,116,97,120]⟩/\∀w4,Lk w3 w4->Calls prog 234 #[bp B,.slice e2.a e2.len e2.cap] w4 (RetP (λv P=>v=.tuple #[]/\Q (.returned (.func (.func 235) #[] #[])) P) Q))\/
     ((s.toList== [100,101,102,105,110,101])=false/\(s.toList== [100,101,102,105,110,101,45,115,121,110,116,97,120])=false/\∀w4,Lk w3 w4->Calls prog 236 #[bp B,.agg e2.cells] w4 (RQ Q)))) Q)):
  Calls prog 144 #[bp B,.agg (Dl.cells ⟨E,F,x,y,G,H,h,i⟩)] w Q:=by
 have U:=hZ T;clear T;go_enter func144,ntmps144
 go_wp2_with (go_at_call 231;refine(U.out _ (by exact⟨rfl,rfl,rfl,rfl⟩)).mono ?_;rintro e w2 (⟨R,rfl,j⟩|⟨v,rfl,⟨r,t,d,f,u,l,b,c⟩,rfl,g,V⟩);(exact⟨rfl,j⟩);refine Hid.out ?_)
 have X:w2.cell? ⟨w.heap.size,0,none⟩=some (.int .i64 E):=by simp only[World.cell?,g];rfl
 have t1:w2.cell? ⟨w.heap.size,1,none⟩=some (.int .i64 F):=by simp only[World.cell?,g];rfl
 have Y:w2.cell? ⟨w.heap.size,2,none⟩=some (.bool x):=by simp only[World.cell?,g];rfl
 have Z:w2.cell? ⟨w.heap.size,3,none⟩=some (.string y):=by simp only[World.cell?,g];rfl
 have t4:w2.cell? ⟨w.heap.size,4,none⟩=some (.int .i64 G):=by simp only[World.cell?,g];rfl
 have t5:w2.cell? ⟨w.heap.size,5,none⟩=some (.slice H h i):=by simp only[World.cell?,g];rfl
 have tf:∀o,w2.frozen? ⟨w.heap.size,o,none⟩=false:=λo=>by simp[World.frozen?,g]
 have q:=qdv (v0:=.int .i64 r) (v1:=.int .i64 t) (v2:=.bool d) (v3:=.string f) (v4:=.int .i64 u) (v5:=.slice l b c) g;have I:(qdh w2 w.heap.size (.int .i64 r) (.int .i64 t) (.bool d) (.string f) (.int .i64 u) (.slice l b c)).cell? ⟨w.heap.size,0,none⟩=some (.int .i64 r):=by simp only[World.cell?,q];rfl
 have s1:(qdh w2 w.heap.size (.int .i64 r) (.int .i64 t) (.bool d) (.string f) (.int .i64 u) (.slice l b c)).cell? ⟨w.heap.size,1,none⟩=some (.int .i64 t):=by simp only[World.cell?,q];rfl
 have K:(qdh w2 w.heap.size (.int .i64 r) (.int .i64 t) (.bool d) (.string f) (.int .i64 u) (.slice l b c)).cell? ⟨w.heap.size,2,none⟩=some (.bool d):=by simp only[World.cell?,q];rfl
 have L:(qdh w2 w.heap.size (.int .i64 r) (.int .i64 t) (.bool d) (.string f) (.int .i64 u) (.slice l b c)).cell? ⟨w.heap.size,3,none⟩=some (.string f):=by simp only[World.cell?,q];rfl
 have M:(qdh w2 w.heap.size (.int .i64 r) (.int .i64 t) (.bool d) (.string f) (.int .i64 u) (.slice l b c)).cell? ⟨w.heap.size,4,none⟩=some (.int .i64 u):=by simp only[World.cell?,q];rfl
 have N:(qdh w2 w.heap.size (.int .i64 r) (.int .i64 t) (.bool d) (.string f) (.int .i64 u) (.slice l b c)).cell? ⟨w.heap.size,5,none⟩=some (.slice l b c):=by simp only[World.cell?,q];rfl
 have C:=qae I;have HKW:Hid (Calls prog 232 #[bp B,.agg #[.int .i64 r,.int .i64 t,.bool d,.string f,.int .i64 u,.slice l b c]] (qdh w2 w.heap.size (.int .i64 r) (.int .i64 t) (.bool d) (.string f) (.int .i64 u) (.slice l b c)) λe w3=>∃s:BA,e=.returned (.string s)/\Below (qdh w2 w.heap.size (.int .i64 r) (.int .i64 t) (.bool d) (.string f) (.int .i64 u) (.slice l b c)).heap.size (qdh w2 w.heap.size (.int .i64 r) (.int .i64 t) (.bool d) (.string f) (.int .i64 u) (.slice l b c)) w3/\
    ((s=⟨#[100,101,102,105,110,101]⟩/\∀w4,Lk w3 w4->Calls prog 233 #[bp B,.slice l b c] w4 (RQ Q))\/
     (s=⟨#[100,101,102,105,110,101,45,115,121,110,116,97,120]⟩/\∀w4,Lk w3 w4->Calls prog 234 #[bp B,.slice l b c] w4 (RetP (λv P=>v=.tuple #[]/\Q (.returned (.func (.func 235) #[] #[])) P) Q))\/
     ((s.toList== [100,101,102,105,110,101])=false/\(s.toList== [100,101,102,105,110,101,45,115,121,110,116,97,120])=false/\∀w4,Lk w3 w4->Calls prog 236 #[bp B,.agg #[.int .i64 r,.int .i64 t,.bool d,.string f,.int .i64 u,.slice l b c]] w4 (RQ Q)))):=V _ ⟨rfl,rfl,rfl,rfl⟩
 clear V g q U;unfold qdh at I s1 K L M N C HKW;refine hZ ?_;go_wp2_with (fail)
 generalize (((((w2.setCell ⟨w.heap.size,0,none⟩ (.int .i64 r)).setCell ⟨w.heap.size,1,none⟩ (.int .i64 t)).setCell ⟨w.heap.size,2,none⟩ (.bool d)).setCell ⟨w.heap.size,3,none⟩ (.string f)).setCell ⟨w.heap.size,4,none⟩ (.int .i64 u)).setCell ⟨w.heap.size,5,none⟩ (.slice l b c)=W at I s1 K L M N C HKW|-;go_wp2_with (first|(go_at_call 232;refine HKW.out.mono ?_;clear X t1 Y Z t4 t5 tf;rintro e w3 ⟨s,rfl,D,z⟩;have z0:=(D.cell (p:=⟨w.heap.size,0,none⟩) C).trans I;have z1:=(D.cell (p:=⟨w.heap.size,1,none⟩) C).trans s1;have z2:=(D.cell (p:=⟨w.heap.size,2,none⟩) C).trans K;have z3:=(D.cell (p:=⟨w.heap.size,3,none⟩) C).trans L;have z4:=(D.cell (p:=⟨w.heap.size,4,none⟩) C).trans M;have z5:=(D.cell (p:=⟨w.heap.size,5,none⟩) C).trans N;clear D;have A:=hZ z;clear z HKW I s1 K L M N;refine Hid.out ?_))
 rcases A.out with⟨rfl,O⟩|⟨rfl,O⟩|⟨a0,a1,O⟩ <;> (have S:=hZ O;clear O A)
 ·refine hZ ?_;go_wp2_with (first|(go_at_call 233;refine(S.out _ (by exact⟨rfl,rfl,rfl,rfl⟩)).mono ?_;rintro e w4 (⟨R,rfl,j⟩|⟨v,rfl,j⟩);(exact⟨rfl,j⟩);have J:=hZ j;clear j))
  exact J.out
 ·refine hZ ?_;go_wp2_with (first|(go_at_call 234;refine(S.out _ (by exact⟨rfl,rfl,rfl,rfl⟩)).mono ?_;rintro e w4 (⟨R,rfl,j⟩|⟨v,rfl,rfl,j⟩);(exact⟨rfl,j⟩);have J:=hZ j;clear j))
  exact J.out
 ·refine hZ ?_;go_wp2_with (first|(go_at_call 236;refine(S.out _ (by exact⟨rfl,rfl,rfl,rfl⟩)).mono ?_;rintro e w4 (⟨R,rfl,j⟩|⟨v,rfl,j⟩);(exact⟨rfl,j⟩);have J:=hZ j;clear j))
  exact J.out
structure LooseX (X:Xe) (G:Gh) (b:Nat):Prop where
 I:G.I b=none
 mu:b∉G.mut
 F:¬G.F b
 O:b∉[X.rb,X.mm,X.ab,X.bm]
 R:¬X.Rw b
theorem LooseX.new{sc:qaj}(g:Inv G S m w)(i:XInv K X G S x sc w)(a:w.heap.size<=b):LooseX X G b:=
 ⟨g.fresh a,λh=>by have:=g.ml h;omega,λh=>by have:=(g.ff h).2;omega,λh=>by have:=(i.lo _ h).2.2.1;have:=i.sl;omega,λh=>by have:=(i.rr _ h).2.2.2.1;omega⟩
theorem LooseX.mx(m:Mx X G w Y H w')(a:b<w.heap.size)(l:LooseX X G b):LooseX Y H b/\w'.heap[b]? =w.heap[b]?:=by
 obtain⟨s1,c,d,e,f,g⟩:=m.same;refine⟨⟨by rw[m.I a];exact l.I,λh=>(m.mu h).elim l.mu (λh=>by omega),by rw[m.up.F];exact l.F,by rw[c,d,e,f];exact l.O,λh=>(m.rw h).elim l.R (λh=>by omega)⟩,m.blk a l.mu l.O l.R⟩
theorem XInv.fix{sc:qaj}(i:XInv K X G S x sc w)(l:LooseX X G b):XInv K X (G.add b o) S x sc w:=by
 have f:=Gh.le_add (o:=o) l.I;obtain⟨es,a,M,g,h,j⟩:=i.mc;have hI:∀c,c≠b->(G.add b o).I c=G.I c:=λc d=>if_neg d
 refine⟨f.I i.xe,i.mt,i.ml,i.ab,i.bd,λc d=>?_,⟨es,a,M,g,h,j.mono f⟩,λc d=>?_,i.nd,i.sl,i.sz⟩
 ·obtain⟨k,m,n,p,q⟩:=i.rr c d;exact⟨by rw[hI c (λe=>l.R (e▸d))];exact k,m,n,p,q⟩
 ·obtain⟨k,m,n,p⟩:=i.lo c d;exact⟨by rw[hI c (λe=>l.O (e▸d))];exact k,m,n,p⟩
theorem Mx.fix(m:Mx X G w Y H w')(d:w.heap.size<=b)(hI:H.I b=none):Mx X G w Y (H.add b o) w':=
 ⟨m.same,m.up.trans ⟨Gh.le_add hI,rfl,rfl⟩,fun {c} a=>(if_neg (by omega)).trans (m.I a),m.mu,m.rw,m.blk,m.size⟩
theorem Mx.set{k:Nat}{v:Vu}(m:Mx X G w Y H w')(h:w.heap.size<=b):Mx X G w Y H (w'.setCell ⟨b,k,none⟩ v):=
 ⟨m.same,m.up,m.I,m.mu,m.rw,fun {c} d e f g=>by rw[qab (a:=⟨b,k,none⟩) c (by show c≠b;omega)];exact m.blk d e f g,by rw[qag];exact m.size⟩
theorem Mx.below(m:Mx X G w Y H w')(h:Below w'.heap.size w' w2):Mx X G w Y H w2:=m.trans (Mx.of (Mv.ext (Gh.ext.refl _ _) h))
theorem Mx.mv{L:Gh}(m:Mx X G w Y H w')(h:Mv H w' L w2):Mx X G w Y L w2:=m.trans (Mx.of h)
theorem Mx.ofBelow(h:Below w.heap.size w w'):Mx X G w X G w':=Mx.of (Mv.ext (Gh.ext.refl _ _) h)
def XPost(K:Rl)(X:Xe)(G:Gh)(S:Sub)(m:Mc)(sc:qaj)(w:Wd)(rv:Except Nat Ex×Xs)(e':En)(w':Wd):Prop:=
 (∃vd x',rv=(.error vd,x')/\e'=.panicked (qan (qap vd))/\Cnt G S m w'/\Mt X.rb (Xs.count x') S.rewrites 12 w')\/
 (∃Y H ex x' v,rv=(.ok ex,x')/\e'=.returned v/\Mx X G w Y H w'/\Inv H S m w'/\XInv K Y H S x' sc w'/\CRep H (qdu sc) ex v)
def q3o(K:Rl)(X:Xe)(G:Gh)(S:Sub)(m:Mc)(sc:qaj)(w:Wd)(n:Nat)(rv:Except Nat (List Ex)×Xs)(e':En)(w':Wd):Prop:=
 (∃vd x',rv=(.error vd,x')/\e'=.panicked (qan (qap vd))/\Cnt G S m w'/\Mt X.rb (Xs.count x') S.rewrites 12 w')\/
 (∃Y H exs x' g xs,rv=(.ok exs,x')/\e'=.returned (.slice (some ⟨g,0,none⟩) n n)/\xs.length=n/\w'.heap[g]? =some (.cells xs.toArray 241 (0,0))/\w.heap.size<=g/\LooseX Y H g/\Mx X G w Y H w'/\Inv H S m w'/\XInv K Y H S x' sc w'/\XRep H (qdu sc) exs xs)
def DRow(G:Gh)(a:OA)(len cap:Nat)(l:List Dt):Prop:=∃es:List Dl,len=l.length/\len=es.length/\DsRep G l es/\len<=cap/\len<=30000/\(0<len->∃g o arr,a=some ⟨g,o,none⟩/\G.I g=some (.cells arr 134 (0,0))/\∀(i j:Nat) (x:Dl),es[i]? =some x->j<6->arr[o+i*6+j]? =x.cells[j]?)
theorem DRow.mono{G H:Gh}(h:G.le H){a:OA}{len cap:Nat}{l:List Dt}:DRow G a len cap l->DRow H a len cap l
 |⟨es,h1,h2,h3,h4,h5,h6⟩=>⟨es,h1,h2,h3.mono h,h4,h5,λc=>by obtain⟨g,o,b,d,e,f⟩:=h6 c;exact⟨g,o,b,d,h.I e,f⟩⟩
theorem DRep.row{G:Gh}{l:List Dt}{e:Dl}(h:DRep G (.list l) e):DRow G e.a e.len e.cap l:=by
 cases h with
 |nil e h b=>exact⟨[],by simpa using b,by simpa using b,.nil,by omega,by omega,λn=>by omega⟩
 |list e h l es g o c b d i j k m f=>exact⟨es,by rw[b,(f.at).1],b,f,d,i,λ_=>⟨g,o,c,j,k,m⟩⟩
def qh1(K:Rl)(S:Sub):Prop:=∀(X:Xe) (G:Gh) (m:Mc) (x:Xs) (sc:qaj) (w:Wd) (d:Dt) (e:Dl) (F:Nat),Inv G S m w->XInv K X G S x sc w->DRep G d e->qaf d<=1000000000000->(qf5 S F x sc d).1≠.error 0->Calls prog 231 #[bp X.xb,.agg e.cells] w (qya K X G S m sc w (qf5 S F x sc d))
def qq8(K:Rl)(S:Sub)(f:Nat):Prop:=∀(X:Xe) (G:Gh) (m:Mc) (x:Xs) (sc:qaj) (w:Wd) (d:Dt) (e:Dl),Inv G S m w->XInv K X G S x sc w->DRep G d e->qaf d<=1000000000000->sc.length+f<=1000000000->(form S f x sc d).1≠.error 0->Calls prog 236 #[bp X.xb,.agg e.cells] w (XPost K X G S m sc w (form S f x sc d))
def qek(K:Rl)(S:Sub)(f:Nat):Prop:=∀(X:Xe) (G:Gh) (m:Mc) (x:Xs) (sc:qaj) (w:Wd) (l:List Dt) (a:OA) (len cap:Nat),Inv G S m w->XInv K X G S x sc w->DRow G a len cap l->qad l<=1000000000000->sc.length+f<=1000000000->(qbb S f x sc l).1≠.error 0->Calls prog 334 #[bp X.xb,.slice a len cap] w (q3o K X G S m sc w len (qbb S f x sc l))
def qh2(K:Rl)(S:Sub)(f:Nat):Prop:=∀(X:Xe) (G:Gh) (m:Mc) (x:Xs) (sc:qaj) (w:Wd) (p:Dt) (e:Dl) (l:List Dt) (a:OA) (len cap:Nat),Inv G S m w->XInv K X G S x sc w->DRep G p e->DRow G a len cap l->qad l<=1000000000000->0<len->sc.length+f<=1000000000->(qco S f x sc p l).1≠.error 0->Calls prog 293 #[bp X.xb,.agg e.cells,.slice a len cap] w (XPost K X G S m sc w (qco S f x sc p l))
theorem XPost.bad{sc:qaj}{rv:Except Nat Ex×Xs}(g:Inv G S m w)(i:XInv K X G S x sc w)(h:rv=(.error 4,x))(a:Below w.heap.size w w'):XPost K X G S m sc w rv (.panicked (qan (qap 4))) w':=
 .inl ⟨4,x,h,rfl,g.cntB (eR _) a,i.mt.keep (a.block _ (eW (i.lo _ (by simp)).2.2.1 i.sl))⟩
theorem XRep.snoc{G:Gh}{sh:List Nat}{a:Ex}{v:Vu}(b:CRep G sh a v):∀{l:List Ex} {xs:List Vu},XRep G sh l xs->XRep G sh (l++[a]) (xs++[v])
 |_,_,.nil _=>.cons _ _ _ _ _ b (.nil _)
 |_,_,.cons _ _ _ _ _ h hs=>.cons _ _ _ _ _ h (XRep.snoc b hs)
theorem XRep.func{G:Gh}{sh:List Nat}:∀{l:List Ex} {xs:List Vu},XRep G sh l xs->∀x∈xs,∃k c,x=.func (.func k) #[] c
 |_,_,.nil _,x,hx=>by simp at hx
 |_,_,.cons _ _ _ _ _ h hs,x,hx=>by
  rcases List.mem_cons.1 hx with rfl|hx
  ·obtain⟨k,c,e,_⟩:=h.isF;exact⟨k,c,e⟩
  ·exact XRep.func hs x hx
theorem qem(l:List Dt){d:Dt}(h:d∈l):qaf d<=qad l:=by
 induction l with
 |nil=>simp at h
 |cons a r b=>
  simp only[qad];rcases List.mem_cons.1 h with rfl|h
  ·omega
  ·have:=b h;omega
def q31(exs:List Ex):Except Nat (List Ex)×Xs->Except Nat (List Ex)×Xs
 |(.error e,x)=>(.error e,x)
 |(.ok r,x)=>(.ok (exs++r),x)
theorem qwr(rv:Except Nat (List Ex)×Xs):q31 [] rv=rv:=by
 obtain⟨r,x⟩:=rv;cases r <;> rfl
theorem qzc(xs:List Vu)(v:Vu)(n:Nat)(a:xs.length<n):((xs++List.replicate (n-xs.length) Value.nilFunc).toArray.setIfInBounds xs.length v)=((xs++[v])++List.replicate (n-(xs.length+1)) Value.nilFunc).toArray:=by
 apply Array.ext';simp only[Array.toList_setIfInBounds];rw[show n-xs.length=(n-(xs.length+1))+1 from by omega,List.replicate_succ];simp
theorem qsu(n:Nat):madeCells #[Value.nilFunc] n=(List.replicate n Value.nilFunc).toArray:=by
 apply Array.ext_getElem?;intro i;rcases Nat.lt_or_ge i n with h|h
 ·simp[madeCells,h,Nat.mod_one]
 ·rw[Array.getElem?_eq_none (by simp[madeCells];omega),Array.getElem?_eq_none (by simp;omega)]
theorem forms_of(ih:∀j,j<f->qq8 K S j):qek K S f:=by
 intro X G m x sc w l a len cap g i hd a0 b4 hne;obtain⟨es,a1,b5,hs,b6,hm,D⟩:=hd;obtain⟨b3,E⟩:=hs.at;have J:w.heap.size<=w.heap.size:=eR _;refine qqr X.xb a len cap (λk=>(es[k]?).getD ⟨0,0,false,⟨#[]⟩,0,none,0,0⟩) w _
  (λk wr=>∃Y H x1 c xs,k<=len/\c.length=k/\xs.length=k/\qbb S f x sc l=q31 c (qbb S (f-k) x1 sc (l.drop k))/\Mx X G w Y H wr/\Inv H S m wr/\XInv K Y H S x1 sc wr/\XRep H (qdu sc) c xs/\wr.heap[w.heap.size]? =some (.cells (xs++List.replicate (len-k) Value.nilFunc).toArray 241 (0,0))/\LooseX Y H w.heap.size) (by omega) ?_ ?_ ?_ ?_
 ·intro w' hw;have A:Below w.heap.size w w':=bl1 hw;refine⟨X,G,x,[],[],Nat.zero_le _,rfl,rfl,by simp[qwr],Mx.ofBelow A,g.below A,i.below A,.nil _,?_,LooseX.new g i (eR _)⟩;rw[hw.heap,eN,qsu];simp
 ·rintro k wr ⟨Y,H,x1,c,xs,hk,h1,M,n,d,N,hx,s,P,t⟩ a2;obtain⟨g0,o,b7,q1,q2,q3⟩:=D (by omega);refine⟨g0,o,q1,λj Q=>?_⟩;have p:k<es.length:=by omega
  rw[N.cell (d.up.le.I q2),eG p];exact q3 k j _ (eG p) Q
 ·rintro k wr ⟨Y,H,x1,c,xs,hk,h1,M,n,d,N,hx,s,P,t⟩ a2 w' hw;have p:k<es.length:=by omega
  have B:k<l.length:=by omega
  have a3:DRep G l[k] es[k]:=E k _ _ (eG B) (eG p);have A:Below wr.heap.size wr w':=bl1 hw;have a4:w.heap.size<wr.heap.size:=(eE.1 P).1;have C:l.drop k=l[k]::l.drop (k+1):=List.drop_eq_getElem_cons B;obtain⟨j,Q⟩:∃j,f-k=j+1:=by
   cases hfk:f-k with
   |zero=>rw[n,hfk]at hne;exact absurd rfl hne
   |succ j=>exact⟨j,rfl⟩
  rw[C,Q]at n;have a5:qbb S (j+1) x1 sc (l[k]::l.drop (k+1))=(match form S j x1 sc l[k]with
   |(.error e,x)=>(.error e,x)
   |(.ok a,x)=>match qbb S j x sc (l.drop (k+1))with
    |(.error e,x)=>(.error e,x)
    |(.ok r,x)=>(.ok (a::r),x)):=rfl
  rw[a5]at n;have T:(form S j x1 sc l[k]).1≠.error 0:=λh=>by
   apply hne;rw[n];cases hfr:form S j x1 sc l[k]with
   |mk fr fx=>
    rw[hfr]at h;have h:fr=.error 0:=h;subst h;rfl
  have hu:=d.up;simp only[eG p,Option.getD_some];have a6:Y.xb=X.xb:=d.same.1;have U:=ih j (by omega) Y H m x1 sc w' l[k] es[k] (N.below A) (hx.below A) (a3.mono hu.le) (eT (qem l (List.getElem_mem B)) a0) (by omega) T;rw[a6]at U;refine Calls.mono U ?_;rintro e' w2 (⟨vd,x',hv,rfl,hc,a7⟩|⟨Z,L,ex,x',v,hv,rfl,V,a8,a9,W⟩)
  ·refine .inl ⟨_,rfl,.inl ⟨vd,x',?_,rfl,hc.up hu,by rw[<-d.same.2.1];exact a7⟩⟩;rw[n,hv];rfl
  ·have q:Mx Y H wr Z L w2:=(Mx.ofBelow A).trans V;obtain⟨b,u⟩:=t.mx q a4;rw[P]at u;have b0:xs.length<len:=by omega
   have b1:k<(xs++List.replicate (len-k) Value.nilFunc).toArray.size:=by simp;omega
   refine .inr ⟨v,rfl,?_,⟨(xs++List.replicate (len-k) Value.nilFunc).toArray[k],by simp only[World.cell?,u];exact Array.getElem?_eq_getElem b1⟩,by simp[World.frozen?,u],λw3 z=>?_⟩
   ·obtain⟨kc,cc,e,_⟩:=W.isF;exact⟨kc,cc,e⟩
   ·refine⟨Z,L,x',c++[ex],xs++[v],by omega,by simp[h1],by simp[M],?_,?_,?_,?_,?_,?_,b⟩
    ·rw[n,hv];have:f-(k+1)=j:=by omega
     rw[this];simp only;cases hfs:qbb S j x' sc (l.drop (k+1))with
     |mk r y=>cases r <;> simp[q31]
    ·exact((d.trans q).set J).lk z
    ·exact Inv.lk z (a8.loose b.I b.mu b.F)
    ·exact(a9.set b.O b.R).below (bl0 z)
    ·exact XRep.snoc W (s.mono q.up.le)
    ·rw[z.heap];have:=qzc xs v len b0;rw[M]at this;simp only[World.setCell,Array.getElem?_modify,if_pos,u,Option.map_some];rw[<-this];simp
 ·rintro wr ⟨Y,H,x1,c,xs,hk,h1,M,n,d,N,hx,s,P,t⟩;have b2:l.drop len=[]:=by rw[a1];simp
  rw[b2]at n;obtain⟨j,Q⟩:∃j,f-len=j+1:=by
   cases hfk:f-len with
   |zero=>rw[n,hfk]at hne;exact absurd rfl hne
   |succ j=>exact⟨j,rfl⟩
  rw[Q]at n;refine .inr ⟨Y,H,c,x1,w.heap.size,xs,?_,rfl,M,?_,J,t,d,N,hx,s⟩
  ·rw[n];simp[qbb,q31]
  ·rw[P];simp
theorem XInv.nab{sc:qaj}(i:XInv K X G S x sc w):X.rb≠X.ab/\X.rb≠X.bm/\X.mm≠X.ab/\X.mm≠X.bm/\X.ab≠X.bm/\X.rb≠X.mm:=by
 have h:=i.nd;simp only[List.nodup_cons,List.mem_cons,List.not_mem_nil,or_false,not_or]at h;exact⟨h.1.2.1,h.1.2.2,h.2.1.1,h.2.1.2,h.2.2.1,h.1.1⟩
theorem Inv.tw{sc:qaj}(g:Inv G S m w)(i:XInv K X G S x sc w){L:List (Sc.Id×Vu)}(h:∀b,b∈own L->X.Rw b)(t:Tw X (λb=>b∈own L) w w'):Inv G S m w':=
 g.turns (λj k d=>t.blk k (λe=>d (by subst e;obtain⟨a,c,_,f⟩:=i.lo X.ab (by simp);exact⟨a,c,f⟩)) (λe=>d (by subst e;obtain⟨a,c,_,f⟩:=i.lo X.bm (by simp);exact⟨a,c,f⟩)) (λe=>d (by obtain⟨a,c,_,_,l⟩:=i.rr j (h j e);exact⟨a,c,l⟩))) t.size ⟨t.os,t.tape,t.output⟩
theorem Mx.tw{L:List (Sc.Id×Vu)}(c:∀b,b∈own L->X.Rw b)(t:Tw X (λb=>b∈own L) w w')(R:Nat->Prop)(d:∀b,R b->X.Rw b\/w.heap.size<=b):Mx X G w {X with Rw:=R} G w':=
 ⟨⟨rfl,rfl,rfl,rfl,rfl,rfl⟩,Gh.up.refl G,λ_=>rfl,.inl,fun {b} f=>d b f,fun {k} g _ a h=>t.blk g (λe=>a (by rw[e];simp)) (λe=>a (by rw[e];simp)) (λe=>h (c k e)),t.size⟩
theorem XInv.tw{sc a:qaj}(g:Inv G S m w)(i:XInv K X G S x sc w){L j:List (Sc.Id×Vu)}(v:∀b,b∈own L->X.Rw b)(t:Tw X (λb=>b∈own L) w w')(y:q3s X a w' j)(k:w'.heap[X.ab]? =some (.cells #[.int .i64 (a.length:Int),.map (some X.bm)] 329 (0,0)))
  (n:a.length<=1000000000/\∀l,l∈a->l.length<=1000000000)(R:Nat->Prop)(z:∀b,R b->X.Rw b\/(w.heap.size<=b/\b<w'.heap.size))(o:∀b,b∈own j->R b):XInv K {X with Rw:=R} G S x a w':=by
 obtain⟨A,B,C,D,P,Q⟩:=i.nab;have f:∀c,c<X.lo->c≠X.ab->c≠X.bm->w'.heap[c]? =w.heap[c]?:=λc E p q=>t.blk (eW E i.sl) p q λe=>by have:=(i.rr c (v c e)).2.2.1;omega
 obtain⟨es,d,M,r,s,u⟩:=i.mc;refine⟨i.xe,i.mt.keep (f _ (i.lo _ (by simp)).2.2.1 A B),i.ml,k,⟨j,y,o⟩,λb F=>?_,⟨es,d,M,by rw[f _ (i.lo _ (by simp)).2.2.1 C D];exact r,s,u⟩,i.lo,i.nd,eT i.sl t.size,n⟩;rcases z b F with h|⟨p,q⟩
 ·obtain⟨H,I,J,N,O⟩:=i.rr b h;exact⟨H,I,J,eW N t.size,O⟩
 ·exact⟨g.fresh p,λh=>by have:=g.ml h;omega,by show X.lo<=b;have:=i.sl;omega,q,λh=>by have:=(g.ff h).2;omega⟩
def q3y(K:Rl)(X:Xe)(G:Gh)(S:Sub)(m:Mc)(sc:qaj)(n:Nat)(w:Wd)(rv:Except Nat (List Ex)×Xs)(e':En)(w':Wd):Prop:=
 (∃vd x',rv=(.error vd,x')/\e'=.panicked (qan (qap vd))/\Cnt G S m w'/\Mt X.rb (Xs.count x') S.rewrites 12 w')\/
 (∃Y H exs x' v,rv=(.ok exs,x')/\e'=.returned v/\Mx X G w Y H w'/\Inv H S m w'/\XInv K Y H S x' sc w'/\SRep H (n::qdu sc) exs v)
theorem IdRow.keep{ids:List (BA×Int)}(h:IdRow w na ids)(d:∀g,na=some ⟨g,0,none⟩->w'.heap[g]? =w.heap[g]?):IdRow w' na ids:=λi p e=>by
 obtain⟨g,a,b,c⟩:=h i p e;have:=d g a;refine⟨g,a,?_,?_⟩
 ·simp only[World.cell?,this]at b|-;exact b
 ·simp only[World.cell?,this]at c|-;exact c
theorem qic(i:Sc.Id)(sc:qaj)(h:sc.length<=1000000000):(qci i sc).length<=1000000000:=eT (qgw i sc) h
theorem quf(ih:qek K S f)(X:Xe)(G:Gh)(m:Mc)(x:Xs)(sc:qaj)(w:Wd)(l:List Dt)(ba:OA)(bn bc:Nat)(ids:List (BA×Int))(na:OA)(nc:Nat)(g:Inv G S m w)(i:XInv K X G S x sc w)(hd:DRow G ba bn bc l)(a2:qad l<=1000000000000)(c2:0<bn)
  (hr:IdRow w na ids)(p:∀b,na=some ⟨b,0,none⟩->b<w.heap.size/\LooseX X G b)(C:Sc.distinct (ids.map idS)=true)(hn:ids.length<=1000000)(c4:sc.length+1+f<=1000000000)(hne:(qbb S f x (ids.map idS::sc) l).1≠.error 0):
  Calls prog 324 #[bp X.xb,.slice ba bn bc,.slice na ids.length nc] w (q3y K X G S m sc ids.length w (qbb S f x (ids.map idS::sc) l)):=by
 obtain⟨L,hL,s⟩:=i.bd;have c3:w.cell? ⟨X.xb,3,none⟩=some (bp X.ab):=by rw[g.cell i.xe];rfl
 have D:X.ab<X.lo/\X.bm<X.lo/\X.ab≠X.bm:=⟨(i.lo _ (by simp)).2.2.1,(i.lo _ (by simp)).2.2.1,i.nab.2.2.2.2.1⟩;refine qug X.xb X.ab ba na bn bc ids.length nc w _ c3 ?_;refine Calls.mono (qw5 X (λj=>qci j sc) L ids na nc sc.length w hL i.ab hr (λb a=>?_) C hn i.sz.1 (λj=>qic j sc i.sz.1) ⟨D.1,D.2.1,D.2.2,i.sl⟩) ?_
 ·obtain⟨_,h⟩:=p b a;exact⟨λe=>h.O (by rw[e];simp),λe=>h.O (by rw[e];simp),λe=>h.R (s b e)⟩
 rintro e w1 ⟨rfl,L1,E,a3,J,N⟩;refine⟨rfl,?_⟩;rw[qkm]at E;have g1:=g.tw i s J;have M:∀b,b∈own L1->b<w1.heap.size:=λb a=>by
  obtain⟨q,hq,he⟩:=List.mem_filterMap.1 a;exact((E.2.2.1 q hq).lt b he).2
 have i1:XInv K {X with Rw:=λb=>X.Rw b\/(w.heap.size<=b/\b<w1.heap.size)} G S x (ids.map idS::sc) w1:=
  i.tw g s J E (by simpa using N) ⟨by simp;omega,λk hk=>by rcases List.mem_cons.1 hk with rfl|hk;simp;omega;exact i.sz.2 k hk⟩ _ (λb a=>a) (λb a=>(a3 b a).imp (s b) (λh=>⟨h,M b a⟩))
 have t:Mx X G w {X with Rw:=λb=>X.Rw b\/(w.heap.size<=b/\b<w1.heap.size)} G w1:=Mx.tw s J _ (λb a=>a.imp id And.left);generalize c5:({X with Rw:=λb=>X.Rw b\/(w.heap.size<=b/\b<w1.heap.size)}:Xe)=X1 at i1 t;have e1:X1.xb=X.xb:=t.same.1;have P:=ih X1 G m x (ids.map idS::sc) w1 l ba bn bc g1 i1 hd a2 (by simp;omega) hne;rw[e1]at P;refine Calls.mono P ?_;rintro e' w2 (⟨vd,x',hv,rfl,hc,a4⟩|⟨Y,H,c6,x',q,xs,hv,rfl,z,hq,a5,d,a6,g2,A,a7⟩)
 ·exact .inl ⟨_,rfl,.inl ⟨vd,x',hv,rfl,hc,by rw[<-t.same.2.1];exact a4⟩⟩
 ·have n:=t.trans a6;obtain⟨s1,s2,s3,s4,s5,s6⟩:=n.same;have a8:w2.cell? ⟨X.xb,3,none⟩=some (bp X.ab):=by
   have:=g2.cell A.xe 3;rw[s1,s4]at this;exact this
  refine .inr ⟨_,rfl,_,_,_,rfl,a8,?_⟩;obtain⟨L2,a9,c⟩:=A.bd;have Q:=A.ab;rw[s4,s5]at Q;have u:Y.ab<Y.lo/\Y.bm<Y.lo/\Y.ab≠Y.bm:=⟨(A.lo _ (by simp)).2.2.1,(A.lo _ (by simp)).2.2.1,A.nab.2.2.2.2.1⟩;have b0:IdRow w2 na ids:=hr.keep λb a=>((p b a).2.mx n (p b a).1).2
  have T:ScMapF Y (spN (λj=>qci j sc) (ids.map idS) (sc.length+1)) w2 L2:=by rw[qkm];exact a9
  have U:=qwc Y (λj=>qci j sc) L2 ids na nc sc.length w2 T (by rw[s4,s5];simpa using Q) b0 (λb a=>by
   obtain⟨h1,_⟩:=(p b a).2.mx n (p b a).1;exact⟨λe=>h1.O (by rw[e];simp),λe=>h1.O (by rw[e];simp),λe=>h1.R (c b e)⟩) C hn i.sz.1 (λj=>qic j sc i.sz.1) ⟨u.1,u.2.1,u.2.2,A.sl⟩
  rw[s4]at U;refine Calls.mono U ?_;rintro e w3 ⟨rfl,L3,b1,b2,B,V⟩;refine⟨rfl,?_⟩;have g3:=g2.tw A c B;have i3:XInv K {Y with Rw:=Y.Rw} H S x' sc w3:=A.tw g2 c B b1 V i.sz _ (λb a=>.inl a) (λb a=>c b (b2 b a));have b3:Mx Y H w2 {Y with Rw:=Y.Rw} H w3:=Mx.tw c B _ (λb a=>.inl a);have W:Mx X G w Y H w3:=n.trans b3;have b4:w3.heap[q]? =some (.cells xs.toArray 241 (0,0)):=by
   rw[B.blk (eE.1 hq).1 (λe=>d.O (by rw[e];simp)) (λe=>d.O (by rw[e];simp)) (λe=>d.R (c q e))];exact hq
  have g4:=g3.fix ⟨d.mu,d.F⟩ d.I b4;have i4:XInv K Y (H.add q (.cells xs.toArray 241 (0,0))) S x' sc w3:=XInv.fix i3 d;have b5:Mx X G w Y (H.add q (.cells xs.toArray 241 (0,0))) w3:=W.fix (eT t.size a5) d.I;have Z:=Gh.le_add (o:=.cells xs.toArray 241 (0,0)) d.I;cases a7 with
  |nil=>simp at z;omega
  |cons _ e0 r x0 xr b6 b7=>
   have a0:=qmb (S:=S) (m:=m) (sh:=ids.length::qdu sc) r e0 _ w3 x0 xr q 0 bn (x0::xr).toArray g4 (.cons _ _ _ _ _ (by have:=b6.mono Z;simpa[qdu]using this) (by have:=b7.mono Z;simpa[qdu]using this)) (Gh.add_at _ _ _) (by simp at z;omega) (by obtain⟨es,q1,q2,q3,q4,q5,q6⟩:=hd;simp at z;omega) (λj y hy=>by simpa using hy);have b8:xr.length+1=bn:=by simpa using z
   rw[b8]at a0;refine Calls.mono a0 ?_;rintro e' w4 ⟨H4,v,rfl,b9,c0,g5,c1⟩;have a1:Mv _ w3 H4 w4:=Mv.ext b9 c0;exact .inr ⟨v,rfl,.inr ⟨Y,H4,e0::r,x',v,hv,rfl,b5.mv a1,g5,i4.mv a1,c1⟩⟩
theorem XInv.cell0{sc:qaj}(mx:Mx X G w0 Y H w)(g:Inv H S m w)(i:XInv K Y H S x sc w):w.cell? ⟨X.xb,0,none⟩=some (bp G.mb):=by
 have:=g.cell i.xe 0;rw[mx.same.1,mx.up.le.mb]at this;exact this
theorem qe3{x':Xs}{sc:qaj}{c e:Wd}{rv:Except Nat Ex×Xs}(mx:Mx X G w Y H c)(i:XInv K Y H S x' sc c)(h:Made H S m c (qdu sc) ex e' e)(f:rv=(.ok ex,x')):
  ∃v,e'=.returned v/\e.cell? ⟨X.xb,0,none⟩=some (bp G.mb)/\(∀b,b<c.heap.size->LooseX Y H b->e.heap[b]? =c.heap[b]?)/\XPost K X G S m sc w rv (.returned v) e:=by
 obtain⟨L,v,rfl,a,g,j⟩:=h;have d:=i.mv a;exact⟨v,rfl,d.cell0 (mx.mv a) g,λb k l=>a.blk k l.mu,.inr ⟨Y,L,ex,x',v,f,rfl,mx.mv a,g,d,j⟩⟩
theorem q2p(S:Sub)(f:Nat)(x:Xs)(sc:qaj)(l body:List Dt):qco S (f+1) x sc (.list l) body=match qcj l with
  |none=>(.error 4,x)
  |some a=>match qbb S f x (a::sc) body with
   |(.error e,x)=>(.error e,x)
   |(.ok b,x)=>(.ok (.lam a.length false b),x):=by
 unfold qco qcj;simp only;cases qcw l with
 |none=>rfl
 |some a=>
  simp only[Option.bind_some];by_cases c:Sc.distinct a=true
  ·simp only[c,if_true];cases qbb S f x (a::sc) body with
   |mk r y=>cases r <;> rfl
  ·simp[c]
theorem q0b(S:Sub)(f:Nat)(x:Xs)(sc:qaj)(t:Bs)(k:Int)(body:List Dt):qco S (f+1) x sc (.sym t k) body=match qbb S f x ([(t,k)]::sc) body with
   |(.error e,x)=>(.error e,x)
   |(.ok b,x)=>(.ok (.lam 1 true b),x):=rfl
theorem qml{l:List Dt}{a:List Sc.Id}(h:qcj l=some a):Sc.distinct a=true/\a.length=l.length:=by
 unfold qcj at h;cases hi:qcw l with
 |none=>rw[hi]at h;cases h
 |some c=>
  rw[hi]at h;simp only[Option.bind_some]at h;by_cases b:Sc.distinct c=true
  ·simp[b]at h;subst h;exact⟨b,qqe hi⟩
  ·simp[b]at h
theorem qs1{sc:qaj}{n:Nat}{rb:Bool}{d:Except Nat (List Ex)×Xs}{rv:Except Nat Ex×Xs}(f:rv=match d with|(.error e,x)=>(.error e,x)|(.ok b,x)=>(.ok (.lam n rb b),x))(o:Mx X G w X G w3)
  (F:Nat)(args:Vu->Array Vu)(hF:∀(_:Xe) (H:Gh) (_:Xs) (a:List Ex) (v:Vu) (w5:Wd),G.le H->Inv H S m w5->SRep H (n::qdu sc) a v->Calls prog F (args v) w5 (Made H S m w5 (qdu sc) (.lam n rb a)))
  (h:q3y K X G S m sc n w3 d e' w4):RetP (λv w4=>∃kc cc,v=.func (.func kc) #[] cc/\w4.cell? ⟨X.xb,0,none⟩=some (bp G.mb)/\(∀b,b<w3.heap.size->LooseX X G b->w4.heap[b]? =w3.heap[b]?)/\
   ∀w5,Lk w4 w5->Calls prog F (args v) w5 (RetP (λv k=>k.cell? ⟨X.xb,0,none⟩=some (bp G.mb)/\(∀b,b<w3.heap.size->LooseX X G b->k.heap[b]? =w3.heap[b]?)/\XPost K X G S m sc w rv (.returned v) k) (XPost K X G S m sc w rv))) (XPost K X G S m sc w rv) e' w4:=by
 rcases h with⟨t,x',p,rfl,u,q⟩|⟨Y,H,a,x',v,p,rfl,mx,g,i,j⟩
 ·exact .inl ⟨_,rfl,.inl ⟨t,x',by rw[f,p],rfl,u,q⟩⟩
 ·obtain⟨kc,cc,rfl⟩:=j.isFunc;refine .inr ⟨_,rfl,kc,cc,rfl,i.cell0 mx g,λb l r=>(r.mx mx l).2,λw5 s=>?_⟩;have y:=Inv.lk s g;have z:=i.below (bl0 s);have c:Mx X G w3 Y H w5:=mx.lk s;refine Calls.mono (hF Y H x' a _ w5 mx.up.le y j) ?_;intro e6 k A;obtain⟨v6,rfl,B,C,D⟩:=qe3 (rv:=rv) (o.trans c) z A (by rw[f,p]);refine .inr ⟨v6,rfl,B,λb l r=>?_,D⟩;obtain⟨E,I⟩:=r.mx c l;rw[C b (eW l c.size) E,I]
theorem XPost.ends{sc:qaj}{rv:Except Nat Ex×Xs}{e:En}(h:XPost K X G S m sc w rv e w'):(∃v,e=.returned v)\/(∃a,e=.panicked a):=by
 rcases h with⟨_,_,_,rfl,_⟩|⟨_,_,_,_,v,_,rfl,_⟩
 ·exact .inr ⟨_,rfl⟩
 ·exact .inl ⟨_,rfl⟩
theorem qsz(ih:qek K S f):qh2 K S (f+1):=by
 intro X G m x sc w p e l a len cap g i hp hd a5 Z b9 hne;obtain⟨D,xn,z,k,F,T,c,r⟩:=e;have c0:w.cell? ⟨X.xb,0,none⟩=some (bp G.mb):=i.cell0 (Mx.refl X G w) g;have a0:∀rv:Except Nat Ex×Xs,rv=(.error 4,x)->∀w',Below w.heap.size w w'->XPost K X G S m sc w rv (.panicked (qan (qap 4))) w':=λrv h w' hb=>XPost.bad g i h hb
 have I:D≠3->D≠4->qco S (f+1) x sc p l=(.error 4,x)->Calls prog 293 #[bp X.xb,.agg (Dl.cells ⟨D,xn,z,k,F,T,c,r⟩),.slice a len cap] w (XPost K X G S m sc w (qco S (f+1) x sc p l)):=λh3 h4 he=>
  qmh X.xb D xn z k F T c r a len cap w _ h3 h4 (a0 _ he)
 have list:∀(u:List Dt),p=.list u->D=4->∀es:List Dl,u.length=es.length->(∀(i:Nat) (d:Dt) (e:Dl),u[i]? =some d->es[i]? =some e->DRep G d e)->c=es.length->c<=30000->(∀(i j:Nat) (y:Dl),es[i]? =some y->j<6->∃g o,T=some ⟨g,o,none⟩/\g<w.heap.size/\w.cell? ⟨g,o+i*6+j,none⟩=y.cells[j]?)->
   Calls prog 293 #[bp X.xb,.agg (Dl.cells ⟨D,xn,z,k,F,T,c,r⟩),.slice a len cap] w (XPost K X G S m sc w (qco S (f+1) x sc p l)):=by
  intro u b0 hk es b1 b2 b3 c1 J;subst b0;obtain rfl:D=4:=hk;rw[q2p]at hne|-;refine qk0 X.xb G.mb xn z k F T c r a len cap w _ λw1 b4=>?_
  have A:Below w.heap.size w w1:=bl1 b4;have g1:=g.below A;have i1:=i.below A;refine Calls.mono (qne u es T c r w1 b1 b3 (by omega) (λi d e U h2=>?_) (λi j y U h2=>?_)) ?_
  ·have b5:=b2 i d e U h2;cases b5 with
   |num e h=>exact .inr ⟨by omega,nofun⟩
   |bool e h=>exact .inr ⟨by omega,nofun⟩
   |str e h=>exact .inr ⟨by omega,nofun⟩
   |sym e h=>exact .inl ⟨h,rfl⟩
   |nil e h=>exact .inr ⟨by omega,nofun⟩
   |list e h=>exact .inr ⟨by omega,nofun⟩
  ·obtain⟨q,o,h3,h4,h5⟩:=J i j y U h2;exact⟨q,o,h3,eW h4 A.size,(A.cell (p:=⟨q,o+i*6+j,none⟩) h4).trans h5⟩
  ·rintro e' w2 ⟨L,t⟩;have s:Below w.heap.size w w2:=A.trans (L.mono A.size);cases hpo:qcj u with
   |none=>
    rw[hpo]at t hne;subst t;exact .inl ⟨_,rfl,a0 _ rfl w2 s⟩
   |some R=>
    rw[hpo]at t hne;obtain⟨na,nc,ids,rfl,E,a6⟩:=t;obtain⟨a7,c2⟩:=qml hpo;have a1:ids.length=R.length:=by rw[<-E];simp
    refine .inr ⟨_,rfl,na,R.length,nc,rfl,by omega,(i.below s).cell0 (Mx.ofBelow s) (g.below s),λw3 B=>?_⟩;have C:Below w.heap.size w w3:=s.trans ((bl0 B).mono s.size);have g3:=g.below C;have i3:=i.below C;have M:w2.ownsRow w1.heap.size 382 2 (.slice na ids.length nc) ids.length (qcf ids):=by rw[a1];exact a6
    have a2:IdRow w3 na ids:=(qot M).keep λb _=>by rw[B.heap]
    have V:∀b,na=some ⟨b,0,none⟩->b<w3.heap.size/\LooseX X G b:=λb hb=>by
     have U:=M.lt b (by rw[hb];rfl);refine⟨by rw[B.heap];exact U.2,LooseX.new g i ?_⟩;have:=A.size;omega
    have N:(qbb S f x (R::sc) l).1≠.error 0:=λh=>by
     apply hne;simp only;cases hfr:qbb S f x (R::sc) l with
     |mk fr fx=>rw[hfr]at h;have h:fr=.error 0:=h;subst h;rfl
    have W:=quf ih X G m x sc w3 l a len cap ids na nc g3 i3 hd a5 Z a2 V (by rw[E];exact a7) (by omega) (by omega) (by rw[E];exact N);rw[E,a1]at W;refine Calls.mono W ?_;intro e4 w4 h4;have fin:=qs1 (rb:=false) (rv:=match some R with
      |none=>(.error 4,x)
      |some R=>match qbb S f x (R::sc) l with
       |(.error e,x)=>(.error e,x)
       |(.ok b,x)=>(.ok (.lam R.length false b),x)) rfl (Mx.ofBelow (X:=X) (G:=G) C) 326 (λv=>#[bp G.mb,.int .i64 (R.length:Int),v]) (λY H x' b6 v w5 a3 hI hs=>by
     have:=qs0 (sh:=qdu sc) (n:=R.length) hI hs;rw[a3.mb]at this;exact this) h4
    rcases fin with⟨u,rfl,hq⟩|⟨v,rfl,kc,cc,rfl,U,_,h3⟩
    ·exact .inl ⟨u,rfl,hq⟩
    ·refine .inr ⟨_,rfl,kc,cc,rfl,U,λw5 a4=>Calls.mono (h3 w5 a4) ?_⟩;rintro e6 w6 (⟨u,rfl,hq⟩|⟨v6,rfl,h5,_,h7⟩)
     ·exact .inl ⟨u,rfl,hq⟩
     ·exact .inr ⟨v6,rfl,h5,h7⟩
 cases hp with
 |num e h=>exact I (by have h:D=0:=h;omega) (by have h:D=0:=h;omega) rfl
 |bool e h=>exact I (by have h:D=1:=h;omega) (by have h:D=1:=h;omega) rfl
 |str e h=>exact I (by have h:D=2:=h;omega) (by have h:D=2:=h;omega) rfl
 |nil e h hl=>exact list [] rfl h [] rfl (λi d e h=>by simp at h) hl (by have hl:c=0:=hl;omega) (λi j y h=>by simp at h)
 |list e h u es gg o c3 hl hc hm ha hg hr hs=>
  obtain⟨b7,b8⟩:=hs.at;exact list u rfl h es b7 b8 hl hm λi' j y hy hj=>⟨gg,o,ha,g.lt hg,by rw[g.cell hg];exact hr i' j y hy hj⟩
 |sym e h hz hc=>
  obtain rfl:D=3:=h;rw[q0b]at hne|-;refine qmg X.xb G.mb xn z k F T c r a len cap w _ c0 λw0 a8 w2 L w3 B=>?_
  have a9:Below w.heap.size w w0:=bl1 a8;have O:Below w.heap.size w w2:=a9.trans (L.mono a9.size);have C:Below w.heap.size w w3:=O.trans ((bl1 B).mono O.size);have g3:=g.below C;have i3:=i.below C;have P:w3.heap[w2.heap.size]? =some (.cells #[.string k,.int .i64 F] 382 (0,0)):=by rw[B.heap];exact eN _ _
  have J:IdRow w3 (some ⟨w2.heap.size,0,none⟩) [(k,F)]:=λj p hp=>by
   cases j with
   |zero=>
    simp at hp;subst hp;exact⟨w2.heap.size,rfl,by simp only[World.cell?,P];rfl,by simp only[World.cell?,P];rfl⟩
   |succ j=>simp at hp
  have N:(qbb S f x ([(k.data.toList,F)]::sc) l).1≠.error 0:=λh=>by
   apply hne;cases hfr:qbb S f x ([(k.data.toList,F)]::sc) l with
   |mk fr fx=>rw[hfr]at h;have h:fr=.error 0:=h;subst h;rfl
  have Q:w3.heap[w.heap.size]? =some (.cells (Dl.cells ⟨3,xn,z,k,F,T,c,r⟩) 134 (0,0)):=by
   have h0:w0.heap[w.heap.size]? =some (.cells (Dl.cells ⟨3,xn,z,k,F,T,c,r⟩) 134 (0,0)):=by rw[a8.heap];exact eN _ _
   have l0:=(eE.1 h0).1;rw[(bl1 B).block _ (eW l0 L.size),L.block _ l0];exact h0
  have W:=quf ih X G m x sc w3 l a len cap [(k,F)] (some ⟨w2.heap.size,0,none⟩) 1 g3 i3 hd a5 Z J (λb hb=>by
   cases hb;exact⟨(eE.1 P).1,LooseX.new g i O.size⟩) rfl (by simp) (by omega) N
  refine Calls.mono W ?_;intro e4 w4 h4;have fin:=qs1 (rb:=true) (rv:=match qbb S f x ([(k.data.toList,F)]::sc) l with
   |(.error e,x)=>(.error e,x)
   |(.ok b,x)=>(.ok (.lam 1 true b),x)) rfl (Mx.ofBelow (X:=X) (G:=G) C) 323 (λv=>#[bp G.mb,v]) (λY H x' b6 v w5 a3 hI hs=>by
    have:=qp8 (sh:=qdu sc) hI hs;rw[a3.mb]at this;exact this) h4
  have lb:=(eE.1 Q).1;rcases fin with⟨u,rfl,hq⟩|⟨v,rfl,kc,cc,rfl,U,h2,h3⟩
  ·exact .inl ⟨u,rfl,hq⟩
  ·refine .inr ⟨_,rfl,kc,cc,rfl,U,by rw[h2 _ lb (LooseX.new g i (eR _))];exact Q,λw5 a4=>Calls.mono (h3 w5 a4) ?_⟩;rintro e6 w6 (⟨u,rfl,hq⟩|⟨v6,rfl,h5,h6,h7⟩)
   ·exact .inl ⟨u,rfl,hq⟩
   ·exact .inr ⟨v6,rfl,h5,by rw[h6 _ lb (LooseX.new g i (eR _))];exact Q,h7⟩
section
theorem RetP.imp{P b:Vu->Wd->Prop}{Q c:En->Wd->Prop}{e:En}(h:RetP P Q e w)(d:∀v w,P v w->b v w)(f:∀a w,Q (.panicked a) w->c (.panicked a) w):RetP b c e w:=by
 rcases h with⟨a,rfl,h⟩|⟨v,rfl,h⟩
 ·exact .inl ⟨a,rfl,f _ _ h⟩
 ·exact .inr ⟨v,rfl,d _ _ h⟩
section
variable {K:Rl} {X Y:Xe} {G H:Gh} {S:Sub} {m:Mc} {x x':Xs} {sc:qaj} {w w2 w3 w4:Wd}
theorem qn6{q:Nat}(b:xs.length=n)(f:n<=90000)(d:w2.heap[q]? =some (.cells xs.toArray 241 (0,0)))(c:w.heap.size<=q)(a:LooseX Y H q)(mx:Mx X G w Y H w2)(g:Inv H S m w2)(i:XInv K Y H S x' sc w2):
  H.le (H.add q (.cells xs.toArray 241 (0,0)))/\Inv (H.add q (.cells xs.toArray 241 (0,0))) S m w2/\XInv K Y (H.add q (.cells xs.toArray 241 (0,0))) S x' sc w2/\Mx X G w Y (H.add q (.cells xs.toArray 241 (0,0))) w2/\RowI (H.add q (.cells xs.toArray 241 (0,0))) 241 (.slice (some ⟨q,0,none⟩) n n) xs:=
 ⟨Gh.le_add a.I,g.fix ⟨a.mu,a.F⟩ a.I d,XInv.fix i a,mx.fix c a.I,q,0,n,xs.toArray,by rw[b],Gh.add_at _ _ _,by omega,by omega,λj y e=>by simpa using e⟩
theorem q1v{rv:Except Nat Ex×Xs}(mx:Mx X G w Y H w3)(b:XInv K Y H S x' sc w3)(h:Made H S m w3 (qdu sc) ex e' w4)(a:rv=(.ok ex,x')):RX X.xb G.mb (XPost K X G S m sc w rv) e' w4:=by
 obtain⟨v,rfl,c,_,d⟩:=qe3 (rv:=rv) mx b h a;exact .inr ⟨v,rfl,c,d⟩
theorem qr5{rv:Except Nat Ex×Xs}(mx:Mx X G w Y H w3)(b:XInv K Y H S x' sc w3)(h:Made H S m w3 (qdu sc) ex e' w4)(a:rv=(.ok ex,x')):RQ (XPost K X G S m sc w rv) e' w4:=by
 obtain⟨v,rfl,d,_,c⟩:=qe3 (rv:=rv) mx b h a;exact .inr ⟨v,rfl,c⟩
theorem XPost.from{rv:Except Nat Ex×Xs}(mx:Mx X G w Y H w2)(h:XPost K Y H S m sc w2 rv e' w'):XPost K X G S m sc w rv e' w':=by
 rcases h with⟨c,y,a,rfl,d,b⟩|⟨Z,L,ex,y,v,a,rfl,e,f,g,i⟩
 ·exact .inl ⟨c,y,a,rfl,d.up mx.up,by rw[<-mx.same.2.1];exact b⟩
 ·exact .inr ⟨Z,L,ex,y,v,a,rfl,mx.trans e,f,g,i⟩
theorem XPost.rq{rv:Except Nat Ex×Xs}(h:XPost K X G S m sc w rv e' w'):RQ (XPost K X G S m sc w rv) e' w':=RQ.of h h.ends
end
theorem qfo{sc:qaj}{d:Dt}(g:Inv G S m w)(i:XInv K X G S x sc w)(b:DRep G d e){s:BA}(c:s.data.toList=kwN x sc d):∀w',Lk (w.alloc (.cells e.cells 134)) w'->Calls prog 232 #[bp X.xb,.agg e.cells] w' λe' w2=>e'=.returned (.string s)/\Below w'.heap.size w' w2:=λw' f=>by
 have a:=bl1 f;refine Calls.mono (qhi (g.below a) (i.below a) b) ?_;rintro e' w2 ⟨rfl,h⟩;refine⟨?_,h⟩;rw[<-c]
theorem qxi{K:Rl}{S:Sub}{f:Nat}(Z:qek K S f)(X:Xe)(G:Gh)(m:Mc)(x:Xs)(sc:qaj)(w:Wd)(l:List Dt)(e:Dl)(g:Inv G S m w)(i:XInv K X G S x sc w)(R:DRep G (.list l) e)(B:qad l<=1000000000000)(hl:l≠[])(C:kwN x sc (.list l)=[])(D:sc.length+f<=1000000000)(hne:(app S (f+1) x sc l).1≠.error 0):
  Calls prog 297 #[bp X.xb,.agg e.cells] w (XPost K X G S m sc w (app S (f+1) x sc l)):=by
 have b:=R.row;have hW:=qfo g i R (s:=⟨#[]⟩) (by rw[C]);obtain⟨xk,xn,E,F,xm,I,k,c⟩:=e;have b:DRow G I k c l:=b;obtain⟨n,rfl⟩:∃n,k=n+1:=by
  obtain⟨es,T,_⟩:=b;cases l with
  |nil=>exact absurd rfl hl
  |cons a r=>exact⟨r.length,by simpa using T⟩
 have hn:n+1<=30000:=by obtain⟨es,T,h2,h3,h4,h5,U⟩:=b;exact h5
 have d:app S (f+1) x sc l=match qbb S f x sc l with
  |(.ok (e::r),x)=>(.ok (.app e r),x)
  |(.ok [],x)=>(.error 4,x)
  |(.error e,x)=>(.error e,x):=rfl
 have t:(qbb S f x sc l).1≠.error 0:=λh=>by
  apply hne;rw[d];cases hfr:qbb S f x sc l with
  |mk fr fx=>rw[hfr]at h;have h:fr=.error 0:=h;subst h;rfl
 refine qm3 X.xb G.mb xk xn E F xm I n c w _ (i.cell0 (Mx.refl X G w) g) (by omega) hW λw1 j=>?_
 have g1:=g.below j;have i1:=i.below j;refine Calls.mono (Z X G m x sc w1 l I (n+1) c g1 i1 b B D t) ?_;rintro e' w2 (⟨vd,x',J,rfl,hc,L⟩|⟨Y,H,a0,x',q,xs,J,rfl,o,hq,M,N,mx,V,W,O⟩)
 ·exact .inl ⟨_,rfl,.inl ⟨vd,x',by rw[d,J],rfl,hc,L⟩⟩
 ·have u:Mx X G w Y H w2:=(Mx.ofBelow j).trans mx;obtain⟨v,g3,i3,y,hr⟩:=qn6 o (by omega) hq (eT j.size M) N u V W;refine .inr ⟨_,rfl,some ⟨q,0,none⟩,n+1,n+1,rfl,W.cell0 u V,λw3 p=>?_⟩;cases O with
  |nil=>simp at o
  |cons _ e0 r x0 xr P Q=>
   have z:=qx7 (sh:=qdu sc) (f:=e0) (l:=r) (Inv.lk p g3) (by rw[o];omega) hr (.cons _ _ _ _ _ (P.mono v) (Q.mono v));have A:(H.add q (.cells (x0::xr).toArray 241 (0,0))).mb=G.mb:=y.up.le.mb;rw[A]at z;exact Calls.mono z λe6 w6 U=>q1v (y.lk p) (i3.below (bl0 p)) U (by rw[d,J])
end
theorem DRow.cells{a:OA}{len cap:Nat}(h:DRow G a len cap l)(n:0<len):∃g o,a=some ⟨g,o,none⟩/\(∃b,G.I g=some (.cells b 134 (0,0)))/\∀(i:Nat) (d:Dt),l[i]? =some d->∃e:Dl,DRep G d e/\∀(S:Sub) (m:Mc) (w:Wd),Inv G S m w->∀j,j<6->w.cell? ⟨g,o+i*6+j,none⟩=e.cells[j]?:=by
 obtain⟨es,x,y,p,z,A,q⟩:=h;obtain⟨g,o,b,r,c,s⟩:=q n;obtain⟨B,t⟩:=p.at;refine⟨g,o,r,⟨b,c⟩,λi d f=>?_⟩;have C:=(eL.1 f).1;have k:es[i]? =some es[i]:=eG (by omega);exact⟨es[i],t i d _ f k,λS m w u j v=>by rw[u.cell c];exact s i j _ k v⟩
theorem DsRep.drop{G:Gh}:∀{l:List Dt} {es:List Dl} (k:Nat),DsRep G l es->DsRep G (l.drop k) (es.drop k)
 |_,_,0,h=>h
 |_,_,k+1,.nil=>.nil
 |_,_,k+1,.cons d r e es h hs=>by simpa using DsRep.drop k hs
theorem DRow.drop{o len cap:Nat}(k:Nat)(h:DRow G (some ⟨g,o,none⟩) len cap l)(p:k<=len):DRow G (tlD g o cap k) (len-k) (cap-k) (l.drop k):=by
 obtain⟨es,q,r,c,s,t,d⟩:=h;refine⟨es.drop k,by simp;omega,by simp;omega,c.drop k,by omega,by omega,λu=>?_⟩;obtain⟨v,o',a,e,f,m⟩:=d (by omega);cases e;refine⟨g,o+k*6,a,by unfold tlD;rw[if_neg (by omega)],f,λi j x b n=>?_⟩;rw[List.getElem?_drop]at b;rw[show o+k*6+i*6+j=o+(k+i)*6+j from by rw[Nat.add_mul];omega];exact m (k+i) j x b n
theorem qj1(c n a:Nat)(d:OA)(w:Wd)(Q:En->Wd->Prop)(g:n≠3)(h:n≠4)
  (b:∀w',Below w.heap.size w w'->Q (.panicked (qan (qap 4))) w'):
  Calls prog 335 #[bp c,.slice d n a] w Q:=by
 have f:=hZ b;have e3:((n:Int)==3)=false:=by simp;omega
 have e4:((n:Int)==4)=false:=by simp;omega
 clear b;go_enter func335,ntmps335
 go_wp2_with (first|(go_at_call 290;refine(qav _).mono ?_;rintro e w2 ⟨rfl,o,rfl⟩))
 exact⟨rfl,f.out _ (qaa _ _)⟩
structure At (K:Rl) (X:Xe) (G:Gh) (S:Sub) (m:Mc) (x:Xs) (sc:qaj) (w:Wd) (t:Bs) (k:Int) (r:List Dt) (e:Dl):Prop where
 g:Inv G S m w
 i:XInv K X G S x sc w
 d:DRep G (.list (.sym t k::r)) e
 kw:kwN x sc (.list (.sym t k::r))=t
 mb:qad r<=1000000000000
theorem At.bad{sc:qaj}(A:At K X G S m x sc w t k r e){rv:Except Nat Ex×Xs}(h:rv=(.error 4,x)):∀w',Below w.heap.size w w'->XPost K X G S m sc w rv (.panicked (qan (qap 4))) w':=λ_ a=>XPost.bad A.g A.i h a
theorem At.c0{sc:qaj}(A:At K X G S m x sc w t k r e):w.cell? ⟨X.xb,0,none⟩=some (bp G.mb):=A.i.cell0 (Mx.refl X G w) A.g
theorem qpu(f:Nat)(X:Xe)(G:Gh)(m:Mc)(x:Xs)(sc:qaj)(w:Wd)(k:Int)(r:List Dt)(e:Dl)(A:At K X G S m x sc w [113,117,111,116,101] k r e):
  Calls prog 297 #[bp X.xb,.agg e.cells] w (XPost K X G S m sc w (qar S (f+1) x sc .quote r)):=by
 have h:=A.d.row;have t:=qfo A.g A.i A.d (s:=⟨#[113,117,111,116,101]⟩) A.kw.symm;obtain⟨D,E,n,p,F,H,l,j⟩:=e;have h:DRow G H l j (.sym [113,117,111,116,101] k::r):=h;have u:l=r.length+1:=by obtain⟨es,B,_⟩:=h;simpa using B
 have C:l<=30000:=by obtain⟨es,B,O,h3,h4,Q,P⟩:=h;exact Q
 subst u;have bad:r.length+1≠2->qar S (f+1) x sc .quote r=(.error 4,x)->Calls prog 297 #[bp X.xb,.agg (Dl.cells ⟨D,E,n,p,F,H,r.length+1,j⟩)] w (XPost K X G S m sc w (qar S (f+1) x sc .quote r)):=λB O=>
  qfl X.xb 0 D E n p F H r.length j w _ (by omega) B t (A.bad O)
 match r,A,h,t,C,bad with
 | [],A,h,t,C,bad=>exact bad (by simp) rfl
 |a::b::c,A,h,t,C,bad=>exact bad (by simp) rfl
 | [d],A,h,t,C,bad=>
  obtain⟨R,o,rfl,_,T⟩:=h.cells (by simp);obtain⟨y,U,I⟩:=T 1 d rfl;obtain⟨V,W,J,L,Y,Z,v,z⟩:=y;have cell:=I S m w A.g;refine qjl X.xb G.mb D E n p F R o j w _ V W J L Y Z v z A.c0 (cell 0 (by omega)) (cell 1 (by omega)) (cell 2 (by omega)) (cell 3 (by omega)) (cell 4 (by omega)) (cell 5 (by omega)) t λw1 q=>?_
  have M:qaf d<=1000000000000:=eT (qem [d] (by simp)) A.mb;have N:=qo2 (sh:=qdu sc) (A.g.below q) U M;exact Calls.mono N λe6 w6 P=>qr5 (Mx.ofBelow q) (A.i.below q) P rfl
theorem qq2{K:Rl}{S:Sub}{f:Nat}(ih:qek K S f)(X:Xe)(G:Gh)(m:Mc)(x:Xs)(sc:qaj)(w:Wd)(k:Int)(r:List Dt)(e:Dl)(A:At K X G S m x sc w [98,101,103,105,110] k r e)(J:sc.length+f<=1000000000)(hne:(qar S (f+1) x sc .begin r).1≠.error 0):
  Calls prog 297 #[bp X.xb,.agg e.cells] w (XPost K X G S m sc w (qar S (f+1) x sc .begin r)):=by
 have a:=A.d.row;have W:=qfo A.g A.i A.d (s:=⟨#[98,101,103,105,110]⟩) A.kw.symm;obtain⟨Z,xn,t,u,xm,xa,c,xcap⟩:=e;have a:DRow G xa c xcap (.sym [98,101,103,105,110] k::r):=a;have v:c=r.length+1:=by obtain⟨es,L,_⟩:=a;simpa using L
 have hn:c<=30000:=by obtain⟨es,L,h2,h3,h4,h5,M⟩:=a;exact h5
 have N:c<=xcap:=by obtain⟨es,L,h2,h3,h4,h5,M⟩:=a;exact h4
 subst v;cases r with
 |nil=>exact qfm X.xb 0 Z xn t u xm xa 0 xcap w _ (by simp at hn;omega) (by omega) W (A.bad rfl)
 |cons b r=>
  obtain⟨gg,o,rfl,_,_⟩:=a.cells (by simp);have y:=a.drop 1 (by simp);simp only[List.length_cons,Nat.add_sub_cancel,List.drop_succ_cons,List.drop_zero]at y hn N;have n:qar S (f+1) x sc .begin (b::r)=match qbb S f x sc (b::r)with
   |(.ok (b::r),x)=>(.ok (.seq b r),x)
   |(.ok [],x)=>(.error 4,x)
   |(.error e,x)=>(.error e,x):=rfl
  have z:(qbb S f x sc (b::r)).1≠.error 0:=λh=>by
   apply hne;rw[n];cases hfr:qbb S f x sc (b::r)with
   |mk fr fx=>rw[hfr]at h;have h:fr=.error 0:=h;subst h;rfl
  refine qjm X.xb G.mb Z xn t u xm gg o r.length xcap w _ A.c0 (by omega) (by omega) W λw1 j=>?_
  refine Calls.mono (ih X G m x sc w1 (b::r) _ (r.length+1) _ (A.g.below j) (A.i.below j) y A.mb J z) ?_;rintro e' w2 (⟨vd,x',O,rfl,hc,P⟩|⟨Y,H,a0,x',q,xs,O,rfl,B,hq,Q,R,mx,g2,i2,T⟩)
  ·exact .inl ⟨_,rfl,.inl ⟨vd,x',by rw[n,O],rfl,hc,P⟩⟩
  ·have C:Mx X G w Y H w2:=(Mx.ofBelow j).trans mx;obtain⟨D,g3,i3,E,hr⟩:=qn6 B (by omega) hq (eT j.size Q) R C g2 i2;refine .inr ⟨_,rfl,_,_,_,rfl,i2.cell0 C g2,λw3 p=>?_⟩;cases T with
   |nil=>simp at B
   |cons _ e0 r0 x0 xr U V=>
    have F:=qxg (sh:=qdu sc) (e:=e0) (l:=r0) (Inv.lk p g3) hr (.cons _ _ _ _ _ (U.mono D) (V.mono D));have I:(H.add q (.cells (x0::xr).toArray 241 (0,0))).mb=G.mb:=E.up.le.mb;rw[I]at F;exact Calls.mono F λe6 w6 M=>q1v (E.lk p) (i3.below (bl0 p)) M (by rw[n,O])
end Go.Proofs.YtldaocpojcfljaaGreatDoor
