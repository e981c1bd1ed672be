import Derived.Test.YtldaocpojcfljaaGreatDoorM11
set_option maxRecDepth 100000
set_option maxHeartbeats 4000000
namespace Go.Proofs.YtldaocpojcfljaaGreatDoor
open Tryz hiding parts
open Go.RowKit Go.Shelf
open Sc
variable {A B:Bs}{G H H1:Gh}{S:Sub}{b bc i j k lc nb pb rc:Nat}{ba la ra:OA}{m n:Int}{rs:List Dt}{t:BA}{tm:Dt}{v1 v2 v3:Vu}{w w1 w4 wo:Wd}
def Al(k:Nat)(new:List (Sc.Id×Nat))(b:qdq):Prop:=b.length=new.length/\∀(i:Nat) (id:Sc.Id) (n:Nat),new[i]? =some (id,n)->k<=n/\∃t,b[i]? =some (id,t)/\TrD (n-k) t
theorem Al.nil(k:Nat):Al k [] []:=⟨rfl,λi id n h=>by simp at h⟩
theorem Al.app{a c:List (Sc.Id×Nat)}{x y:qdq}(h:Al k a x)(g:Al k c y):Al k (a++c) (x++y):=by
 refine⟨by simp[h.1,g.1],λi id n b=>?_⟩;rcases Nat.lt_or_ge i a.length with hl|hl
 ·rw[eA hl]at b;rw[eA (by rw[h.1];exact hl)];exact h.2 i id n b
 ·rw[eB hl]at b;rw[eB (by rw[h.1];exact hl),h.1];exact g.2 _ id n b
theorem qoi{α β:Type}{f:α->Option β}:∀{l:List α} {r:List β},l.mapM f=some r->∀y,y∈r->∃x,x∈l/\f x=some y
 | [],r,h,y,hy=>by simp at h;subst h;simp at hy
 |a::l,r,h,y,hy=>by
  rw[List.mapM_cons]at h;cases hf:f a with
  |none=>rw[hf]at h;simp at h
  |some b=>
   rw[hf]at h;cases hm:l.mapM f with
   |none=>rw[hm]at h;simp at h
   |some s=>
    rw[hm]at h;obtain rfl:b::s=r:=by simpa using h
    rcases List.mem_cons.1 hy with rfl|hy
    ·exact⟨a,by simp,hf⟩
    ·obtain⟨x,c,d⟩:=qoi hm y hy;exact⟨x,by simp[c],d⟩
mutual
theorem qo0(d:List Bs):∀(p:Dt) (k:Nat) (c a:List (Sc.Id×Nat)),qao d k c p=some a->∃new,a=c++new/\∀b,b∈new->k<=b.2
 | .list l,k,c,a,h=>by
  simp only[qao]at h;exact qx3 d l k c a h
 | .sym t m,k,c,a,h=>by
  simp only[qao]at h;by_cases f:(d.contains t||t== [95])=true
  ·rw[if_pos f]at h;cases h;exact⟨[],by simp,λb e=>by simp at e⟩
  ·rw[if_neg f]at h;unfold qed at h;split at h
   ·cases h
   ·simp only[Option.some.injEq]at h;exact⟨[((t,m),k)],h.symm,λb e=>by simp at e;rw[e];exact eR _⟩
 | .num _,k,c,a,h=>by simp only[qao,Option.some.injEq]at h;exact⟨[],by simp[h],λb e=>by simp at e⟩
 | .bool _,k,c,a,h=>by simp only[qao,Option.some.injEq]at h;exact⟨[],by simp[h],λb e=>by simp at e⟩
 | .str _,k,c,a,h=>by simp only[qao,Option.some.injEq]at h;exact⟨[],by simp[h],λb e=>by simp at e⟩
theorem qx3(d:List Bs):∀(l:List Dt) (k:Nat) (c a:List (Sc.Id×Nat)),qa1 d k c l=some a->∃new,a=c++new/\∀b,b∈new->k<=b.2
 | [],k,c,a,h=>by simp only[qa1,Option.some.injEq]at h;exact⟨[],by simp[h],λb hb=>by simp at hb⟩
 | [p],k,c,a,h=>by
  simp only[qa1]at h;split at h
  ·cases h
  ·exact qo0 d p k c a h
 |p::q::r,k,c,a,h=>by
  simp only[qa1]at h;split at h
  ·cases h
  ·split at h
   ·obtain⟨new,e,g⟩:=qo0 d p (k+1) c a h;exact⟨new,e,λb hb=>by have:=g b hb;omega⟩
   ·cases hb:qao d k c p with
    |none=>rw[hb]at h;simp at h
    |some e=>
     rw[hb]at h;obtain⟨f,rfl,i⟩:=qo0 d p k c e hb;obtain⟨j,m,n⟩:=qx3 d (q::r) k (c++f) a h;refine⟨f++j,by rw[m,List.append_assoc],λb hb=>?_⟩;rcases List.mem_append.1 hb with hb|hb
     ·exact i b hb
     ·exact n b hb
end
theorem qxa{b:List Bs}(p:Dt)(k:Nat)(c a:List (Sc.Id×Nat))(h:qao b k c p=some a)(new:List (Sc.Id×Nat))(d:a=c++new)(i:Nat)(id:Sc.Id)(n:Nat)(e:new[i]? =some (id,n)):k<=n:=by
 obtain⟨new',f,g⟩:=qo0 b p k c a h;have:new=new':=List.append_cancel_left (d.symm.trans f);subst this;exact g _ (List.mem_of_getElem? e)
def q6o(lits:List Bs)(sc:qaj)(p:Dt):Prop:=∀(k:Nat) (had had':List (Sc.Id×Nat)) (d:Dt) (b:qdq),qao lits k had p=some had'->qaq lits sc p d=some b->∃new,had'=had++new/\Al k new b
def q3q(lits:List Bs)(sc:qaj)(l:List Dt):Prop:=∀(k:Nat) (had had':List (Sc.Id×Nat)) (x:List Dt) (b:qdq),qa1 lits k had l=some had'->qau lits sc l x=some b->∃new,had'=had++new/\Al k new b
theorem qn4(a:List Bs)(sc:qaj):q3q a sc []:=λk e d x b h c=>by
 simp only[qa1,Option.some.injEq]at h;cases x with
 |nil=>simp only[qau,Option.some.injEq]at c;subst c;exact⟨[],by simp[h],Al.nil k⟩
 |cons=>simp[qau]at c
theorem qvj(a:List Bs)(sc:qaj)(p q:Dt)(B:qam q=true)(F:q6o a sc p):q3q a sc [p,q]:=λk g m x b h f=>by
 rw[qiv _ _ _ _ _ B]at h;unfold qa7 at h;cases hp:qam p with
 |true=>rw[hp]at h;simp at h
 |false=>
  rw[hp]at h;simp only[Bool.false_eq_true,if_false]at h;rw[qih _ _ _ _ B]at f;cases hr:x.mapM (λd=>qaq a sc p d)with
  |none=>rw[hr]at f;simp at f
  |some rows=>
   rw[hr]at f;simp only[Option.some.injEq]at f;obtain⟨new,c,rfl,s,C⟩:=qkp a p (k+1) 0 g [] m (λi j=>by simp at j) h;have s:qao a 0 [] p=some ([]++c):=s;rw[s]at f;simp only[List.nil_append,Option.getD_some]at f;have o:c.length=new.length:=by simpa using congrArg List.length C
   refine⟨new,rfl,?_⟩;subst f;refine⟨by simp[o],λi id n j=>?_⟩;have G:=(eL.1 j).1;have r:∀t,t∈rows->k+1<=n/\∃u,t[i]? =some (id,u)/\TrD (n-(k+1)) u:=λt w=>by
    obtain⟨d,_,y⟩:=qoi hr t w;obtain⟨new',e,z⟩:=F (k+1) g _ d t h y;have:new=new':=List.append_cancel_left e;subst this;exact z.2 i id n j
   have I:k+1<=n:=by
    exact qxa p (k+1) g _ h new rfl i id n j
   refine⟨by omega,.row (col rows i),?_,?_⟩
   ·have D:c[i]? =some (c[i]'(by omega)):=eG (by omega);have A:(c[i]'(by omega)).1=id:=by
     have:=congrArg (λl=>l[i]?) C;simp only[List.getElem?_map,D,j,Option.map_some,Option.some.injEq]at this;exact this
    rw[List.getElem?_map,List.getElem?_zipIdx,D];simp only[Option.map_some,Nat.zero_add,A]
   ·rw[show n-k=(n-(k+1))+1 from by omega];refine .row _ _ λu E=>?_
    unfold col at E;obtain⟨t,w,rfl⟩:=List.mem_map.1 E;obtain⟨_,v,H,y⟩:=r t w;simp only[H,Option.map_some,Option.getD_some];exact y
theorem qko(e:List Bs)(sc:qaj)(p:Dt)(rest:List Dt)(n:∀q,rest=[q]->qam q=false)(r:q6o e sc p)(j:q3q e sc rest):q3q e sc (p::rest):=λk g i x b h f=>by
 rw[qhx _ _ _ _ _ n]at h;unfold qa7 at h;cases hp:qam p with
 |true=>rw[hp]at h;simp at h
 |false=>
  rw[hp]at h;simp only[Bool.false_eq_true,if_false]at h;rw[qhc _ _ _ _ n]at f;cases x with
  |nil=>simp at f
  |cons d l=>
   simp only at f;cases h1:qaq e sc p d with
   |none=>rw[h1]at f;simp at f
   |some a=>
    rw[h1]at f;simp only[Option.map_eq_some_iff]at f;obtain⟨c,s,rfl⟩:=f;cases hb:qao e k g p with
    |none=>rw[hb]at h;simp at h
    |some m=>
     rw[hb]at h;obtain⟨o,rfl,t⟩:=r k g m d a hb h1;obtain⟨u,v,w⟩:=j k (g++o) i l c h s;exact⟨o++u,by rw[v,List.append_assoc],t.app w⟩
mutual
theorem q35(g:List Bs)(sc:qaj):∀p:Dt,q6o g sc p
 | .list l=>λk o f d b h e=>by
  simp only[qao]at h;cases d with
  |list x=>simp only[qaq]at e;exact q34 g sc l k o f x b h e
  |_=>simp[qaq]at e
 | .sym t m=>λk o f d b h e=>by
  simp only[qao]at h;simp only[qaq]at e;cases hl:g.contains t with
  |true=>
   rw[hl]at h e;simp only[Bool.true_or,if_true,Option.some.injEq]at h e;have:b=[]:=by
    cases d with
    |sym u j=>
     simp only at e;split at e
     ·exact(Option.some.inj e).symm
     ·cases e
    |_=>simp at e
   exact⟨[],by simp[h],by rw[this];exact Al.nil k⟩
  |false=>
   rw[hl]at h e;simp only[Bool.false_or,Bool.false_eq_true,if_false]at h e;cases hu:(t== [95])with
   |true=>
    rw[hu]at h e;simp only[if_true,Option.some.injEq]at h e;exact⟨[],by simp[h],by rw[<-e];exact Al.nil k⟩
   |false=>
    rw[hu]at h e;simp only[Bool.false_eq_true,if_false,Option.some.injEq]at h e;unfold qed at h;split at h
    ·cases h
    ·simp only[Option.some.injEq]at h;refine⟨[((t,m),k)],h.symm,?_⟩;subst e;refine⟨rfl,λi id n q=>?_⟩;cases i with
     |zero=>
      simp only[List.getElem?_cons_zero,Option.some.injEq,Prod.mk.injEq]at q;obtain⟨rfl,rfl⟩:=q;exact⟨eR _,_,rfl,by rw[Nat.sub_self];exact .one d⟩
     |succ i=>simp at q
 | .num a=>λk o f d b h e=>by
  simp only[qao,Option.some.injEq]at h;have:b=[]:=by
   cases d with
   |num c=>simp only[qaq]at e;split at e;exact(Option.some.inj e).symm;cases e
   |_=>simp[qaq]at e
  exact⟨[],by simp[h],by rw[this];exact Al.nil k⟩
 | .bool a=>λk o f d b h e=>by
  simp only[qao,Option.some.injEq]at h;have:b=[]:=by
   cases d with
   |bool c=>simp only[qaq]at e;split at e;exact(Option.some.inj e).symm;cases e
   |_=>simp[qaq]at e
  exact⟨[],by simp[h],by rw[this];exact Al.nil k⟩
 | .str a=>λk o f d b h e=>by
  simp only[qao,Option.some.injEq]at h;have:b=[]:=by
   cases d with
   |str c=>simp only[qaq]at e;split at e;exact(Option.some.inj e).symm;cases e
   |_=>simp[qaq]at e
  exact⟨[],by simp[h],by rw[this];exact Al.nil k⟩
theorem q34(a:List Bs)(sc:qaj):∀l:List Dt,q3q a sc l
 | []=>qn4 a sc
 | [p]=>qko a sc p [] nofun (q35 a sc p) (qn4 a sc)
 |p::q::r=>by
  by_cases h:r=[]/\qam q=true
  ·obtain⟨rfl,b⟩:=h;exact qvj a sc p q b (q35 a sc p)
  ·refine qko a sc p (q::r) (λc e=>?_) (q35 a sc p) (q34 a sc (q::r));cases hd:qam c with
   |false=>rfl
   |true=>
    simp only[List.cons.injEq]at e;exact absurd ⟨e.2,by rw[e.1];exact hd⟩ h
end
def Okb(had:List (Sc.Id×Nat)):Prop:=(had.map (·.1)).Nodup/\∀b,b∈had->b.1.1≠qbv
mutual
theorem ok1(g:List Bs):∀(p:Dt) (k:Nat) (f d:List (Sc.Id×Nat)),qam p=false->qao g k f p=some d->Okb f->Okb d
 | .list l,k,f,d,hd,h,ho=>by
  simp only[qao]at h;exact okL g l k f d h ho
 | .sym t m,k,f,d,hd,h,ho=>by
  simp only[qao]at h;by_cases i:(g.contains t||t== [95])=true
  ·rw[if_pos i]at h;cases h;exact ho
  ·rw[if_neg i]at h;unfold qed at h;split at h
   ·cases h
   ·rename_i j;simp only[Option.some.injEq]at h;subst h;refine⟨?_,λb hb=>?_⟩
    ·rw[List.map_append,List.nodup_append];refine⟨ho.1,by simp,λa o c i e=>?_⟩;simp only[List.map_cons,List.map_nil,List.mem_singleton]at i;obtain⟨b,hb,n⟩:=List.mem_map.1 o;exact j (List.any_eq_true.2 ⟨b,hb,by rw[n,e,i];simp⟩)
    ·rcases List.mem_append.1 hb with hb|hb
     ·exact ho.2 b hb
     ·simp only[List.mem_singleton]at hb;rw[hb];intro e;have e:t=qbv:=e;simp[qam,e]at hd
 | .num _,k,f,d,hd,h,ho=>by simp only[qao,Option.some.injEq]at h;rw[<-h];exact ho
 | .bool _,k,f,d,hd,h,ho=>by simp only[qao,Option.some.injEq]at h;rw[<-h];exact ho
 | .str _,k,f,d,hd,h,ho=>by simp only[qao,Option.some.injEq]at h;rw[<-h];exact ho
theorem okL(b:List Bs):∀(l:List Dt) (k:Nat) (c a:List (Sc.Id×Nat)),qa1 b k c l=some a->Okb c->Okb a
 | [],k,c,a,h,ho=>by simp only[qa1,Option.some.injEq]at h;rw[<-h];exact ho
 | [p],k,c,a,h,ho=>by
  simp only[qa1]at h;cases hp:qam p with
  |true=>rw[hp]at h;simp at h
  |false=>
   rw[hp]at h;exact ok1 b p k c a hp (by simpa using h) ho
 |p::q::r,k,c,a,h,ho=>by
  simp only[qa1]at h;cases hp:qam p with
  |true=>rw[hp]at h;simp at h
  |false=>
   rw[hp]at h;simp only[Bool.false_eq_true,if_false]at h;split at h
   ·exact ok1 b p (k+1) c a hp h ho
   ·cases hb:qao b k c p with
    |none=>rw[hb]at h;simp at h
    |some d=>
     rw[hb]at h;exact okL b (q::r) k d a h (ok1 b p k c d hp hb ho)
end
theorem qvp{a:List Bs}{p:List Dt}{bl:List (Sc.Id×Nat)}{j:Mkr}{q:List Nat}(h:qa1 a 0 [] p=some bl)(r:qcb bl 0 tm=some (j,q))(sc:qaj)(l:List Dt)(b:qdq)(mark:Int)(s:qau a sc p l=some b):j.ok (b.map (·.2))/\j.mks mark (b.map (·.2))=(qgi mark b tm).map λd=>[d]:=by
 have m:=okL a p 0 [] bl h ⟨by simp,λb h=>by simp at h⟩;obtain⟨new,e,c⟩:=q34 a sc p 0 [] bl l b h s;simp only[List.nil_append]at e;subst e;have f:(b.map (·.2)).length=bl.length:=by simp[c.1]
 obtain⟨u,v⟩:=qjy m.1 m.2 0 tm r (b.map (·.2)) f (λi id n g _=>by
  obtain⟨_,t,k,o⟩:=c.2 i id n g;refine⟨t,by rw[List.getElem?_map,k];rfl,λw=>?_,λ_=>by simpa using o⟩;subst w;cases o with
  |one d=>exact⟨d,rfl⟩)
 refine⟨u,?_⟩;have e:bnd bl (b.map (·.2))=b:=by
  refine List.ext_getElem? λi=>?_
  rw[qlx];cases g:bl[i]? with
  |none=>
   have:b[i]? =none:=by rw[List.getElem?_eq_none_iff]at g|-;rw[c.1];exact g
   rw[this]
  |some x=>
   obtain⟨id,n⟩:=x;obtain⟨_,t,k,_⟩:=c.2 i id n g;rw[List.getElem?_map,k];rfl
 rw[v mark,e]
theorem q0h:(prog.info? 406).map (λi=>(i.zero,i.size,i.bytes))=some (some (.agg #[.slice none 0 0,.slice none 0 0,.nilFunc,.nilFunc]),4,64):=by kernel_rfl
theorem qpq(c:List Bs)(d:Dt)(h:∀a b,d≠.list [a,b]):qdw c d=none:=by
 unfold qdw;split
 ·exact absurd rfl (h _ _)
 ·rfl
theorem qpp(a:List Bs)(c tm:Dt)(h:qc5 a c=none):qdw a (.list [c,tm])=none:=by
 unfold qdw;split
 ·rename_i t m p d b;simp only[Dt.list.injEq,List.cons.injEq]at b;obtain⟨rfl,_,_⟩:=b;rw[qdp]at h;split
  ·rfl
  ·rename_i e;rw[if_neg e]at h;rw[h]
 ·rfl
theorem qpo(a:List Bs)(t:Bs)(m:Int)(p:List Dt)(tm:Dt)(b:List (Sc.Id×Nat))(h:qc5 a (.list (.sym t m::p))=some b):qa1 a 0 [] p=some b/\qdw a (.list [.list (.sym t m::p),tm])=match qcb b 0 tm with
  |none=>none
  |some _=>some (p,tm):=by
 rw[qdp]at h;cases hd:(t==qbv)with
 |true=>rw[hd]at h;simp at h
 |false=>
  rw[hd]at h;simp only[Bool.false_eq_true,if_false]at h;refine⟨h,?_⟩;simp only[qdw,hd,Bool.false_eq_true,if_false,h,qe7];cases qcb b 0 tm <;> rfl
structure Rq4 where
 l:Vu
 b:Vu
 f:Vu
 t:Vu
def Rq4.cs(q:Rq4):List Vu:=[q.l,q.b,q.f,q.t]
def qcc(qs:List Rq4):List Vu:=qs.flatMap Rq4.cs
theorem qps(a b:List Rq4):qcc (a++b)=qcc a++qcc b:=by simp[qcc]
theorem qkx:∀(a:List Rq4) (i:Nat) (q:Rq4),a[i]? =some q->∀j,j<4->(qcc a)[i*4+j]? =q.cs[j]?
 | [],i,q,h,j,hj=>by simp at h
 |c::r,0,q,h,j,hj=>by
  obtain rfl:c=q:=by simpa using h
  show(c.cs++qcc r)[0*4+j]? =_;rw[Nat.zero_mul,Nat.zero_add,eA (by simpa[Rq4.cs]using hj)]
 |c::r,i+1,q,h,j,hj=>by
  show(c.cs++qcc r)[(i+1)*4+j]? =_;have b:c.cs.length=4:=rfl;rw[eB (by rw[b];omega),b,show(i+1)*4+j-4=i*4+j from by omega];exact qkx r i q (by simpa using h) j hj
def RlsR(H:Gh)(lits:List Bs)(rules:List (List Dt×Dt))(qs:List Rq4):Prop:=qs.length=rules.length/\∀(i:Nat) (r:List Dt×Dt) (q:Rq4),rules[i]? =some r->qs[i]? =some q->∃la ll lc ba nb bc,q.l=.slice la ll lc/\q.b=.slice ba nb bc/\RuleC H lits r q.l ba nb bc q.f q.t
theorem RlsR.mono(h:G.le H){b:List Bs}{a:List (List Dt×Dt)}{qs:List Rq4}(r:RlsR G b a qs):RlsR H b a qs:=⟨r.1,λi x q c d=>by
 obtain⟨la,e,lc,ba,nb,bc,f,g,j⟩:=r.2 i x q c d;exact⟨la,e,lc,ba,nb,bc,f,g,j.mono h⟩⟩
theorem RlsR.snoc{c:List Bs}{a:List (List Dt×Dt)}{g:List Rq4}(r:RlsR H c a g){x:List Dt×Dt}{q:Rq4}{h:Nat}(j:q.l=.slice la h lc)(k:q.b=.slice ba nb bc)(m:RuleC H c x q.l ba nb bc q.f q.t):RlsR H c (a++[x]) (g++[q]):=by
 refine⟨by simp[r.1],λi y p d e=>?_⟩;rcases Nat.lt_or_ge i a.length with hl|hl
 ·rw[eA hl]at d;rw[eA (by rw[r.1];exact hl)]at e;exact r.2 i y p d e
 ·have n:i=a.length:=by
   have:=(eL.1 d).1;simp at this;omega
  subst n;simp at d;rw[<-r.1]at e;simp at e;subst d e;exact⟨la,h,lc,ba,nb,bc,j,k,m⟩
def RuLR(G:Gh)(w:Wd)(la:OA)(ss:List BA)(rs:List Dt)(res:Option (List (List Dt×Dt)))(k:Nat)(s29 s4:Vu)(wr:Wd):Prop:=
 ∃(j:Nat) (H':Gh) (rules:List (List Dt×Dt)) (qs:List Rq4) (ra:OA) (rc:Nat),j+k=rs.length/\s29=.int .i64 (j:Int)/\s4=.slice ra j rc/\res=(qbo (qbq ss) (rs.drop j)).map (rules++·)/\rules.length=j/\Wk G w H' wr/\StrI H' la ss/\RlsR H' (qbq ss) rules qs/\wr.ownsRow w.heap.size 406 4 (.slice ra j rc) j (qcc qs)/\∀g,(Value.slice ra j rc).ownBlock=some g->H'.I g=none
def RuLP(G:Gh)(w:Wd)(lits:List Bs)(res:Option (List (List Dt×Dt)))(e:En)(w':Wd):Prop:=
 (e=.panicked (qan (qap 4))/\Below w.heap.size w w'/\res=none)\/
 (∃H' rules v,e=.returned v/\res=some rules/\Wk G w H' w'/\∀t,RulesR H' ⟨t,lits,rules⟩ v)
theorem RuLR.done{ss:List BA}{e:Option (List (List Dt×Dt))}{u D:Vu}{wr:Wd}(h:RuLR G w la ss rs e 0 u D wr)(Q:rs.length<=1000000):RuLP G w (qbq ss) e (.returned D) wr:=by
 obtain⟨j,R,a,E,ra,rc,J,rfl,rfl,d,K,k,S,F,H,hI⟩:=h;have J:j=rs.length:=by omega
 rw[List.drop_eq_nil_of_le (by omega)]at d;obtain⟨L,M,v,_,_,_,_,_,x,_⟩:=k.fixes (Value.slice ra j rc).ownBlock.toList λb m=>by
  have m:(Value.slice ra j rc).ownBlock=some b:=by simpa using m
  have:=H.lt b m;exact⟨this.1,hI b m,this.2⟩
 have y:=F.mono v;refine .inr ⟨L,a,_,rfl,by rw[d];simp[qbo],M,λt=>⟨by show a.length<=1000000;omega,ra,rc,by show _=Value.slice ra a.length rc;rw[K],λI=>?_⟩⟩;have I:0<a.length:=I;rcases H.2 with⟨n,T⟩|⟨g,cap,o,n,m,N,U,V,O,z⟩
 ·omega
 ·cases n;refine⟨g,o,rfl,by rw[x g (by simp[Value.ownBlock])];exact N,λi r c=>?_⟩;have c:a[i]? =some r:=c;have A:=(eL.1 c).1;obtain⟨q,p⟩:∃q,E[i]? =some q:=⟨_,eG (by rw[F.1];exact A)⟩;obtain⟨B,P,lc,ba,nb,bc,e1,e2,e3⟩:=y.2 i r q c p;have cc:∀s,s<4->o[i*4+s]? =q.cs[s]?:=λs C=>by
   have n:=qkx E i q p s C;rw[<-z,List.getElem?_take_of_lt (by omega)]at n;rw[<-n];simp
  exact⟨q.l,ba,nb,bc,q.f,q.t,cc 0 (by omega),by rw[<-e2];exact cc 1 (by omega),cc 2 (by omega),cc 3 (by omega),⟨B,P,lc,e1⟩,e3⟩
theorem RuLR.push{ss:List BA}{n:Option (List (List Dt×Dt))}{e:Gh}{a:List (List Dt×Dt)}{i:List Rq4}{x:List Dt×Dt}{q:Rq4}{J:OA}{K kc:Nat}(M:Wk G w e w4)(s:Sp (λ_=>False) H1 wo e w4)(N:StrI H1 la ss)(O:RlsR H1 (qbq ss) a i)(z:wo.ownsRow w.heap.size 406 4 (.slice ra j rc) j (qcc i))(hI:∀g,(Value.slice ra j rc).ownBlock=some g->H1.I g=none)(A:a.length=j)(Q:j+(k+1)=rs.length)(p:n=(qbo (qbq ss) (rs.drop (j+1))).map ((a++[x])++·))(e1:q.l=.slice J K kc)(e2:q.b=.slice ba nb bc)(B:RuleC e (qbq ss) x q.l ba nb bc q.f q.t)(o:Obj):
  w4.ownsRow w.heap.size 406 4 (.slice ra j rc) j (qcc i)/\∀(m c:Nat) (w5:Wd),w5.ownsRow w.heap.size 406 4 (.slice (some ⟨m,0,none⟩) (j+1) c) (j+1) (qcc i++q.cs)->(w4.alloc o).grownBy w5 (Value.slice ra j rc).ownBlock->((Value.slice ra j rc).ownBlock=some m\/m=(w4.alloc o).heap.size)->∀C,Lk w5 C->RuLR G w la ss rs n k (.int .i64 ((j:Int)+1)) (.slice (some ⟨m,0,none⟩) (j+1) c) C:=by
 have r:w4.ownsRow w.heap.size 406 4 (.slice ra j rc) j (qcc i):=qb7 z λg d=>s.blk (z.lt g d).2 (λh=>h)
 refine⟨r,λm c w5 D E F C u=>?_⟩;have v:∀g,(Value.slice ra j rc).ownBlock=some g->e.I g=none:=λg d=>s.loose (z.lt g d).2 (hI g d)
 have H:=M.below (qaa w4 o);have P:Wk G w e w5:=H.go (L:=λb=>(Value.slice ra j rc).ownBlock=some b) (Sp.grown E λb y=>y) λb y=>⟨(r.lt b y).1,v b y⟩
 refine⟨j+1,e,a++[x],i++[q],_,_,by omega,by push_cast;rfl,rfl,p,by simp[A],P.lk u,N.mono s.ext.le,(O.mono s.ext.le).snoc e1 e2 B,?_,λg d=>?_⟩
 ·rw[qps];have:qcc [q]=q.cs:=by simp[qcc]
  rw[this];exact qb7 D λg d=>by rw[u.heap]
 ·obtain rfl:m=g:=by simpa[Value.ownBlock]using d
  rcases F with h|h
  ·exact v _ h
  ·exact H.fresh (by omega)
structure N2 (G:Gh) (w:Wd) (la:OA) (ss:List BA) (rs:List Dt) (res:Option (List (List Dt×Dt))) (ra:OA) (j rc:Nat) (xs:List Vu) (k:Nat) (pq:Nat) (v1 v2 v3 v4:Vu) (w4:Wd):Prop where
 own:w4.ownsRow w.heap.size 406 4 (.slice ra j rc) j xs
 low:w.heap.size<=w4.heap.size
 pb:w4.heap[pq]? =some (.cells #[v1,v2,v3] 402 (0,0))
 ne:∀g,(Value.slice ra j rc).ownBlock=some g->g≠pq
 fin:∀(g5 cap5:Nat) (w5:Wd),w5.ownsRow w.heap.size 406 4 (.slice (some ⟨g5,0,none⟩) (j+1) cap5) (j+1) (xs++[v1,v2,v3,v4])->(w4.alloc (.cells #[v1,v2,v3,v4] 406)).grownBy w5 (Value.slice ra j rc).ownBlock->((Value.slice ra j rc).ownBlock=some g5\/g5=(w4.alloc (.cells #[v1,v2,v3,v4] 406)).heap.size)->∀w6,Lk w5 w6->RuLR G w la ss rs res k (.int .i64 ((j:Int)+1)) (.slice (some ⟨g5,0,none⟩) (j+1) cap5) w6
theorem N2.kept{ss:List BA}{a:Option (List (List Dt×Dt))}{xs:List Vu}{v4:Vu}(h:N2 G w la ss rs a ra j rc xs k pb v1 v2 v3 v4 w4)(b:Wd)(c:(w4.alloc (.cells #[v1,v2,v3,v4] 406)).grownBy b (Value.slice ra j rc).ownBlock):b.heap[pb]? =some (.cells #[v1,v2,v3] 402 (0,0)):=by
 have d:=(eE.1 h.pb).1;rw[c.block _ (by simp;omega) (λe=>h.ne pb e.symm rfl),eH _ _ _ d];exact h.pb
structure N1 (G:Gh) (w:Wd) (la:OA) (ss:List BA) (rs:List Dt) (res:Option (List (List Dt×Dt))) (ra:OA) (j rc:Nat) (xs:List Vu) (k:Nat) (rb:Nat) (arr:Array Vu) (g3 o3:Nat) (e2:Dl) (v1:Vu) (ba:OA) (nb bc:Nat) (v3:Vu) (w2:Wd):Prop where
 box:w2.heap[rb]? =some (.cells arr 134 (0,0))
 s6:S6w g3 (o3+6) e2.k e2.n e2.tr e2.tx e2.m e2.a e2.len e2.cap w2
 call:∀w',Lk (w2.alloc (.cells #[v1,.slice ba nb bc,v3] 402)) w'->Calls prog 330 #[.agg e2.cells,.slice ba nb bc] w' λe w4=>((∃p,e=.panicked p)/\RuLP G w (qbq ss) res e w4)\/(∃f cp,e=.returned (.func (.func f) #[] cp)/\N2 G w la ss rs res ra j rc xs k w2.heap.size v1 (.slice ba nb bc) v3 (.func (.func f) #[] cp) w4)
theorem q4d{ss:List BA}{r:Option (List (List Dt×Dt))}{W1:Wd}{c:List (List Dt×Dt)}{P:List Rq4}{J o3:Nat}{a3:Array Vu}{C:Dt}{e1 e2:Dl}{bx:Array Vu}(K:Wk G w H1 wo)(hs:StrI H1 la ss)(Q:ss.length<=1000000)(hq:RlsR H1 (qbq ss) c P)(ho:wo.ownsRow w.heap.size 406 4 (.slice ra j rc) j (qcc P))(hI:∀g,(Value.slice ra j rc).ownBlock=some g->H1.I g=none)(R:c.length=j)(hj:j+(k+1)=rs.length)
  (T:DRep H1 C e1)(U:DRep H1 tm e2)(V:H1.I J=some (.cells a3 134 (0,0)))(X:∀W:Wd,W.heap[J]? =some (.cells a3 134 (0,0))->S6w J (o3+6) e2.k e2.n e2.tr e2.tx e2.m e2.a e2.len e2.cap W)(Y:qaf C<=1000000000000)(Z:qaf tm+1<=1000000000000)
  (D:qdw (qbq ss) (.list [C,tm])=none->r=none)(E:∀x,qdw (qbq ss) (.list [C,tm])=some x->r=(qbo (qbq ss) (rs.drop (j+1))).map ((c++[x])++·))(u:Lk (wo.alloc (.cells bx 134)) W1):
  Calls prog 329 #[.agg e1.cells,.slice la ss.length lc] W1 λe w2=>((∃p,e=.panicked p)/\RuLP G w (qbq ss) r e w2)\/(∃v y kc ba nb bc f z,e=.returned (.agg #[.slice v y kc,.slice ba nb bc,.func (.func f) #[] z])/\N1 G w la ss rs r ra j rc (qcc P) k wo.heap.size bx J o3 e2 (.slice v y kc) ba nb bc (.func (.func f) #[] z) w2):=by
 obtain⟨S,m0,i1⟩:=K.known;have d:=bl1 u;have iA:=i1.below d;refine Calls.mono (qzp iA C e1 T la lc ss hs Q Y) ?_;rintro e w2 (⟨rfl,h1,L⟩|⟨H2,t,m,p,i,v,y,kc,ba,bc,fv,rfl,L,rfl,A,a0,F,a5⟩)
 ·refine .inl ⟨⟨_,rfl⟩,.inl ⟨rfl,K.bel.trans ((d.trans (h1.mono d.size)).mono K.bel.size),D (qpp _ _ _ L)⟩⟩
 ·obtain⟨a1,H⟩:=qpo _ _ _ _ tm _ L;obtain⟨f,z,rfl,_⟩:=id F;have k2:Wk G w H2 w2:=(K.below d).trans A;have s2:Sp (λ_=>False) H1 wo H2 w2:=(Sp.below d).then A.sp λ_ _ h=>h
  refine .inr ⟨v,y,kc,ba,i.length,bc,f,z,rfl,?_,?_,λw' B=>?_⟩
  ·rw[A.bel.block _ (by rw[u.heap];simp),u.heap];exact eN _ _
  ·exact X w2 (A.imm (A.ext.le.I V))
  ·have o:=bl1 B;have iB:=(A.inv iA).below o;refine Calls.mono (qu5 iB tm e2 (U.mono A.ext.le) ba bc i a0 (by omega) Z) ?_;rintro e w4 (⟨rfl,h3,M⟩|⟨H4,N,s,new,mk,rfl,M,O,a2⟩)
   ·refine .inl ⟨⟨_,rfl⟩,.inl ⟨rfl,k2.bel.trans ((o.trans (h3.mono o.size)).mono k2.bel.size),D (by rw[H,M])⟩⟩
   ·have k4:Wk G w H4 w4:=(k2.below o).trans O;have s4:Sp (λ_=>False) H1 wo H4 w4:=s2.then ((Sp.below o).then O.sp λ_ _ h=>h) λ_ _ h=>h
    have a4:RuleC H4 (qbq ss) (p,tm) (.slice v y kc) ba i.length bc (.func (.func f) #[] z) (.func (.func N) #[] s):=⟨by omega,F.mono O.ext.le,mk,a2,λsc l b mark hm=>qvp a1 M sc l b mark hm⟩;obtain⟨q1,q2⟩:=RuLR.push (q:=⟨.slice v y kc,.slice ba i.length bc,.func (.func f) #[] z,.func (.func N) #[] s⟩) k4 s4 hs hq ho hI R hj (E (p,tm) (by rw[H,M])) rfl rfl a4 (.cells #[.slice v y kc,.slice ba i.length bc,.func (.func f) #[] z,.func (.func N) #[] s] 406);refine .inr ⟨N,s,rfl,q1,k4.bel.size,?_,λg hg e=>?_,q2⟩
    rotate_left
    ·have h1:=(ho.lt g hg).2;have L:=s2.size;omega
    rw[O.bel.block _ (by rw[B.heap];simp),B.heap];exact eN _ _
def qeo:Dt->Option (List Bs)
 | .list l=>qa2 l
 |_=>none
def quw(G:Gh)(w:Wd)(lo:Option (List Bs))(rs:List Dt)(e:En)(w':Wd):Prop:=
 (e=.panicked (qan (qap 4))/\Below w.heap.size w w'/\∀lits,lo=some lits->qbo lits rs=none)\/
 (∃H' lits rules v,e=.returned v/\lo=some lits/\qbo lits rs=some rules/\Wk G w H' w'/\∀t,RulesR H' ⟨t,lits,rules⟩ v)
theorem RuLP.d{ss:List BA}{lo:Option (List Bs)}{b:Option (List (List Dt×Dt))}(g:lo=some (qbq ss))(i:b=qbo (qbq ss) rs){e:En}{w':Wd}(h:RuLP G w (qbq ss) b e w'):quw G w lo rs e w':=by
 rcases h with⟨rfl,c,f⟩|⟨l,a,v,rfl,c,f,m⟩
 ·exact .inl ⟨rfl,c,λj k=>by rw[g]at k;cases k;rw[<-i];exact f⟩
 ·exact .inr ⟨l,_,a,v,rfl,g,by rw[<-i];exact c,f,m⟩
theorem qv8{m0:Mc}{f:Wd}(i:Inv G S m0 w)(k:Below w.heap.size w f)(d:Dt)(e:Dl)(K:DRep G d e)(rs:List Dt):
  Calls prog 328 #[.agg e.cells] f λe w2=>((∃p,e=.panicked p)/\quw G w (qeo d) rs e w2)\/(∃la lc ss H1,e=.returned (.slice la ss.length lc)/\qeo d=some (qbq ss)/\ss.length<=30000/\Below f.heap.size f w2/\Wk G w H1 w2/\StrI H1 la ss):=by
 obtain⟨u,x,m,n,y,z,A,B⟩:=e;have j:u≠4->qeo d=none->Calls prog 328 #[.agg (Dl.cells ⟨u,x,m,n,y,z,A,B⟩)] f λe w2=>((∃p,e=.panicked p)/\quw G w (qeo d) rs e w2)\/(∃la lc ss H1,e=.returned (.slice la ss.length lc)/\qeo d=some (qbq ss)/\ss.length<=30000/\Below f.heap.size f w2/\Wk G w H1 w2/\StrI H1 la ss):=λo C=>by
  refine Calls.mono (qmv u x m n y z A B f o) ?_;rintro e w' ⟨rfl,a⟩;exact .inl ⟨⟨_,rfl⟩,.inl ⟨rfl,k.trans (a.mono k.size),λlits h=>by rw[C]at h;cases h⟩⟩
 rcases K.kind with⟨D,rfl⟩|⟨o,l,rfl⟩|⟨D,o,Z,C⟩
 ·have D:u=3:=D;exact j (by omega) rfl
 ·have o:u=4:=o;subst o;have c:=K.row;have L:=c.len;have Q:l.length<=30000:=by obtain⟨_,_,_,_,_,h,_⟩:=c;omega
  have M:=i.below k;refine Calls.mono (qz5 l x m n y z A B f c λh=>M.imm h) ?_;rintro e w2 ⟨a,h⟩;cases hlo:qa2 l with
  |none=>
   rw[hlo]at h;subst h;exact .inl ⟨⟨_,rfl⟩,.inl ⟨rfl,k.trans (a.mono k.size),λlits h=>by have h:qa2 l=some lits:=h;rw[hlo]at h;cases h⟩⟩
  |some R=>
   rw[hlo]at h;obtain⟨E,F,ss,rfl,v,N⟩:=h;have T:Wk G w G w2:=((Wk.start i).below k).below a;obtain⟨H1,U,V,_,_,_,_,_,hI,_⟩:=T.fixes (Value.slice E ss.length F).ownBlock.toList λb r=>by
    have r:(Value.slice E ss.length F).ownBlock=some b:=by simpa using r
    have t:=N.lt b r;have O:=k.size;exact⟨by omega,M.fresh t.1,t.2⟩
   have H:ss.length<=30000:=by
    have t:=qp4 hlo;have O:ss.length=R.length:=by rw[<-v];simp[qbq]
    omega
   refine .inr ⟨E,F,ss,H1,rfl,by show qa2 l=_;rw[hlo,v],H,a,U,λq s P=>?_⟩;have W:=(eL.1 P).1;rcases N.2 with⟨t,O⟩|⟨g,cap,I,t,_,X,hn,hm,Y,J⟩
   ·omega
   ·cases t;refine⟨g,I,9,rfl,by rw[hI g (by simp[Value.ownBlock])];exact X,?_⟩;have e1:(ss.map Value.string)[q]? =some (.string s):=by rw[List.getElem?_map,P];rfl
    rw[<-J,List.getElem?_take_of_lt (by omega)]at e1;simpa using e1
 ·refine j o ?_;cases d with
  |list l=>exact absurd rfl (C l)
  |_=>rfl
theorem qig:∀{l:List Dt} {j:Nat} {d:Dt},l[j]? =some d->qaf d+1<=qad l
 | [],j,d,h=>by simp at h
 |a::r,0,d,h=>by
  obtain rfl:a=d:=by simpa using h
  simp[qad];omega
 |a::r,j+1,d,h=>by
  have:=qig (l:=r) (j:=j) (d:=d) (by simpa using h);simp[qad];omega
@[reducible] def S3(pb:Nat)(v1 v2 v3:Vu)(w:Wd):Prop:=w.cell? ⟨pb,0,none⟩=some v1/\w.cell? ⟨pb,1,none⟩=some v2/\w.cell? ⟨pb,2,none⟩=some v3
theorem qvn(h:w.heap[pb]? =some (.cells #[v1,v2,v3] 402 (0,0))):S3 pb v1 v2 v3 w:=by
 refine⟨?_,?_,?_⟩ <;> simp[World.cell?,h]
theorem q4b(v1 v2 v3 v4:Vu)(w2:Wd):∀j u,[v1,v2,v3,v4][j]? =some u->(w2.alloc (.cells #[v1,v2,v3,v4] 406)).cell? ((⟨w2.heap.size,0,none⟩:Addr).add j)=some u:=World.news_of_block (cs:=#[v1,v2,v3,v4]) (eN w2 (.cells #[v1,v2,v3,v4] 406))
theorem q7a(c:OA)(d kc:Nat)(ba:OA)(nb bc f:Nat)(e:Array Vu)(g:Nat)(a:Array Vu):∀u∈[Value.slice c d kc,.slice ba nb bc,.func (.func f) #[] e,.func (.func g) #[] a],u.oneCell'=true:=λu b=>by
 simp at b;rcases b with rfl|rfl|rfl|rfl <;> rfl
theorem qvo{m0:Mc}(i:Inv G S m0 w)(xk xn:Int)(K:Bool)(L:BA)(xm:Int)(g o n c:Nat)(um:Int)(d2:Dt)(rs:List Dt)(z:DRow G (some ⟨g,o,none⟩) (n+2) c (.sym qbt um::d2::rs))(b0:qad rs<=1000000000000):
  Calls prog 294 #[.agg #[.int .i64 xk,.int .i64 xn,.bool K,.string L,.int .i64 xm,.slice (some ⟨g,o,none⟩) (n+2) c]] w (quw G w (qeo d2) rs):=by
 obtain⟨i0,hi,e9,f0,f1⟩:=info_parts q0h;have M:∀{b:Nat} {o:Obj},G.I b=some o->w.heap[b]? =some o:=λh=>i.imm h
 have b2:n=rs.length:=by have:=z.len;simp at this;omega
 have f3:n+2<=30000:=by obtain⟨_,_,_,_,_,h,_⟩:=z;exact h
 have b3:n+2<=c:=by obtain⟨_,_,_,_,h,_⟩:=z;exact h
 have N:DRow G (tlD g o c 2) n (c-2) rs:=by simpa using z.drop 2 (by omega)
 obtain⟨g',o',i5,ha,c9,O⟩:=z.mem (by omega);cases ha;obtain⟨⟨yk,yn,F,u,ym,ya,yl,yc⟩,D,P⟩:=O 0 _ rfl;obtain⟨e2,f4,b4⟩:=O 1 _ rfl;have f5:∀W:Wd,W.heap[g]? =some (.cells i5 134 (0,0))->S6w g (o+6) e2.k e2.n e2.tr e2.tx e2.m e2.a e2.len e2.cap W:=λW hW=>by
  have h:=b4 W hW;simp only[Nat.one_mul]at h;exact⟨h 0 (by omega),h 1 (by omega),h 2 (by omega),h 3 (by omega),h 4 (by omega),h 5 (by omega)⟩
 have f6:S6w g o yk yn F u ym ya yl yc w:=by
  have h:=P w (M c9);simp only[Nat.zero_mul,Nat.add_zero]at h;exact⟨h 0 (by omega),h 1 (by omega),h 2 (by omega),h 3 (by omega),h 4 (by omega),h 5 (by omega)⟩
 obtain⟨y0,y1,y2,y3,y4,y5⟩:=f6.al (.cells #[.int .i64 xk,.int .i64 xn,.bool K,.string L,.int .i64 xm,.slice (some ⟨g,o,none⟩) (n+2) c] 134);have f7:(yk==3&&decide (u=⟨#[115,121,110,116,97,120,45,114,117,108,101,115]⟩))=true:=by
  rcases D.kind with⟨h3,h⟩|⟨h4,l',h⟩|⟨h3,h4,hs,_⟩
  ·have h3:yk=3:=h3;simp only[Dt.sym.injEq]at h;have:u=⟨#[115,121,110,116,97,120,45,114,117,108,101,115]⟩:=qbd (h.1.symm.trans rfl);simp[h3,this]
  ·cases h
  ·exact absurd rfl (hs _ _)
 have f8:Hid (∀w:Wd,Calls prog 327 #[.agg #[.int .i64 yk,.int .i64 yn,.bool F,.string u,.int .i64 ym,.slice ya yl yc],.string ⟨#[115,121,110,116,97,120,45,114,117,108,101,115]⟩] w λe w'=>e=.returned (.bool true)/\Below w.heap.size w w'):=λw=>Calls.mono (qdl yk yn F u ym ya yl yc _ w) λe w' ⟨h1,h2⟩=>⟨by rw[h1,f7],h2⟩
 have f9:∀w,(Instr.slice 132 (.slice (some ⟨g,o,none⟩) (n+2) c) (some (.int .i64 2)) none none).run prog w=.ok (.slice (tlD g o c 2) n (c-2)) w:=λw=>qfd g o n c b3 w
 have l6:(2:Int)<=(n:Int)+2:=by omega
 have l0:(0:Int)<(n:Int)+2:=by omega
 have l1:(1:Int)<(n:Int)+2:=by omega
 have HI:=hZ i;have i6:=hZ f4;have i7:=hZ f5;have HG:=hZ (M c9);have Q:=hZ N;have s:=hZ b2;have i8:=hZ b0;obtain⟨a2,g0⟩:∃a2,a2=tlD g o c 2:=⟨_,rfl⟩;rw[<-g0]at Q f9;have d0:=hZ f3;have l2:n<=30000:=by omega
 clear z N O P b4 D f4 f5 f6 f7 c9 M b2 b0 i g0 b3 f3;go_enter func294,ntmps294
 go_wp2_with (first|(go_at_call 327;refine(f8.out _).mono ?_;rintro e wb ⟨rfl,g1⟩;have d1:=hZ g1;clear g1;refine Hid.out ?_))
 have d3:Below w.heap.size w (w.alloc (.cells #[.int .i64 xk,.int .i64 xn,.bool K,.string L,.int .i64 xm,.slice (some ⟨g,o,none⟩) (n+2) c] 134)):=qaa _ _;have hb:Below w.heap.size w wb:=d3.trans (d1.out.mono d3.size);have R:wb.heap[w.heap.size]? =some (.cells #[.int .i64 xk,.int .i64 xn,.bool K,.string L,.int .i64 xm,.slice (some ⟨g,o,none⟩) (n+2) c] 134 (0,0)):=by rw[d1.out.block _ (by simp)];exact eN _ _
 have g4:=(eE.1 HG.out).1;obtain⟨z0,z1,z2,z3,z4,z5⟩:=i7.out wb (by rw[hb.block _ g4];exact HG.out);have b5:wb.cell? ⟨w.heap.size,5,none⟩=some (.slice (some ⟨g,o,none⟩) (n+2) c):=by simp only[World.cell?,R];rfl
 have b6:=hZ (qv8 HI.out hb d2 e2 i6.out rs);have T:=hZ R;clear y0 y1 y2 y3 y4 y5 f8 hb d3 R g4 d1 HG;obtain⟨l7,l8,l3,l4,l9,m1,i9,j0⟩:=e2;simp only at z0 z1 z2 z3 z4 z5;refine hZ ?_;go_wp2_with (first|(go_at_call 290;refine(qak _).mono ?_;rintro e w4 ⟨rfl,d4⟩;obtain rfl:=d4.symm)|(go_at_call 328;refine b6.out.mono ?_;rintro e w2 (⟨⟨p,rfl⟩,U⟩|⟨la,lc,ss,H1,rfl,q1,q2,q3,q4,q5⟩);(exact⟨rfl,U⟩);have j1:=hZ q1;have j2:=hZ q2;have j3:=hZ q3;have j4:=hZ q4;have j5:=hZ q5;clear q1 q2 q3 q4 q5;refine Hid.out ?_))
 have V:w2.heap[w.heap.size]? =some (.cells #[.int .i64 xk,.int .i64 xn,.bool K,.string L,.int .i64 xm,.slice (some ⟨g,o,none⟩) (n+2) c] 134 (0,0)):=by rw[j3.out.block _ (eE.1 T.out).1];exact T.out
 have m2:w2.cell? ⟨w.heap.size,5,none⟩=some (.slice (some ⟨g,o,none⟩) (n+2) c):=by simp only[World.cell?,V];rfl
 obtain⟨v,b7⟩:∃v,v=qbo (qbq ss) rs:=⟨_,rfl⟩;have b8:=hZ b7;have HD:Hid (∀{e:En} {w':Wd},RuLP G w (qbq ss) v e w'->quw G w (qeo d2) rs e w'):=λh=>RuLP.d j1.out b8.out h
 clear b7 V b6 b5 z0 z1 z2 z3 z4 z5 T;refine hZ ?_;go_wp2_with (fail)
 go_loopg [29,4] n (RuLR G w la ss rs v)
 case atStart=>exact⟨0,H1,[],[],none,0,by rw[s.out];omega,rfl,rfl,by rw[b8.out];simp,rfl,j4.out,j5.out,⟨rfl,λi r q h=>by simp at h⟩,⟨rfl,.inl ⟨rfl,rfl⟩⟩,nofun⟩
 case round=>
  obtain⟨j,H',X,qs,ra,rc,hj,rfl,rfl,H,Y,k1,hs,U,ho,hI⟩:=hrel;obtain⟨wo,rfl⟩:∃wo,wo=wr:=⟨_,rfl⟩;by_cases d5:j<n
  ·obtain⟨r,hr⟩:∃r,rs[j]? =some r:=⟨_,eG (by rw[<-s.out];exact d5)⟩;obtain⟨g2,o2,l5,rfl,Z,a0⟩:=Q.out.mem (by omega);have t:=k1.ext.le;obtain⟨⟨yk,yn,F,u,ym,ya,yl,yc⟩,D,P⟩:=a0 j r hr;have cell:=P wo (k1.imm (t.I Z));have c0:wo.cell? ⟨g2,o2+j*6,none⟩=some (.int .i64 yk):=cell 0 (by omega);have c1:wo.cell? ⟨g2,o2+j*6+1,none⟩=some (.int .i64 yn):=cell 1 (by omega);have c2:wo.cell? ⟨g2,o2+j*6+2,none⟩=some (.bool F):=cell 2 (by omega);have c3:wo.cell? ⟨g2,o2+j*6+3,none⟩=some (.string u):=cell 3 (by omega);have c4:wo.cell? ⟨g2,o2+j*6+4,none⟩=some (.int .i64 ym):=cell 4 (by omega);have c5:wo.cell? ⟨g2,o2+j*6+5,none⟩=some (.slice ya yl yc):=cell 5 (by omega);have m3:(j:Int)<(n:Int):=by omega
   have d6:rs.drop j=r::rs.drop (j+1):=by
    rw[List.drop_eq_getElem_cons (by rw[<-s.out];exact d5)];congr 1;have:=eG (l:=rs) (i:=j) (by rw[<-s.out];exact d5);rw[hr]at this;exact(Option.some.inj this).symm
   rw[d6]at H;have b1:qdw (qbq ss) r=none->v=none:=λh=>by rw[H];simp only[qbo,h];rfl
   have a1:∀x,qdw (qbq ss) r=some x->v=(qbo (qbq ss) (rs.drop (j+1))).map ((X++[x])++·):=λx h=>by
    rw[H];simp only[qbo,h];cases qbo (qbq ss) (rs.drop (j+1)) <;> simp
   clear cell P a0;by_cases d7:yl=2
   ·subst d7;obtain⟨pd,tm,rfl⟩:∃a b,r=.list [a,b]:=by
     cases r with
     |list l=>
      have h:=D.row.len;have h:2=l.length:=h
      match l,h with
      | [a,b],_=>exact⟨a,b,rfl⟩
     |_=>have:=D.len0 nofun;cases this
    have a3:=D.row;obtain⟨g3,o3,b9,d8,a4,J⟩:=a3.mem (by show 0<2;omega);have d8:ya=some ⟨g3,o3,none⟩:=d8;subst d8;obtain⟨⟨pk,pn,d9,e0,pm,pa,pl,pc⟩,g6,c6⟩:=J 0 pd rfl;obtain⟨⟨tk,tn,a5,a6,a7,ta,tl,tc⟩,g7,c7⟩:=J 1 tm rfl;have g8:∀W:Wd,W.heap[g3]? =some (.cells b9 134 (0,0))->S6w g3 o3 pk pn d9 e0 pm pa pl pc W:=λW hW=>by
     have h:=c6 W hW;simp only[Nat.zero_mul,Nat.add_zero]at h;exact⟨h 0 (by omega),h 1 (by omega),h 2 (by omega),h 3 (by omega),h 4 (by omega),h 5 (by omega)⟩
    have g9:∀W:Wd,W.heap[g3]? =some (.cells b9 134 (0,0))->S6w g3 (o3+6) tk tn a5 a6 a7 ta tl tc W:=λW hW=>by
     have h:=c7 W hW;simp only[Nat.one_mul]at h;exact⟨h 0 (by omega),h 1 (by omega),h 2 (by omega),h 3 (by omega),h 4 (by omega),h 5 (by omega)⟩
    have j6:qaf (.list [pd,tm])+1<=qad rs:=qig hr;have j7:qaf (.list [pd,tm])=1+qaf pd+(1+qaf tm):=by simp[qaf,qad]
    have b0:=i8.out;obtain⟨k,hk⟩:∃k,k=rs.length-(j+1):=⟨_,rfl⟩;have j8:=s.out;have hA:j+(k+1)=rs.length:=by omega
    have hB:qaf pd<=1000000000000:=by omega
    have hC:qaf tm+1<=1000000000000:=by omega
    have a8:Hid (∀w',Lk (wo.alloc (.cells #[.int .i64 yk,.int .i64 yn,.bool F,.string u,.int .i64 ym,.slice (some ⟨g3,o3,none⟩) 2 yc] 134)) w'->Calls prog 329 #[.agg #[.int .i64 pk,.int .i64 pn,.bool d9,.string e0,.int .i64 pm,.slice pa pl pc],.slice la ss.length lc] w' λe w2=>((∃p,e=.panicked p)/\quw G w (qeo d2) rs e w2)\/(∃A B kc ba nb bc f C,e=.returned (.agg #[.slice A B kc,.slice ba nb bc,.func (.func f) #[] C])/\N1 G w la ss rs v ra j rc (qcc qs) k wo.heap.size #[.int .i64 yk,.int .i64 yn,.bool F,.string u,.int .i64 ym,.slice (some ⟨g3,o3,none⟩) 2 yc] g3 o3 ⟨tk,tn,a5,a6,a7,ta,tl,tc⟩ (.slice A B kc) ba nb bc (.func (.func f) #[] C) w2)):=λw' e3=>by
     refine Calls.mono (q4d (e1:=⟨pk,pn,d9,e0,pm,pa,pl,pc⟩) (e2:=⟨tk,tn,a5,a6,a7,ta,tl,tc⟩) (lc:=lc) k1 hs (by have:=j2.out;omega) U ho hI Y hA (g6.mono t) (g7.mono t) (t.I a4) g9 hB hC b1 a1 e3) ?_;rintro e w2 (⟨⟨p,rfl⟩,h⟩|h)
     ·exact .inl ⟨⟨_,rfl⟩,HD.out h⟩
     ·exact .inr h
    obtain⟨p0,p1,p2,p3,p4,p5⟩:=(g8 wo (k1.imm (t.I a4))).al (.cells #[.int .i64 yk,.int .i64 yn,.bool F,.string u,.int .i64 ym,.slice (some ⟨g3,o3,none⟩) 2 yc] 134);have j9:Hid (j+1<=maxLen):=by
     have:j+1<=maxLen:=by have:=d0.out;unfold maxLen;omega
     exact this
    have k0:Hid ((j+1)*64<=140737488355328):=by
     have:(j+1)*64<=140737488355328:=by have:=d0.out;omega
     exact this
    have h0:k<n-j:=by omega
    have k2:=hZ h0;have k3:=hZ hj;clear hA hB hC h0 H b1 a1 k1 hs U ho hI Y D Z a3 J a4 c6 c7 g8 g9 j6 j7 b0 j8 hk hj hr d6 t g6 g7;go_wp2_with (first|(go_at_call 290;refine(qak _).mono ?_;rintro e w4 ⟨rfl,d4⟩;obtain rfl:=d4.symm)|(go_at_call 329;refine(a8.out _ (by exact⟨rfl,rfl,rfl,rfl⟩)).mono ?_;rintro e w2 (⟨⟨p,rfl⟩,U⟩|⟨A,B,kc,ba,nb,bc,f,C,rfl,hn⟩);(exact⟨rfl,U⟩);have HN:=hZ hn;clear hn;refine Hid.out ?_))
    have e4:=HN.out.box;have k4:=(eE.1 e4).1;have r5:(w2.alloc (.cells #[.slice A B kc,.slice ba nb bc,.func (.func f) #[] C] 402)).cell? ⟨wo.heap.size,5,none⟩=some (.slice (some ⟨g3,o3,none⟩) 2 yc):=qat (by simp only[World.cell?,e4];rfl);have h5:S6w g3 (o3+6) tk tn a5 a6 a7 ta tl tc w2:=HN.out.s6;obtain⟨t0,t1,t2,t3,t4,t5⟩:=h5.al (.cells #[.slice A B kc,.slice ba nb bc,.func (.func f) #[] C] 402);have e5:S3 w2.heap.size (.slice A B kc) (.slice ba nb bc) (.func (.func f) #[] C) (w2.alloc (.cells #[.slice A B kc,.slice ba nb bc,.func (.func f) #[] C] 402)):=qvn (eN _ _);have k5:=hZ e5;have h6:Hid (S3 w2.heap.size (.slice A B kc) (.slice ba nb bc) (.func (.func f) #[] C) (w2.alloc (.cells #[.slice A B kc,.slice ba nb bc,.func (.func f) #[] C] 402)).drew):=e5;obtain⟨m4,m5,m6⟩:=e5;have k6:Hid (∀w',Lk (w2.alloc (.cells #[.slice A B kc,.slice ba nb bc,.func (.func f) #[] C] 402)) w'->Calls prog 330 #[.agg #[.int .i64 tk,.int .i64 tn,.bool a5,.string a6,.int .i64 a7,.slice ta tl tc],.slice ba nb bc] w' λe w4=>((∃p,e=.panicked p)/\quw G w (qeo d2) rs e w4)\/(∃f2 y,e=.returned (.func (.func f2) #[] y)/\N2 G w la ss rs v ra j rc (qcc qs) k w2.heap.size (.slice A B kc) (.slice ba nb bc) (.func (.func f) #[] C) (.func (.func f2) #[] y) w4)):=λw' e3=>by
     refine Calls.mono (HN.out.call w' e3) ?_;rintro e w4 (⟨⟨p,rfl⟩,h⟩|h)
     ·exact .inl ⟨⟨_,rfl⟩,HD.out h⟩
     ·exact .inr h
    clear c0 c1 c2 c3 c4 c5 p0 p1 p2 p3 p4 p5 e4 k4 h5 a8 HN;refine hZ ?_;go_wp2_with (fail)
    rw[show Op.load 132 (Operand.tmp 46)=ldH 132 (Operand.tmp 46)from rfl,show Op.load 134 (Operand.tmp 48)=ldH 134 (Operand.tmp 48)from rfl];go_region_held2 (λw'=>w'.cell? ⟨w2.heap.size,0,none⟩=some (.slice A B kc)/\w'.cell? ⟨w2.heap.size,1,none⟩=some (.slice ba nb bc)/\w'.cell? ⟨w2.heap.size,2,none⟩=some (.func (.func f) #[] C))
     (first|(with_reducible exact h6.out)|(with_reducible exact k5.out)|(with_reducible exact k7.out)|(with_reducible exact h7.out)|(with_reducible exact k8.out))
     (first|(go_at_call 330;refine(k6.out _ (by exact⟨rfl,rfl,rfl,rfl⟩)).mono ?_;rintro e w4 (⟨⟨p,rfl⟩,U⟩|⟨f2,y,rfl,hn⟩);(exact⟨rfl,U⟩);have HN:=hZ hn;have k7:=hZ (qvn hn.pb);have h7:Hid (S3 w2.heap.size (.slice A B kc) (.slice ba nb bc) (.func (.func f) #[] C) (w4.alloc (.cells #[.slice A B kc,.slice ba nb bc,.func (.func f) #[] C,.func (.func f2) #[] y] 406))):=(by have h:=qvn hn.pb;exact⟨qat h.1,qat h.2.1,qat h.2.2⟩);have e6:=hZ (hn.own.alloc (.cells #[.slice A B kc,.slice ba nb bc,.func (.func f) #[] C,.func (.func f2) #[] y] 406));have e7:=hZ (q4b (.slice A B kc) (.slice ba nb bc) (.func (.func f) #[] C) (.func (.func f2) #[] y) w4);have h8:=hZ (q7a A B kc ba nb bc f C f2 y);have h9:=hZ (eT hn.low (qaa w4 (.cells #[.slice A B kc,.slice ba nb bc,.func (.func f) #[] C,.func (.func f2) #[] y] 406)).size);clear hn)|(refine step_append_lies _ rfl _ _ 374 rfl w.heap.size 406 i0 (.agg #[.slice none 0 0,.slice none 0 0,.nilFunc,.nilFunc]) 4 64 underlying374 hi e9 f0 f1 rfl (by decide) _ _ _ rfl e6.out ⟨w4.heap.size,0,none⟩ 1 1 [.slice A B kc,.slice ba nb bc,.func (.func f) #[] C,.func (.func f2) #[] y] rfl rfl e7.out h8.out (by decide) j9.out k0.out h9.out (w4.alloc (.cells #[.slice A B kc,.slice ba nb bc,.func (.func f) #[] C,.func (.func f2) #[] y] 406)).heap.size rfl ?_;intro g5 i1 w5 a9 E c8 i2;have i3:=hZ (HN.out.fin g5 i1 w5 a9 E c8);have k8:=hZ (qvn (HN.out.kept w5 E));clear a9 E c8 i2))
    all_goals(
     go_wp2;go_roundg k
     case measure=>have:=k2.out;have:=k3.out;have:=s.out;omega
     case rel=>exact i3.out _ (by first|with_reducible exact qcs _|with_reducible exact qct _))
   ·have k9:Hid (quw G w (qeo d2) rs=quw G w (qeo d2) rs/\v=none):=⟨rfl,b1 (qpq _ _ λa b e=>by
     subst e;have h:=D.row.len;have h:yl=2:=h;exact d7 h)⟩
    have m7:((yl:Int)==2)=false:=by
     have:¬(yl:Int)=2:=by omega
     simpa using this
    have e8:=hZ k1.bel;clear H b1 a1 k1 hs U ho hI Y D Z hj hr d6 t d7;go_wp2_with (first|(go_at_call 290;refine(qav _).mono ?_;rintro e w4 ⟨rfl,oo,rfl⟩))
    refine⟨rfl,HD.out (.inl ⟨rfl,?_,k9.out.2⟩)⟩;exact(e8.out.alloc e8.out.size _).alloc (eT e8.out.size (qaa _ _).size) _
  ·have m8:¬(j:Int)<(n:Int):=by omega
   have i4:Hid (quw G w (qeo d2) rs (.returned (.slice ra j rc)) wo):=by
    have hd:RuLR G w la ss rs v 0 (.int .i64 (j:Int)) (.slice ra j rc) wo:=⟨j,H',X,qs,ra,rc,by have:=s.out;omega,rfl,rfl,H,Y,k1,hs,U,ho,hI⟩;exact HD.out (RuLR.done hd (by have:=s.out;have:=d0.out;omega))
   clear H k1 hs U ho hI Y hj;go_wp2;go_ret;exact i4.out
def qcy:Dt->Option (List Bs×List (List Dt×Dt))
 | .list (.sym u _::.list ls::rs)=>if u==qbt then(qa2 ls).bind λlits=>(qbo lits rs).map λrules=>(lits,rules)else none
 |_=>none
theorem qgz(d:Int)(c:Dt)(rs:List Dt):qcy (.list (.sym qbt d::c::rs))=(qeo c).bind λa=>(qbo a rs).map λb=>(a,b):=by
 cases c with
 |list e=>simp[qcy,qeo]
 |_=>rfl
theorem qmd(b:Dt)(r:List Dt)(h:∀c,b≠.sym qbt c):qcy (.list (b::r))=none:=by
 unfold qcy;split
 ·rename_i u m d rs a;simp only[Dt.list.injEq,List.cons.injEq]at a;obtain⟨rfl,_⟩:=a;rw[if_neg (λe=>h m (by rw[beq_iff_eq]at e;rw[e]))]
 ·rfl
theorem qkt(d:Dt)(h:∀a b r,d≠.list (a::b::r)):qcy d=none:=by
 unfold qcy;split
 ·exact absurd rfl (h _ _ _)
 ·rfl
theorem qc2(d f:Int)(a:Bool)(b:BA)(g:Int)(h:OA)(c i:Nat)(w:Wd)(k:c<2):Calls prog 294 #[.agg #[.int .i64 d,.int .i64 f,.bool a,.string b,.int .i64 g,.slice h c i]] w λe w'=>e=.panicked (qan (qap 4))/\Below w.heap.size w w':=by
 have j:¬(2:Int)<=(c:Int):=by omega
 go_enter func294,ntmps294
 go_wp2_with (first|(go_at_call 290;refine(qav _).mono ?_;rintro e w4 ⟨rfl,l,rfl⟩))
 exact⟨rfl,rfl,(qaa _ _).alloc (by simp) _⟩
theorem qjb(l m:Int)(b:Bool)(d:BA)(p:Int)(g o n c:Nat)(w:Wd)(k q:Int)(f:Bool)(a:BA)(r:Int)(s:OA)(t u:Nat)(y:S6w g o k q f a r s t u w)(h:(k==3&&decide (a=⟨#[115,121,110,116,97,120,45,114,117,108,101,115]⟩))=false):Calls prog 294 #[.agg #[.int .i64 l,.int .i64 m,.bool b,.string d,.int .i64 p,.slice (some ⟨g,o,none⟩) (n+2) c]] w λe w'=>e=.panicked (qan (qap 4))/\Below w.heap.size w w':=by
 obtain⟨E,F,G,H,I,J⟩:=y.al (.cells #[.int .i64 l,.int .i64 m,.bool b,.string d,.int .i64 p,.slice (some ⟨g,o,none⟩) (n+2) c] 134);have v:Hid (∀w:Wd,Calls prog 327 #[.agg #[.int .i64 k,.int .i64 q,.bool f,.string a,.int .i64 r,.slice s t u],.string ⟨#[115,121,110,116,97,120,45,114,117,108,101,115]⟩] w λe w'=>e=.returned (.bool false)/\Below w.heap.size w w'):=λw=>Calls.mono (qdl k q f a r s t u _ w) λe w' ⟨B,C⟩=>⟨by rw[B,h],C⟩
 have D:(2:Int)<=(n:Int)+2:=by omega
 have z:(0:Int)<(n:Int)+2:=by omega
 clear y h;go_enter func294,ntmps294
 go_wp2_with (first|(go_at_call 327;refine(v.out _).mono ?_;rintro e K ⟨rfl,i⟩;have x:=hZ i;clear i)|(go_at_call 290;refine(qav _).mono ?_;rintro e w4 ⟨rfl,L,rfl⟩))
 have j:Below w.heap.size w (w.alloc (.cells #[.int .i64 l,.int .i64 m,.bool b,.string d,.int .i64 p,.slice (some ⟨g,o,none⟩) (n+2) c] 134)):=qaa _ _;have A:=j.trans (x.out.mono j.size);exact⟨rfl,rfl,A.alloc A.size _⟩
def RuD(G:Gh)(w:Wd)(d:Dt)(e:En)(w':Wd):Prop:=
 (e=.panicked (qan (qap 4))/\Below w.heap.size w w'/\qcy d=none)\/
 (∃H' lits rules a len cap,e=.returned (.slice a len cap)/\qcy d=some (lits,rules)/\Wk G w H' w'/\∀t,RulesR H' ⟨t,lits,rules⟩ (.slice a len cap))
theorem qr4{m0:Mc}(i:Inv G S m0 w)(d:Dt)(e:Dl)(u:DRep G d e)(k:qaf d<=1000000000000):Calls prog 294 #[.agg e.cells] w (RuD G w d):=by
 obtain⟨z,A,m,n,B,H,x,C⟩:=e;have j:∀{e:En} {w':Wd},qcy d=none->(e=.panicked (qan (qap 4))/\Below w.heap.size w w')->RuD G w d e w':=λU h=>.inl ⟨h.1,h.2,U⟩
 have D:∀{b:Nat} {o:Obj},G.I b=some o->w.heap[b]? =some o:=λh=>i.imm h
 cases d with
 |list l=>
  have f:=u.row;have c:x=l.length:=f.len
  match l,c,f,u,k,@j with
  | [],c,f,u,k,j=>exact Calls.mono (qc2 z A m n B H x C w (by rw[c];simp)) λe w' h=>j rfl h
  | [a],c,f,u,k,j=>exact Calls.mono (qc2 z A m n B H x C w (by rw[c];simp)) λe w' h=>j (qkt _ nofun) h
  |d1::d2::rs,c,f,u,k,j=>
   have c:x=rs.length+2:=c;subst c;obtain⟨g,o,r,⟨J,V,K,q,L,W,X,Y⟩,E,Z⟩:=qx9 f (w:=w) D rfl;have r:H=some ⟨g,o,none⟩:=r;subst r;cases hsy:(J==3&&decide (q=⟨#[115,121,110,116,97,120,45,114,117,108,101,115]⟩))with
   |false=>
    refine Calls.mono (qjb z A m n B g o rs.length C w J V K q L W X Y Z hsy) λe w' h=>j (qmd _ _ λum e=>?_) h
    subst e;rcases E.kind with⟨y,h⟩|⟨F,l',h⟩|⟨y,F,Q,_⟩
    ·have y:J=3:=y;simp only[Dt.sym.injEq]at h;have:q=⟨#[115,121,110,116,97,120,45,114,117,108,101,115]⟩:=qbd (h.1.symm.trans rfl);simp[y,this]at hsy
    ·cases h
    ·exact absurd rfl (Q _ _)
   |true=>
    obtain⟨um,rfl⟩:∃um,d1=.sym qbt um:=by
     simp only[Bool.and_eq_true,beq_iff_eq,decide_eq_true_eq]at hsy;obtain⟨y,ht⟩:=hsy;rcases E.kind with⟨_,h⟩|⟨F,l',h⟩|⟨M,F,Q,_⟩
     ·refine⟨L,h.trans ?_⟩;show Dt.sym q.data.toList L=_;rw[ht];rfl
     ·have F:J=4:=F;omega
     ·exact absurd y M
    have N:qad rs<=1000000000000:=by simp only[qaf,qad]at k;omega
    refine Calls.mono (qvo i z A m n B g o rs.length C um d2 rs f N) ?_;rintro e w' (⟨rfl,O,P⟩|⟨H',p,s,v,rfl,O,P,q3,R⟩)
    ·refine .inl ⟨rfl,O,?_⟩;rw[qgz];cases hl:qeo d2 with
     |none=>rfl
     |some p=>simp[P p hl]
    ·obtain⟨_,a,cap,T,_⟩:=R [];exact .inr ⟨H',p,s,a,_,cap,by rw[T],by rw[qgz,O];simp[P],q3,λt=>by have:=R t;rw[T]at this;exact this⟩
 |_=>
  have h0:x=0:=u.len0 nofun;exact Calls.mono (qc2 z A m n B H x C w (by omega)) λe w' h=>j rfl h
theorem qqc(c:Nat)(es:Array MapEntry)(a:Nat)(L:List (Bs×Vu))(t:BA)(b:Vu)(d:es.toList.map (λe=>(e.key,e.val))=L.map (λp=>(Value.string ⟨p.1.toArray⟩,p.2)))(g:∀p,p∈L->p.1≠t.data.toList)(w:Wd)(f:w.heap[c]? =some (.map es a)):
  (Instr.mapUpdate 325 (.map (some c)) (.string t) b).run prog w=.ok () (setB w c (.map (es.push ⟨.string t,b,a⟩) (a+1)))/\(es.push ⟨.string t,b,a⟩).toList.map (λe=>(e.key,e.val))=(L++[(t.data.toList,b)]).map (λp=>(Value.string ⟨p.1.toArray⟩,p.2)):=by
 rcases qhn t es.toList L 0 d with⟨e1,e2⟩|⟨j,v,e1,p,e2,e3⟩
 ·refine⟨?_,by simp[d]⟩;simp[Instr.mapUpdate,run_underlying underlying325,go_sem,qa4 c es a w f,qh8,Instr.findKey,run_underlying underlying9,e1,qb0 c es a _ w f,Result.andThen]
 ·exact absurd e3 (g p (List.mem_of_getElem? e2))
theorem McRows.snoc{R:Gh->Macro->Vu->Prop}{G:Gh}{mc:Macro}{v:Vu}(b:R G mc v):∀{a:List Macro} {L:List (Bs×Vu)},McRows R G a L->(∀m,m∈a->m.name≠mc.name)->McRows R G (a++[mc]) (L++[(mc.name,v)])
 |_,_,.nil,_=>.cons mc v [] [] b (λm hm=>by simp at hm) .nil
 |_,_,.cons m0 v0 a L h n s,hn=>by
  refine .cons m0 v0 _ _ h (λm hm=>?_) (McRows.snoc b s λm hm=>hn m (by simp[hm]));rcases List.mem_append.1 hm with hm|hm
  ·exact n m hm
  ·simp only[List.mem_singleton]at hm;rw[hm];exact λe=>hn m0 (by simp) e.symm
theorem McRows.names{R:Gh->Macro->Vu->Prop}{G:Gh}:∀{a:List Macro} {L:List (Bs×Vu)},McRows R G a L->∀p,p∈L->∃m,m∈a/\m.name=p.1
 |_,_,.nil,p,hp=>by simp at hp
 |_,_,.cons m0 v0 a L h n s,p,hp=>by
  rcases List.mem_cons.1 hp with rfl|hp
  ·exact⟨m0,by simp,rfl⟩
  ·obtain⟨m,b,c⟩:=McRows.names s p hp;exact⟨m,by simp[b],c⟩
theorem qph(b:Nat)(a:OA)(len cap:Nat)(w:Wd)(h:len≠3):Calls prog 234 #[bp b,.slice a len cap] w λe w'=>e=.panicked (qan (qap 4))/\Below w.heap.size w w':=by
 have c:((len:Int)==3)=false:=by
  have:¬(len:Int)=3:=by omega
  simpa using this
 go_enter func234,ntmps234
 go_wp2_with (first|(go_at_call 290;refine(qav _).mono ?_;rintro e w4 ⟨rfl,d,rfl⟩))
 exact⟨rfl,rfl,qaa _ _⟩
abbrev Sy(xb mm g o:Nat)(zk zn:Int)(ztr:Bool)(ztx:BA)(zm:Int)(za:OA)(zl zc:Nat)(w':Wd):Prop:=w'.cell? ⟨xb,2,none⟩=some (.map (some mm))/\w'.cell? ⟨g,o+12,none⟩=some (.int .i64 zk)/\w'.cell? ⟨g,o+12+1,none⟩=some (.int .i64 zn)/\w'.cell? ⟨g,o+12+2,none⟩=some (.bool ztr)/\w'.cell? ⟨g,o+12+3,none⟩=some (.string ztx)/\w'.cell? ⟨g,o+12+4,none⟩=some (.int .i64 zm)/\w'.cell? ⟨g,o+12+5,none⟩=some (.slice za zl zc)
theorem q1q(d h g o c:Nat)(w:Wd)(F G:Int)(r:Bool)(s:BA)(H:Int)(I:OA)(J K:Nat)(i j:Int)(a:Bool)(b:BA)(k:Int)(l:OA)(m n:Nat)(X:S6w g (o+6) F G r s H I J K w)(Q:En->Wd->Prop)
  (L:Calls prog 291 #[bp d,.agg #[.int .i64 F,.int .i64 G,.bool r,.string s,.int .i64 H,.slice I J K]] w λe w2=>((∃p,e=.panicked p)/\Q e w2)\/(∃t,e=.returned (.string t)/\S6w g (o+12) i j a b k l m n w2/\w2.cell? ⟨d,2,none⟩=some (.map (some h))/\∀w',Lk w2 w'->Calls prog 294 #[.agg #[.int .i64 i,.int .i64 j,.bool a,.string b,.int .i64 k,.slice l m n]] w' λe w4=>((∃p,e=.panicked p)/\Q e w4)\/(∃ra y rc x,e=.returned (.slice ra y rc)/\Sy d h g o i j a b k l m n w4/\Sy d h g o i j a b k l m n x/\(Instr.mapUpdate 325 (.map (some h)) (.string t) (.slice ra y rc)).run prog w4=.ok () x/\∀M,Lk x M->Q (.returned (.tuple #[])) M))):
  Calls prog 234 #[bp d,.slice (some ⟨g,o,none⟩) 3 c] w Q:=by
 obtain⟨Y,Z,y2,y3,y4,y5⟩:=X;have N:=hZ L;clear L;go_enter func234,ntmps234
 go_wp2_with (first|(go_at_call 290;refine(qak _).mono ?_;rintro e w4 ⟨rfl,z⟩;obtain rfl:=z.symm)|(go_at_call 291;refine N.out.mono ?_;rintro e w2 (⟨⟨p,rfl⟩,q⟩|⟨t,rfl,O,c2,q⟩);(exact⟨rfl,q⟩);have P:=hZ O;have HQ:=hZ q;clear O q;refine Hid.out ?_))
 obtain⟨R,S,T,U,V,W⟩:=P.out;have A:Hid (Sy d h g o i j a b k l m n w2):=⟨c2,R,S,T,U,V,W⟩;have u:Hid (Sy d h g o i j a b k l m n w2.drew):=⟨c2,R,S,T,U,V,W⟩;clear Y Z y2 y3 y4 y5 N P;refine hZ ?_;go_wp2_with (fail)
 go_region_held2 (λw'=>Sy d h g o i j a b k l m n w')
  (first|(with_reducible exact u.out)|(with_reducible exact A.out)|(with_reducible exact B.out)|(with_reducible exact C.out))
  (first|(go_at_call 294;refine(HQ.out _ (by exact⟨rfl,rfl,rfl,rfl⟩)).mono ?_;rintro e w4 (⟨⟨p,rfl⟩,q⟩|⟨ra,y,rc,x,rfl,D,E,a0,f⟩);(exact⟨rfl,q⟩);have B:=hZ D;have C:=hZ E;have v:=hZ f;clear f))
 all_goals(
  go_wp2;go_end0;exact v.out _ (by first|with_reducible exact qcs _|with_reducible exact qct _))
theorem qgu(x:Xs)(t:Bs)(m:Int)(d:Dt):qcm x [.sym t m,d]=if(Kw.of t).isSome then(.error 4,x)else match qcy d with
  |none=>(.error 4,x)
  |some (a,rules)=>(.ok .skip,{x.drop t with macros:=(x.drop t).macros++[⟨t,a,rules⟩]}):=by
 by_cases h:∃u e c rs,d=.list (.sym u e::.list c::rs)
 ·obtain⟨u,e,c,rs,rfl⟩:=h;simp only[qcm,qcy];cases hk:(Kw.of t).isSome with
  |true=>simp
  |false=>
   cases hu:(u==qbt)with
   |false=>simp
   |true=>
    simp only[Bool.not_true,Bool.or_false,Bool.false_eq_true,if_false,if_true];cases qa2 c with
    |none=>rfl
    |some a=>
     simp only[Option.bind_some];cases qbo a rs <;> rfl
 ·have e1:qcy d=none:=by
   unfold qcy;split
   ·exact absurd ⟨_,_,_,_,rfl⟩ h
   ·rfl
  have e2:qcm x [.sym t m,d]=(.error 4,x):=by
   unfold qcm;split
   ·rename_i b;simp only[List.cons.injEq]at b;exact absurd ⟨_,_,_,_,b.2.1⟩ h
   ·rfl
  rw[e1,e2];split <;> rfl
theorem ql6(x:Xs)(a d:Dt)(h:∀t k,a=.sym t k->(Kw.of t).isSome):qcm x [a,d]=(.error 4,x):=by
 cases a with
 |sym t k=>rw[qgu,if_pos (h t k rfl)]
 |_=>rfl
theorem ql7(x:Xs)(r:List Dt)(h:r.length≠2):qcm x r=(.error 4,x):=by
 unfold qcm;split
 ·simp at h
 ·rfl
theorem qxu(S:Sub):qiz KM S:=by
 intro X G m x w t0 k r a len cap a0;obtain⟨g,i,y,a1⟩:=a0;have l:=y.len;simp only[List.length_cons]at l;by_cases hr:r.length=2
 ·obtain⟨K,n,rfl⟩:∃K n,r=[K,n]:=by
   match r,hr with
   | [K,n],_=>exact⟨K,n,rfl⟩
  have l:len=3:=l;subst l;obtain⟨U,o,a2,rfl,q,z⟩:=y.mem (by omega);obtain⟨⟨V,Y,s,f,Z,ya,yl,yc⟩,a3,M⟩:=z 1 K rfl;obtain⟨⟨zk,zn,B,C,zm,za,zl,zc⟩,a4,N⟩:=z 2 n rfl;have a5:S6w U (o+6) V Y s f Z ya yl yc w:=by
   have h:=M w (g.imm q);simp only[Nat.one_mul]at h;exact⟨h 0 (by omega),h 1 (by omega),h 2 (by omega),h 3 (by omega),h 4 (by omega),h 5 (by omega)⟩
  have D:∀W:Wd,W.heap[U]? =some (.cells a2 134 (0,0))->S6w U (o+12) zk zn B C zm za zl zc W:=λW hW=>by
   have h:=N W hW;rw[show o+2*6=o+12 from rfl]at h;exact⟨h 0 (by omega),h 1 (by omega),h 2 (by omega),h 3 (by omega),h 4 (by omega),h 5 (by omega)⟩
  have a6:qaf n<=1000000000000:=by simp only[qad]at a1;omega
  have A:=qnf g i a3;rw[show Dl.cells ⟨V,Y,s,f,Z,ya,yl,yc⟩=#[.int .i64 V,.int .i64 Y,.bool s,.string f,.int .i64 Z,.slice ya yl yc]from rfl]at A;refine q1q X.xb X.mm U o cap w V Y s f Z ya yl yc zk zn B C zm za zl zc a5 _ ?_;refine Calls.mono A ?_;rintro e w2 (⟨t,tk,rfl,a7,ht,rfl,g2,i2,a8⟩|⟨a9,rfl,u⟩)
  ·have ht:t=f.data.toList:=ht;have O:qcm x [.sym t tk,n]=match qcy n with
     |none=>(.error 4,x)
     |some (j,d)=>(.ok .skip,{x.drop t with macros:=(x.drop t).macros++[⟨t,j,d⟩]}):=by
    rw[qgu,if_neg (by rw[a7];simp)]
   have c2:∀{H:Gh} {w':Wd},G.le H->(∀{b:Nat} {o:Obj},H.I b=some o->w'.heap[b]? =some o)->w'.cell? ⟨X.xb,2,none⟩=some (.map (some X.mm)):=λb0 P=>by
    have:=P (b0.I i.xe);simp only[World.cell?,this];rfl
   refine .inr ⟨f,rfl,D w2 (g2.imm q),c2 (Gh.le.refl _) (λh=>g2.imm h),λw' E=>?_⟩;have g3:=Inv.lk E g2;have i3:=i2.below (bl0 E);have b1:=a8.lk E;refine Calls.mono (qr4 g3 n ⟨zk,zn,B,C,zm,za,zl,zc⟩ a4 a6) ?_;rintro e w4 (⟨rfl,u,F⟩|⟨H',j,d,ra,Q,rc,rfl,F,v,hR⟩)
   ·refine .inl ⟨⟨_,rfl⟩,.inl ⟨_,rfl,.inl ⟨4,x,by rw[O,F],rfl,g3.cntB (eR _) u,?_⟩⟩⟩;have b2:Mt X.rb x.count S.rewrites 12 w':=i3.mt;exact b2.keep (u.block _ (eW (i3.lo _ (by simp)).2.2.1 i3.sl))
   ·have g4:=v.inv g3;have i4:=i3.mv v.mv;obtain⟨es,c,L,m1,m2,m3⟩:=i4.mc;have R:∀mc,mc∈(x.drop t).macros->mc.name≠t:=λmc b3=>by
     have:=(List.mem_filter.1 b3).2;simpa using this
    obtain⟨b4,T⟩:=qqc X.mm es c L f (.slice ra Q rc) m2 (λp hp=>by
     obtain⟨mc,h1,h2⟩:=m3.names p hp;rw[<-h2,<-ht];exact R mc h1) w4 m1
    rw[<-ht]at T;have g5:=g4.setB i4 (.map (es.push ⟨.string f,.slice ra Q rc,c⟩) (c+1));have i5:XInv KM X H' S {x.drop t with macros:=(x.drop t).macros++[⟨t,j,d⟩]} [] (setB w4 X.mm (.map (es.push ⟨.string f,.slice ra Q rc,c⟩) (c+1))):=i4.setMac (x':={x.drop t with macros:=(x.drop t).macros++[⟨t,j,d⟩]}) rfl T (McRows.snoc (mc:=⟨t,j,d⟩) (hR t) m3 R);have b5:Mx X G w X H' (setB w4 X.mm (.map (es.push ⟨.string f,.slice ra Q rc,c⟩) (c+1))):=(b1.trans (Mx.of v.mv)).setB _;refine .inr ⟨ra,Q,rc,_,rfl,⟨c2 v.ext.le (λh=>v.imm h),D _ (v.imm (v.ext.le.I q))⟩,⟨c2 v.ext.le (λh=>g5.imm h),D _ (g5.imm (v.ext.le.I q))⟩,b4,λw6 J=>.inr ⟨_,rfl,rfl,X,H',_,by rw[O,F],b5.lk J,Inv.lk J g5,i5.below (bl0 J)⟩⟩
  ·exact .inl ⟨⟨_,rfl⟩,.inl ⟨_,rfl,TPost.bad g i (ql6 x K n a9) u⟩⟩
 ·refine Calls.mono (qph X.xb a len cap w (by omega)) ?_;rintro e w' ⟨rfl,hb⟩;exact .inl ⟨_,rfl,TPost.bad g i (ql7 x r hr) hb⟩
theorem qyu(E:S.fuel=20000/\S.quota=5000/\S.rewrites=500)(hT:GT w)(hV:Rd.GV w)(h6:6<=w.heap.size)(hs:t.size<=1200)(fs:List (Dt×Nat))(rr:List UInt8)(y:Py.topP (2*t.size+2) (Rd.L t 0)=.inr (fs,rr))
  (hne:(qfv S (fs.map λf=>(f.1,t.size-f.2)) none {} qe4).1.1≠some 0)(hw:Lk (qin t w) w1):
  Calls prog 56 #[bp (w.heap.size+7),.agg (qdr t)] w1 λe w2=>e=.returned (.tuple #[])/\qyb w.heap.size w (qfv S (fs.map λf=>(f.1,t.size-f.2)) none {} qe4) w2:=by
 have N:w1.heap.size=w.heap.size+8:=by rw[hw.heap];simp[qin]
 refine qh3 (w.heap.size+7) (w.heap.size+5) (w.heap.size+6) t w1 _ (by omega) λw2 O=>?_
 have P:=q2o hw O;have a4:w2.heap.size=w.heap.size+11:=by rw[O.heap];simp[N]
 rw[N];have a5:Rd.GV w2:=GV.below hV P.lo h6;have r:=Rd.text_any t w2 hs a5 (by omega);rw[y]at r;refine qqp (w.heap.size+7) t w2 _ (Calls.mono r ?_);rintro e w3 ⟨Q,es,a,cap,rfl,z,A,R,b1⟩;rw[a4]at Q z A;have s:=P.below Q;refine⟨a,es.length,cap,rfl,s.ks,λw4 T=>?_⟩;have a6:Below (w.heap.size+11) w3 w4:=qo6 T s.sz;have c:=s.below a6;have i0:Inv (qei w.heap.size w4) S {} w4:=qtn ⟨E.1,E.2.1⟩ c.sb c.cb c.mp c.mb c.sz;have p0:PSt (qei w.heap.size w4) w4 S none [] 0 w4:=⟨_,i0,rfl,rfl,Mv.refl _ _,nofun⟩;refine Calls.mono (qsc (qei w.heap.size w4) w4 S (λ_=>rfl) p0) ?_;rintro e w5 ⟨rfl,U,i5,_,a7,d,_⟩;have F5:U.F=λb=>b<w.heap.size+2\/b=w.heap.size+7\/b=w.heap.size+8\/b=w.heap.size+9:=d.up.F
 have W5:U.W=w4:=d.up.W;have k5:∀b,b<w.heap.size+2\/b=w.heap.size+7\/b=w.heap.size+8\/b=w.heap.size+9->w5.heap[b]? =w4.heap[b]?:=λb q=>by
  have:=(i5.ff (b:=b) (by rw[F5];exact q)).1;rw[W5]at this;exact this
 have ks:∀W:Wd,(∀b,b<w.heap.size+2\/b=w.heap.size+7\/b=w.heap.size+8\/b=w.heap.size+9->W.heap[b]? =w4.heap[b]?)->Ks (w.heap.size+8) (w.heap.size+7) (w.heap.size+5) t W:=λW u=>by
  have q1:=(u _ (.inr (.inr (.inl rfl)))).trans c.bx;have V:=(u _ (.inr (.inr (.inr rfl)))).trans c.sub;have q3:=(u _ (.inr (.inl rfl))).trans c.rk;refine⟨?_,?_,?_,?_,?_⟩
  ·simp only[World.cell?,q1];rfl
  ·simp only[World.cell?,V];rfl
  ·simp only[World.cell?,V];rfl
  ·simp only[World.cell?,V];rfl
  ·simp only[World.cell?,q3];rfl
 refine⟨rfl,ks w5 k5,λw6 G=>?_⟩;have v:U.mb=w.heap.size+5:=d.up.le.mb;have X:=qrb (Inv.lk G i5) (λp hp=>by rw[a7];exact q2g p hp);rw[v]at X;refine Calls.mono X ?_;rintro e w7 ⟨rfl,G7,i7,_,i⟩;have i7:Inv G7 S qe4 w7:=i7;have Y:G7.F=λb=>b<w.heap.size+2\/b=w.heap.size+7\/b=w.heap.size+8\/b=w.heap.size+9:=i.up.F.trans F5
 have W7:G7.W=w4:=i.up.W.trans W5;have k7:∀b,b<w.heap.size+2\/b=w.heap.size+7\/b=w.heap.size+8\/b=w.heap.size+9->w7.heap[b]? =w4.heap[b]?:=λb q=>by
  have:=(i7.ff (b:=b) (by rw[Y];exact q)).1;rw[W7]at this;exact this
 refine⟨rfl,ks w7 k7,λZ H=>?_⟩;have i8:=Inv.lk H i7;have k8:∀b,b<w.heap.size+2\/b=w.heap.size+7\/b=w.heap.size+8\/b=w.heap.size+9->Z.heap[b]? =w4.heap[b]?:=λb q=>by rw[H.heap];exact k7 b q
 have a8:(qei w.heap.size w4).le G7:=d.up.le.trans i.up.le;have s4:=c.sz;have b2:w4.heap.size<=w6.heap.size:=by rw[G.heap];exact d.size
 have gI:∀b,w.heap.size+11<=b->∀o,w3.heap[b]? =some o->G7.I b=some o:=λb q o ho=>a8.I (by
  show(if w.heap.size+11<=b then w4.heap[b]? else none)=some o;rw[if_pos q,T.heap];exact ho)
 have a9:es.length=fs.length:=by have:=congrArg List.length R;simpa using this
 have b0:wtL (fs.map (·.1))<=12000:=by
  have h1:=qyq _ _ _ _ y;have h2:(Rd.L t 0).length=t.size:=by show(t.data.toList.drop 0).length=_;simp
  omega
 have a0:∀f,f∈fs->wt f.1<=12000:=λf B=>eT (qxq (List.mem_map.2 ⟨f,B,rfl⟩)) b0
 have m:(fs.map λf=>(f.1,t.size-f.2)).length=es.length:=by simp[a9]
 have C:∀k,k<es.length->∃x f,es[k]? =some x/\fs[k]? =some f/\x.2=((t.size-f.2:Nat):Int):=λk u=>by
  have a1:k<fs.length:=by omega
  refine⟨es[k],fs[k],eG u,eG a1,?_⟩;have:=congrArg (λl=>l[k]?) R;simp only[List.getElem?_map,eG u,eG a1,Option.map_some]at this;injection this
 have D:=q05 (K:=KM) (qpm (q33 S)) (.inl (qxu S)) G7 qe4 Z (w.heap.size+7) (w.heap.size+6) a cap (fs.map λf=>(f.1,t.size-f.2)) (λk=>match es[k]? with|some x=>qkd x.1|none=>⟨0,0,false,⟨#[]⟩,0,none,0,0⟩) i8 (by rw[Y];exact .inr (.inl rfl)) (by omega) ?tw ?rb (by rw[E.2.2];omega) ?rb' ?bk ?row ?dd ?mb (.inl (qxu S)) (by rw[m];omega) hne
 case tw=>
  refine⟨λb q=>by rw[Y];exact .inl (by omega),?_⟩;rw[W7];exact hT.keep (c.lo.block 0 (by omega))
 case rb=>
  rw[E.2.2];refine c.rb.keep ?_;have n0:w.heap.size+6∉(qei w.heap.size w4).mut:=by rw[qea];simp
  have n5:w.heap.size+6∉U.mut:=λh=>(d.mu h).elim n0 (λh=>by omega)
  rw[H.heap,i.blk (by omega) n5,G.heap,d.blk (by omega) n0]
 case rb'=>
  have n0:w.heap.size+6∉(qei w.heap.size w4).mut:=by rw[qea];simp
  have n5:w.heap.size+6∉U.mut:=λh=>(d.mu h).elim n0 (λh=>by omega)
  refine⟨?_,λh=>(i.mu h).elim n5 (λh=>by omega),by rw[Y];omega⟩;rw[i.I (by omega),d.I (by omega)];exact if_neg (by omega)
 case bk=>
  have J:G7.mb=w.heap.size+5:=i.up.le.mb.trans v;rw[J,k8 _ (.inr (.inl rfl))];exact c.rk
 case row=>
  intro k u;rw[m]at u;obtain⟨x,f,hx,B,hp⟩:=C k u;obtain⟨gg,a2,q1,V,q3,q4,q5⟩:=q1x z k x hx;refine⟨gg,0,a2,q1,gI gg V _ q3,λj hj=>?_,?_⟩
  ·simp only[hx];exact q4 j hj
  ·rw[q5,hp];simp[List.getElem?_map,B]
 case dd=>
  intro k f B;rw[List.getElem?_map]at B;obtain⟨M,n,rfl⟩:=Option.map_eq_some_iff.1 B;have u:k<es.length:=by have:=(eL.1 n).1;omega
  obtain⟨x,f1,hx,a3,_⟩:=C k u;rw[n]at a3;cases a3;simp only[hx];exact qob (λg a2 hg hq=>gI g hg _ hq) (A.all k x.1 M.1 (by simp[hx]) (by simp[n])) (by have:=a0 M (List.mem_of_getElem? n);omega)
 case mb=>
  intro f B;obtain⟨M,n,rfl⟩:=List.mem_map.1 B;have h1:=a0 M n;have h2:=qif M.1;show qaf M.1<=_;omega
 rw[m]at D;refine Calls.mono D ?_;intro e w9 hd;have J:G7.mb=w.heap.size+5:=i.up.le.mb.trans v;have o8:Z.os=w.os/\Z.tape=w.tape/\Z.output=w.output:=by
  have f:=i8.fo;rw[W7]at f;exact⟨f.1.trans c.lo.os,f.2.1.trans c.lo.tape,f.2.2.trans c.lo.output⟩
 exact qza (_t:=t) rfl ⟨E.1,E.2.1,E.2.2⟩ ⟨J,i.up.le.sb.trans d.up.le.sb,i.up.le.cb.trans d.up.le.cb⟩ (λb q=>by rw[Y];exact q) (λb q=>by rw[k8 b (.inl (by omega))];exact c.lo.block b q) o8 (by rw[k8 _ (.inl (by omega))];exact c.rs) (by rw[k8 _ (.inr (.inr (.inl rfl)))];exact c.bx) hd
theorem qti(k:S.fuel=20000/\S.quota=5000/\S.rewrites=500)(l:GT w)(m:Rd.GV w)(n:6<=w.heap.size)(o:t.size<=1200)(fs:List (Dt×Nat))(d:List UInt8)(a:Py.topP (2*t.size+2) (Rd.L t 0)=.inr (fs,d))
  (hne:(qfv S (fs.map λf=>(f.1,t.size-f.2)) none {} qe4).1.1≠some 0):Calls prog 37 #[.agg (qdr t)] w (q3v (qfv S (fs.map λf=>(f.1,t.size-f.2)) none {} qe4) w):=by
 refine qtj t w _ λw1 b=>Calls.mono (qyu k l m n o fs d a hne b) ?_
 rintro e w2 ⟨rfl,g,h,i,st,j,rw,p,q,r⟩;exact⟨rfl,g,0,h,i,st,j,rw,p,q,λw3 c=>⟨g,h,i,st,j,rw,rfl,r,c⟩⟩
theorem qwj(x:S.fuel=20000/\S.quota=5000/\S.rewrites=500)(y:GT w)(z:Rd.GV w)(A:6<=w.heap.size)(B:t.size<=1200)(fs:List (Dt×Nat))(v:List UInt8)(g:Py.topP (2*t.size+2) (Rd.L t 0)=.inr (fs,v))
  (hne:(qfv S (fs.map λf=>(f.1,t.size-f.2)) none {} qe4).1.1≠some 0):Calls prog 14 #[.agg (qdr t)] w (q6u (qfv S (fs.map λf=>(f.1,t.size-f.2)) none {} qe4) w):=by
 refine q39 t w _ λb w1 a=>?_
 have G:((w.alloc (.cells (qdr t) 34)).alloc (.cells (qes 0 0 0 ⟨#[]⟩ 0 0 0) 29)).heap.size=w.heap.size+2:=by simp
 have k:Below w.heap.size w ((w.alloc (.cells (qdr t) 34)).alloc (.cells (qes 0 0 0 ⟨#[]⟩ 0 0 0) 29)):=(qaa _ _).alloc (by simp) _;have c:Below w.heap.size w w1:=k.trans (a.mono (by omega));have C:w.heap.size+2<=w1.heap.size:=by have:=a.size;omega
 have l:w1.heap[w.heap.size+1]? =some (.cells (qes 0 0 0 ⟨#[]⟩ 0 0 0) 29 (0,0)):=by rw[a.block _ (by omega)];exact heap_alloc2_new _ _ _
 refine q38 b t w1 _ λw2 d D m=>?_
 have n:GT w2:=(y.keep (c.block 0 (by omega))).keep (d.block 0 (by omega));have o:Rd.GV w2:=GV.below (GV.below z c A) d (by omega);refine Calls.mono (qti x n o (by omega) B fs v g hne) ?_;rintro e w3 ⟨p,q,r,st,s,rw,rfl,E,i⟩;have F:∀w4,Below w1.heap.size w1 w4->Below w.heap.size w w4:=λw4 h=>c.trans (h.mono (by omega))
 refine⟨p,0,q,r,st,s,rw,rfl,by rw[i.block _ (by omega)];exact m,d.trans (i.mono (by omega)),λw4 j=>⟨p,0,q,r,st,s,rw,rfl,by rw[j.block _ (by omega)];exact l,F w4 j,λH u=>⟨p,q,r,st,s,rw,rfl,E,u⟩⟩⟩
theorem q0p{t v:Bs}(fs:List (Dt×Nat))(i:List UInt8)(b:Py.topP (2*t.length+2) t=.inr (fs,i))(k:t.length<=1200)(l:v.length<=1200)(j:qnx (qfv (qey t) (fs.map (λf=>(f.1,t.length-f.2))) none {} m0) v):Gv t v:=λw n o q=>by
 refine q0s (bs t) (bs v) w λw' g=>?_
 obtain⟨s,y,z⟩:=qow n o q g;have d:(bs t).size=t.length:=by simp[bs,ByteArray.size]
 have A:Rd.L (bs t) 0=t:=by simp[Rd.L,bs]
 have a:=qwj (t:=bs t) (w:=w') (S:=qey t) ⟨rfl,rfl,rfl⟩ s y z (by rw[d];exact k) fs i (by rw[d,A];exact b) (by rw[d,qld,j.1];simp);rw[d,qld]at a;obtain⟨h,c,-,-⟩:=j;generalize qfv (qey t) (fs.map (λf=>(f.1,t.length-f.2))) none {} m0=r at a h c;refine a.mono ?_;rintro e w2 ⟨E,F,G,st,B,rw,rfl,C,g⟩;obtain⟨⟨H,p⟩,D,x,m⟩:=r;simp only at h c;subst h;cases D with
 |none=>simp at c
 |some u=>
  simp only[Option.map_some,Option.some.injEq]at c;obtain⟨rfl,rfl,rfl,-,-,-⟩:=C;refine⟨st,B,rw,?_,g⟩;have:qp7 (some u)=bs v:=by
   show(⟨((wr u).take 1200).toArray⟩:BA)=⟨v.toArray⟩;rw[c,List.take_of_length_le l]
  rw[this]
def nmR(i:Nat):Bs:=[[116],[97],[98],[120],[121],[116,109,112],[108,105,115,116],[117,49]].getD i []
def otR(i j:Nat):Bs:=if i=j then [111,116,104,101,114]else nmR j
def qrl:Dt:=.list [.sym [100,101,102,105,110,101,45,115,121,110,116,97,120] 0,.sym [115,119,97,112] 0,.list [.sym [115,121,110,116,97,120,45,114,117,108,101,115] 0,.list [],.list [.list [.sym [95] 0,.sym [97] 0,.sym [98] 0],.list [.sym [108,101,116] 0,.list [.list [.sym [116] 0,.sym [97] 0]],.list [.sym [98,101,103,105,110] 0,.list [.sym [115,101,116,33] 0,.sym [97] 0,.sym [98] 0],.list [.sym [115,101,116,33] 0,.sym [98] 0,.sym [116] 0]]]]]]
def swapT:Bs:=[40,100,101,102,105,110,101,45,115,121,110,116,97,120,32,115,119,97,112,32,40,115,121,110,116,97,120,45,114,117,108,101,115,32,40,41,32,40,40,95,32,97,32,98,41,32,40,108,101,116,32,40,40,116,32,97,41,41,32,40,98,101,103,105,110,32,40,115,101,116,33,32,97,32,98,41,32,40,115,101,116,33,32,98,32,116,41,41,41,41,41,41]
theorem qys:Py.wq qrl=swapT:=by kernel_rfl
theorem qn0:swapT.length<=130:=of_decide_eq_true (by kernel_rfl)
theorem qyt:qdd qrl=true/\∀v,v∈Py.nums qrl->Py.inR v:=⟨by kernel_rfl,λv a=>by
 have h:Py.nums qrl=[]:=by kernel_rfl
 rw[h]at a;cases a⟩
def qft:Dt:=.list [.sym [100,101,102,105,110,101,45,115,121,110,116,97,120] 0,.sym [101,105,116,104,101,114] 0,.list [.sym [115,121,110,116,97,120,45,114,117,108,101,115] 0,.list [],.list [.list [.sym [95] 0],.bool false],.list [.list [.sym [95] 0,.sym [120] 0],.sym [120] 0],.list [.list [.sym [95] 0,.sym [120] 0,.sym [121] 0,.sym [46,46,46] 0],.list [.sym [108,101,116] 0,.list [.list [.sym [116] 0,.sym [120] 0]],.list [.sym [105,102] 0,.sym [116] 0,.sym [116] 0,.list [.sym [101,105,116,104,101,114] 0,.sym [121] 0,.sym [46,46,46] 0]]]]]]
def eitherT:Bs:=[40,100,101,102,105,110,101,45,115,121,110,116,97,120,32,101,105,116,104,101,114,32,40,115,121,110,116,97,120,45,114,117,108,101,115,32,40,41,32,40,40,95,41,32,35,102,41,32,40,40,95,32,120,41,32,120,41,32,40,40,95,32,120,32,121,32,46,46,46,41,32,40,108,101,116,32,40,40,116,32,120,41,41,32,40,105,102,32,116,32,116,32,40,101,105,116,104,101,114,32,121,32,46,46,46,41,41,41,41,41,41]
theorem qls:Py.wq qft=eitherT:=by kernel_rfl
theorem qeb:eitherT.length<=130:=of_decide_eq_true (by kernel_rfl)
theorem qlt:qdd qft=true/\∀v,v∈Py.nums qft->Py.inR v:=⟨by kernel_rfl,λv a=>by
 have h:Py.nums qft=[]:=by kernel_rfl
 rw[h]at a;cases a⟩
def q3n:Dt:=.list [.sym [100,101,102,105,110,101,45,115,121,110,116,97,120] 0,.sym [97,108,108] 0,.list [.sym [115,121,110,116,97,120,45,114,117,108,101,115] 0,.list [.sym [105,115] 0],.list [.list [.sym [95] 0,.list [.sym [105,115] 0,.sym [120] 0,.sym [46,46,46] 0],.sym [46,46,46] 0],.list [.sym [113,117,111,116,101] 0,.list [.list [.sym [120] 0,.sym [46,46,46] 0,.sym [105,115] 0],.sym [46,46,46] 0]]]]]
def allT:Bs:=[40,100,101,102,105,110,101,45,115,121,110,116,97,120,32,97,108,108,32,40,115,121,110,116,97,120,45,114,117,108,101,115,32,40,105,115,41,32,40,40,95,32,40,105,115,32,120,32,46,46,46,41,32,46,46,46,41,32,39,40,40,120,32,46,46,46,32,105,115,41,32,46,46,46,41,41,41,41]
theorem q3k:Py.wq q3n=allT:=by kernel_rfl
theorem q1f:allT.length<=130:=of_decide_eq_true (by kernel_rfl)
theorem q3l:qdd q3n=true/\∀v,v∈Py.nums q3n->Py.inR v:=⟨by kernel_rfl,λv a=>by
 have h:Py.nums q3n=[]:=by kernel_rfl
 rw[h]at a;cases a⟩
def q12(a b:Bs)(n m:Int):Dt:=.list [.sym [108,101,116] 0,.list [.list [.sym a 0,.num n],.list [.sym b 0,.num m]],.list [.sym [98,101,103,105,110] 0,.list [.sym [115,119,97,112] 0,.sym a 0,.sym b 0],.list [.sym [99,111,110,115] 0,.sym a 0,.sym b 0]]]
def q11(a:Bs)(n:Int):Dt:=.list [.sym [108,101,116] 0,.list [.list [.sym a 0,.num n]],.list [.sym [101,105,116,104,101,114] 0,.bool false,.list [.sym [101,113,63] 0,.num (1),.num (2)],.sym a 0,.num (5)]]
def q10(a:Bs)(n m:Int):Dt:=.list [.sym [108,101,116] 0,.list [.list [.sym [105,102] 0,.num n],.list [.sym a 0,.num m]],.list [.sym [101,105,116,104,101,114] 0,.bool false,.sym a 0]]
def q13(a b:Bs):Dt:=.list [.sym [97,108,108] 0,.list [.sym [105,115] 0,.num (1),.sym a 0],.list [.sym [105,115] 0],.list [.sym [105,115] 0,.sym b 0]]
def vXR(n m:Int):Bs:=[40]++(Lib.itoa m++([32,46,32]++(Lib.itoa n++[41])))
def vUR(a b:Bs):Bs:=[40,40,49,32]++(a++([32,105,115,41,32,40,105,115,41,32,40]++(b++[32,105,115,41,41])))
def tXR(a b:Bs)(n m:Int):Bs:=swapT++([40,108,101,116,32,40,40]++(a++([32]++(Lib.itoa n++([41,32,40]++(b++([32]++(Lib.itoa m++([41,41,32,40,98,101,103,105,110,32,40,115,119,97,112,32]++(a++([32]++(b++([41,32,40,99,111,110,115,32]++(a++([32]++(b++([41,41,41])))))))))))))))))
def tYR(a:Bs)(n:Int):Bs:=eitherT++([40,108,101,116,32,40,40]++(a++([32]++(Lib.itoa n++([41,41,32,40,101,105,116,104,101,114,32,35,102,32,40,101,113,63,32,49,32,50,41,32]++(a++([32,53,41,41])))))))
def tZR(a:Bs)(n m:Int):Bs:=eitherT++([40,108,101,116,32,40,40,105,102,32]++(Lib.itoa n++([41,32,40]++(a++([32]++(Lib.itoa m++([41,41,32,40,101,105,116,104,101,114,32,35,102,32]++(a++([41,41])))))))))
def tUR(a b:Bs):Bs:=allT++([40,97,108,108,32,40,105,115,32,49,32]++(a++([41,32,40,105,115,41,32,40,105,115,32]++(b++([41,41])))))
theorem qd3(h:i<8):i=0\/i=1\/i=2\/i=3\/i=4\/i=5\/i=6\/i=7:=by omega
theorem qez(h:i<8):(nmR i).length<=4:=by rcases qd3 h with rfl|rfl|rfl|rfl|rfl|rfl|rfl|rfl <;> decide
theorem q2d(h:i<8):(nmR i==Px.quoteT)=false:=by rcases qd3 h with rfl|rfl|rfl|rfl|rfl|rfl|rfl|rfl <;> decide
theorem qie(i:Nat)(h:j<8):(otR i j).length<=5:=by
 unfold otR;split
 ·decide
 ·have:=qez h;omega
theorem q6z(i:Nat)(h:j<8):(otR i j==Px.quoteT)=false:=by
 unfold otR;split
 ·decide
 ·exact q2d h
theorem qyf(a:i<8)(b:j<8)(n m:Int)(t:Bs)(p q:Nat):qnx (qfv (qey t) [(qrl,p),(q12 (nmR i) (otR i j) n m,q)] none {} m0) (vXR n m):=by
 rcases qd3 a with rfl|rfl|rfl|rfl|rfl|rfl|rfl|rfl <;> rcases qd3 b with rfl|rfl|rfl|rfl|rfl|rfl|rfl|rfl <;> exact⟨by kernel_rfl,by kernel_rfl,by kernel_rfl,by kernel_rfl⟩
theorem qye(a:i<8)(n:Int)(t:Bs)(p q:Nat):qnx (qfv (qey t) [(qft,p),(q11 (nmR i) n,q)] none {} m0) (Lib.itoa n):=by
 rcases qd3 a with rfl|rfl|rfl|rfl|rfl|rfl|rfl|rfl <;> exact⟨by kernel_rfl,by kernel_rfl,by kernel_rfl,by kernel_rfl⟩
theorem qyd(a:i<8)(n m:Int)(t:Bs)(p q:Nat):qnx (qfv (qey t) [(qft,p),(q10 (nmR i) n m,q)] none {} m0) (Lib.itoa m):=by
 rcases qd3 a with rfl|rfl|rfl|rfl|rfl|rfl|rfl|rfl <;> exact⟨by kernel_rfl,by kernel_rfl,by kernel_rfl,by kernel_rfl⟩
theorem qyk(a:i<8)(b:j<8)(t:Bs)(p q:Nat):qnx (qfv (qey t) [(q3n,p),(q13 (nmR i) (otR i j),q)] none {} m0) (vUR (nmR i) (otR i j)):=by
 rcases qd3 a with rfl|rfl|rfl|rfl|rfl|rfl|rfl|rfl <;> rcases qd3 b with rfl|rfl|rfl|rfl|rfl|rfl|rfl|rfl <;> exact⟨by kernel_rfl,by kernel_rfl,by kernel_rfl,by kernel_rfl⟩
theorem qzk(a:i<8)(b:j<8)(n m:Int):qdd (q12 (nmR i) (otR i j) n m)=true:=by
 rcases qd3 a with rfl|rfl|rfl|rfl|rfl|rfl|rfl|rfl <;> rcases qd3 b with rfl|rfl|rfl|rfl|rfl|rfl|rfl|rfl <;> kernel_rfl
theorem qzj(a:i<8)(n:Int):qdd (q11 (nmR i) n)=true:=by
 rcases qd3 a with rfl|rfl|rfl|rfl|rfl|rfl|rfl|rfl <;> kernel_rfl
theorem qzi(a:i<8)(n m:Int):qdd (q10 (nmR i) n m)=true:=by
 rcases qd3 a with rfl|rfl|rfl|rfl|rfl|rfl|rfl|rfl <;> kernel_rfl
theorem qzl(a:i<8)(b:j<8):qdd (q13 (nmR i) (otR i j))=true:=by
 rcases qd3 a with rfl|rfl|rfl|rfl|rfl|rfl|rfl|rfl <;> rcases qd3 b with rfl|rfl|rfl|rfl|rfl|rfl|rfl|rfl <;> kernel_rfl
theorem qwm(b:List Dt)(v:Bs)(j:∀d,d∈b->qdd d=true/\∀v,v∈Py.nums d->Py.inR v)(l:(qcx b).length<=1200)(m:v.length<=1200)
  (n:∀g:List Nat,g.length=b.length->qnx (qfv (qey (qcx b)) (b.zip g) none {} m0) v):Gv (qcx b) v:=by
 obtain⟨fs,i,c⟩:=Sc.forms_of b j;have e:fs.map (λf=>(f.1,(qcx b).length-f.2))=b.zip (fs.map (λf=>(qcx b).length-f.2)):=by
  generalize (qcx b).length=k;rw[<-c];clear i c;induction fs with
  |nil=>rfl
  |cons a r o=>simp[o]
 have h:=n (fs.map (λf=>(qcx b).length-f.2)) (by rw[<-c];simp);rw[<-e]at h;exact q0p fs [] (Py.forms_top i _ (eR _)) l m h
theorem qou{d x:Dt}{t v:Bs}(c:qdd d=true/\∀v,v∈Py.nums d->Py.inR v)(g:qdd x=true/\∀v,v∈Py.nums x->Py.inR v)(h:Py.wq d++Py.wq x=t)(i:t.length<=1200)(j:v.length<=1200)(k:∀(t:Bs) (p q:Nat),qnx (qfv (qey t) [(d,p),(x,q)] none {} m0) v):Gv t v:=by
 have e:qcx [d,x]=t:=by rw[<-h];simp[qcx]
 rw[<-e];refine qwm _ _ ?_ (by rw[e];exact i) j ?_
 ·intro f b;simp only[List.mem_cons,List.not_mem_nil,or_false]at b;rcases b with rfl|rfl
  ·exact c
  ·exact g
 ·intro l a
  match l,a with
  | [p,q],_=>exact k _ p q
theorem it1:Lib.itoa 1=[49]:=by kernel_rfl
theorem it2:Lib.itoa 2=[50]:=by kernel_rfl
theorem it5:Lib.itoa 5=[53]:=by kernel_rfl
theorem qcu(h:0<=n/\n<1000):Py.inR n:=⟨by omega,by omega⟩
theorem q7d(a:i<8)(b:j<8)(d:0<=n/\n<1000)(f:0<=m/\m<1000):Gv (tXR (nmR i) (otR i j) n m) (vXR n m):=by
 have k:=qez a;have l:=qie i b;have o:=qa3 n d;have r:=qa3 m f;have g:=q2d a;have h:=q6z i b;simp only[Px.quoteT]at g h;refine qou qyt ⟨qzk a b n m,λv c=>?_⟩ ?_ ?_ ?_ λt p q=>qyf a b n m t p q
 ·have e:Py.nums (q12 (nmR i) (otR i j) n m)=[n,m]:=by simp[q12,Py.nums,Py.numsL]
  rw[e]at c;simp at c;rcases c with rfl|rfl
  ·exact qcu d
  ·exact qcu f
 ·rw[qys];simp[q12,tXR,Py.wq,Py.wqs,Px.paren,Px.join,Px.quoteT,List.append_assoc,g,h]
 ·have:=qn0;simp only[tXR,List.length_append,List.length_cons,List.length_nil];omega
 ·simp only[vXR,List.length_append,List.length_cons,List.length_nil];omega
theorem q7c(a:i<8)(c:0<=n/\n<1000):Gv (tYR (nmR i) n) (Lib.itoa n):=by
 have f:=qez a;have g:=qa3 n c;have d:=q2d a;simp only[Px.quoteT]at d;refine qou qlt ⟨qzj a n,λv b=>?_⟩ ?_ ?_ ?_ λt p q=>qye a n t p q
 ·have e:Py.nums (q11 (nmR i) n)=[n,1,2,5]:=by simp[q11,Py.nums,Py.numsL]
  rw[e]at b;simp at b;rcases b with rfl|rfl|rfl|rfl
  ·exact qcu c
  all_goals exact qcu (by omega)
 ·rw[qls];simp[q11,tYR,Py.wq,Py.wqs,Px.paren,Px.join,Px.quoteT,List.append_assoc,it1,it2,it5,d]
 ·have:=qeb;simp only[tYR,List.length_append,List.length_cons,List.length_nil];omega
 ·omega
theorem q7b(a:i<8)(c:0<=n/\n<1000)(d:0<=m/\m<1000):Gv (tZR (nmR i) n m) (Lib.itoa m):=by
 have g:=qez a;have h:=qa3 n c;have j:=qa3 m d;have f:=q2d a;simp only[Px.quoteT]at f;refine qou qlt ⟨qzi a n m,λv b=>?_⟩ ?_ ?_ ?_ λt p q=>qyd a n m t p q
 ·have e:Py.nums (q10 (nmR i) n m)=[n,m]:=by simp[q10,Py.nums,Py.numsL]
  rw[e]at b;simp at b;rcases b with rfl|rfl
  ·exact qcu c
  ·exact qcu d
 ·rw[qls];simp[q10,tZR,Py.wq,Py.wqs,Px.paren,Px.join,Px.quoteT,List.append_assoc,f]
 ·have:=qeb;simp only[tZR,List.length_append,List.length_cons,List.length_nil];omega
 ·omega
theorem q7e(a:i<8)(b:j<8):Gv (tUR (nmR i) (otR i j)) (vUR (nmR i) (otR i j)):=by
 have g:=qez a;have h:=qie i b;have d:=q2d a;have f:=q6z i b;simp only[Px.quoteT]at d f;refine qou q3l ⟨qzl a b,λv c=>?_⟩ ?_ ?_ ?_ λt p q=>qyk a b t p q
 ·have e:Py.nums (q13 (nmR i) (otR i j))=[1]:=by simp[q13,Py.nums,Py.numsL]
  rw[e]at c;simp at c;subst c;exact qcu (by omega)
 ·rw[q3k];simp[q13,tUR,Py.wq,Py.wqs,Px.paren,Px.join,Px.quoteT,List.append_assoc,it1]
 ·have:=q1f;simp only[tUR,List.length_append,List.length_cons,List.length_nil];omega
 ·simp only[vUR,List.length_append,List.length_cons,List.length_nil];omega
theorem qpz(h:w1.heap[b]? =some (.cells #[.string ⟨#[116]⟩,.string ⟨#[97]⟩,.string ⟨#[98]⟩,.string ⟨#[120]⟩,.string ⟨#[121]⟩,.string ⟨#[116,109,112]⟩,.string ⟨#[108,105,115,116]⟩,.string ⟨#[117,49]⟩] 9))(a:j<8):w1.cell? ⟨b,j,none⟩=some (.string (bs (nmR j))):=by
 rcases qd3 a with rfl|rfl|rfl|rfl|rfl|rfl|rfl|rfl <;> (simp only[World.cell?,h];rfl)
theorem qxy(c:Int)(w:Wd)(g:-9223372036854775808<=c/\c<=9223372036854775807):Calls prog 20 #[.int .i64 c] w λe w'=>e=.returned (.string (bs (nmR (pk c 8).toNat)))/\Below w.heap.size w w':=by
 have f:=qsd (c:=c) (n:=8) (by omega);obtain⟨j,a⟩:∃j:Nat,pk c 8=(j:Int):=⟨(pk c 8).toNat,by omega⟩;have h:=hZ a;rw[a]at f|-;clear a;have b:j<8:=by omega
 have i:(0:Int)<=(j:Int):=by omega
 have k:(j:Int)<8:=by omega
 clear f;go_enter func20,ntmps20
 go_wp2_with (first|(go_at_call 21;refine(qoe c 8 _ g (by omega)).mono ?_;rintro e w1 ⟨rfl,d⟩;rw[h.out];have l:=hZ (bl1 d);have m:w1.cell? ⟨w.heap.size,j,none⟩=some (.string (bs (nmR j))):=(by rw[qpz (w1:=w1) (by rw[d.heap];exact eN _ _) b]);clear d;refine Hid.out ?_))
 refine hZ ?_;go_wp2;go_ret;exact⟨rfl,l.out⟩
theorem que(x:Bs):(bs x).toList=x:=by
 have h:=qbe (bs x) (bs x).data.toList;rw[decide_eq_true rfl]at h;exact(eq_of_beq h).trans (by simp[bs])
abbrev Ad(x y:BA)(z:Bs):Prop:=∀w,(Op.stringOp .add x y).run prog w=.ok (.string (bs z)) w
theorem ap1{x y:Bs}{a:Nat}(c:x.length<=a)(d:y.length<=b)(h:a+b<=100000:=by decide):∃z,z=x++y/\z.length<=a+b/\Ad (bs x) (bs y) z:=by
 have l:(x++y).length<=a+b:=by rw[List.length_append];exact Nat.add_le_add c d
 exact⟨_,rfl,l,λw=>q09 rfl (eT l h) w⟩
theorem q2e(a:i<8)(b:j<8)(h:nmR i=nmR j):i=j:=by
 rcases qd3 a with rfl|rfl|rfl|rfl|rfl|rfl|rfl|rfl <;> rcases qd3 b with rfl|rfl|rfl|rfl|rfl|rfl|rfl|rfl <;> first|rfl|exact absurd h (by decide)
theorem q7k(hi:i<8)(hj:j<8)(hn:0<=n/\n<1000)(hm:0<=m/\m<1000)(hA:A=nmR i)(hB:B=otR i j):∃R S T U V W X Y Z b c d f g k l a V1 V2 V3 o:Bs,Ad (bs swapT) ⟨#[40,108,101,116,32,40,40]⟩ R/\Ad (bs R) (bs A) S/\Ad (bs S) ⟨#[32]⟩ T/\Ad (bs T) ⟨(Lib.itoa n).toArray⟩ U/\Ad (bs U) ⟨#[41,32,40]⟩ V/\Ad (bs V) (bs B) W/\Ad (bs W) ⟨#[32]⟩ X/\Ad (bs X) ⟨(Lib.itoa m).toArray⟩ Y/\Ad (bs Y) ⟨#[41,41,32,40,98,101,103,105,110,32,40,115,119,97,112,32]⟩ Z/\Ad (bs Z) (bs A) b/\Ad (bs b) ⟨#[32]⟩ c/\Ad (bs c) (bs B) d/\Ad (bs d) ⟨#[41,32,40,99,111,110,115,32]⟩ f/\Ad (bs f) (bs A) g/\Ad (bs g) ⟨#[32]⟩ k/\Ad (bs k) (bs B) l/\Ad (bs l) ⟨#[41,41,41]⟩ a/\Ad ⟨#[40]⟩ ⟨(Lib.itoa m).toArray⟩ V1/\Ad (bs V1) ⟨#[32,46,32]⟩ V2/\Ad (bs V2) ⟨(Lib.itoa n).toArray⟩ V3/\Ad (bs V3) ⟨#[41]⟩ o/\(∀w:Wd,GT w->Rd.GV w->6<=w.heap.size->Calls prog 16 #[.string (bs a),.string (bs o)] w λe w'=>e=.returned (.bool true)/\Below w.heap.size w w'):=by
 have lA:A.length<=4:=by rw[hA];exact qez hi
 have lB:B.length<=5:=by rw[hB];exact qie i hj
 have ln:=qa3 n hn;have lm:=qa3 m hm;obtain⟨R,a0,a1,a2⟩:=ap1 (y:=[40,108,101,116,32,40,40]) qn0 (eR 7);obtain⟨S,a3,a4,a5⟩:=ap1 a1 lA;obtain⟨T,a6,a7,a8⟩:=ap1 (y:=[32]) a4 (eR 1);obtain⟨U,a9,b0,b1⟩:=ap1 a7 ln;obtain⟨V,b2,b3,b4⟩:=ap1 (y:=[41,32,40]) b0 (eR 3);obtain⟨W,b5,b6,b7⟩:=ap1 b3 lB;obtain⟨X,b8,b9,c0⟩:=ap1 (y:=[32]) b6 (eR 1);obtain⟨Y,c1,c2,c3⟩:=ap1 b9 lm;obtain⟨Z,c4,c5,c6⟩:=ap1 (y:=[41,41,32,40,98,101,103,105,110,32,40,115,119,97,112,32]) c2 (eR 16);obtain⟨b,p,q,r⟩:=ap1 c5 lA;obtain⟨c,s,t,u⟩:=ap1 (y:=[32]) q (eR 1);obtain⟨d,v,z,C⟩:=ap1 t lB;obtain⟨f,D,E,F⟩:=ap1 (y:=[41,32,40,99,111,110,115,32]) z (eR 8);obtain⟨g,G,H,I⟩:=ap1 E lA;obtain⟨k,J,K,L⟩:=ap1 (y:=[32]) H (eR 1);obtain⟨l,M,N,O⟩:=ap1 K lB;obtain⟨a,P,d8,Q⟩:=ap1 (y:=[41,41,41]) N (eR 3);obtain⟨V1,c7,c8,c9⟩:=ap1 (x:=[40]) (eR 1) lm;obtain⟨V2,d0,d1,d2⟩:=ap1 (y:=[32,46,32]) c8 (eR 3);obtain⟨V3,d3,d4,d5⟩:=ap1 d1 ln;obtain⟨o,d6,d9,d7⟩:=ap1 (y:=[41]) d4 (eR 1);refine⟨R,S,T,U,V,W,X,Y,Z,b,c,d,f,g,k,l,a,V1,V2,V3,o,a2,a5,a8,b1,b4,b7,c0,c3,c6,r,u,C,F,I,L,O,Q,c9,d2,d5,d7,?_⟩;have h:=q7d hi hj hn hm;have e1:a=tXR (nmR i) (otR i j) n m:=by rw[P,M,J,G,D,v,s,p,c4,c1,b8,b5,b2,a9,a6,a3,a0,hA,hB];simp[tXR,List.append_assoc]
 have e2:o=vXR n m:=by rw[d6,d3,d0,c7];simp[vXR,List.append_assoc]
 rw[e1,e2];exact h
theorem q7j(L:i<8)(P:j<8)(M:0<=n/\n<1000)(Q:0<=m/\m<1000)(N:A=nmR i)(R:B=otR i j):∃b c d f g k a:Bs,Ad (bs eitherT) ⟨#[40,108,101,116,32,40,40]⟩ b/\Ad (bs b) (bs A) c/\Ad (bs c) ⟨#[32]⟩ d/\Ad (bs d) ⟨(Lib.itoa n).toArray⟩ f/\Ad (bs f) ⟨#[41,41,32,40,101,105,116,104,101,114,32,35,102,32,40,101,113,63,32,49,32,50,41,32]⟩ g/\Ad (bs g) (bs A) k/\Ad (bs k) ⟨#[32,53,41,41]⟩ a/\(∀w:Wd,GT w->Rd.GV w->6<=w.heap.size->Calls prog 16 #[.string (bs a),.string ⟨(Lib.itoa n).toArray⟩] w λe w'=>e=.returned (.bool true)/\Below w.heap.size w w'):=by
 have O:A.length<=4:=by rw[N];exact qez L
 have U:B.length<=5:=by rw[R];exact qie i P
 have S:=qa3 n M;have V:=qa3 m Q;obtain⟨b,l,o,p⟩:=ap1 (y:=[40,108,101,116,32,40,40]) qeb (eR 7);obtain⟨c,q,r,s⟩:=ap1 o O;obtain⟨d,t,u,v⟩:=ap1 (y:=[32]) r (eR 1);obtain⟨f,x,z,C⟩:=ap1 u S;obtain⟨g,D,E,F⟩:=ap1 (y:=[41,41,32,40,101,105,116,104,101,114,32,35,102,32,40,101,113,63,32,49,32,50,41,32]) z (eR 24);obtain⟨k,G,H,I⟩:=ap1 E O;obtain⟨a,J,T,K⟩:=ap1 (y:=[32,53,41,41]) H (eR 4);refine⟨b,c,d,f,g,k,a,p,s,v,C,F,I,K,?_⟩;have h:=q7c L M;have e1:a=tYR (nmR i) n:=by rw[J,G,D,x,t,q,l,N];simp[tYR,List.append_assoc]
 rw[e1];exact h
theorem q7i(T:i<8)(Y:j<8)(U:0<=n/\n<1000)(V:0<=m/\m<1000)(W:A=nmR i)(Z:B=otR i j):∃b c d f g k l o a:Bs,Ad (bs eitherT) ⟨#[40,108,101,116,32,40,40,105,102,32]⟩ b/\Ad (bs b) ⟨(Lib.itoa n).toArray⟩ c/\Ad (bs c) ⟨#[41,32,40]⟩ d/\Ad (bs d) (bs A) f/\Ad (bs f) ⟨#[32]⟩ g/\Ad (bs g) ⟨(Lib.itoa m).toArray⟩ k/\Ad (bs k) ⟨#[41,41,32,40,101,105,116,104,101,114,32,35,102,32]⟩ l/\Ad (bs l) (bs A) o/\Ad (bs o) ⟨#[41,41]⟩ a/\(∀w:Wd,GT w->Rd.GV w->6<=w.heap.size->Calls prog 16 #[.string (bs a),.string ⟨(Lib.itoa m).toArray⟩] w λe w'=>e=.returned (.bool true)/\Below w.heap.size w w'):=by
 have X:A.length<=4:=by rw[W];exact qez T
 have lB:B.length<=5:=by rw[Z];exact qie i Y
 have ln:=qa3 n U;have lm:=qa3 m V;obtain⟨b,p,q,r⟩:=ap1 (y:=[40,108,101,116,32,40,40,105,102,32]) qeb (eR 10);obtain⟨c,s,t,u⟩:=ap1 q ln;obtain⟨d,v,x,z⟩:=ap1 (y:=[41,32,40]) t (eR 3);obtain⟨f,C,D,E⟩:=ap1 x X;obtain⟨g,F,G,H⟩:=ap1 (y:=[32]) D (eR 1);obtain⟨k,I,J,K⟩:=ap1 G lm;obtain⟨l,L,M,N⟩:=ap1 (y:=[41,41,32,40,101,105,116,104,101,114,32,35,102,32]) J (eR 14);obtain⟨o,O,P,Q⟩:=ap1 M X;obtain⟨a,R,a0,S⟩:=ap1 (y:=[41,41]) P (eR 2);refine⟨b,c,d,f,g,k,l,o,a,r,u,z,E,H,K,N,Q,S,?_⟩;have h:=q7b T U V;have e1:a=tZR (nmR i) n m:=by rw[R,O,L,I,F,C,v,s,p,W];simp[tZR,List.append_assoc]
 rw[e1];exact h
theorem q7l(R:i<8)(S:j<8)(V:0<=n/\n<1000)(W:0<=m/\m<1000)(o:A=nmR i)(p:B=otR i j):∃c d f a g k l b:Bs,Ad ⟨#[40,100,101,102,105,110,101,45,115,121,110,116,97,120,32,97,108,108,32,40,115,121,110,116,97,120,45,114,117,108,101,115,32,40,105,115,41,32,40,40,95,32,40,105,115,32,120,32,46,46,46,41,32,46,46,46,41,32,39,40,40,120,32,46,46,46,32,105,115,41,32,46,46,46,41,41,41,41,40,97,108,108,32,40,105,115,32,49,32]⟩ (bs A) c/\Ad (bs c) ⟨#[41,32,40,105,115,41,32,40,105,115,32]⟩ d/\Ad (bs d) (bs B) f/\Ad (bs f) ⟨#[41,41]⟩ a/\Ad ⟨#[40,40,49,32]⟩ (bs A) g/\Ad (bs g) ⟨#[32,105,115,41,32,40,105,115,41,32,40]⟩ k/\Ad (bs k) (bs B) l/\Ad (bs l) ⟨#[32,105,115,41,41]⟩ b/\(∀w:Wd,GT w->Rd.GV w->6<=w.heap.size->Calls prog 16 #[.string (bs a),.string (bs b)] w λe w'=>e=.returned (.bool true)/\Below w.heap.size w w'):=by
 have T:A.length<=4:=by rw[o];exact qez R
 have U:B.length<=5:=by rw[p];exact qie i S
 have Z:=qa3 n V;have lm:=qa3 m W;obtain⟨c,q,r,s⟩:=ap1 (x:=[40,100,101,102,105,110,101,45,115,121,110,116,97,120,32,97,108,108,32,40,115,121,110,116,97,120,45,114,117,108,101,115,32,40,105,115,41,32,40,40,95,32,40,105,115,32,120,32,46,46,46,41,32,46,46,46,41,32,39,40,40,120,32,46,46,46,32,105,115,41,32,46,46,46,41,41,41,41,40,97,108,108,32,40,105,115,32,49,32]) (eR 89) T;obtain⟨d,t,u,v⟩:=ap1 (y:=[41,32,40,105,115,41,32,40,105,115,32]) r (eR 11);obtain⟨f,z,C,D⟩:=ap1 u U;obtain⟨a,E,X,F⟩:=ap1 (y:=[41,41]) C (eR 2);obtain⟨g,G,H,I⟩:=ap1 (x:=[40,40,49,32]) (eR 4) T;obtain⟨k,J,K,L⟩:=ap1 (y:=[32,105,115,41,32,40,105,115,41,32,40]) H (eR 11);obtain⟨l,M,N,O⟩:=ap1 K U;obtain⟨b,P,Y,Q⟩:=ap1 (y:=[32,105,115,41,41]) N (eR 5);refine⟨c,d,f,a,g,k,l,b,s,v,D,F,I,L,O,Q,?_⟩;have h:=q7e R S;have e1:a=tUR (nmR i) (otR i j):=by rw[E,z,t,q,o,p];simp[tUR,allT,List.append_assoc]
 have e2:b=vUR (nmR i) (otR i j):=by rw[P,M,J,G,o,p];simp[vUR,List.append_assoc]
 rw[e1,e2];exact h
theorem law5(c d v u:Int)(w:Wd)(h6:6<=w.heap.size)(hT:GT w)(hV:Rd.GV w)(hc:-9223372036854775808<=c/\c<=9223372036854775807)(hd:-9223372036854775808<=d/\d<=9223372036854775807)(hv:-9223372036854775808<=v/\v<=9223372036854775807)(hu:-9223372036854775808<=u/\u<=9223372036854775807):
  Calls prog 5 #[.int .i64 c,.int .i64 d,.int .i64 v,.int .i64 u] w λe w'=>e=.returned (.bool true)/\Below w.heap.size w w':=by
 have b:=hZ (λw'=>qow (w':=w') hT hV h6);clear hT hV h6;have pi:=qsd (c:=c) (n:=8) (by omega);have pj:=qsd (c:=d) (n:=8) (by omega);have E:=qsd (c:=v) (n:=1000) (by omega);have F:=qsd (c:=u) (n:=1000) (by omega);obtain⟨i,hi⟩:∃i,i=(pk c 8).toNat:=⟨_,rfl⟩;obtain⟨j,hj⟩:∃j,j=(pk d 8).toNat:=⟨_,rfl⟩;have Hi:=hZ hi;have Hj:=hZ hj;have l:Hid (i<8):=(by omega:i<8);have o:Hid (j<8):=(by omega:j<8);clear hi hj pi pj;obtain⟨n,t⟩:∃n,n=pk v 1000:=⟨_,rfl⟩;obtain⟨m,x⟩:∃m,m=pk u 1000:=⟨_,rfl⟩;rw[<-t]at E;rw[<-x]at F;have Hn:=hZ t;have Hm:=hZ x;clear t x;obtain⟨A,C⟩:∃A,A=nmR i:=⟨_,rfl⟩;obtain⟨B0,G⟩:∃B,B=nmR j:=⟨_,rfl⟩;obtain⟨B,D⟩:∃B,B=otR i j:=⟨_,rfl⟩;have R:=hZ C;have s:=hZ G;have HB:=hZ D;obtain⟨X1,X2,X3,X4,X5,X6,X7,X8,X9,d5,d6,d7,d8,d9,e0,e1,e2,V1,V2,V3,V4,S⟩:=q7k l.out o.out E F C D;replace S:=hZ S;obtain⟨Y1,Y2,Y3,Y4,Y5,Y6,Y7,T⟩:=q7j l.out o.out E F C D;replace T:=hZ T;obtain⟨Z1,Z2,Z3,Z4,Z5,Z6,Z7,Z8,Z9,U⟩:=q7i l.out o.out E F C D;replace U:=hZ U;obtain⟨U1,U2,U3,U4,Q1,Q2,Q3,Q4,V⟩:=q7l l.out o.out E F C D;replace V:=hZ V;clear C D G;go_enter func5,ntmps5
 go_wp2_with (first|(go_at_call 20;refine(qxy c _ hc).mono ?_;rintro e w1 ⟨rfl,H⟩;rw[<-Hi.out,<-R.out];refine Hid.out ?_))
 have y:=hZ H;clear H;refine hZ ?_;go_wp2_with (first|(go_at_call 20;refine(qxy d _ hd).mono ?_;rintro e w2 ⟨rfl,I⟩;rw[<-Hj.out,<-s.out];refine Hid.out ?_))
 have a:Hid (Below w.heap.size w w2):=y.out.trans (I.mono y.out.size);clear I y;refine hZ ?_;by_cases g:i=j
 case' pos=>
  have W:B0=A:=by rw[s.out,R.out,g]
  have HO:Hid ((⟨#[111,116,104,101,114]⟩:BA)=bs B):=by rw[HB.out,otR,if_pos g];rfl
  subst W;clear g;go_wp2_with (first|(go_at_call 21;refine(qoe v 1000 _ hv (by omega)).mono ?_;rintro e r ⟨rfl,k⟩;rw[<-Hn.out];refine Hid.out ?_))
  rw[HO.out];clear HO
 case' neg=>
  have W:B=B0:=by rw[HB.out,s.out,otR,if_neg g]
  have hne:((bs A).toList==(bs B0).toList)=false:=by
   rw[que,que,beq_eq_false_iff_ne];exact λh=>g (q2e l.out o.out (by rw[<-R.out,<-s.out];exact h))
  subst W;clear g;go_wp2_with (first|(go_at_call 21;refine(qoe v 1000 _ hv (by omega)).mono ?_;rintro e r ⟨rfl,k⟩;rw[<-Hn.out];refine Hid.out ?_))
 all_goals(
  have a:=hZ (a.out.trans ((bl0 k).mono a.out.size));clear k;refine hZ ?_;go_wp2_with (first|(go_at_call 12;refine(Tryz.strconv_Itoa n (by omega) (by omega) _ (b.out _ a.out).1).mono ?_;rintro e X ⟨rfl,nq,z,p⟩;have q:=hZ (p▸Lib.below_grow _ _ (eR _) nq z:Below r.heap.size r X);clear p;refine Hid.out ?_))
  have a:=hZ (a.out.trans (q.out.mono a.out.size));clear q;refine hZ ?_;go_wp2_with (first|(go_at_call 21;refine(qoe u 1000 _ hu (by omega)).mono ?_;rintro e r ⟨rfl,k⟩;rw[<-Hm.out];refine Hid.out ?_))
  have a:=hZ (a.out.trans ((bl0 k).mono a.out.size));clear k;refine hZ ?_;go_wp2_with (first|(go_at_call 12;refine(Tryz.strconv_Itoa m (by omega) (by omega) _ (b.out _ a.out).1).mono ?_;rintro e X ⟨rfl,nq,z,p⟩;have q:=hZ (p▸Lib.below_grow _ _ (eR _) nq z:Below r.heap.size r X);clear p;refine Hid.out ?_))
  have a:=hZ (a.out.trans (q.out.mono a.out.size));clear q;refine hZ ?_;have cS:(⟨#[40,100,101,102,105,110,101,45,115,121,110,116,97,120,32,115,119,97,112,32,40,115,121,110,116,97,120,45,114,117,108,101,115,32,40,41,32,40,40,95,32,97,32,98,41,32,40,108,101,116,32,40,40,116,32,97,41,41,32,40,98,101,103,105,110,32,40,115,101,116,33,32,97,32,98,41,32,40,115,101,116,33,32,98,32,116,41,41,41,41,41,41]⟩:BA)=bs swapT:=rfl;have cE:(⟨#[40,100,101,102,105,110,101,45,115,121,110,116,97,120,32,101,105,116,104,101,114,32,40,115,121,110,116,97,120,45,114,117,108,101,115,32,40,41,32,40,40,95,41,32,35,102,41,32,40,40,95,32,120,41,32,120,41,32,40,40,95,32,120,32,121,32,46,46,46,41,32,40,108,101,116,32,40,40,116,32,120,41,41,32,40,105,102,32,116,32,116,32,40,101,105,116,104,101,114,32,121,32,46,46,46,41,41,41,41,41,41]⟩:BA)=bs eitherT:=rfl;obtain⟨Y,Z,a0,a1,a2,a3,a4,a5,a6,J,K,L,M,N,O,P,Q,a7,a8,a9,b0,GX⟩:=S.out;replace GX:=hZ GX;go_wp2_with (first|(go_at_call 16;refine(GX.out _ (b.out _ a.out).1 (b.out _ a.out).2.1 (b.out _ a.out).2.2).mono ?_;rintro e r ⟨rfl,f⟩;refine Hid.out ?_))
  have a:=hZ (a.out.trans (f.mono a.out.size));clear f Y Z a0 a1 a2 a3 a4 a5 a6 J K L M N O P Q a7 a8 a9 b0;refine hZ ?_;obtain⟨b1,b2,b3,b4,b5,b6,b7,GY⟩:=T.out;replace GY:=hZ GY;go_wp2_with (first|(go_at_call 16;refine(GY.out _ (b.out _ a.out).1 (b.out _ a.out).2.1 (b.out _ a.out).2.2).mono ?_;rintro e r ⟨rfl,f⟩;refine Hid.out ?_))
  have a:=hZ (a.out.trans (f.mono a.out.size));clear f b1 b2 b3 b4 b5 b6 b7;refine hZ ?_;obtain⟨b8,b9,c0,c1,c2,c3,c4,c5,c6,GZ⟩:=U.out;replace GZ:=hZ GZ;go_wp2_with (first|(go_at_call 16;refine(GZ.out _ (b.out _ a.out).1 (b.out _ a.out).2.1 (b.out _ a.out).2.2).mono ?_;rintro e r ⟨rfl,f⟩;refine Hid.out ?_))
  have a:=hZ (a.out.trans (f.mono a.out.size));clear f b8 b9 c0 c1 c2 c3 c4 c5 c6;refine hZ ?_;obtain⟨c7,c8,c9,d0,d1,d2,d3,d4,GU⟩:=V.out;replace GU:=hZ GU;go_wp2_with (first|(go_at_call 16;refine(GU.out _ (b.out _ a.out).1 (b.out _ a.out).2.1 (b.out _ a.out).2.2).mono ?_;rintro e r ⟨rfl,f⟩;refine Hid.out ?_))
  have a:=hZ (a.out.trans (f.mono a.out.size));clear f c7 c8 c9 d0 d1 d2 d3 d4;refine hZ ?_;go_wp2;go_ret;exact⟨rfl,a.out⟩)
end Go.Proofs.YtldaocpojcfljaaGreatDoor
