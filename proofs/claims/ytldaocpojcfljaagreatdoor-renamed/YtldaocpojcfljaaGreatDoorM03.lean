import Derived.Test.YtldaocpojcfljaaGreatDoorM02
import Derived.Deep.RegionHeld2
import Derived.Deep.OwnRows
import Derived.Lib.AppendIntMem
set_option maxRecDepth 100000
set_option maxHeartbeats 4000000
namespace Go.Proofs.YtldaocpojcfljaaGreatDoor
open Tryz hiding parts
open Go.RowKit Go.Shelf
open Sc
variable {G H:Gh}{N b fb g j n o q q1 q2 q3:Nat}{S:Sub}{W w w':Wd}{e:En}{l:List Ex}{m:Mc}{mo t:Int}{pf:OA}{s:Bs}{sh:List Nat}{u x xl:Vu}{vs:List Vl}{xs:List Vu}
section
section
variable {G:Gh} {S:Sub} {m:Mc} {w:Wd}
theorem Inv.m1(_:Inv G S m w):G.mb∈G.mut:=by simp[Gh.mut]
theorem Inv.m2(_:Inv G S m w):G.sb∈G.mut:=by simp[Gh.mut]
theorem Inv.m3(_:Inv G S m w):G.cb∈G.mut:=by simp[Gh.mut]
theorem Inv.m4(_:Inv G S m w):G.mp∈G.mut:=by simp[Gh.mut]
theorem Inv.m5(_:Inv G S m w)(h:(s,b)∈G.B):b∈G.mut:=by
 simp only[Gh.mut,List.mem_cons,List.mem_append,List.mem_map];exact .inr (.inr (.inr (.inr (.inl ⟨_,h,rfl⟩))))
theorem Inv.m6(_:Inv G S m w){i cap:Nat}(h:G.E[i]? =some (fb,.slice (some ⟨g,o,Option.none⟩) (n+1) cap)):g∈G.mut:=by
 simp only[Gh.mut,List.mem_cons,List.mem_append];exact .inr (.inr (.inr (.inr (.inr (qe1 h)))))
theorem Inv.sb_mb(i:Inv G S m w):G.sb≠G.mb:=by have:=i.nd;simp only[Gh.mut,List.nodup_cons,List.mem_cons,not_or]at this;exact λe=>this.1.1 e.symm
theorem Inv.cb_mb(i:Inv G S m w):G.cb≠G.mb:=by have:=i.nd;simp only[Gh.mut,List.nodup_cons,List.mem_cons,not_or]at this;exact λe=>this.1.2.1 e.symm
theorem Inv.mp_mb(i:Inv G S m w):G.mp≠G.mb:=by have:=i.nd;simp only[Gh.mut,List.nodup_cons,List.mem_cons,not_or]at this;exact λe=>this.1.2.2.1 e.symm
theorem Inv.cb_sb(i:Inv G S m w):G.cb≠G.sb:=by have:=i.nd;simp only[Gh.mut,List.nodup_cons,List.mem_cons,not_or]at this;exact λe=>this.2.1.1 e.symm
theorem Inv.mp_sb(i:Inv G S m w):G.mp≠G.sb:=by have:=i.nd;simp only[Gh.mut,List.nodup_cons,List.mem_cons,not_or]at this;exact λe=>this.2.1.2.1 e.symm
theorem Inv.mp_cb(i:Inv G S m w):G.mp≠G.cb:=by have:=i.nd;simp only[Gh.mut,List.nodup_cons,List.mem_cons,not_or]at this;exact λe=>this.2.2.1.1 e.symm
theorem Inv.late(i:Inv G S m w)(h:b∈G.B.map (·.2)++G.rows):b≠G.mb/\b≠G.sb/\b≠G.cb/\b≠G.mp:=by
 have:=i.nd;simp only[Gh.mut,List.nodup_cons,List.mem_cons,not_or]at this;exact⟨λe=>this.1.2.2.2 (e▸h),λe=>this.2.1.2.2 (e▸h),λe=>this.2.2.1.2 (e▸h),λe=>this.2.2.2.1 (e▸h)⟩
theorem Inv.lateB(i:Inv G S m w)(h:(s,b)∈G.B):b≠G.mb/\b≠G.sb/\b≠G.cb/\b≠G.mp:=i.late (List.mem_append_left _ (List.mem_map.2 ⟨_,h,rfl⟩))
theorem Inv.lateE(i:Inv G S m w){cap:Nat}(h:G.E[j]? =some (fb,.slice (some ⟨g,o,Option.none⟩) (n+1) cap)):g≠G.mb/\g≠G.sb/\g≠G.cb/\g≠G.mp:=i.late (List.mem_append_right _ (qe1 h))
theorem Inv.nd2(i:Inv G S m w):(G.B.map (·.2)++G.rows).Nodup:=by
 have:=i.nd;simp only[Gh.mut,List.nodup_cons]at this;exact this.2.2.2.2
theorem Inv.turn{a:Mc}(i:Inv G S m w)(k:b∈G.mut)(l:∀c,c≠b->w'.heap[c]? =w.heap[c]?)(n:w'.heap.size=w.heap.size)(g:w'.os=w.os/\w'.tape=w.tape/\w'.output=w.output)
  (st:Mt G.sb a.steps S.fuel 10 w')(r:Mt G.cb a.cells S.quota 11 w')(sl:(a.steps:Int)<=S.fuel)(t:(a.cells:Int)<=S.quota)
  (u:∃y q,w'.heap[G.mb]? =some (.cells #[bp G.sb,bp G.cb,.map (some G.mp),y,.pointer q] 119 (0,0))/\WRep G a.wnd q)
  (z:∃es d,w'.heap[G.mp]? =some (.map es d)/\es.toList.map (λe=>(e.key,e.val))=G.B.map (λp=>(Value.string ⟨p.1.toArray⟩,bp p.2)))
  (A:∀{s:Bs} {b:Nat},(s,b)∈G.B->∃x,w'.heap[b]? =some (.cells #[x] 318 (0,0))/\GVal G (lookup s a.glob) x)
  (C:∀{s:Bs} {v:Vl},lookup s a.glob=some v->∃b,(s,b)∈G.B)
  (D:∀{i:Nat} {vs:List Vl} {e:Option Nat},a.envs[i]? =some (vs,e)->∃fb j pf,G.E[i]? =some (fb,j)/\G.I fb=some (.cells #[j,.pointer pf] 461 (0,0))/\NRep G e pf/\ERow G w'.heap j vs)
  (F:G.E.length=a.envs.length)(H:G.J.length=a.ids):Inv G S a w':=
 ⟨fun {c o} f=>by
  rw[l c (by intro e;subst e;rw[i.mi k]at f;cases f)];exact i.imm f,
  i.nd,i.mi,λh=>by rw[n];exact i.ml h,st,r,⟨sl,i.sl.2⟩,⟨t,i.cl.2⟩,u,z,A,C,i.gk,D,F,H,i.jn,i.ji,by rw[g.1,g.2.1,g.2.2];exact i.fo,
  fun {c} f=>by rw[l c (λe=>i.fm k (e▸f)),n];exact i.ff f,i.fm,i.fi⟩
theorem qab{a:Addr}{v:Vu}(c:Nat)(h:c≠a.block):(w.setCell a v).heap[c]? =w.heap[c]?:=Below.heap_setCell _ _ _ _ h
theorem qag{a:Addr}{v:Vu}:(w.setCell a v).heap.size=w.heap.size:=by simp[World.setCell]
theorem Mt.set{a:Int}(h:Mt b t mo a w)(c:Int):Mt b c mo a (w.setCell ⟨b,0,Option.none⟩ (.int .i64 c)):=by
 unfold Mt at*;simp[World.setCell,Array.getElem?_modify,h]
theorem Mt.keep{a:Int}(h:Mt b t mo a w)(e:w'.heap[b]? =w.heap[b]?):Mt b t mo a w':=by unfold Mt at*;rw[e];exact h
theorem Inv.glKeep(i:Inv G S m w)(a:∀c,c≠b->w'.heap[c]? =w.heap[c]?)(d:∀s c,(s,c)∈G.B->c≠b):∀{s:Bs} {c:Nat},(s,c)∈G.B->∃x,w'.heap[c]? =some (.cells #[x] 318 (0,0))/\GVal G (lookup s m.glob) x:=fun {s c} h=>by
 rw[a c (d s c h)];exact i.gl h
theorem Inv.enKeep(i:Inv G S m w)(f:∀c,c≠b->w'.heap[c]? =w.heap[c]?)(k:∀j fb g o n cap:Nat,G.E[j]? =some (fb,Value.slice (some ⟨g,o,Option.none⟩) (n+1) cap)->g≠b):
  ∀{j:Nat} {vs:List Vl} {e:Option Nat},m.envs[j]? =some (vs,e)->∃fb a pf,G.E[j]? =some (fb,a)/\G.I fb=some (.cells #[a,.pointer pf] 461 (0,0))/\NRep G e pf/\ERow G w'.heap a vs:=fun {j vs e} h=>by
 obtain⟨fb,a,pf,d,l,p,q⟩:=i.en h;exact⟨fb,a,pf,d,l,p,q.mono (Gh.le.refl _) λg o n cap e=>f g (k j fb g o n cap (by rw[d,e]))⟩
theorem Inv.steps(i:Inv G S m w)(n:Nat)(h:(n:Int)<=S.fuel):Inv G S {m with steps:=n} (w.setCell ⟨G.sb,0,Option.none⟩ (.int .i64 (n:Int))):=
 i.turn i.m2 (λc b=>qab c b) qag ⟨rfl,rfl,rfl⟩ (i.st.set _) (i.ce.keep (qab _ i.cb_sb)) h i.cl.1
  (by rw[qab (a:=⟨G.sb,0,Option.none⟩) _ (Ne.symm i.sb_mb)];exact i.ma) (by rw[qab (a:=⟨G.sb,0,Option.none⟩) _ i.mp_sb];exact i.mp)
  (i.glKeep (λc b=>qab c b) λs c h=>(i.lateB h).2.1) i.gd
  (i.enKeep (λc b=>qab c b) λj fb g o n cap h=>(i.lateE h).2.1) i.el i.jl
theorem Inv.cells(i:Inv G S m w)(n:Nat)(h:(n:Int)<=S.quota):Inv G S {m with cells:=n} (w.setCell ⟨G.cb,0,Option.none⟩ (.int .i64 (n:Int))):=
 i.turn i.m3 (λc b=>qab c b) qag ⟨rfl,rfl,rfl⟩ (i.st.keep (qab _ (Ne.symm i.cb_sb))) (i.ce.set _) i.sl.1 h
  (by rw[qab (a:=⟨G.cb,0,Option.none⟩) _ (Ne.symm i.cb_mb)];exact i.ma) (by rw[qab (a:=⟨G.cb,0,Option.none⟩) _ i.mp_cb];exact i.mp)
  (i.glKeep (λc b=>qab c b) λs c h=>(i.lateB h).2.2.1) i.gd
  (i.enKeep (λc b=>qab c b) λj fb g o n cap h=>(i.lateE h).2.2.1) i.el i.jl
theorem Inv.given(i:Inv G S m w)(x:Vu):Inv G S m (w.setCell ⟨G.mb,3,Option.none⟩ x):=
 i.turn i.m1 (λc d=>qab c d) qag ⟨rfl,rfl,rfl⟩ (i.st.keep (qab _ i.sb_mb)) (i.ce.keep (qab _ i.cb_mb)) i.sl.1 i.cl.1
  (by obtain⟨f,e,a,b⟩:=i.ma;exact⟨x,e,by simp[World.setCell,Array.getElem?_modify,a],b⟩) (by rw[qab (a:=⟨G.mb,3,Option.none⟩) _ i.mp_mb];exact i.mp)
  (i.glKeep (λc d=>qab c d) λs c h=>(i.lateB h).1) i.gd
  (i.enKeep (λc d=>qab c d) λj fb g o n cap h=>(i.lateE h).1) i.el i.jl
theorem qfi(s t:Bs)(v:Vl):∀l:List (Bs×Vl),lookup t (put s v l)=if s=t then some v else lookup t l
 | []=>by simp[put,lookup]
 |(u,x)::r=>by
  by_cases h:u=s
  ·subst h;simp only[put,if_true,lookup];by_cases k:u=t <;> simp[k]
  ·simp only[put,if_neg h,lookup,qfi s t v r];by_cases k:u=t
   ·subst k;simp[Ne.symm h]
   ·simp[k]
theorem Inv.setGlob(i:Inv G S m w)(f:(s,b)∈G.B){v:Vl}(C:VRep G v x):Inv G S {m with glob:=put s v m.glob} (w.setCell ⟨b,0,Option.none⟩ x):=by
 have p:=i.lateB f;refine i.turn (i.m5 f) (λc l=>qab c l) qag ⟨rfl,rfl,rfl⟩ (i.st.keep (qab _ (Ne.symm p.2.1))) (i.ce.keep (qab _ (Ne.symm p.2.2.1))) i.sl.1 i.cl.1
  (by rw[qab (a:=⟨b,0,Option.none⟩) _ (Ne.symm p.1)];exact i.ma) (by rw[qab (a:=⟨b,0,Option.none⟩) _ (Ne.symm p.2.2.2)];exact i.mp) ?_ ?_
  (i.enKeep (λc l=>qab c l) λj fb g o n cap h e=>?_) i.el i.jl
 ·intro t c d;rw[qfi];by_cases e:s=t
  ·subst e;have l:c=b:=by
    obtain⟨j,q,e1⟩:=List.mem_iff_getElem.1 f;obtain⟨k,r,e2⟩:=List.mem_iff_getElem.1 d;have:j=k:=(List.getElem_inj (h₀:=by simpa using q) (h₁:=by simpa using r) i.gk).1 (by simp[e1,e2]);subst this;rw[e1]at e2;cases e2;rfl
   subst l;obtain⟨y,z,_⟩:=i.gl d;refine⟨x,by simp[World.setCell,Array.getElem?_modify,z],?_⟩;rw[if_pos rfl];exact C
  ·obtain⟨y,z,D⟩:=i.gl d;refine⟨y,?_,by rw[if_neg e];exact D⟩;rw[qab (a:=⟨b,0,Option.none⟩) c ?_];exact z;intro A;have A:c=b:=A;subst A;have E:=(List.nodup_append.1 i.nd2).1;obtain⟨j,q,e1⟩:=List.mem_iff_getElem.1 f;obtain⟨k,r,e2⟩:=List.mem_iff_getElem.1 d;have:j=k:=(List.getElem_inj (h₀:=by simpa using q) (h₁:=by simpa using r) E).1 (by simp[e1,e2]);subst this;rw[e1]at e2;cases e2;exact e rfl
 ·intro t u d;rw[qfi]at d;by_cases e:s=t
  ·subst e;exact⟨b,f⟩
  ·rw[if_neg e]at d;exact i.gd d
 ·have e:g=b:=e;subst e;exact(List.nodup_append.1 i.nd2).2.2 _ (List.mem_map.2 ⟨_,f,rfl⟩) _ (qe1 h) rfl
def Gh.id(G:Gh)(b:Nat):Gh:={G with J:=G.J++[b]}
theorem Gh.le_id(G:Gh)(b:Nat):G.le (G.id b):=⟨_root_.id,fun {i c} h=>by
 show(G.J++[b])[i]? =some c;rw[eA (eL.1 h).1];exact h,_root_.id,_root_.id,rfl,rfl,rfl,rfl,rfl,rfl⟩
theorem Gh.id_at(G:Gh)(b:Nat):(G.id b).J[G.J.length]? =some b:=by show(G.J++[b])[G.J.length]? =some b;simp
theorem Inv.newId(i:Inv G S m w){o:Obj}(g:b∉G.J)(l:G.I b=some o):Inv (G.id b) S {m with ids:=m.ids+1} w:=by
 have h:=G.le_id b;refine⟨i.imm,i.nd,i.mi,i.ml,i.st,i.ce,i.sl,i.cl,?_,i.mp,?_,i.gd,i.gk,?_,i.el,?_,?_,?_,i.fo,i.ff,i.fm,i.fi⟩
 ·obtain⟨n,p,a,c⟩:=i.ma;exact⟨n,p,a,c.mono h⟩
 ·intro s c q;obtain⟨x,a,k⟩:=i.gl q;exact⟨x,a,k.mono h⟩
 ·intro j vs e r;obtain⟨fb,t,pf,a,c,d,k⟩:=i.en r;exact⟨fb,t,pf,a,c,d.mono h,k.mono h λ_ _ _ _ _=>rfl⟩
 ·show(G.J++[b]).length=m.ids+1;simp[i.jl]
 ·show(G.J++[b]).Nodup;rw[List.nodup_append];exact⟨i.jn,by simp,λx u y f e=>by simp at f;subst f;subst e;exact g u⟩
 ·intro c hc;have hc:c∈G.J++[b]:=hc;rcases List.mem_append.1 hc with hc|hc
  ·exact i.ji hc
  ·simp at hc;subst hc;exact⟨o,l⟩
theorem Inv.newObj(i:Inv G S m w)(o:Obj):Inv ((G.add w.heap.size o).id w.heap.size) S {m with ids:=m.ids+1} (w.alloc o):=
 (i.alloc o).newId (λh=>by
  obtain⟨x,a⟩:=i.ji h;rw[i.fresh (eR _)]at a;cases a) (Gh.add_at _ _ _)
theorem Inv.le_newObj(i:Inv G S m w)(o:Obj):G.le ((G.add w.heap.size o).id w.heap.size):=(Gh.le_add (i.fresh (eR _))).trans (Gh.le_id _ _)
theorem Inv.at_newObj(i:Inv G S m w)(o:Obj):((G.add w.heap.size o).id w.heap.size).J[m.ids]? =some w.heap.size:=by rw[<-i.jl];exact Gh.id_at _ _
def LRow(G:Gh)(h:Array Obj)(sv:Vu)(vs:List Vl):Prop:=
 (vs=[]/\∃a cap,sv=.slice a 0 cap)\/
 ∃g o cap arr,sv=.slice (some ⟨g,o,Option.none⟩) vs.length cap/\vs≠[]/\vs.length<=cap/\vs.length<=1000000/\h[g]? =some (.cells arr 116 (0,0))/\g∉G.mut/\G.I g=Option.none/\¬G.F g/\∀i v,vs[i]? =some v->∃x,arr[o+i]? =some x/\VRep G v x
theorem Inv.fix(i:Inv G S m w){o:Obj}(l:g∉G.mut/\¬G.F g)(n:G.I g=Option.none)(p:w.heap[g]? =some o):Inv (G.add g o) S m w:=by
 have q:=l.1;have h:=Gh.le_add (o:=o) n;refine⟨?_,i.nd,?_,i.ml,i.st,i.ce,i.sl,i.cl,?_,i.mp,?_,i.gd,i.gk,?_,i.el,i.jl,i.jn,?_,i.fo,i.ff,i.fm,fun {b} f=>(if_neg (λe:b=g=>l.2 (e▸f))).trans (i.fi f)⟩
 ·intro b x f;have f:(if b=g then some o else G.I b)=some x:=f;by_cases e:b=g
  ·subst e;rw[if_pos rfl]at f;cases f;exact p
  ·rw[if_neg e]at f;exact i.imm f
 ·intro b f;show(if b=g then some o else G.I b)=Option.none;rw[if_neg (λe:b=g=>q (e▸f))];exact i.mi f
 ·obtain⟨r,t,a,c⟩:=i.ma;exact⟨r,t,a,c.mono h⟩
 ·intro s c u;obtain⟨x,a,k⟩:=i.gl u;exact⟨x,a,k.mono h⟩
 ·intro j vs e v;obtain⟨fb,y,pf,a,c,d,k⟩:=i.en v;exact⟨fb,y,pf,a,h.I c,d.mono h,k.mono h λ_ _ _ _ _=>rfl⟩
 ·intro b f;obtain⟨x,z⟩:=i.ji f;exact⟨x,h.I z⟩
def Gh.env(G:Gh)(fb:Nat)(sv:Vu):Gh:={G with E:=G.E++[(fb,sv)]}
theorem Gh.le_env(G:Gh)(fb:Nat)(a:Vu):G.le (G.env fb a):=⟨_root_.id,_root_.id,fun {i c} h=>by
 show(G.E++[(fb,a)])[i]? =some c;rw[eA (eL.1 h).1];exact h,_root_.id,rfl,rfl,rfl,rfl,rfl,rfl⟩
theorem Inv.pushEnv(i:Inv G S m w){sv:Vu}{e:Option Nat}(P:G.I fb=some (.cells #[sv,.pointer pf] 461 (0,0)))(Q:NRep G e pf)(M:LRow G w.heap sv vs):
  Inv (G.env fb sv) S {m with envs:=m.envs++[(vs,e)]} w:=by
 have h:=G.le_env fb sv;have p:(G.env fb sv).rows=G.rows++qex sv:=by
  unfold Gh.rows;show(G.E++[(fb,sv)]).flatMap _=_;rw[List.flatMap_append];simp
 have f:(G.env fb sv).mut=G.mut++qex sv:=by
  unfold Gh.mut;rw[p];simp[Gh.env]
 have l:∀b,b∈qex sv->b∉G.mut/\G.I b=Option.none/\b<w.heap.size/\¬G.F b:=by
  rcases M with⟨rfl,a,cap,rfl⟩|⟨g,o,cap,t,rfl,hne,_,_,u,N,O,y,_⟩
  ·intro b hb;cases a <;> simp[qex]at hb
  ·obtain⟨v,r,rfl⟩:=List.exists_cons_of_ne_nil hne;intro b hb;have hb:b∈[g]:=hb;simp at hb;subst hb;exact⟨N,O,(eE.1 u).1,y⟩
 have A:(qex sv).Nodup:=by
  unfold qex;split <;> simp
 refine⟨i.imm,?_,?_,?_,i.st,i.ce,i.sl,i.cl,?_,i.mp,?_,i.gd,i.gk,?_,?_,i.jl,i.jn,i.ji,i.fo,i.ff,?_,i.fi⟩
 ·rw[f,List.nodup_append];exact⟨i.nd,A,λa R b hb e=>(l b hb).1 (e▸R)⟩
 ·intro b hb;rw[f]at hb;rcases List.mem_append.1 hb with hb|hb
  ·exact i.mi hb
  ·exact(l b hb).2.1
 ·intro b hb;rw[f]at hb;rcases List.mem_append.1 hb with hb|hb
  ·exact i.ml hb
  ·exact(l b hb).2.2.1
 ·obtain⟨T,U,a,c⟩:=i.ma;exact⟨T,U,a,c.mono h⟩
 ·intro s c V;obtain⟨x,a,k⟩:=i.gl V;exact⟨x,a,k.mono h⟩
 ·intro j B C n;by_cases D:j<m.envs.length
  ·have n:(m.envs++[(vs,e)])[j]? =some (B,C):=n;rw[eA D]at n;obtain⟨H,J,K,a,c,d,k⟩:=i.en n;exact⟨H,J,K,h.E a,c,d.mono h,k.mono h λ_ _ _ _ _=>rfl⟩
  ·have n:(m.envs++[(vs,e)])[j]? =some (B,C):=n;rw[eB (by omega)]at n;obtain⟨L,n⟩:j-m.envs.length=0/\(vs,e)=(B,C):=by
    rcases hz:j-m.envs.length with _|z
    ·rw[hz]at n;exact⟨rfl,by simpa using n⟩
    ·rw[hz]at n;simp at n
   cases n;refine⟨fb,sv,pf,?_,P,Q.mono h,?_⟩
   ·show(G.E++[(fb,sv)])[j]? =some (fb,sv);rw[eB (by rw[i.el];omega),i.el,L];rfl
   ·rcases M with⟨rfl,a,cap,rfl⟩|⟨g,o,cap,t,rfl,hne,_,_,u,N,O,_,W⟩
    ·exact .inl ⟨rfl,a,cap,rfl⟩
    ·exact .inr ⟨g,o,cap,t,rfl,hne,u,λq v X=>by obtain⟨x,e1,e2⟩:=W q v X;exact⟨x,e1,e2.mono h⟩⟩
 ·show(G.E++[(fb,sv)]).length=(m.envs++[(vs,e)]).length;simp[i.el]
 ·intro b hb;rw[f]at hb;rcases List.mem_append.1 hb with hb|hb
  ·exact i.fm hb
  ·exact(l b hb).2.2.2
end
end
section
theorem qal{P:Program}{id:Nat}{Q:Exit->Act->Wd->Prop}{a:Act}{l:List Oper}(n:Nat)(b:P.follows .mixedOrders=true)(c:Region.lexTailB .any l.toArray n=true)
  (h:wpStill P l.toArray w.drew (λd=>wpList P l.toArray Q (l.drop n) d w.drew) (l.take n) a):(Code.region id l.toArray true).wp P Q a w:=wp_region_still_tail n b c h
theorem qsq(d:Nat)(t:Nat)(v:Vu)(w:Wd):(Op.equalIn (d+1) 116 (.iface t v) .nilIface).run prog w=.ok false w:=by
 simp[Op.equalIn,run_underlying underlying116]
theorem qv1(t:Nat)(v:Vu)(w:Wd):(binOp .neq 116 (.iface t v) .nilIface).run prog w=.ok (.bool true) w:=by
 have e:(Op.equal 116 (.iface t v) .nilIface).run prog w=.ok false w:=qsq 9999 t v w;simp[binOp,e]
theorem qsp(d:Nat)(w:Wd):(Op.equalIn (d+1) 116 .nilIface .nilIface).run prog w=.ok true w:=by
 simp[Op.equalIn,run_underlying underlying116]
theorem qv0(w:Wd):(binOp .neq 116 .nilIface .nilIface).run prog w=.ok (.bool false) w:=by
 have e:(Op.equal 116 .nilIface .nilIface).run prog w=.ok true w:=qsp 9999 w;simp[binOp,e]
theorem qp0(b t:Nat)(v:Vu)(w:Wd)(h:w.cell? ⟨b,0,none⟩=some (.iface t v)):Calls prog 369 #[.pointer (some ⟨b,0,none⟩)] w λe w'=>e=.returned (.tuple #[])/\w'=w:=by
 have c:∀w,(binOp BinOp.neq 116 (.iface t v) .nilIface).run prog w=.ok (.bool true) w:=λw=>qv1 _ _ w
 go_enter func369,ntmps369
 go_wp2_with (go_at_call 273;refine(qc8 _ _).mono ?_;rintro e w2 ⟨rfl,a⟩;obtain rfl:=a.symm)
 go_end0;exact⟨rfl,rfl⟩
theorem qmr(b:Nat)(w:Wd)(h:w.cell? ⟨b,0,none⟩=some .nilIface):Calls prog 369 #[.pointer (some ⟨b,0,none⟩)] w λe w'=>e=.panicked (qan (qap 5))/\∃o,w'=w.alloc o:=by
 have a:∀w,(binOp BinOp.neq 116 .nilIface .nilIface).run prog w=.ok (.bool false) w:=λw=>qv0 w
 go_enter func369,ntmps369
 go_wp2_with (go_at_call 273;refine(qc9 _ _).mono ?_;rintro e w2 ⟨rfl,o,rfl⟩)
 exact⟨rfl,rfl,o,rfl⟩
theorem qqn(q b t:Nat)(v:Vu)(pf:OA)(k:Nat)(d:Array Vu)(w:Wd)(Q:En->Wd->Prop)
  (n:∀args w,(callFunc k args).run prog w=.ok (.enter k args) w)
  (f:∀e w,Q e w->(∃v,e=.returned v)\/(∃g,e=.panicked g))
  (o:w.cell? ⟨q,0,none⟩=some (.pointer (some ⟨b,0,none⟩)))(j:w.cell? ⟨b,0,none⟩=some (.iface t v))
  (i:∀w',Lk w w'->Calls prog k (#[.iface t v]++d) w' Q):
  Calls prog 368 #[.pointer pf,.func (.func k) #[] d,.pointer (some ⟨q,0,none⟩)] w Q:=by
 have l:=hZ i;have m:=hZ f;clear i f;go_enter func368,ntmps368
 go_wp2_with (go_at_call 369;refine(qp0 _ _ _ _ j).mono ?_;rintro e w2 ⟨rfl,a⟩;obtain rfl:=a.symm)
 go_wp2_with (go_at_fn k;refine(l.out _ (by exact⟨rfl,rfl,rfl,rfl⟩)).mono ?_;intro e w2 c)
 all_goals first|exact c|exact⟨rfl,c⟩|(rcases m.out _ _ c with⟨v,h⟩|⟨g,h⟩ <;> cases h)
theorem qna(q b:Nat)(pf:OA)(k:Nat)(a:Array Vu)(w:Wd)
  (d:w.cell? ⟨q,0,none⟩=some (.pointer (some ⟨b,0,none⟩)))(c:w.cell? ⟨b,0,none⟩=some .nilIface):
  Calls prog 368 #[.pointer pf,.func (.func k) #[] a,.pointer (some ⟨q,0,none⟩)] w λe w'=>e=.panicked (qan (qap 5))/\∃o,w'=w.alloc o:=by
 go_enter func368,ntmps368
 go_wp2_with (go_at_call 369;refine(qmr _ _ c).mono ?_;rintro e w2 ⟨rfl,o,rfl⟩)
 exact⟨rfl,rfl,o,rfl⟩
theorem qvh(w:Wd):Calls prog 413 #[.pointer none] w λe w'=>e=.returned (.int .i64 0)/\w'=w:=by
 go_enter func413,ntmps413
 go_wp2;go_ret;exact⟨rfl,rfl⟩
theorem qrt(b:Nat)(n:Int)(w:Wd)(h:w.cell? ⟨b,2,none⟩=some (.int .i64 n)):Calls prog 413 #[.pointer (some ⟨b,0,none⟩)] w λe w'=>e=.returned (.int .i64 n)/\w'=w:=by
 go_enter func413,ntmps413
 go_wp2;go_ret;exact⟨rfl,rfl⟩
def qq7(w:Wd)(p:OA)(n:Int):Prop:=(p=none/\n=0)\/∃b,p=some ⟨b,0,none⟩/\w.cell? ⟨b,2,none⟩=some (.int .i64 n)
theorem qn3(p:OA)(n:Int)(w:Wd)(h:qq7 w p n):Calls prog 413 #[.pointer p] w λe w'=>e=.returned (.int .i64 n)/\w'=w:=by
 rcases h with⟨rfl,rfl⟩|⟨b,rfl,h⟩
 ·exact qvh w
 ·exact qrt b n w h
theorem quz(p:OA)(n:Int)(t:Nat)(v:Vu)(w:Wd)(h:qq7 w p n)(c:0<=n)(d:n<=1000000):
  Calls prog 397 #[.pointer p,.iface t v] w λe w'=>e=.returned (.pointer (some ⟨w.heap.size,0,none⟩))/\w'=w.alloc (.cells #[.iface t v,.pointer p,.int .i64 (n+1)] 485):=by
 have b:=hZ (qn3 p n w h);clear h;go_enter func397,ntmps397
 go_wp2_with (go_at_call 413;refine b.out.mono ?_;rintro e w2 ⟨rfl,a⟩;obtain rfl:=a.symm)
 go_wp2;go_ret;exact⟨rfl,rfl⟩
end
section
def tl1(g o cap:Nat):OA:=if cap=1 then some ⟨g,o,none⟩else some ⟨g,o+1,none⟩
theorem qvd(g o n cap:Nat)(_:n+1<=cap)(w:Wd):(Instr.slice 184 (.slice (some ⟨g,o,none⟩) (n+1) cap) (some (.int .i64 1)) none none).run prog w=.ok (.slice (tl1 g o cap) n (cap-1)) w:=by
 have a:(1:Int)<=((n+1:Nat):Int):=by omega
 simp[Instr.slice,Instr.sliceBounds,run_underlying underlying184,go_sem,tl1];intro h;omega
theorem qn1(g o n cap:Nat)(_:n+1<=cap)(w:Wd):(Instr.slice 426 (.slice (some ⟨g,o,none⟩) (n+1) cap) (some (.int .i64 1)) none none).run prog w=.ok (.slice (tl1 g o cap) n (cap-1)) w:=by
 have a:(1:Int)<=((n+1:Nat):Int):=by omega
 simp[Instr.slice,Instr.sliceBounds,run_underlying underlying426,go_sem,tl1];intro h;omega
theorem qhl(mb g o n cap k:Nat)(a:Array Vu)(pf j:OA)(l:Nat)(m:Array Vu)(w:Wd)(Q:En->Wd->Prop)
  (y:∀args w,(callFunc k args).run prog w=.ok (.enter k args) w)
  (p:∀e w,Q e w->(∃v,e=.returned v)\/(∃q,e=.panicked q))
  (r:w.cell? ⟨g,o,none⟩=some (.func (.func k) #[] a))
  (s:∀w',Lk (((((w.alloc (.cells #[.pointer (some ⟨mb,0,none⟩)] 107)).alloc (.cells #[.slice (some ⟨g,o,none⟩) (n+1) cap] 426)).alloc (.cells #[.pointer pf] 378)).alloc (.cells #[.pointer j] 470)).alloc (.cells #[.func (.func l) #[] m] 450)) w'->
   Calls prog k (#[.pointer pf,.func (.func 396) #[] #[.pointer (some ⟨w.heap.size,0,none⟩),.pointer (some ⟨w.heap.size+1,0,none⟩),.pointer (some ⟨w.heap.size+2,0,none⟩),.pointer (some ⟨w.heap.size+3,0,none⟩),.pointer (some ⟨w.heap.size+4,0,none⟩)]]++a) w' Q):
  Calls prog 371 #[.pointer (some ⟨mb,0,none⟩),.slice (some ⟨g,o,none⟩) (n+1) cap,.pointer pf,.pointer j,.func (.func l) #[] m] w Q:=by
 have u:=hZ s;have x:=hZ p;have kc:∀b o2 c d f:Obj,(((((w.alloc b).alloc o2).alloc c).alloc d).alloc f).cell? ⟨g,o,none⟩=some (.func (.func k) #[] a):=λb o2 c d f=>by
  rw[<-r];exact qnn (qae r) b o2 c d f
 have z:(((n+1:Nat):Int)==0)=false:=by simp;omega
 have t:(0:Int)<(n:Int)+1:=by omega
 clear s p;go_enter func371,ntmps371
 go_wp2;refine qal 5 (by kernel_rfl) (by kernel_rfl) ?_;simp only[List.take_succ_cons,List.take_zero,List.drop_succ_cons,List.drop_zero];repeat still_step
 refine wpStill_nil ?_;go_wp2_with (go_at_fn k;refine(u.out _ (by exact⟨rfl,rfl,rfl,rfl⟩)).mono ?_;intro e w2 i)
 all_goals first|exact i|exact⟨rfl,i⟩|(rcases x.out _ _ i with⟨v,h⟩|⟨q,h⟩ <;> cases h)
theorem q6m(q1 q2 mb g o n cap t b:Nat)(v:Vu)(c:Array Vu)(w:Wd)(Q:En->Wd->Prop)
  (d:∀e w,Q e w->(∃v,e=.returned v)\/(∃f,e=.panicked f))
  (q:w.cell? ⟨q1,0,none⟩=some (.pointer (some ⟨mb,0,none⟩)))(r:w.cell? ⟨q2,0,none⟩=some (.func (.func b) #[] c))
  (s:w.cell? ⟨g,o,none⟩=some (.iface t v))(k:n+1<=cap)(u:n+1<=1000000)
  (i:∀w',Lk w w'->Calls prog 283 #[.pointer (some ⟨mb,0,none⟩),.iface t v,.slice (tl1 g o cap) n (cap-1),.func (.func b) #[] c] w' Q):
  Calls prog 372 #[.slice (some ⟨g,o,none⟩) (n+1) cap,.pointer (some ⟨q1,0,none⟩),.pointer (some ⟨q2,0,none⟩)] w Q:=by
 have l:=hZ i;have m:=hZ d;have j:(0:Int)<(n:Int)+1:=by omega
 have p:∀w,(Instr.slice 184 (.slice (some ⟨g,o,none⟩) (n+1) cap) (some (.int .i64 1)) none none).run prog w=.ok (.slice (tl1 g o cap) n (cap-1)) w:=λw=>qvd g o n cap k w
 clear i d;go_enter func372,ntmps372
 go_wp2;refine qal 7 (by kernel_rfl) (by kernel_rfl) ?_;simp only[List.take_succ_cons,List.take_zero,List.drop_succ_cons,List.drop_zero];repeat still_step
 refine wpStill_nil ?_;go_wp2_with (go_at_call 283;refine(l.out _ (by exact⟨rfl,rfl,rfl,rfl⟩)).mono ?_;intro e w2 a)
 all_goals first|exact a|exact⟨rfl,a⟩|(rcases m.out _ _ a with⟨v,h⟩|⟨f,h⟩ <;> cases h)
theorem qx6(q1 q2 q3 b k:Nat)(c:Array Vu)(sa:OA)(d sc f:Nat)(g:Array Vu)(w:Wd)(Q:En->Wd->Prop)
  (o:∀args w,(callFunc k args).run prog w=.ok (.enter k args) w)
  (i:∀e w,Q e w->(∃v,e=.returned v)\/(∃j,e=.panicked j))
  (p:w.cell? ⟨q1,0,none⟩=some (.pointer (some ⟨b,0,none⟩)))(q:w.cell? ⟨b,0,none⟩=some (.func (.func k) #[] c))(r:w.cell? ⟨q2,0,none⟩=some (.slice sa d sc))(s:w.cell? ⟨q3,0,none⟩=some (.func (.func f) #[] g))
  (l:∀w',Lk w w'->Calls prog k (#[.slice sa d sc,.func (.func f) #[] g]++c) w' Q):
  Calls prog 311 #[.pointer (some ⟨q1,0,none⟩),.pointer (some ⟨q2,0,none⟩),.pointer (some ⟨q3,0,none⟩)] w Q:=by
 have m:=hZ l;have n:=hZ i;clear l i;go_enter func311,ntmps311
 go_wp2;refine qal 6 (by kernel_rfl) (by kernel_rfl) ?_;simp only[List.take_succ_cons,List.take_zero,List.drop_succ_cons,List.drop_zero];repeat still_step
 refine wpStill_nil ?_;go_wp2_with (go_at_fn k;refine(m.out _ (by exact⟨rfl,rfl,rfl,rfl⟩)).mono ?_;intro e w2 a)
 all_goals first|exact a|exact⟨rfl,a⟩|(rcases n.out _ _ a with⟨v,h⟩|⟨j,h⟩ <;> cases h)
theorem q0t(q1 q2 q3 d f mb g o n cap t i:Nat)(v:Vu)(pf a:OA)(c:Int)(j:Array Vu)(w:Wd)(Q:En->Wd->Prop)
  (m:∀e w,Q e w->(∃v,e=.returned v)\/(∃p,e=.panicked p))
  (q:w.cell? ⟨q1,0,none⟩=some (.pointer (some ⟨mb,0,none⟩)))(r:w.cell? ⟨q2,0,none⟩=some (.slice (some ⟨g,o,none⟩) (n+1) cap))(s:w.cell? ⟨q3,0,none⟩=some (.pointer pf))
  (u:∀v w',Q (.returned v) w'->w'.cell? ⟨q1,0,none⟩=some (.pointer (some ⟨mb,0,none⟩))/\w'.cell? ⟨q2,0,none⟩=some (.slice (some ⟨g,o,none⟩) (n+1) cap)/\w'.cell? ⟨q3,0,none⟩=some (.pointer pf)/\w'.cell? ⟨d,0,none⟩=some (.pointer a)/\w'.cell? ⟨f,0,none⟩=some (.func (.func i) #[] j))
  (y:w.cell? ⟨d,0,none⟩=some (.pointer a))(z:w.cell? ⟨f,0,none⟩=some (.func (.func i) #[] j))(A:qq7 w a c)(I:0<=c)(l:c<=1000000)(J:n+1<=cap)(R:n+1<=1000000)
  (B:∀w',Lk (w.alloc (.cells #[.iface t v,.pointer a,.int .i64 (c+1)] 485)) w'->Calls prog 371 #[.pointer (some ⟨mb,0,none⟩),.slice (tl1 g o cap) n (cap-1),.pointer pf,.pointer (some ⟨w.heap.size,0,none⟩),.func (.func i) #[] j] w' Q):
  Calls prog 396 #[.iface t v,.pointer (some ⟨q1,0,none⟩),.pointer (some ⟨q2,0,none⟩),.pointer (some ⟨q3,0,none⟩),.pointer (some ⟨d,0,none⟩),.pointer (some ⟨f,0,none⟩)] w Q:=by
 have K:=hZ B;have L:=hZ m;have C:(0:Int)<(n:Int)+1:=by omega
 have M:∀w,(Instr.slice 426 (.slice (some ⟨g,o,none⟩) (n+1) cap) (some (.int .i64 1)) none none).run prog w=.ok (.slice (tl1 g o cap) n (cap-1)) w:=λw=>qn1 g o n cap J w
 have N:=hZ u;have O:Hid (∀w',Lk w w'->qq7 w' a c):=λw' P=>by
  rcases A with h|⟨b,e1,e2⟩
  ·exact .inl h
  ·exact .inr ⟨b,e1,by rw[World.cell?,P.heap];exact e2⟩
 have D:=qae q;have E:=qae r;have F:=qae s;have G:=qae y;have H:=qae z;have S:∀o:Obj,(w.alloc o).cell? ⟨f,0,none⟩=some (.func (.func i) #[] j):=λo=>(qac H o).trans z
 have T:∀o:Obj,(w.alloc o).cell? ⟨q1,0,none⟩=some (.pointer (some ⟨mb,0,none⟩)):=λo=>(qac D o).trans q
 have U:∀x:Obj,(w.alloc x).cell? ⟨q2,0,none⟩=some (.slice (some ⟨g,o,none⟩) (n+1) cap):=λx=>(qac E x).trans r
 have V:∀o:Obj,(w.alloc o).cell? ⟨q3,0,none⟩=some (.pointer pf):=λo=>(qac F o).trans s
 have W:∀o:Obj,(w.alloc o).cell? ⟨d,0,none⟩=some (.pointer a):=λo=>(qac G o).trans y
 clear B m u A D E F G H;go_enter func396,ntmps396
 go_wp2;go_region_held2 (λw'=>w'.cell? ⟨q1,0,none⟩=some (.pointer (some ⟨mb,0,none⟩))/\w'.cell? ⟨q2,0,none⟩=some (.slice (some ⟨g,o,none⟩) (n+1) cap)/\w'.cell? ⟨q3,0,none⟩=some (.pointer pf)/\w'.cell? ⟨d,0,none⟩=some (.pointer a)/\w'.cell? ⟨f,0,none⟩=some (.func (.func i) #[] j)) (first|(exact N.out _ _ k)|go_keep)
  (first|(go_at_call 397;refine(quz a c t v _ (O.out _ (by exact⟨rfl,rfl,rfl,rfl⟩)) I l).mono ?_;rintro e w2 ⟨rfl,rfl⟩)|(go_at_call 371;refine(K.out _ (by exact⟨rfl,rfl,rfl,rfl⟩)).mono ?_;intro e w2 k;rcases L.out _ _ k with⟨v,rfl⟩|⟨p,rfl⟩;rotate_left;(exact⟨rfl,k⟩)))
 go_wp2;exact k
end
section
theorem qh6(A:Array Vu)(t i:Nat)(v:Vu):((w.alloc (.cells A t)).setCell ⟨w.heap.size,i,none⟩ v).heap=(w.alloc (.cells (A.setIfInBounds i v) t)).heap:=by
 apply Array.ext_getElem?;intro c;by_cases h:c=w.heap.size
 ·subst h;rw[eN];show((w.alloc (.cells A t)).heap.modify w.heap.size _)[w.heap.size]? =_;rw[Array.getElem?_modify,if_pos rfl,eN];simp
 ·rw[qab (a:=⟨w.heap.size,i,none⟩) c h];rcases Nat.lt_or_ge c w.heap.size with h1|h1
  ·rw[eH _ _ _ h1,eH _ _ _ h1]
  ·rw[Array.getElem?_eq_none (by simp;omega),Array.getElem?_eq_none (by simp;omega)]
def Chn(w:Wd):List Vu->Option Addr->Prop
 | [],p=>p=none
 |x::r,p=>∃b q,p=some ⟨b,0,none⟩/\w.heap[b]? =some (.cells #[x,.pointer q,.int .i64 ((r.length:Int)+1)] 485 (0,0))/\Chn w r q
theorem qm8:(prog.info? 116).map (λi=>(i.zero,i.size,i.bytes))=some (some .nilIface,1,16):=by kernel_rfl
def qme(xs:List Vu)(k:Nat):Array Vu:=(List.replicate k Value.nilIface++xs.reverse.drop k).toArray
theorem qvq(pre:List Vu)(y:Vu)(a:List Vu):(qme (pre++y::a) (a.length+1)).setIfInBounds a.length y=qme (pre++y::a) a.length:=by
 unfold qme;apply Array.ext_getElem?;intro i;simp only[List.setIfInBounds_toArray,List.getElem?_toArray];have c:(pre++y::a).reverse=a.reverse++(y::pre.reverse):=by simp
 have b:(a.reverse++y::pre.reverse).drop a.length=y::pre.reverse:=by
  rw[show a.length=a.reverse.length from by simp,List.drop_left]
 have e:(a.reverse++y::pre.reverse).drop (a.length+1)=pre.reverse:=by
  rw[<-List.drop_drop,b];rfl
 rw[c,b,e];simp only[List.getElem?_set,List.length_append,List.length_replicate];by_cases h:a.length=i
 ·subst h;rw[if_pos rfl,if_pos (by omega),eB (by simp)];simp
 ·rw[if_neg h];rcases Nat.lt_or_ge i a.length with h2|h2
  ·rw[eA (by simp;omega),eA (by simp;omega)];simp only[List.getElem?_replicate];rw[if_pos (by omega),if_pos h2]
  ·rw[eB (by simp;omega),eB (by simp;omega)];simp only[List.length_replicate];obtain⟨d,rfl⟩:∃d,i=a.length+1+d:=⟨i-a.length-1,by omega⟩;rw[show a.length+1+d-(a.length+1)=d from by omega,show a.length+1+d-a.length=d+1 from by omega];simp
theorem qv6(n:Nat):madeCells #[.nilIface] n=(List.replicate n Value.nilIface).toArray:=by
 apply Array.ext_getElem?;intro i;rcases Nat.lt_or_ge i n with h|h
 ·simp[madeCells,h,Nat.mod_one]
 ·rw[Array.getElem?_eq_none (by simp[madeCells];omega),Array.getElem?_eq_none (by simp;omega)]
def qud(w:Wd):Vu->Nat
 | .pointer (some a)=>match w.cell? ⟨a.block,2,none⟩with
  |some (.int _ n)=>n.toNat
  |_=>0
 |_=>0
theorem qpd(xs:List Vu)(p:OA)(w:Wd)(h:Chn w xs p)(E:∀x∈xs,∃t v,x=.iface t v)(u:0<xs.length)(R:xs.length<=100000):
  Calls prog 395 #[.pointer p] w λe w'=>e=.returned (.slice (some ⟨w.heap.size,0,none⟩) xs.length xs.length)/\Lk (w.alloc (.cells xs.reverse.toArray 116)) w':=by
 have F:qq7 w p (xs.length:Int):=by
  cases xs with
  |nil=>simp at u
  |cons x r=>
   obtain⟨b,q,rfl,f,_⟩:=h;exact .inr ⟨b,rfl,by simp[World.cell?,f]⟩
 have I:=hZ (qn3 p (xs.length:Int) w F);have J:=hZ h;have K:=hZ E;have S:=hZ u;have L:∀w:Wd,(Instr.makeSlice 184 (.int .i64 (xs.length:Int)) (.int .i64 (xs.length:Int))).run prog w=.ok (.slice (some ⟨w.heap.size,0,none⟩) xs.length xs.length) (w.alloc (.cells (madeCells #[.nilIface] xs.length) 116)):=
  λw=>run_make_row' 184 116 .nilIface 16 underlying184 qm8 rfl .i64 .i64 xs.length (by omega) (by omega) w
 clear h E F u;go_enter func395,ntmps395
 go_wp2_with (go_at_call 413;refine I.out.mono ?_;rintro e w2 ⟨rfl,A⟩;obtain rfl:=A.symm)
 go_wp2;go_loopw [0] (λg wr=>∃pre i q,xs=pre++i/\g=.pointer q/\Chn w i q/\Lk (w.alloc (.cells (qme xs i.length) 116)) wr) (λg _=>qud w g)
 case atStart=>
  refine⟨[],xs,p,rfl,rfl,J.out,⟨?_,rfl,rfl,rfl⟩⟩;show(w.alloc (.cells (madeCells #[.nilIface] xs.length) 116)).heap=(w.alloc (.cells (qme xs xs.length) 116)).heap;rw[qv6];have:(qme xs xs.length)=(List.replicate xs.length Value.nilIface).toArray:=by
   unfold qme;rw[show xs.length=xs.reverse.length from by simp,List.drop_length];simp
  rw[this]
 case round=>
  obtain⟨pre,i,q,a,rfl,G,j⟩:=hrel;have k:=hZ a;have l:=hZ j;cases i with
  |nil=>
   obtain rfl:q=none:=G;clear a j;go_wp2;go_ret;refine⟨rfl,?_⟩;have:=l.out;have M:qme xs ([]:List Vu).length=xs.reverse.toArray:=by simp[qme]
   rw[M]at this;exact this
  |cons y r=>
   obtain⟨b,m,rfl,f,H⟩:=G;have N:=hZ f;have B:=hZ H;have n:b<w.heap.size:=(eE.1 f).1;have d:wr.heap[b]? =some (.cells #[y,.pointer m,.int .i64 ((r.length:Int)+1)] 485 (0,0)):=by
    rw[j.heap,eH _ _ _ n];exact f
   have c0:wr.cell? ⟨b,0,none⟩=some y:=by simp[World.cell?,d]
   have c1:wr.cell? ⟨b,1,none⟩=some (.pointer m):=by simp[World.cell?,d]
   have c2:wr.cell? ⟨b,2,none⟩=some (.int .i64 ((r.length:Int)+1)):=by simp[World.cell?,d]
   have o:xs.length=pre.length+(r.length+1):=by rw[a];simp
   have c:wr.heap[w.heap.size]? =some (.cells (qme xs (r.length+1)) 116 (0,0)):=by
    rw[j.heap];exact eN _ _
   have C:(qme xs (r.length+1)).size=xs.length:=by simp[qme];omega
   obtain⟨z,T⟩:∃z,wr.cell? ⟨w.heap.size,r.length,none⟩=some z:=by
    have O:r.length<(qme xs (r.length+1)).size:=by omega
    exact⟨(qme xs (r.length+1))[r.length],by simp only[World.cell?,c];simp[O]⟩
   have U:wr.frozen? ⟨w.heap.size,r.length,none⟩=false:=by simp[World.frozen?,c]
   have P:(r.length:Int)<(xs.length:Int):=by omega
   have Q:r.length<=100000:=by omega
   obtain⟨ty,s,rfl⟩:=K.out y (by rw[a];simp);have V:∀v,(wr.setCell ⟨w.heap.size,r.length,none⟩ v).cell? ⟨b,1,none⟩=some (.pointer m):=λv=>by
    rw[qbk (by show b≠w.heap.size;omega)];exact c1
   clear f H a j n d c C o;go_wp2;go_region
   all_goals(go_wp2;go_roundw)
   case rel=>
    refine⟨pre++[.iface ty s],r,m,by rw[k.out];simp,rfl,B.out,⟨?_,l.out.tape,l.out.os,l.out.output⟩⟩;show(wr.setCell ⟨w.heap.size,r.length,none⟩ (.iface ty s)).heap=_;have e1:(wr.setCell ⟨w.heap.size,r.length,none⟩ (.iface ty s)).heap=((w.alloc (.cells (qme xs (r.length+1)) 116)).setCell ⟨w.heap.size,r.length,none⟩ (.iface ty s)).heap:=by
     simp only[World.setCell];rw[l.out.heap];rfl
    rw[e1,qh6];have e2:=qvq pre (.iface ty s) r;rw[<-k.out]at e2;rw[e2]
   case measure=>
    have e1:qud w (.pointer (some ⟨b,0,none⟩))=r.length+1:=by
     simp only[qud,World.cell?,N.out];simp
    rw[e1];cases r with
    |nil=>obtain rfl:m=none:=B.out;simp[qud]
    |cons W X=>
     obtain⟨Y,q2,rfl,D,_⟩:=B.out;simp only[qud,World.cell?,D];simp
theorem qoh(c:Array Vu)(t o n:Nat)(h:w.heap.size=n):(w.alloc (.cells c t)).cell? ⟨n,o,none⟩=c[o]?:=by
 subst h;simp only[World.cell?,eN];simp
theorem qaw(h:Lk W w)(p:Addr):w.cell? p=W.cell? p:=by simp only[World.cell?,h.heap]
theorem qqo(mb k:Nat)(c:Array Vu)(a pf pd:OA)(cap:Nat)(xs:List Vu)(w:Wd)(Q:En->Wd->Prop)
  (J:∀args w,(callFunc k args).run prog w=.ok (.enter k args) w)
  (n:∀e w,Q e w->(∃v,e=.returned v)\/(∃o,e=.panicked o))
  (g:∀v w',Q (.returned v) w'->w'.cell? ⟨w.heap.size+4,0,none⟩=some (.func (.func k) #[] c)/\w'.cell? ⟨w.heap.size+3,0,none⟩=some (.pointer pd))
  (h:Chn w xs pd)(i:∀x∈xs,∃t v,x=.iface t v)(p:0<xs.length)(s:xs.length<=100000)
  (j:∀w',Lk ((((((w.alloc (.cells #[.pointer (some ⟨mb,0,none⟩)] 107)).alloc (.cells #[.slice a 0 cap] 426)).alloc (.cells #[.pointer pf] 378)).alloc (.cells #[.pointer pd] 470)).alloc (.cells #[.func (.func k) #[] c] 450)).alloc (.cells xs.reverse.toArray 116)) w'->
   Calls prog k (#[.slice (some ⟨w.heap.size+5,0,none⟩) xs.length xs.length]++c) w' Q):
  Calls prog 371 #[.pointer (some ⟨mb,0,none⟩),.slice a 0 cap,.pointer pf,.pointer pd,.func (.func k) #[] c] w Q:=by
 have u:=hZ j;have A:=hZ n;have y:=hZ g;have B:Hid (∀w',Lk (((((w.alloc (.cells #[.pointer (some ⟨mb,0,none⟩)] 107)).alloc (.cells #[.slice a 0 cap] 426)).alloc (.cells #[.pointer pf] 378)).alloc (.cells #[.pointer pd] 470)).alloc (.cells #[.func (.func k) #[] c] 450)) w'->Calls prog 395 #[.pointer pd] w' λe w2=>e=.returned (.slice (some ⟨w.heap.size+5,0,none⟩) xs.length xs.length)/\Lk (w'.alloc (.cells xs.reverse.toArray 116)) w2):=λw' l=>by
  have C:Chn w' xs pd:=by
   have m:∀b,b<w.heap.size->w'.heap[b]? =w.heap[b]?:=λb m=>by
    rw[l.heap,eH _ _ _ (by simp;omega),eH _ _ _ (by simp;omega),eH _ _ _ (by simp;omega),eH _ _ _ (by simp;omega),eH _ _ _ m]
   clear p s j g u y i l;induction xs generalizing pd with
   |nil=>exact h
   |cons x r D=>
    obtain⟨b,q,e1,e2,e3⟩:=h;exact⟨b,q,e1,by rw[m b (eE.1 e2).1];exact e2,D q e3⟩
  have z:=qpd xs pd w' C i p s;have E:w'.heap.size=w.heap.size+5:=by rw[l.heap];simp
  rw[E]at z;exact z
 have F:(((((w.alloc (.cells #[.pointer (some ⟨mb,0,none⟩)] 107)).alloc (.cells #[.slice a 0 cap] 426)).alloc (.cells #[.pointer pf] 378)).alloc (.cells #[.pointer pd] 470)).alloc (.cells #[.func (.func k) #[] c] 450)).cell? ⟨w.heap.size+4,0,none⟩=some (.func (.func k) #[] c):=qoh _ _ _ _ (by simp);have G:(((((w.alloc (.cells #[.pointer (some ⟨mb,0,none⟩)] 107)).alloc (.cells #[.slice a 0 cap] 426)).alloc (.cells #[.pointer pf] 378)).alloc (.cells #[.pointer pd] 470)).alloc (.cells #[.func (.func k) #[] c] 450)).cell? ⟨w.heap.size+3,0,none⟩=some (.pointer pd):=(qac (by simp) _).trans (qoh _ _ _ _ (by simp));have H:((((((w.alloc (.cells #[.pointer (some ⟨mb,0,none⟩)] 107)).alloc (.cells #[.slice a 0 cap] 426)).alloc (.cells #[.pointer pf] 378)).alloc (.cells #[.pointer pd] 470)).alloc (.cells #[.func (.func k) #[] c] 450)).alloc (.cells xs.reverse.toArray 116)).cell? ⟨w.heap.size+4,0,none⟩=some (.func (.func k) #[] c):=(qac (by simp) _).trans F;have I:((((((w.alloc (.cells #[.pointer (some ⟨mb,0,none⟩)] 107)).alloc (.cells #[.slice a 0 cap] 426)).alloc (.cells #[.pointer pf] 378)).alloc (.cells #[.pointer pd] 470)).alloc (.cells #[.func (.func k) #[] c] 450)).alloc (.cells xs.reverse.toArray 116)).cell? ⟨w.heap.size+3,0,none⟩=some (.pointer pd):=(qac (by simp) _).trans G;clear j n g h i;go_enter func371,ntmps371
 go_wp2;go_region_held2 (λw'=>w'.cell? ⟨w.heap.size+4,0,none⟩=some (.func (.func k) #[] c)/\w'.cell? ⟨w.heap.size+3,0,none⟩=some (.pointer pd)) (first|(exact y.out _ _ f)|(exact⟨(qaw d _).trans H,(qaw d _).trans I⟩)|go_keep)
  (first|(go_at_call 395;refine(B.out _ (by exact⟨rfl,rfl,rfl,rfl⟩)).mono ?_;rintro e w2 ⟨rfl,d⟩)|(go_at_fn k;refine(u.out _ (by exact⟨d.heap,d.tape,d.os,d.output⟩)).mono ?_;intro e w3 f;rcases A.out _ _ f with⟨v,rfl⟩|⟨o,rfl⟩;rotate_left;(exact⟨rfl,f⟩)))
 go_wp2;exact f
end
section
theorem qkq(o:Obj)(i:Nat)(v:Vu)(h:b<w.heap.size):((w.alloc o).setCell ⟨b,i,none⟩ v).heap=((w.setCell ⟨b,i,none⟩ v).alloc o).heap:=by
 apply Array.ext_getElem?;intro c;have d:(w.setCell ⟨b,i,none⟩ v).heap.size=w.heap.size:=qag;by_cases e:c=b
 ·subst e;rw[eH _ _ _ (by rw[d];exact h)];show((w.alloc o).heap.modify c _)[c]? =(w.heap.modify c _)[c]?;rw[Array.getElem?_modify,if_pos rfl,Array.getElem?_modify,if_pos rfl,eH _ _ _ h]
 ·rw[qab (a:=⟨b,i,none⟩) c e];rcases Nat.lt_trichotomy c w.heap.size with h1|h1|h1
  ·rw[eH _ _ _ h1,eH _ _ _ (by rw[d];exact h1),qab (a:=⟨b,i,none⟩) c e]
  ·rw[h1,eN,<-d,eN]
  ·rw[Array.getElem?_eq_none (by simp;omega),Array.getElem?_eq_none (by simp[d];omega)]
theorem qxh(mb a b h:Nat)(t mo:Int)(sa:OA)(i sc:Nat)(j:Array Vu)(w:Wd)(l:w.cell? ⟨mb,0,none⟩=some (.pointer (some ⟨a,0,none⟩)))
  (d:Mt a t mo 10 w)(m:0<=t)(o:t+1<=mo)(p:mo<=1000000):
  Calls prog 283 #[.pointer (some ⟨mb,0,none⟩),.iface 281 (.pointer (some ⟨b,0,none⟩)),.slice sa i sc,.func (.func h) #[] j] w λe w'=>
   e=.returned (.func (.func 311) #[] #[.pointer (some ⟨w.heap.size+2,0,none⟩),.pointer (some ⟨w.heap.size,0,none⟩),.pointer (some ⟨w.heap.size+1,0,none⟩)])/\
   Lk ((((w.setCell ⟨a,0,none⟩ (.int .i64 (t+1))).alloc (.cells #[.slice sa i sc] 184)).alloc (.cells #[.func (.func h) #[] j] 295)).alloc (.cells #[.pointer (some ⟨b,0,none⟩)] 281)) w':=by
 have r:∀c o2,((w.alloc c).alloc o2).cell? ⟨mb,0,none⟩=some (.pointer (some ⟨a,0,none⟩)):=λc o2=>(qbw (qae l) c o2).trans l
 have f:=d.lt;have q:Hid (∀c o2,Calls prog 200 #[.pointer (some ⟨a,0,none⟩),.int .i64 1] ((w.alloc c).alloc o2) λe w'=>e=.returned (.tuple #[])/\∃k,w'=(((w.alloc c).alloc o2).setCell ⟨a,0,none⟩ (.int .i64 (t+1))).drewN k):=λc o2=>
  qcl a t mo 10 1 _ (by unfold Mt at*;rw[eH _ _ _ (by simp;omega),eH _ _ _ f];exact d) m o (by omega) p
 have s:∀w,(Instr.typeAssert (.iface 281 (.pointer (some ⟨b,0,none⟩))) 116 281 true).run prog w=.ok (.tuple #[.pointer (some ⟨b,0,none⟩),.bool true]) w:=λw=>q2w _ w
 clear d;go_enter func283,ntmps283
 go_wp2_with (go_at_call 200;refine(q.out _ _).mono ?_;rintro e w2 ⟨rfl,n,rfl⟩)
 go_wp2_with (go_at_call 273;refine(qc8 _ _).mono ?_;rintro e w2 ⟨rfl,g⟩;obtain rfl:=g.symm)
 go_wp2;go_ret;exact⟨by simp,⟨rfl,rfl,rfl,rfl⟩⟩
theorem qul(mb a ty g:Nat)(v:Vu)(t mo:Int)(sa:OA)(h sc:Nat)(i:Array Vu)(w:Wd)(j:w.cell? ⟨mb,0,none⟩=some (.pointer (some ⟨a,0,none⟩)))
  (c:Mt a t mo 10 w)(l:0<=t)(m:t+1<=mo)(p:mo<=1000000)(d:ty≠281):
  Calls prog 283 #[.pointer (some ⟨mb,0,none⟩),.iface ty v,.slice sa h sc,.func (.func g) #[] i] w λe w'=>
   e=.panicked (qan (qap 6))/\Below w.heap.size (w.setCell ⟨a,0,none⟩ (.int .i64 (t+1))) w':=by
 have s:∀b o2,((w.alloc b).alloc o2).cell? ⟨mb,0,none⟩=some (.pointer (some ⟨a,0,none⟩)):=λb o2=>(qbw (qae j) b o2).trans j
 have f:=c.lt;have q:Hid (∀b o2,Calls prog 200 #[.pointer (some ⟨a,0,none⟩),.int .i64 1] ((w.alloc b).alloc o2) λe w'=>e=.returned (.tuple #[])/\∃k,w'=(((w.alloc b).alloc o2).setCell ⟨a,0,none⟩ (.int .i64 (t+1))).drewN k):=λb o2=>
  qcl a t mo 10 1 _ (by unfold Mt at*;rw[eH _ _ _ (by simp;omega),eH _ _ _ f];exact c) l m (by omega) p
 have u:∀w,(Instr.typeAssert (.iface ty v) 116 281 true).run prog w=.ok (.tuple #[.pointer none,.bool false]) w:=λw=>qhj _ _ d w
 clear c;go_enter func283,ntmps283
 go_wp2_with (go_at_call 200;refine(q.out _ _).mono ?_;rintro e w2 ⟨rfl,n,rfl⟩)
 go_wp2_with (go_at_call 273;refine(qc9 _ _).mono ?_;rintro e w2 ⟨rfl,o,rfl⟩)
 refine⟨rfl,rfl,?_⟩;have r:(w.setCell ⟨a,0,none⟩ (.int .i64 (t+1))).heap.size=w.heap.size:=qag;have b1:=(((Below.refl w.heap.size (w.setCell ⟨a,0,none⟩ (.int .i64 (t+1)))).alloc (by rw[r];exact eR _) (.cells #[.slice sa h sc] 184)).alloc (by simp) (.cells #[.func (.func g) #[] i] 295));exact((qhz b1 n).alloc (by simp;omega) _).alloc (by simp;omega) _
theorem quk(mb b k:Nat)(v:Vu)(t:Int)(sa:OA)(l sc:Nat)(m:Array Vu)(w:Wd)(i:w.cell? ⟨mb,0,none⟩=some (.pointer (some ⟨b,0,none⟩)))
  (g:Mt b t t 10 w)(n:0<=t)(o:t<=1000000):
  Calls prog 283 #[.pointer (some ⟨mb,0,none⟩),v,.slice sa l sc,.func (.func k) #[] m] w λe w'=>
   e=.panicked (qan (qap 10))/\Below w.heap.size (w.setCell ⟨b,0,none⟩ (.int .i64 t)) w':=by
 have r:∀d o2,((w.alloc d).alloc o2).cell? ⟨mb,0,none⟩=some (.pointer (some ⟨b,0,none⟩)):=λd o2=>(qbw (qae i) d o2).trans i
 have h:=g.lt;have p:Hid (∀d o2,Calls prog 200 #[.pointer (some ⟨b,0,none⟩),.int .i64 1] ((w.alloc d).alloc o2) λe w'=>e=.panicked (qan (qap 10))/\Below (((w.alloc d).alloc o2)).heap.size (((w.alloc d).alloc o2).setCell ⟨b,0,none⟩ (.int .i64 t)) w'):=λd o2=>
  qb3 b t t 10 1 _ (by unfold Mt at*;rw[eH _ _ _ (by simp;omega),eH _ _ _ h];exact g) n (by omega) (by omega) (by omega) o
 clear g;go_enter func283,ntmps283
 go_wp2_with (go_at_call 200;refine(p.out _ _).mono ?_;rintro e w2 ⟨rfl,f⟩)
 refine⟨rfl,rfl,?_⟩;have q:(w.setCell ⟨b,0,none⟩ (.int .i64 t)).heap.size=w.heap.size:=qag;refine⟨f.os,f.tape,f.output,by rw[q];have:=f.size;simp only[qag]at this;simp at this;omega,λc j=>?_⟩;rw[f.block c (by simp;omega),qkq _ _ _ (by simp;omega),eH _ _ _ (by simp only[qag];simp;omega)];by_cases e:c=b
 ·subst e;show((w.alloc _).heap.modify c _)[c]? =(w.heap.modify c _)[c]?;rw[Array.getElem?_modify,if_pos rfl,Array.getElem?_modify,if_pos rfl,eH _ _ _ j]
 ·rw[qab (a:=⟨b,0,none⟩) c e,qab (a:=⟨b,0,none⟩) c e,eH _ _ _ j]
def q1l(w:Wd):Nat->Option Addr->Nat->Prop
 |0,p,fb=>p=some ⟨fb,0,none⟩
 |n+1,p,fb=>∃b q,p=some ⟨b,0,none⟩/\w.cell? ⟨b,1,none⟩=some (.pointer q)/\q1l w n q fb
theorem qf4(u i fb g o n cap:Nat)(p:OA)(w:Wd)(h:q1l w u p fb)(j:w.cell? ⟨fb,0,none⟩=some (.slice (some ⟨g,o,none⟩) n cap))(v:i<n)(y:u<=1000000000)(_:n<=1000000000):
  Calls prog 367 #[.pointer p,.agg #[.int .i64 (u:Int),.int .i64 (i:Int)]] w λe w'=>e=.returned (.pointer (some ⟨g,o+i,none⟩))/\Lk (w.alloc (.cells #[.int .i64 (u:Int),.int .i64 (i:Int)] 395)) w':=by
 have s:=hZ h;have z:∀x,(w.alloc x).cell? ⟨fb,0,none⟩=some (.slice (some ⟨g,o,none⟩) n cap):=λx=>(qac (qae j) x).trans j
 have t:(i:Int)<(n:Int):=by omega
 clear h;go_enter func367,ntmps367
 go_wp2;go_loopw [0,7] (λa b wr=>∃r q,r<=u/\b=.int .i64 ((u:Int)-(r:Int))/\a=.pointer q/\q1l w r q fb/\wr=w.alloc (.cells #[.int .i64 (u:Int),.int .i64 (i:Int)] 395)) (λ_ b _=>u-(intOf b).toNat)
 case atStart=>exact⟨u,p,eR _,by simp,rfl,s.out,rfl⟩
 case round=>
  obtain⟨r,q,A,rfl,rfl,k,rfl⟩:=hrel;cases r with
  |zero=>
   obtain rfl:q=some ⟨fb,0,none⟩:=k;have d:¬((u:Int)-((0:Nat):Int)<(u:Int)):=by omega
   go_wp2;go_quiet (fail)
   go_wp2;go_ret;exact⟨rfl,⟨rfl,rfl,rfl,rfl⟩⟩
  |succ r=>
   obtain⟨b,l,rfl,m,c⟩:=k;have B:∀x,(w.alloc x).cell? ⟨b,1,none⟩=some (.pointer l):=λx=>(qac (qae m) x).trans m
   have d:(u:Int)-((r+1:Nat):Int)<(u:Int):=by omega
   have f:=hZ c;clear c;go_wp2;go_roundw
   case rel=>exact⟨r,l,by omega,by go_num,by first|trivial|rfl,f.out,by first|trivial|rfl⟩
   case measure=>simp[intOf];omega
end
section
theorem qol{B:Nat}{w0:Wd}(h:Lk W w)(b:Below B w0 W):Below B w0 w:=⟨h.os.trans b.os,h.tape.trans b.tape,h.output.trans b.output,by rw[h.heap];exact b.size,λk a=>by rw[h.heap];exact b.block k a⟩
theorem q2l(q u i fb g o n cap t k:Nat)(v:Vu)(p:OA)(c:Array Vu)(w:Wd)(Q:En->Wd->Prop)
  (C:∀args w,(callFunc k args).run prog w=.ok (.enter k args) w)
  (d:∀e w,Q e w->(∃v,e=.returned v)\/(∃f,e=.panicked f))
  (D:w.cell? ⟨q,0,none⟩=some (.int .i64 (u:Int)))(E:w.cell? ⟨q,1,none⟩=some (.int .i64 (i:Int)))
  (h:q1l w u p fb)(m:w.cell? ⟨fb,0,none⟩=some (.slice (some ⟨g,o,none⟩) n cap))(r:i<n)(s:u<=1000000000)(x:n<=1000000000)(j:w.cell? ⟨g,o+i,none⟩=some (.iface t v))
  (l:∀w',Below w.heap.size w w'->Calls prog k (#[.iface t v]++c) w' Q):
  Calls prog 366 #[.pointer p,.func (.func k) #[] c,.pointer (some ⟨q,0,none⟩)] w Q:=by
 have y:=hZ l;have z:=hZ d;have A:=hZ (qf4 u i fb g o n cap p w h m r s x);clear l d h;go_enter func366,ntmps366
 go_wp2_with (go_at_call 367;refine A.out.mono ?_;rintro e w2 ⟨rfl,a⟩;have F:w2.cell? ⟨g,o+i,none⟩=some (.iface t v):=(qaw a _).trans ((qac (qae j) _).trans j);have B:=hZ a;clear a)
 go_wp2_with (go_at_fn k;refine(y.out _ (qol B.out ((Below.refl _ _).alloc (eR _) _))).mono ?_;intro e w3 b)
 all_goals first|exact b|exact⟨rfl,b⟩|(rcases z.out _ _ b with⟨v,h⟩|⟨f,h⟩ <;> cases h)
theorem qrw(q u i fb g o n cap:Nat)(x y:Vu)(p:OA)(w:Wd)(b:∃t v,x=.iface t v)
  (B:w.cell? ⟨q,0,none⟩=some (.int .i64 (u:Int)))(C:w.cell? ⟨q,1,none⟩=some (.int .i64 (i:Int)))
  (h:q1l w u p fb)(f:w.cell? ⟨fb,0,none⟩=some (.slice (some ⟨g,o,none⟩) n cap))(j:i<n)(k:u<=1000000000)(l:n<=1000000000)(c:w.cell? ⟨g,o+i,none⟩=some y)(d:∃t v,y=.iface t v)(m:w.frozen? ⟨g,o+i,none⟩=false):
  Calls prog 400 #[.pointer p,x,.pointer (some ⟨q,0,none⟩)] w λe w'=>e=.returned (.tuple #[])/\∃w1,Below w.heap.size w w1/\w'=w1.setCell ⟨g,o+i,none⟩ x:=by
 obtain⟨t,v,rfl⟩:=b;obtain⟨r,s,rfl⟩:=d;have z:=hZ (qf4 u i fb g o n cap p w h f j k l);clear h;go_enter func400,ntmps400
 go_wp2_with (go_at_call 367;refine z.out.mono ?_;rintro e w2 ⟨rfl,a⟩;refine Hid.out ?_)
 have D:w2.cell? ⟨g,o+i,none⟩=some (.iface r s):=(qaw a _).trans ((qac (qae c) _).trans c);have E:w2.frozen? ⟨g,o+i,none⟩=false:=by
  simp only[World.frozen?,a.heap];have:=m;simp only[World.frozen?]at this;rw[eH _ _ _ (qae c)];exact this
 have A:=hZ a;clear a;refine hZ ?_;go_wp2;go_end0;exact⟨rfl,w2,qol A.out ((Below.refl _ _).alloc (eR _) _),rfl⟩
theorem qog(k:Nat)(p:OA)(b:Array Vu)(w:Wd)(Q:En->Wd->Prop)
  (j:∀args w,(callFunc k args).run prog w=.ok (.enter k args) w)
  (c:∀e w,Q e w->(∃v,e=.returned v)\/(∃d,e=.panicked d))
  (f:∀w',Lk w w'->Calls prog k (#[.iface 379 (.agg #[])]++b) w' Q):
  Calls prog 235 #[.pointer p,.func (.func k) #[] b] w Q:=by
 have g:=hZ f;have i:=hZ c;clear f c;go_enter func235,ntmps235
 go_wp2_with (go_at_fn k;refine(g.out _ (by exact⟨rfl,rfl,rfl,rfl⟩)).mono ?_;intro e w3 a)
 all_goals first|exact a|exact⟨rfl,a⟩|(rcases i.out _ _ a with⟨v,h⟩|⟨d,h⟩ <;> cases h)
theorem q69(q mb t:Nat)(v y:Vu)(w:Wd)(a:w.cell? ⟨q,0,none⟩=some (.pointer (some ⟨mb,0,none⟩)))(b:w.cell? ⟨mb,3,none⟩=some y)(c:w.frozen? ⟨mb,3,none⟩=false):
  Calls prog 230 #[.iface t v,.pointer (some ⟨q,0,none⟩)] w λe w'=>e=.returned .nilFunc/\w'=w.setCell ⟨mb,3,none⟩ (.iface t v):=by
 go_enter func230,ntmps230
 go_wp2;go_ret;exact⟨rfl,rfl⟩
theorem qp9(q1 q2 q3 mb a k:Nat)(t mo:Int)(p:OA)(f:Array Vu)(w:Wd)(Q:En->Wd->Prop)
  (z:∀args w,(callFunc k args).run prog w=.ok (.enter k args) w)
  (g:∀e w,Q e w->(∃v,e=.returned v)\/(∃i,e=.panicked i))
  (j:w.cell? ⟨q1,0,none⟩=some (.pointer (some ⟨mb,0,none⟩)))(l:w.cell? ⟨mb,1,none⟩=some (.pointer (some ⟨a,0,none⟩)))(b:Mt a t mo 11 w)(o:0<=t)(q:t+1<=mo)(r:mo<=1000000)
  (m:∀w',Lk (((w.setCell ⟨a,0,none⟩ (.int .i64 (t+1))).alloc (.cells #[.pointer p] 378)).alloc (.cells #[.func (.func 383) #[] #[.pointer (some ⟨q2,0,none⟩),.pointer (some ⟨q3,0,none⟩),.pointer (some ⟨w.heap.size,0,none⟩)]] 300)) w'->
   Calls prog k (#[.iface 281 (.pointer (some ⟨w.heap.size+1,0,none⟩))]++f) w' Q):
  Calls prog 382 #[.pointer p,.func (.func k) #[] f,.pointer (some ⟨q1,0,none⟩),.pointer (some ⟨q2,0,none⟩),.pointer (some ⟨q3,0,none⟩)] w Q:=by
 have s:=hZ m;have u:=hZ g;have A:∀x,(w.alloc x).cell? ⟨q1,0,none⟩=some (.pointer (some ⟨mb,0,none⟩)):=λx=>(qac (qae j) x).trans j
 have B:∀x,(w.alloc x).cell? ⟨mb,1,none⟩=some (.pointer (some ⟨a,0,none⟩)):=λx=>(qac (qae l) x).trans l
 have c:=b.lt;have y:Hid (∀x,Calls prog 200 #[.pointer (some ⟨a,0,none⟩),.int .i64 1] (w.alloc x) λe w'=>e=.returned (.tuple #[])/\∃k,w'=((w.alloc x).setCell ⟨a,0,none⟩ (.int .i64 (t+1))).drewN k):=λx=>
  qcl a t mo 11 1 _ (by unfold Mt at*;rw[eH _ _ _ c];exact b) o q (by omega) r
 clear m g b;go_enter func382,ntmps382
 go_wp2_with (go_at_call 200;refine(y.out _).mono ?_;rintro e w2 ⟨rfl,n,rfl⟩)
 go_wp2_with (go_at_fn k;refine(s.out _ (by exact⟨rfl,rfl,rfl,rfl⟩)).mono ?_;intro e w3 d)
 all_goals first|exact d|exact⟨rfl,d⟩|(rcases u.out _ _ d with⟨v,h⟩|⟨i,h⟩ <;> cases h)
theorem qm5(q1 q2 q3 mb a k:Nat)(t:Int)(p:OA)(i:Array Vu)(w:Wd)
  (g:w.cell? ⟨q1,0,none⟩=some (.pointer (some ⟨mb,0,none⟩)))(h:w.cell? ⟨mb,1,none⟩=some (.pointer (some ⟨a,0,none⟩)))(d:Mt a t t 11 w)(j:0<=t)(l:t<=1000000):
  Calls prog 382 #[.pointer p,.func (.func k) #[] i,.pointer (some ⟨q1,0,none⟩),.pointer (some ⟨q2,0,none⟩),.pointer (some ⟨q3,0,none⟩)] w λe w'=>e=.panicked (qan (qap 11))/\Below w.heap.size (w.setCell ⟨a,0,none⟩ (.int .i64 t)) w':=by
 have n:∀x,(w.alloc x).cell? ⟨q1,0,none⟩=some (.pointer (some ⟨mb,0,none⟩)):=λx=>(qac (qae g) x).trans g
 have o:∀x,(w.alloc x).cell? ⟨mb,1,none⟩=some (.pointer (some ⟨a,0,none⟩)):=λx=>(qac (qae h) x).trans h
 have f:=d.lt;have m:Hid (∀x,Calls prog 200 #[.pointer (some ⟨a,0,none⟩),.int .i64 1] (w.alloc x) λe w'=>e=.panicked (qan (qap 11))/\Below (w.alloc x).heap.size ((w.alloc x).setCell ⟨a,0,none⟩ (.int .i64 t)) w'):=λx=>
  qb3 a t t 11 1 _ (by unfold Mt at*;rw[eH _ _ _ f];exact d) j (by omega) (by omega) (by omega) l
 clear d;go_enter func382,ntmps382
 go_wp2_with (go_at_call 200;refine(m.out _).mono ?_;rintro e w2 ⟨rfl,b⟩)
 refine⟨rfl,rfl,?_⟩;refine⟨b.os,b.tape,b.output,by have:=b.size;simp only[qag]at this|-;simp at this;omega,λc q=>?_⟩;rw[b.block c (by simp;omega),qkq _ _ _ (by omega),eH _ _ _ (by simp only[qag];omega)]
end
section
theorem qwe(q1 q2 q3 k d j:Nat)(h b l:Array Vu)(sa pf:OA)(m sc:Nat)(w:Wd)(Q:En->Wd->Prop)
  (x:∀args w,(callFunc k args).run prog w=.ok (.enter k args) w)(y:∀args w,(callFunc d args).run prog w=.ok (.enter d args) w)
  (o:∀e w,Q e w->(∃v,e=.returned v)\/(∃i,e=.panicked i))
  (p:∀v w',Q (.returned v) w'->w'.cell? ⟨q1,0,none⟩=some (.func (.func k) #[] h)/\w'.cell? ⟨q2,0,none⟩=some (.func (.func d) #[] b)/\w'.cell? ⟨q3,0,none⟩=some (.pointer pf))
  (z:w.cell? ⟨q1,0,none⟩=some (.func (.func k) #[] h))(A:w.cell? ⟨q2,0,none⟩=some (.func (.func d) #[] b))(B:w.cell? ⟨q3,0,none⟩=some (.pointer pf))
  (q:∀w0,Lk w w0->Calls prog d (#[.slice sa m sc]++b) w0 λe w1=>(∃a n c,e=.returned (.slice a n c)/\(w1.cell? ⟨q1,0,none⟩=some (.func (.func k) #[] h)/\w1.cell? ⟨q2,0,none⟩=some (.func (.func d) #[] b)/\w1.cell? ⟨q3,0,none⟩=some (.pointer pf))/\
    ∀w2,Lk (w1.alloc (.cells #[.slice a n c,.pointer pf] 461)) w2->Calls prog k (#[.pointer (some ⟨w1.heap.size,0,none⟩),.func (.func j) #[] l]++h) w2 Q)\/((∃i,e=.panicked i)/\Q e w1)):
  Calls prog 383 #[.slice sa m sc,.func (.func j) #[] l,.pointer (some ⟨q1,0,none⟩),.pointer (some ⟨q2,0,none⟩),.pointer (some ⟨q3,0,none⟩)] w Q:=by
 have s:=hZ q;have t:=hZ o;have u:=hZ p;clear q o p;go_enter func383,ntmps383
 go_wp2;go_region_held2 (λw'=>w'.cell? ⟨q1,0,none⟩=some (.func (.func k) #[] h)/\w'.cell? ⟨q2,0,none⟩=some (.func (.func d) #[] b)/\w'.cell? ⟨q3,0,none⟩=some (.pointer pf)) (first|(exact u.out _ _ g)|(exact f.out.1)|(exact⟨(qac (qae f.out.1.1) _).trans f.out.1.1,(qac (qae f.out.1.2.1) _).trans f.out.1.2.1,(qac (qae f.out.1.2.2) _).trans f.out.1.2.2⟩)|go_keep)
  (first|(go_at_fn d;refine(s.out _ (by exact⟨rfl,rfl,rfl,rfl⟩)).mono ?_;rintro e w1 (⟨a,n,c,rfl,r⟩|⟨⟨i,rfl⟩,g⟩);rotate_left;(exact⟨rfl,g⟩);have f:=hZ r;clear r)|(go_at_fn k;refine(f.out.2 _ (by exact⟨rfl,rfl,rfl,rfl⟩)).mono ?_;intro e w3 g;rcases t.out _ _ g with⟨v,rfl⟩|⟨i,rfl⟩;rotate_left;(exact⟨rfl,g⟩)))
 all_goals(go_wp2;exact g)
theorem qxf(q1 q2 mb b n cap:Nat)(a:OA)(t mo:Int)(w:Wd)
  (m:w.cell? ⟨q1,0,none⟩=some (.int .i64 (n:Int)))(o:w.cell? ⟨q2,0,none⟩=some (.pointer (some ⟨mb,0,none⟩)))(p:w.cell? ⟨mb,1,none⟩=some (.pointer (some ⟨b,0,none⟩)))(d:Mt b t mo 11 w)(f:0<=t)(g:t+n<=mo)(h:mo<=1000000):
  Calls prog 363 #[.slice a n cap,.pointer (some ⟨q1,0,none⟩),.pointer (some ⟨q2,0,none⟩)] w λe w'=>e=.returned (.slice a n cap)/\Lk (w.setCell ⟨b,0,none⟩ (.int .i64 (t+n))) w':=by
 have i:Hid (∀w',Lk w w'->Calls prog 200 #[.pointer (some ⟨b,0,none⟩),.int .i64 (n:Int)] w' λe w2=>e=.returned (.tuple #[])/\∃k,w2=(w'.setCell ⟨b,0,none⟩ (.int .i64 (t+n))).drewN k):=λw' j=>
  qcl b t mo 11 n w' (by unfold Mt at*;rw[j.heap];exact d) f g (by omega) h
 clear d;have l:((n:Int)==(n:Int))=true:=by simp
 go_enter func363,ntmps363
 go_wp2_with (go_at_call 273;refine(qc8 _ _).mono ?_;rintro e w2 ⟨rfl,c⟩;obtain rfl:=c.symm)
 refine qal 5 (by kernel_rfl) (by kernel_rfl) ?_;simp only[List.take_succ_cons,List.take_zero,List.drop_succ_cons,List.drop_zero];repeat still_step
 refine wpStill_nil ?_;go_wp2_with (go_at_call 200;refine(i.out _ (by exact⟨rfl,rfl,rfl,rfl⟩)).mono ?_;rintro e w2 ⟨rfl,k,rfl⟩)
 go_wp2;go_ret;exact⟨rfl,⟨rfl,rfl,rfl,rfl⟩⟩
theorem qui(q1 q2 n l cap:Nat)(a:OA)(w:Wd)(c:w.cell? ⟨q1,0,none⟩=some (.int .i64 (n:Int)))(d:l≠n):
  Calls prog 363 #[.slice a l cap,.pointer (some ⟨q1,0,none⟩),.pointer (some ⟨q2,0,none⟩)] w λe w'=>e=.panicked (qan (qap 7))/\∃o,w'=w.alloc o:=by
 have b:((l:Int)==(n:Int))=false:=by simp;omega
 go_enter func363,ntmps363
 go_wp2_with (go_at_call 273;refine(qc9 _ _).mono ?_;rintro e w2 ⟨rfl,o,rfl⟩)
 exact⟨rfl,rfl,o,rfl⟩
theorem quh(q1 q2 mb b n cap:Nat)(a:OA)(t mo:Int)(w:Wd)
  (o:w.cell? ⟨q1,0,none⟩=some (.int .i64 (n:Int)))(p:w.cell? ⟨q2,0,none⟩=some (.pointer (some ⟨mb,0,none⟩)))(q:w.cell? ⟨mb,1,none⟩=some (.pointer (some ⟨b,0,none⟩)))(g:Mt b t mo 11 w)(h:0<=t)(i:mo<t+n)(d:t<=mo)(j:mo<=1000000):
  Calls prog 363 #[.slice a n cap,.pointer (some ⟨q1,0,none⟩),.pointer (some ⟨q2,0,none⟩)] w λe w'=>e=.panicked (qan (qap 11))/\Below w.heap.size (w.setCell ⟨b,0,none⟩ (.int .i64 mo)) w':=by
 have k:Hid (∀w',Lk w w'->Calls prog 200 #[.pointer (some ⟨b,0,none⟩),.int .i64 (n:Int)] w' λe w2=>e=.panicked (qan (qap 11))/\Below w'.heap.size (w'.setCell ⟨b,0,none⟩ (.int .i64 mo)) w2):=λw' l=>
  qb3 b t mo 11 n w' (by unfold Mt at*;rw[l.heap];exact g) h i (by omega) d j
 clear g;have m:((n:Int)==(n:Int))=true:=by simp
 go_enter func363,ntmps363
 go_wp2_with (go_at_call 273;refine(qc8 _ _).mono ?_;rintro e w2 ⟨rfl,f⟩;obtain rfl:=f.symm)
 refine qal 5 (by kernel_rfl) (by kernel_rfl) ?_;simp only[List.take_succ_cons,List.take_zero,List.drop_succ_cons,List.drop_zero];repeat still_step
 refine wpStill_nil ?_;go_wp2_with (go_at_call 200;refine(k.out _ (by exact⟨rfl,rfl,rfl,rfl⟩)).mono ?_;rintro e w2 ⟨rfl,c⟩)
 exact⟨rfl,rfl,c.os,c.tape,c.output,c.size,c.block⟩
open Sc
structure Gh.ext (G H:Gh) (n:Nat):Prop where
 le:G.le H
 E:H.E=G.E
 B:H.B=G.B
 I:∀{b:Nat},b<n->H.I b=G.I b
 W:H.W=G.W
 F:H.F=G.F
theorem Gh.ext.refl(G:Gh)(n:Nat):G.ext G n:=⟨Gh.le.refl G,rfl,rfl,λ_=>rfl,rfl,rfl⟩
theorem Gh.ext.trans{L:Gh}{k:Nat}(a:G.ext H n)(b:H.ext L k)(h:n<=k):G.ext L n:=⟨a.le.trans b.le,b.E.trans a.E,b.B.trans a.B,λc=>(b.I (by omega)).trans (a.I c),b.W.trans a.W,b.F.trans a.F⟩
theorem Gh.ext.mut(a:G.ext H n):H.mut=G.mut:=by simp only[Gh.mut,Gh.rows,a.le.mb,a.le.sb,a.le.cb,a.le.mp,a.E,a.B]
theorem Inv.ext_alloc(i:Inv G S m w)(o:Obj):G.ext (G.add w.heap.size o) w.heap.size:=
 ⟨Gh.le_add (i.fresh (eR _)),rfl,rfl,fun {b} a=>if_neg (by omega),rfl,rfl⟩
theorem Inv.ext_newObj(i:Inv G S m w)(o:Obj):G.ext ((G.add w.heap.size o).id w.heap.size) w.heap.size:=
 ⟨i.le_newObj o,rfl,rfl,fun {b} a=>if_neg (by omega),rfl,rfl⟩
theorem VRep.form{v:Vl}(h:VRep G v x):∃t y,x=.iface t y:=by cases h <;> exact⟨_,_,rfl⟩
def VsRep(G:Gh)(vs:List Vl)(xs:List Vu):Prop:=vs.length=xs.length/\∀(i:Nat) (v:Vl) (x:Vu),vs[i]? =some v->xs[i]? =some x->VRep G v x
theorem VsRep.mono(h:G.le H)(k:VsRep G vs xs):VsRep H vs xs:=⟨k.1,λi v x a b=>(k.2 i v x a b).mono h⟩
theorem qg9(m:Mc)(v:Vl)(r:List Vl)(rest:Vl):qeh m (v::r) rest=(.pair (qeh m r rest).2.ids v (qeh m r rest).1,{(qeh m r rest).2 with ids:=(qeh m r rest).2.ids+1}):=rfl
theorem qom(G:Gh)(S:Sub)(m:Mc)(w:Wd)(a:OA)(cap:Nat)(vs:List Vl)(xs:List Vu)(rest:Vl)(r:Vu)(i:Inv G S m w)(L:VsRep G vs xs)(M:VRep G rest r)
  (f:xs=[]\/∃g o,a=some ⟨g,o,none⟩/\∀(j:Nat) (h:j<xs.length),w.cell? ⟨g,o+j,none⟩=some xs[j])(hn:xs.length<=1000000):
  Calls prog 91 #[.slice a xs.length cap,r] w λe w'=>∃H x,e=.returned x/\G.ext H w.heap.size/\Inv H S (qeh m vs rest).2 w'/\VRep H (qeh m vs rest).1 x/\Below w.heap.size w w':=by
 have C:=hZ L;have V:=hZ M;have u:=hZ f;have W:=hZ i;clear L M f i;go_enter func91,ntmps91
 go_wp2;go_loopw [5,1] (λc x wr=>∃(k:Nat) (H:Gh),k<=xs.length/\c=.int .i64 ((k:Int)-1)/\G.ext H w.heap.size/\Inv H S (qeh m (vs.drop k) rest).2 wr/\VRep H (qeh m (vs.drop k) rest).1 x/\Below w.heap.size w wr) (λc _ _=>(intOf c+1).toNat)
 case atStart=>
  have N:vs.drop xs.length=[]:=by rw[<-C.out.1];simp
  exact⟨xs.length,G,eR _,by first|rfl|go_num,Gh.ext.refl _ _,by rw[N];exact W.out,by rw[N];exact V.out,Below.refl _ _⟩
 case round=>
  obtain⟨k,H,hk,rfl,b,O,P,v⟩:=hrel;have D:=hZ P;have y:=hZ v;have l:=hZ b;have d:=hZ O;clear P v b O;by_cases X:0<k
  ·obtain⟨j,rfl⟩:∃j,k=j+1:=⟨k-1,by omega⟩;have z:j<xs.length:=by omega
   have E:=u.out;rcases E with Y|⟨g,o,rfl,Q⟩
   ·rw[Y]at z;simp at z
   have n:=Q j z;have A:wr.cell? ⟨g,o+j,none⟩=some xs[j]:=(y.out.cell (p:=⟨g,o+j,none⟩) (qae n)).trans n;have q:j<vs.length:=by rw[C.out.1];exact z
   have R:=hZ (C.out.2 j vs[j] xs[j] (eG q) (eG z));obtain⟨F,p,s⟩:=R.out.form;obtain⟨t,I,rfl⟩:=D.out.form;have J:=hZ s;rw[s]at A;clear n Q s;have Z:(j:Int)<(xs.length:Int):=by omega
   go_wp2;go_roundw
   case rel=>
    have ho:=d.out.newObj (.cells #[.iface F p,.iface t I] 252);have b:=d.out.ext_newObj (.cells #[.iface F p,.iface t I] 252);have K:=d.out.at_newObj (.cells #[.iface F p,.iface t I] 252);refine⟨j,_,by omega,by first|rfl|go_num,l.out.trans b y.out.size,?_,?_,y.out.alloc y.out.size _⟩
    ·rw[List.drop_eq_getElem_cons q,qg9];exact ho
    ·rw[List.drop_eq_getElem_cons q,qg9];refine .pair _ _ _ _ _ _ K (Gh.add_at _ _ _) ?_ (D.out.mono b.le);have:=(R.out.mono l.out.le).mono b.le;rw[J.out]at this;exact this
   case measure=>simp[intOf]
  ·have B:k=0:=by omega
   have HK:=hZ B;clear B;have hq:(k:Int)-1<0:=by omega
   go_wp2;go_ret;have T:=d.out;have U:=D.out;rw[HK.out,List.drop_zero]at T U;exact⟨H,_,rfl,l.out,T,U,y.out⟩
end
def qyx(vd:Nat)(m:Mc):Vu:=.iface 166 (.agg #[.int .i64 (vd:Int),.string (if vd=14 then⟨m.raised.toArray⟩else⟨#[]⟩)])
structure Cnt (G:Gh) (S:Sub) (m:Mc) (w:Wd):Prop where
 st:Mt G.sb m.steps S.fuel 10 w
 ce:Mt G.cb m.cells S.quota 11 w
 fo:w.os=G.W.os/\w.tape=G.W.tape/\w.output=G.W.output
 ff:∀{b:Nat},G.F b->w.heap[b]? =G.W.heap[b]?
 mb:∃gv wp,w.heap[G.mb]? =some (.cells #[bp G.sb,bp G.cb,.map (some G.mp),gv,wp] 119 (0,0))
structure Gh.up (G H:Gh):Prop where
 le:G.le H
 W:H.W=G.W
 F:H.F=G.F
theorem Gh.up.refl(G:Gh):G.up G:=⟨Gh.le.refl G,rfl,rfl⟩
theorem Gh.up.trans{L:Gh}(a:G.up H)(b:H.up L):G.up L:=⟨a.le.trans b.le,b.W.trans a.W,b.F.trans a.F⟩
theorem Gh.ext.up(h:G.ext H n):G.up H:=⟨h.le,h.W,h.F⟩
theorem Inv.cnt(i:Inv G S m w):Cnt G S m w:=⟨i.st,i.ce,i.fo,λh=>(i.ff h).1,by obtain⟨a,b,h,_⟩:=i.ma;exact⟨a,_,h⟩⟩
theorem Cnt.below(c:Cnt G S m w)(f:∀{b:Nat},G.F b->b<w.heap.size)(a:w.heap.size<=n)(h:Below n w w'):Cnt G S m w':=
 ⟨c.st.keep (h.block _ (eW c.st.lt a)),c.ce.keep (h.block _ (eW c.ce.lt a)),by rw[h.os,h.tape,h.output];exact c.fo,fun {b} d=>by rw[h.block b (eW (f d) a)];exact c.ff d,by obtain⟨g,i,e⟩:=c.mb;exact⟨g,i,(h.block _ (eW (eE.1 e).1 a)).trans e⟩⟩
theorem Inv.cntB(i:Inv G S m w)(a:w.heap.size<=n)(h:Below n w w'):Cnt G S m w':=i.cnt.below (λb=>(i.ff b).2) a h
theorem Cnt.up(h:G.up H)(c:Cnt H S m w):Cnt G S m w:=by
 obtain⟨a,b,d,e,f⟩:=c;rw[h.le.mb,h.le.sb,h.le.cb,h.le.mp]at f;rw[h.le.sb]at a;rw[h.le.cb]at b;rw[h.W]at d e;rw[h.F]at e;exact⟨a,b,d,e,f⟩
inductive NxRep (G:Gh) (h:Array Obj):Vl->List Vl->List Fr->Vu->Prop where
 |mk (f:Vl) (l:List Vl) (k:List Fr) (q1 q2 q3 b:Nat) (sv u:Vu) (h1:G.I q1=some (.cells #[bp b] 281 (0,0))) (h2:G.I q2=some (.cells #[sv] 184 (0,0))) (h3:G.I q3=some (.cells #[u] 295 (0,0)))
   (hf:QRep G f b) (hl:LRow G h sv l) (hk:FRep G k u):NxRep G h f l k (.func (.func 311) #[] #[bp q1,bp q2,bp q3])
inductive Out (G:Gh) (S:Sub):Ct->Mc->En->Wd->Prop where
 |ap (f:Vl) (l:List Vl) (k:List Fr) (m:Mc) (w:Wd) (H:Gh) (x:Vu) (hu:G.up H) (hi:Inv H S m w) (hx:NxRep H w.heap f l k x):Out G S (.ap f l k) m (.returned x) w
 |done (v:Vl) (m:Mc) (w:Wd) (H:Gh) (x:Vu) (hu:G.up H) (hi:Inv H S m w) (hc:w.cell? ⟨H.mb,3,none⟩=some x) (hx:VRep H v x):Out G S (.done v) m (.returned .nilFunc) w
 |stop (vd:Nat) (m:Mc) (w:Wd) (hc:Cnt G S m w):Out G S (.stop vd) m (.panicked (qan (qyx vd m))) w
theorem Out.up{G H:Gh}{S:Sub}{c:Ct}{m:Mc}{e:En}{w:Wd}(h:G.up H)(o:Out H S c m e w):Out G S c m e w:=by
 cases o with
 |ap f l k m w L x a b d=>exact .ap f l k m w L x (h.trans a) b d
 |done v m w L x a b g d=>exact .done v m w L x (h.trans a) b g d
 |stop i m w g=>exact .stop i m w (g.up h)
def Post(G:Gh)(S:Sub)(n:Nat)(c:Ct)(m:Mc)(e:En)(w:Wd):Prop:=∃j c' m',j<=n/\go S n c m=go S j c' m'/\Out G S c' m' e w
def Ct.ended:Ct->Bool
 | .done _=>true
 | .stop _=>true
 |_=>false
theorem Post.ends{G:Gh}{S:Sub}{n:Nat}{c:Ct}{m:Mc}:∀e w,Post G S n c m e w->(∃v,e=.returned v)\/(∃a,e=.panicked a):=by
 rintro e w ⟨j,c',b,_,_,o⟩;cases o with
 |ap=>exact .inl ⟨_,rfl⟩
 |done=>exact .inl ⟨_,rfl⟩
 |stop=>exact .inr ⟨_,rfl⟩
theorem Post.keeps{G:Gh}{S:Sub}{n:Nat}{c:Ct}{m:Mc}{v:Vu}{w:Wd}(h:Post G S n c m (.returned v) w){b:Nat}{o:Obj}(e:G.I b=some o):w.heap[b]? =some o:=by
 obtain⟨j,c',i,_,_,o⟩:=h;cases o with
 |ap f l k m w L x a d g=>exact d.imm (a.le.I e)
 |done v m w L x a d p g=>exact d.imm (a.le.I e)
theorem Post.cell{c:Ct}{v:Vu}(h:Post G S n c m (.returned v) w){t:Nat}(a:G.I b=some (.cells #[x] t (0,0))):w.cell? ⟨b,0,none⟩=some x:=by
 simp[World.cell?,h.keeps a]
theorem Post.step{c c1:Ct}{m1:Mc}(a:Sc.next S c m=(c1,m1))(b:Ct.ended c=false)(d:G.up H)(p:Post H S n c1 m1 e w):Post G S (n+1) c m e w:=by
 obtain⟨j,c',f,i,g,h⟩:=p;refine⟨j,c',f,by omega,?_,h.up d⟩;rw[<-g];cases c <;> first|(simp[Ct.ended]at b;done)|(simp only[go,a])
theorem Post.up{c:Ct}(a:G.up H)(p:Post H S n c m e w):Post G S n c m e w:=by
 obtain⟨j,c',b,d,f,g⟩:=p;exact⟨j,c',b,d,f,g.up a⟩
theorem Post.now{c:Ct}(o:Out G S c m e w):Post G S n c m e w:=⟨n,c,m,eR _,rfl,o⟩
def IsF(x:Vu):Prop:=∃k cp,x=.func (.func k) #[] cp/\Eg k
theorem q26:Eg 235:=qa0 func235 (by kernel_rfl) (by kernel_rfl)
theorem q5s:Eg 376:=qa0 func376 (by kernel_rfl) (by kernel_rfl)
theorem q5p:Eg 384:=qa0 func384 (by kernel_rfl) (by kernel_rfl)
theorem q51:Eg 340:=qa0 func340 (by kernel_rfl) (by kernel_rfl)
theorem q5w:Eg 366:=qa0 func366 (by kernel_rfl) (by kernel_rfl)
theorem q5v:Eg 368:=qa0 func368 (by kernel_rfl) (by kernel_rfl)
theorem q5i:Eg 398:=qa0 func398 (by kernel_rfl) (by kernel_rfl)
theorem q0x:Eg 355:=qa0 func355 (by kernel_rfl) (by kernel_rfl)
theorem q5r:Eg 382:=qa0 func382 (by kernel_rfl) (by kernel_rfl)
theorem q5u:Eg 370:=qa0 func370 (by kernel_rfl) (by kernel_rfl)
theorem q27:Eg 230:=qa0 func230 (by kernel_rfl) (by kernel_rfl)
theorem q5h:Eg 399:=qa0 func399 (by kernel_rfl) (by kernel_rfl)
theorem q5y:Eg 356:=qa0 func356 (by kernel_rfl) (by kernel_rfl)
theorem q5o:Eg 385:=qa0 func385 (by kernel_rfl) (by kernel_rfl)
theorem q5j:Eg 396:=qa0 func396 (by kernel_rfl) (by kernel_rfl)
theorem q55:Eg 315:=qa0 func315 (by kernel_rfl) (by kernel_rfl)
theorem q54:Eg 316:=qa0 func316 (by kernel_rfl) (by kernel_rfl)
theorem q53:Eg 317:=qa0 func317 (by kernel_rfl) (by kernel_rfl)
theorem q50:Eg 351:=qa0 func351 (by kernel_rfl) (by kernel_rfl)
theorem q5z:Eg 353:=qa0 func353 (by kernel_rfl) (by kernel_rfl)
theorem q5t:Eg 372:=qa0 func372 (by kernel_rfl) (by kernel_rfl)
theorem q5x:Eg 363:=qa0 func363 (by kernel_rfl) (by kernel_rfl)
theorem q5g:Eg 400:=qa0 func400 (by kernel_rfl) (by kernel_rfl)
theorem q5f:Eg 401:=qa0 func401 (by kernel_rfl) (by kernel_rfl)
theorem q52:Eg 322:=qa0 func322 (by kernel_rfl) (by kernel_rfl)
theorem CRep.isF{G:Gh}{sh:List Nat}{e:Ex}{x:Vu}(h:CRep G sh e x):IsF x:=by
 cases h with
 |step=>exact⟨_,_,rfl,q5s⟩
theorem ORep.isF{G:Gh}{sh:List Nat}{e:Option Ex}{x:Vu}(h:ORep G sh e x):IsF x:=by
 cases h with
 |none=>exact⟨_,_,rfl,q26⟩
 |some sh e x h=>exact h.isF
theorem SRep.isF{G:Gh}{sh:List Nat}{e:List Ex}{x:Vu}(h:SRep G sh e x):IsF x:=by
 cases h with
 |one sh e x h=>exact h.isF
 |cons=>exact⟨_,_,rfl,q5p⟩
theorem IRep.isF{G:Gh}{sh:List Nat}{e:Ex}{x:Vu}(h:IRep G sh e x):IsF x:=by
 cases h with
 |quo=>exact⟨_,_,rfl,q51⟩
 |loc=>exact⟨_,_,rfl,q5w⟩
 |glo=>exact⟨_,_,rfl,q5v⟩
 |ite=>exact⟨_,_,rfl,q5i⟩
 |setL=>exact⟨_,_,rfl,q0x⟩
 |setG=>exact⟨_,_,rfl,q0x⟩
 |defG=>exact⟨_,_,rfl,q0x⟩
 |lam=>exact⟨_,_,rfl,q5r⟩
 |app=>exact⟨_,_,rfl,q5u⟩
 |seq sh a l y h=>exact h.isF
theorem FRep.isF{G:Gh}{k:List Fr}{x:Vu}(h:FRep G k x):IsF x:=by
 cases h with
 |nil=>exact⟨_,_,rfl,q27⟩
 |ite=>exact⟨_,_,rfl,q5h⟩
 |set=>exact⟨_,_,rfl,q5y⟩
 |body=>exact⟨_,_,rfl,q5o⟩
 |app=>exact⟨_,_,rfl,q5j⟩
 |wind1=>exact⟨_,_,rfl,q55⟩
 |wind2=>exact⟨_,_,rfl,q54⟩
 |wind3=>exact⟨_,_,rfl,q53⟩
 |back=>exact⟨_,_,rfl,q50⟩
 |into=>exact⟨_,_,rfl,q5z⟩
theorem TRep.isF{G:Gh}{sh:List Nat}{t:Tg}{x:Vu}(h:TRep G sh t x):IsF x:=by
 cases h with
 |loc=>exact⟨_,_,rfl,q5g⟩
 |glo=>exact⟨_,_,rfl,q5f⟩
 |def'=>exact⟨_,_,rfl,q52⟩
def GT(w:Wd):Prop:=Lib.TabIs prog w "internal/strconv.uint64pow10" .u64 Lib.pow10Tab
theorem pow10_no:prog.globalNamed "internal/strconv.uint64pow10" =some 0:=by kernel_rfl
theorem GT.keep(h:GT w)(e:w'.heap[0]? =w.heap[0]?):GT w':=by
 unfold GT Lib.TabIs World.var? at*;rw[pow10_no]at h|-;simp only[Option.bind_some]at h|-;rw[e];exact h
def TabW(G:Gh):Prop:=(∀b,b<6->G.F b)/\GT G.W
theorem TabW.up(t:TabW G)(h:G.up H):TabW H:=by
 unfold TabW;rw[h.W,h.F];exact t
theorem TabW.now(t:TabW G)(i:Inv G S m w):GT w:=t.2.keep (i.ff (t.1 0 (by omega))).1
section
section
variable {G:Gh} {S:Sub} {m:Mc} {w:Wd}
theorem Inv.alloc2(i:Inv G S m w)(a o2:Obj):Inv ((G.add w.heap.size a).add (w.heap.size+1) o2) S m ((w.alloc a).alloc o2):=by
 have:=(i.alloc a).alloc o2;simpa using this
theorem Inv.alloc3(i:Inv G S m w)(a o2 b:Obj):Inv (((G.add w.heap.size a).add (w.heap.size+1) o2).add (w.heap.size+2) b) S m (((w.alloc a).alloc o2).alloc b):=by
 have:=(i.alloc2 a o2).alloc b;simpa using this
theorem Inv.alloc4(i:Inv G S m w)(a o2 b c:Obj):Inv ((((G.add w.heap.size a).add (w.heap.size+1) o2).add (w.heap.size+2) b).add (w.heap.size+3) c) S m ((((w.alloc a).alloc o2).alloc b).alloc c):=by
 have:=(i.alloc3 a o2 b).alloc c;simpa using this
theorem Inv.alloc5(i:Inv G S m w)(a o2 b c d:Obj):Inv (((((G.add w.heap.size a).add (w.heap.size+1) o2).add (w.heap.size+2) b).add (w.heap.size+3) c).add (w.heap.size+4) d) S m (((((w.alloc a).alloc o2).alloc b).alloc c).alloc d):=by
 have:=(i.alloc4 a o2 b c).alloc d;simpa using this
theorem Inv.x1(i:Inv G S m w)(a:Obj):G.ext (G.add w.heap.size a) w.heap.size:=i.ext_alloc a
theorem Inv.x2(i:Inv G S m w)(a o2:Obj):G.ext ((G.add w.heap.size a).add (w.heap.size+1) o2) w.heap.size:=by
 have:=(i.x1 a).trans ((i.alloc a).ext_alloc o2) (by simp);simpa using this
theorem Inv.x3(i:Inv G S m w)(a o2 b:Obj):G.ext (((G.add w.heap.size a).add (w.heap.size+1) o2).add (w.heap.size+2) b) w.heap.size:=by
 have:=(i.x2 a o2).trans ((i.alloc2 a o2).ext_alloc b) (by simp;omega);simpa using this
theorem Inv.x4(i:Inv G S m w)(a o2 b c:Obj):G.ext ((((G.add w.heap.size a).add (w.heap.size+1) o2).add (w.heap.size+2) b).add (w.heap.size+3) c) w.heap.size:=by
 have:=(i.x3 a o2 b).trans ((i.alloc3 a o2 b).ext_alloc c) (by simp;omega);simpa using this
theorem Inv.x5(i:Inv G S m w)(a o2 b c d:Obj):G.ext (((((G.add w.heap.size a).add (w.heap.size+1) o2).add (w.heap.size+2) b).add (w.heap.size+3) c).add (w.heap.size+4) d) w.heap.size:=by
 have:=(i.x4 a o2 b c).trans ((i.alloc4 a o2 b c).ext_alloc d) (by simp;omega);simpa using this
end
theorem qah(G:Gh){c:Nat}{o:Obj}(h:c≠b):(G.add b o).I c=G.I c:=if_neg h
def qq5(S:Sub)(n:Nat):Prop:=∀(G:Gh) (m:Mc) (w:Wd) (sh:List Nat) (e:Ex) (env:Option Nat) (k:List Fr) (kx ku:Nat) (cx cu:Array Vu) (pf:OA),
 Inv G S m w->CRep G sh e (.func (.func kx) #[] cx)->NRep G env pf->Sh G sh pf->FRep G k (.func (.func ku) #[] cu)->Ct.ended (go S n (.ev e env k) m).1=true->
 Calls prog kx (#[.pointer pf,.func (.func ku) #[] cu]++cx) w (Post G S n (.ev e env k) m)
def quv(S:Sub)(n:Nat):Prop:=∀(G:Gh) (m:Mc) (w:Wd) (v:Vl) (k:List Fr) (x:Vu) (ku:Nat) (cu:Array Vu),
 Inv G S m w->VRep G v x->FRep G k (.func (.func ku) #[] cu)->Ct.ended (go S n (.ret v k) m).1=true->
 Calls prog ku (#[x]++cu) w (Post G S n (.ret v k) m)
theorem qbi{c c1:Ct}{m1:Mc}(a:Sc.next S c m=(c1,m1))(b:Ct.ended c=false):go S (n+1) c m=go S n c1 m1:=by
 cases c <;> first|(simp[Ct.ended]at b;done)|(simp only[go,a])
theorem qfb{S:Sub}{c:Ct}{m:Mc}(h:Sc.next S c m=(c,m))(a:Ct.ended c=false):∀n,¬Ct.ended (go S n c m).1=true
 |0=>by show ¬Ct.ended c=true;rw[a];exact Bool.noConfusion
 |n+1=>by rw[qbi h a];exact qfb h a n
theorem qov{S:Sub}:∀(n:Nat) {c:Ct} {m:Mc},Ct.ended c=true->go S n c m=(c,m)
 |0,c,m,_=>rfl
 |n+1,c,m,h=>by cases c <;> first|(simp[Ct.ended]at h;done)|rfl
theorem qi6{S:Sub}{n:Nat}(j:qq5 S n)(G:Gh)(m:Mc)(w:Wd)(sh:List Nat)(l:List Ex)(env:Option Nat)(k:List Fr)(o b:Nat)(q c:Array Vu)(pf:OA)
  (i:Inv G S m w)(v:SRep G sh l (.func (.func o) #[] q))(d:NRep G env pf)(f:Sh G sh pf)(s:FRep G k (.func (.func b) #[] c))(t:Ct.ended (go S n (qge l env k) m).1=true):
  Calls prog o (#[.pointer pf,.func (.func b) #[] c]++q) w (Post G S n (qge l env k) m):=by
 cases v with
 |one sh e x h=>exact j G m w sh e env k _ b _ c pf i h d f s t
 |cons sh e a r q1 q2 x y z A h B=>
  obtain⟨u,c1,rfl,g⟩:=h.isF;have C:=i.alloc2 (.cells #[.pointer pf] 378) (.cells #[.func (.func b) #[] c] 295);have x2:=i.x2 (.cells #[.pointer pf] 378) (.cells #[.func (.func b) #[] c] 295);refine q68 q1 q2 pf b c u c1 w _ g Post.ends (by rw[i.cell z];rfl) ?_;intro w' D;refine Calls.mono (j _ m w' sh e env (.body (a::r) env::k) u 385 c1 _ pf (Inv.lk D C) (h.mono x2.le) (d.mono x2.le) (f.mono x2.le)
   (.body sh (a::r) env k q2 _ _ y (.func (.func b) #[] c) pf (x2.le.I A) ?_ ?_ (B.mono x2.le) (d.mono x2.le) (f.mono x2.le) (s.mono x2.le)) t) ?_
  ·rw[qah _ (by omega)];exact Gh.add_at _ _ _
  ·exact Gh.add_at _ _ _
  ·exact λe w p=>p.up x2.up
end
section
section
variable {G:Gh} {S:Sub} {m:Mc} {w:Wd}
theorem Inv.mb0(i:Inv G S m w):w.cell? ⟨G.mb,0,Option.none⟩=some (.pointer (some ⟨G.sb,0,Option.none⟩)):=by obtain⟨a,b,h,_⟩:=i.ma;simp[World.cell?,h]
theorem Inv.mb1(i:Inv G S m w):w.cell? ⟨G.mb,1,Option.none⟩=some (.pointer (some ⟨G.cb,0,Option.none⟩)):=by obtain⟨a,b,h,_⟩:=i.ma;simp[World.cell?,h]
theorem Inv.mb3(i:Inv G S m w):∃x,w.cell? ⟨G.mb,3,Option.none⟩=some x:=by obtain⟨a,b,h,_⟩:=i.ma;exact⟨a,by simp[World.cell?,h]⟩
theorem Inv.mbf(i:Inv G S m w)(o:Nat):w.frozen? ⟨G.mb,o,Option.none⟩=false:=by obtain⟨a,b,h,_⟩:=i.ma;simp[World.frozen?,h]
theorem Inv.ne(i:Inv G S m w){c:Nat}{o:Obj}(a:G.I b=some o)(d:c∈G.mut):b≠c:=λe=>by subst e;rw[i.mi d]at a;cases a
theorem Inv.find(i:Inv G S m w):∀(u:Nat) {sh:List Nat} {env:Option Nat} {pf:OA} {n:Nat},NRep G env pf->Sh G sh pf->sh[u]? =some n->
  ∃j fb d vs e,qg5 m env u=some j/\m.envs[j]? =some (vs,e)/\G.E[j]? =some (fb,d)/\q1l w u pf fb/\w.cell? ⟨fb,0,Option.none⟩=some d/\ERow G w.heap d vs/\vs.length=n
 |0,sh,env,pf,n,hn,b,hu=>by
  cases b with
  |nil=>simp at hu
  |cons l sh fb a cap q h b=>
   obtain rfl:l=n:=by simpa using hu
   cases hn with
   |some j p d c=>
    have f:j<m.envs.length:=by rw[<-i.el];exact(eL.1 c).1
    obtain⟨r,s,t,e1,e2,e3,e4⟩:=i.en (i:=j) (vs:=m.envs[j].1) (e:=m.envs[j].2) (eG f);rw[c]at e1;cases e1;have hI:=h.symm.trans e2;cases hI;refine⟨j,fb,.slice a l cap,m.envs[j].1,m.envs[j].2,rfl,eG f,c,rfl,by rw[i.cell e2];rfl,e4,?_⟩;rcases e4 with⟨B,K,k,v⟩|⟨g,o,k,C,v,_⟩
    ·cases v;simp[B]
    ·cases v;rfl
 |u+1,sh,env,pf,n,hn,b,hu=>by
  cases b with
  |nil=>simp at hu
  |cons l sh fb a cap q h b=>
   cases hn with
   |some j p d c=>
    have f:j<m.envs.length:=by rw[<-i.el];exact(eL.1 c).1
    obtain⟨r,s,t,e1,e2,e3,e4⟩:=i.en (i:=j) (vs:=m.envs[j].1) (e:=m.envs[j].2) (eG f);rw[c]at e1;cases e1;have hI:=h.symm.trans e2;cases hI;obtain⟨A,x,y,z,e5,D,F,H,I,J⟩:=i.find u e3 b (by simpa using hu);refine⟨A,x,y,z,e5,?_,F,H,⟨fb,q,rfl,by rw[i.cell e2];rfl,I⟩,J⟩;show qg5 m (m.envs[j]?.bind (·.2)) u=some A;rw[eG f];exact D
end
theorem qvi{S:Sub}{n:Nat}(G:Gh)(m:Mc)(w:Wd)(sh:List Nat)(e:Ex)(env:Option Nat)(k:List Fr)(p f:Nat)(q g:Array Vu)(pf:OA)
  (i:Inv G S m w)(z:CRep G sh e (.func (.func p) #[] q))(a:¬(m.steps:Int)<S.fuel->Sc.next S (.ev e env k) m=(.stop 10,m))
  (h:∀b c w1,Inv G S {m with steps:=m.steps+1} w1->IRep G sh e (.func (.func b) #[] c)->(m.steps:Int)<S.fuel->Calls prog b (#[.pointer pf,.func (.func f) #[] g]++c) w1 (Post G S (n+1) (.ev e env k) m)):
  Calls prog p (#[.pointer pf,.func (.func f) #[] g]++q) w (Post G S (n+1) (.ev e env k) m):=by
 cases z with
 |step sh e r s y t u v=>
  by_cases d:(m.steps:Int)<S.fuel
  ·obtain⟨b,c,rfl,j⟩:=v.isF;have l:=i.steps (m.steps+1) (by push_cast;omega);refine qu7 G.mb G.sb r s b m.steps S.fuel c pf f g w _ j Post.ends (by rw[i.cell t];rfl) i.mb0 (by rw[i.cell u];rfl) i.st (by omega) (by omega) (by have:=i.sl.2;omega) (i.ne u i.m2) ?_;intro w1 o;exact h b c w1 (Inv.lk o (by simpa using l)) v d
  ·have A:(m.steps:Int)=S.fuel:=by have:=i.sl.1;omega
   have x:=i.st;rw[<-A]at x;refine Calls.mono (qro G.mb G.sb r s m.steps pf f g w (by rw[i.cell t];rfl) i.mb0 x (by omega) (by have:=i.sl.2;omega)) ?_;rintro C w' ⟨rfl,B⟩;have l:=i.steps m.steps (by omega);exact Post.step (a d) rfl (Gh.up.refl G) (Post.now (.stop 10 m w' (l.cntB (by rw[qag];exact eR _) B)))
end
section
section
variable {S:Sub} {n:Nat} {G:Gh} {m:Mc} {w1:Wd} {sh:List Nat} {env:Option Nat} {k:List Fr} {ku:Nat} {cu:Array Vu} {pf:OA}
theorem qy3(f:quv S n)(i:Inv G S {m with steps:=m.steps+1} w1)(C:NRep G env pf)(D:Sh G sh pf)(z:FRep G k (.func (.func ku) #[] cu))(h:(m.steps:Int)<S.fuel){u j N q:Nat}(E:sh[u]? =some N)(F:j<N)(A:G.I q=some (.cells #[.int .i64 (u:Int),.int .i64 (j:Int)] 395 (0,0)))
  (H:u<=1000000000)(J:N<=1000000000)(l:Ct.ended (go S (n+1) (.ev (.loc u j) env k) m).1=true):
  Calls prog 366 (#[.pointer pf,.func (.func ku) #[] cu]++#[bp q]) w1 (Post G S (n+1) (.ev (.loc u j) env k) m):=by
 obtain⟨V,fb,W,vs,X,K,L,Y,M,O,P,B⟩:=i.find u C D E;have a:Sc.next S (.ev (.loc u j) env k) m=(.ret (qok {m with steps:=m.steps+1} env u j) k,{m with steps:=m.steps+1}):=by
  simp[Sc.next,Sc.step,h]
 rw[qbi a rfl]at l;rcases P with⟨rfl,_⟩|⟨g,o,cap,Q,rfl,hne,R,T⟩
 ·simp at B;omega
 have b:j<vs.length:=by omega
 obtain⟨x,r,c⟩:=T j vs[j] (eG b);have d:qok {m with steps:=m.steps+1} env u j=vs[j]:=by
  unfold qok;rw[K];simp only[L];simp[b]
 obtain⟨Z,ck,s,v⟩:=z.isF;cases s;obtain⟨t,y,rfl⟩:=c.form;subst B;refine q2l q u j fb g o vs.length cap t ku y pf cu w1 _ v Post.ends (by rw[i.cell A];rfl) (by rw[i.cell A];rfl) M O F H J (by simp[World.cell?,R,r]) ?_;intro w' U;rw[d]at a l;exact Calls.mono (f G {m with steps:=m.steps+1} w' vs[j] k _ ku cu (i.below U) c z l) λe w p=>Post.step a rfl (Gh.up.refl G) p
theorem qy6(f:quv S n)(i:Inv G S {m with steps:=m.steps+1} w1)(l:FRep G k (.func (.func ku) #[] cu))(d:(m.steps:Int)<S.fuel)(r:G.I q=some (.cells #[bp b] 319 (0,0)))(A:(s,b)∈G.B)(u:Ct.ended (go S (n+1) (.ev (.glo s) env k) m).1=true):
  Calls prog 368 (#[.pointer pf,.func (.func ku) #[] cu]++#[bp q]) w1 (Post G S (n+1) (.ev (.glo s) env k) m):=by
 obtain⟨x,g,a⟩:=i.gl A;have z:w1.cell? ⟨b,0,none⟩=some x:=by simp[World.cell?,g]
 rcases hv:lookup s m.glob with _|v
 ·have c:Sc.next S (.ev (.glo s) env k) m=(.stop 5,{m with steps:=m.steps+1}):=by simp[Sc.next,Sc.step,d,hv]
  have a:GVal G (lookup s m.glob) x:=a;rw[hv]at a;obtain rfl:x=.nilIface:=a;refine Calls.mono (qna q b pf ku cu w1 (by rw[i.cell r];rfl) z) ?_;rintro e w ⟨rfl,o,rfl⟩;exact Post.step c rfl (Gh.up.refl G) (Post.now (.stop 5 _ _ (i.cntB (eR _) ((Below.refl _ _).alloc (eR _) _))))
 ·have c:Sc.next S (.ev (.glo s) env k) m=(.ret v k,{m with steps:=m.steps+1}):=by simp[Sc.next,Sc.step,d,hv]
  rw[qbi c rfl]at u;have a:GVal G (lookup s m.glob) x:=a;rw[hv]at a;have a:VRep G v x:=a;obtain⟨t,y,rfl⟩:=a.form;obtain⟨D,E,h,j⟩:=l.isF;cases h;refine qqn q b t y pf ku cu w1 _ j Post.ends (by rw[i.cell r];rfl) z ?_;intro w' C;exact Calls.mono (f G _ w' v k _ ku cu (Inv.lk C i) a l u) λe w p=>Post.step c rfl (Gh.up.refl G) p
theorem qy5(b:qq5 S n)(i:Inv G S {m with steps:=m.steps+1} w1)(l:NRep G env pf)(o:Sh G sh pf)(v:FRep G k (.func (.func ku) #[] cu))(d:(m.steps:Int)<S.fuel){c t:Ex}{e:Option Ex}{q f g:Vu}
  (x:G.I q1=some (.cells #[q] 241 (0,0)))(y:G.I q2=some (.cells #[f] 241 (0,0)))(z:G.I q3=some (.cells #[g] 241 (0,0)))(r:CRep G sh c q)(A:CRep G sh t g)(h:ORep G sh e f)(s:Ct.ended (go S (n+1) (.ev (.ite c t e) env k) m).1=true):
  Calls prog 398 (#[.pointer pf,.func (.func ku) #[] cu]++#[bp q1,bp q2,bp q3]) w1 (Post G S (n+1) (.ev (.ite c t e) env k) m):=by
 have a:Sc.next S (.ev (.ite c t e) env k) m=(.ev c env (.ite t e env::k),{m with steps:=m.steps+1}):=by simp[Sc.next,Sc.step,d]
 rw[qbi a rfl]at s;obtain⟨u,c1,rfl,j⟩:=r.isF;have B:=i.alloc2 (.cells #[.pointer pf] 378) (.cells #[.func (.func ku) #[] cu] 295);have x2:=i.x2 (.cells #[.pointer pf] 378) (.cells #[.func (.func ku) #[] cu] 295);refine if1 q1 q2 q3 pf ku cu u c1 w1 _ j Post.ends (by rw[i.cell x];rfl) ?_;intro w' C;refine Calls.mono (b _ _ w' sh c env (.ite t e env::k) u 399 c1 _ pf (Inv.lk C B) (r.mono x2.le) (l.mono x2.le) (o.mono x2.le)
  (.ite sh t e env k q2 _ _ q3 f g (.func (.func ku) #[] cu) pf (x2.le.I y) ?_ ?_ (x2.le.I z) (A.mono x2.le) (h.mono x2.le) (l.mono x2.le) (o.mono x2.le) (v.mono x2.le)) s) ?_
 ·rw[qah _ (by omega)];exact Gh.add_at _ _ _
 ·exact Gh.add_at _ _ _
 ·exact λe w p=>Post.step a rfl x2.up p
theorem qma(c:qq5 S n)(i:Inv G S {m with steps:=m.steps+1} w1)(f:NRep G env pf)(g:Sh G sh pf)(q:FRep G k (.func (.func ku) #[] cu)){e a:Ex}{t:Tg}{h xs:Vu}
  (b:Sc.next S (.ev e env k) m=(.ev a env (.set t env::k),{m with steps:=m.steps+1}))
  (r:G.I q1=some (.cells #[h] 241 (0,0)))(s:G.I q2=some (.cells #[xs] 413 (0,0)))(j:CRep G sh a h)(u:TRep G sh t xs)(l:Ct.ended (go S (n+1) (.ev e env k) m).1=true):
  Calls prog 355 (#[.pointer pf,.func (.func ku) #[] cu]++#[bp q1,bp q2]) w1 (Post G S (n+1) (.ev e env k) m):=by
 rw[qbi b rfl]at l;obtain⟨o,c1,rfl,d⟩:=j.isF;have v:=i.alloc2 (.cells #[.pointer pf] 378) (.cells #[.func (.func ku) #[] cu] 295);have x2:=i.x2 (.cells #[.pointer pf] 378) (.cells #[.func (.func ku) #[] cu] 295);refine set1 q1 q2 pf ku cu o c1 w1 _ d Post.ends (by rw[i.cell r];rfl) ?_;intro w' x;refine Calls.mono (c _ _ w' sh a env (.set t env::k) o 356 c1 _ pf (Inv.lk x v) (j.mono x2.le) (f.mono x2.le) (g.mono x2.le)
  (.set sh t env k q2 _ _ xs (.func (.func ku) #[] cu) pf (x2.le.I s) ?_ ?_ (u.mono x2.le) (f.mono x2.le) (g.mono x2.le) (q.mono x2.le)) l) ?_
 ·rw[qah _ (by omega)];exact Gh.add_at _ _ _
 ·exact Gh.add_at _ _ _
 ·exact λe w p=>Post.step b rfl x2.up p
theorem qy0(c:qq5 S n)(i:Inv G S {m with steps:=m.steps+1} w1)(o:NRep G env pf)(q:Sh G sh pf)(r:FRep G k (.func (.func ku) #[] cu))(d:(m.steps:Int)<S.fuel){a:Ex}{f:Nat}{g:Array Vu}
  (h:SRep G sh (a::l) (.func (.func f) #[] g))(j:Ct.ended (go S (n+1) (.ev (.seq a l) env k) m).1=true):
  Calls prog f (#[.pointer pf,.func (.func ku) #[] cu]++g) w1 (Post G S (n+1) (.ev (.seq a l) env k) m):=by
 have b:Sc.next S (.ev (.seq a l) env k) m=(qge (a::l) env k,{m with steps:=m.steps+1}):=by simp[Sc.next,Sc.step,d]
 rw[qbi b rfl]at j;exact Calls.mono (qi6 c G _ w1 sh (a::l) env k f ku g cu pf i h o q r j) λe w p=>Post.step b rfl (Gh.up.refl G) p
theorem qy7(h:qq5 S n)(i:Inv G S {m with steps:=m.steps+1} w1)(y:NRep G env pf)(z:Sh G sh pf)(F:FRep G k (.func (.func ku) #[] cu))(j:(m.steps:Int)<S.fuel){f:Ex}{l:List Ex}{q1 q2:Nat}{sl:Vu}{xs:List Vu}
  (A:G.mbox q1)(H:G.I q2=some (.cells #[sl] 426 (0,0)))(q:xs.length<=90000)(J:RowI G 241 sl xs)(K:XRep G sh (f::l) xs)(B:Ct.ended (go S (n+1) (.ev (.app f l) env k) m).1=true):
  Calls prog 370 (#[.pointer pf,.func (.func ku) #[] cu]++#[bp q1,bp q2]) w1 (Post G S (n+1) (.ev (.app f l) env k) m):=by
 have c:Sc.next S (.ev (.app f l) env k) m=(.ev f env (.app [] l env::k),{m with steps:=m.steps+1}):=by simp[Sc.next,Sc.step,j]
 rw[qbi c rfl]at B;cases K with
 |cons sh f l T xs C M=>
  obtain⟨g,o,cap,r,rfl,D,N,O,a⟩:=J;obtain⟨d,c1,rfl,s⟩:=C.isF;have P:=i.alloc (.cells #[.func (.func ku) #[] cu] 295);have x1:=i.x1 (.cells #[.func (.func ku) #[] cu] 295);refine q7m q1 q2 G.mb g o (xs.length+1) cap pf ku cu w1 _ Post.ends (by rw[i.cell A];rfl) (by rw[i.cell H];rfl) ?_;intro w' E;have b:=Inv.lk E P;have Q:w'.heap.size=w1.heap.size+1:=by rw[E.heap];simp
  have t:w'.cell? ⟨g,o,none⟩=some (.func (.func d) #[] c1):=by
   rw[b.cell (x1.le.I D)];exact a 0 _ rfl
  have R:=b.alloc5 (.cells #[bp G.mb] 107) (.cells #[.slice (some ⟨g,o,none⟩) (xs.length+1) cap] 426) (.cells #[.pointer pf] 378) (.cells #[.pointer none] 470) (.cells #[.func (.func 372) #[] #[bp q1,bp w1.heap.size]] 450);have u:=b.x5 (.cells #[bp G.mb] 107) (.cells #[.slice (some ⟨g,o,none⟩) (xs.length+1) cap] 426) (.cells #[.pointer pf] 378) (.cells #[.pointer none] 470) (.cells #[.func (.func 372) #[] #[bp q1,bp w1.heap.size]] 450);refine qhl G.mb g o xs.length cap d c1 pf none 372 #[bp q1,bp w1.heap.size] w' _ s Post.ends t ?_;intro v x;have L:=x1.le.trans u.le;refine Calls.mono (h _ _ v sh f env (.app [] l env::k) d 396 c1 _ pf (Inv.lk x R) (C.mono L) (y.mono L) (z.mono L)
   (.app sh [] l env k _ _ _ _ _ q1 w1.heap.size (.slice (some ⟨g,o,none⟩) (xs.length+1) cap) (.func (.func d) #[] c1) (.func (.func ku) #[] cu) xs pf none ?_ ?_ ?_ ?_ ?_ ?_ ?_ (by simp at q|-;omega) ?_ (M.mono L) .nil (y.mono L) (z.mono L) (F.mono L)) B) ?_
  ·show _=some (Obj.cells #[bp G.mb] 107 (0,0));rw[qah _ (by omega),qah _ (by omega),qah _ (by omega),qah _ (by omega)];exact Gh.add_at _ _ _
  ·rw[qah _ (by omega),qah _ (by omega),qah _ (by omega)];exact Gh.add_at _ _ _
  ·rw[qah _ (by omega),qah _ (by omega)];exact Gh.add_at _ _ _
  ·rw[qah _ (by omega)];exact Gh.add_at _ _ _
  ·exact Gh.add_at _ _ _
  ·exact L.mbox A
  ·exact u.le.I (Gh.add_at _ _ _)
  ·exact⟨g,o,cap,r,rfl,L.I D,N,O,a⟩
  ·exact λe w p=>Post.step c rfl (x1.up.trans u.up) p
end
end
section
section
variable {G:Gh} {S:Sub} {m:Mc} {w:Wd}
theorem Inv.setEnv(i:Inv G S m w){cap a:Nat}{e:Option Nat}{v:Vl}(t:G.E[j]? =some (fb,.slice (some ⟨g,o,none⟩) (n+1) cap))(hm:m.envs[j]? =some (vs,e))(hl:vs.length=n+1)(ha:a<n+1)(hv:VRep G v x):
  Inv G S {m with envs:=m.envs.modify j λ(l,u)=>(l.set a v,u)} (w.setCell ⟨g,o+a,none⟩ x):=by
 have f:=i.lateE t;refine i.turn (i.m6 t) (λc D=>qab c D) qag ⟨rfl,rfl,rfl⟩ (i.st.keep (qab _ (Ne.symm f.2.1))) (i.ce.keep (qab _ (Ne.symm f.2.2.1))) i.sl.1 i.cl.1
  (by rw[qab (a:=⟨g,o+a,none⟩) _ (Ne.symm f.1)];exact i.ma) (by rw[qab (a:=⟨g,o+a,none⟩) _ (Ne.symm f.2.2.2)];exact i.mp)
  (i.glKeep (λc D=>qab c D) λs c h e=>?_) i.gd ?_ (by simp only[List.length_modify];exact i.el) i.jl
 ·have e:c=g:=e;subst e;exact(List.nodup_append.1 i.nd2).2.2 _ (List.mem_map.2 ⟨_,h,rfl⟩) _ (qe1 t) rfl
 ·intro A F e' d;have d:(m.envs.modify j λ(l,u)=>(l.set a v,u))[A]? =some (F,e'):=d;by_cases B:j=A
  ·subst B;rw[List.getElem?_modify]at d;simp only[if_true,hm]at d;cases d;obtain⟨H,I,C,e1,e2,e3,e4⟩:=i.en hm;rw[t]at e1;cases e1;refine⟨fb,_,C,t,e2,e3,?_⟩;rcases e4 with⟨Q,_⟩|⟨z,o',cap',J,Q,h2,h3,h4⟩
   ·subst Q;simp at hl
   ·have R:g=z/\o=o'/\n+1=vs.length/\cap=cap':=by simpa[and_assoc]using Q
    obtain⟨rfl,rfl,_,rfl⟩:=R;have T:o+a<J.size:=by
     obtain⟨y,hy,_⟩:=h4 a vs[a] (eG (by omega));exact(eE.1 hy).1
    refine .inr ⟨g,o,cap,J.setIfInBounds (o+a) x,by simp;omega,by intro e;apply h2;simpa using congrArg List.length e,?_,?_⟩
    ·simp[World.setCell,Array.getElem?_modify,h3]
    ·intro b u k;by_cases K:a=b
     ·subst K;rw[List.getElem?_set]at k;simp only[if_true]at k;rw[if_pos (by omega)]at k;cases k;exact⟨x,by simp[T],hv⟩
     ·rw[List.getElem?_set_ne K]at k;obtain⟨y,U,V⟩:=h4 b u k;exact⟨y,by rw[Array.getElem?_setIfInBounds_ne (by omega)];exact U,V⟩
  ·rw[List.getElem?_modify]at d;have W:m.envs[A]? =some (F,e'):=by
    rcases hx:m.envs[A]? with _|p
    ·rw[hx]at d;simp at d
    ·rw[hx]at d;simpa[B]using d
   obtain⟨H,I,C,e1,e2,e3,e4⟩:=i.en W;refine⟨H,I,C,e1,e2,e3,e4.mono (Gh.le.refl _) λz o' n' cap' X=>qab (a:=⟨g,o+a,none⟩) z λY=>?_⟩;have Y:z=g:=Y;subst Y;subst X;have M:=(List.nodup_append.1 i.nd2).2.1;have a0:j<G.E.length:=(eL.1 t).1;have a1:A<G.E.length:=(eL.1 e1).1;have N:∀(L:List (Nat×Vu)) (p q:Nat) (b c:Nat×Vu),p<q->L[p]? =some b->L[q]? =some c->z∈qex b.2->z∈qex c.2->¬(L.flatMap λx=>qex x.2).Nodup:=by
    intro L;induction L with
    |nil=>intro p q b c _ h;simp at h
    |cons y r ih=>
     intro p q b c a2 O P k D Z;rw[List.flatMap_cons,List.nodup_append]at Z;cases q with
     |zero=>omega
     |succ q=>
      have P:r[q]? =some c:=by simpa using P
      cases p with
      |zero=>
       have O:y=b:=by simpa using O
       subst O;exact Z.2.2 z k z (List.mem_flatMap.2 ⟨c,List.mem_of_getElem? P,D⟩) rfl
      |succ p=>exact ih p q b c (by omega) (by simpa using O) P k D Z.2.1
   rcases Nat.lt_or_gt_of_ne B with hlt'|hlt'
   ·exact N G.E j A _ _ hlt' t e1 (by simp[qex]) (by simp[qex]) M
   ·exact N G.E A j _ _ hlt' e1 t (by simp[qex]) (by simp[qex]) M
end
theorem VRep.proc_iff{G:Gh}{v:Vl}{t:Nat}{y:Vu}(h:VRep G v (.iface t y)):qta v=decide (t=281):=by
 cases h with
 |proc v b h=>cases h <;> rfl
 |_=>rfl
theorem qru{S:Sub}{n:Nat}(G:Gh)(m:Mc)(w:Wd)(f:Vl)(l:List Vl)(k:List Fr)(x:Vu)(sa:OA)(d sc h:Nat)(j:Array Vu)
  (i:Inv G S m w)(s:VRep G f x)(P:LRow G w.heap (.slice sa d sc) l)(Q:FRep G k (.func (.func h) #[] j)):
  Calls prog 283 #[bp G.mb,x,.slice sa d sc,.func (.func h) #[] j] w (Post G S n (qcn S f l k m).1 (qcn S f l k m).2):=by
 by_cases p:(m.steps:Int)<S.fuel
 ·have c:=i.steps (m.steps+1) (by push_cast;omega);obtain⟨t,y,rfl⟩:=s.form;by_cases A:t=281
  ·subst A;have r:qcn S f l k m=(.ap f l k,{m with steps:=m.steps+1}):=by simp[qcn,Sc.step,p,s.proc_iff]
   rw[r];cases s with
   |proc v b R=>
    refine Calls.mono (qxh G.mb G.sb b h m.steps S.fuel sa d sc j w i.mb0 i.st (by omega) (by omega) (by have:=i.sl.2;omega)) ?_;rintro e w' ⟨rfl,K⟩;have c:Inv G S {m with steps:=m.steps+1} (w.setCell ⟨G.sb,0,none⟩ (.int .i64 ((m.steps:Int)+1))):=by simpa using c
    have L:=c.alloc3 (.cells #[.slice sa d sc] 184) (.cells #[.func (.func h) #[] j] 295) (.cells #[.pointer (some ⟨b,0,none⟩)] 281);have x4:=c.x3 (.cells #[.slice sa d sc] 184) (.cells #[.func (.func h) #[] j] 295) (.cells #[.pointer (some ⟨b,0,none⟩)] 281);rw[qag]at L x4;refine Post.now (.ap f l k _ w' _ _ x4.up (Inv.lk K L) (.mk f l k (w.heap.size+2) w.heap.size (w.heap.size+1) b (.slice sa d sc) (.func (.func h) #[] j) ?_ ?_ ?_ (R.mono x4.le) ?_ (Q.mono x4.le)))
    ·exact Gh.add_at _ _ _
    ·rw[qah _ (by omega),qah _ (by omega)];exact Gh.add_at _ _ _
    ·rw[qah _ (by omega)];exact Gh.add_at _ _ _
    ·rcases P with⟨B,C⟩|⟨g,o,cap,D,B,C,T,U,M,N,V,W,X⟩
     ·exact .inl ⟨B,C⟩
     ·have E:g<w.heap.size:=(eE.1 M).1;have H:g≠G.sb:=λe=>N (e▸i.m2)
      refine .inr ⟨g,o,cap,D,B,C,T,U,?_,by rw[x4.mut];exact N,by rw[x4.I E];exact V,by rw[x4.F];exact W,λq u Y=>?_⟩
      ·rw[K.heap,eH _ _ _ (by simp;omega),eH _ _ _ (by simp;omega),eH _ _ _ (by simp;omega),qab (a:=⟨G.sb,0,none⟩) g H];exact M
      ·obtain⟨z,Z,z2⟩:=X q u Y;exact⟨z,Z,z2.mono x4.le⟩
  ·have r:qcn S f l k m=(.stop 6,{m with steps:=m.steps+1}):=by simp[qcn,Sc.step,p,s.proc_iff,A]
   rw[r];refine Calls.mono (qul G.mb G.sb t h y m.steps S.fuel sa d sc j w i.mb0 i.st (by omega) (by omega) (by have:=i.sl.2;omega) A) ?_;rintro e w' ⟨rfl,J⟩;have c:Inv G S {m with steps:=m.steps+1} (w.setCell ⟨G.sb,0,none⟩ (.int .i64 ((m.steps:Int)+1))):=by simpa using c
   exact Post.now (.stop 6 _ _ (c.cntB (by rw[qag];exact eR _) J))
 ·have r:qcn S f l k m=(.stop 10,m):=by simp[qcn,Sc.step,p]
  rw[r];have hm:(m.steps:Int)=S.fuel:=by have:=i.sl.1;omega
  have O:=i.st;rw[<-hm]at O;refine Calls.mono (quk G.mb G.sb h x m.steps sa d sc j w i.mb0 O (by omega) (by have:=i.sl.2;omega)) ?_;rintro e w' ⟨rfl,J⟩;have c:=i.steps m.steps (by omega);exact Post.now (.stop 10 _ _ (c.cntB (by rw[qag];exact eR _) J))
end
section
theorem HRep.chn{G:Gh}{S:Sub}{m:Mc}{w:Wd}(i:Inv G S m w):∀{vs:List Vl} {p:OA},HRep G vs p->∃xs,Chn w xs p/\VsRep G vs xs
 |_,_,.nil=>⟨[],rfl,rfl,λj v x h=>by simp at h⟩
 |_,_,.cons v r b x pd hb hv hr=>by
  obtain⟨xs,e,a⟩:=HRep.chn i hr;refine⟨x::xs,⟨b,pd,rfl,by rw[<-a.1];exact i.imm hb,e⟩,by simp[a.1],?_⟩;intro j u y c d;cases j with
  |zero=>simp at c d;subst c;subst d;exact hv
  |succ j=>exact a.2 j u y (by simpa using c) (by simpa using d)
theorem Chn.gsize{w:Wd}:∀{xs:List Vu} {p:OA},Chn w xs p->qq7 w p (xs.length:Int)
 | [],_,h=>.inl ⟨h,rfl⟩
 |x::r,_,⟨b,q,e1,e2,_⟩=>.inr ⟨b,e1,by simp[World.cell?,e2]⟩
section
variable {S:Sub} {n:Nat} {G:Gh} {m:Mc} {w:Wd} {v:Vl} {x:Vu} {k:List Fr}
theorem qze(i:Inv G S m w)(b:VRep G v x)(c:G.mbox q):
  Calls prog 230 (#[x]++#[bp q]) w (Post G S (n+1) (.ret v []) m):=by
 obtain⟨t,y,rfl⟩:=b.form;obtain⟨z,d⟩:=i.mb3;refine Calls.mono (q69 q G.mb t y z w (by rw[i.cell c];rfl) d (i.mbf 3)) ?_;rintro e w' ⟨rfl,rfl⟩;refine Post.step (c1:=.done v) (m1:=m) (by simp[Sc.next]) rfl (Gh.up.refl G) (Post.now (.done v m _ G (.iface t y) (Gh.up.refl G) (i.given _) ?_ b));obtain⟨f,g,a,_⟩:=i.ma;simp[World.cell?,World.setCell,Array.getElem?_modify,a]
theorem qzf(j:qq5 S n)(B:quv S n)(i:Inv G S m w)(C:VRep G v x){sh:List Nat}{t:Ex}{e:Option Ex}{env:Option Nat}{q1 q2 q3 f:Nat}{L M u:Vu}{pf:OA}
  (R:G.I q1=some (.cells #[L] 241 (0,0)))(T:G.I q2=some (.cells #[.pointer pf] 378 (0,0)))(U:G.I q3=some (.cells #[u] 295 (0,0)))(V:G.I f=some (.cells #[M] 241 (0,0)))
  (N:CRep G sh t M)(l:ORep G sh e L)(O:NRep G env pf)(P:Sh G sh pf)(z:FRep G k u)(g:Ct.ended (go S (n+1) (.ret v (.ite t e env::k)) m).1=true):
  Calls prog 399 (#[x]++#[bp q1,bp q2,bp q3,bp f]) w (Post G S (n+1) (.ret v (.ite t e env::k)) m):=by
 obtain⟨c,d,rfl,D⟩:=z.isF;obtain⟨o,q,rfl,r⟩:=N.isF;obtain⟨E,F,rfl,H⟩:=l.isF;obtain⟨ty,y,rfl⟩:=C.form;have c1:w.cell? ⟨q1,0,none⟩=some (.func (.func E) #[] F):=by rw[i.cell R];rfl
 have c2:w.cell? ⟨q2,0,none⟩=some (.pointer pf):=by rw[i.cell T];rfl
 have c3:w.cell? ⟨q3,0,none⟩=some (.func (.func c) #[] d):=by rw[i.cell U];rfl
 have c4:w.cell? ⟨f,0,none⟩=some (.func (.func o) #[] q):=by rw[i.cell V];rfl
 by_cases Q:v=.bool false
 ·subst Q;cases C with
  |bool b=>
   refine qqd q1 q2 q3 f pf c d E F w _ H Post.ends c1 c2 c3 ?_;intro w' A;cases l with
   |none=>
    have a:Sc.next S (.ret (.bool false) (.ite t none env::k)) m=(.ret .none k,m):=rfl;rw[qbi a rfl]at g;refine qog c pf d w' _ D Post.ends ?_;intro J K;exact Calls.mono (B G m J .none k _ c d (Inv.lk K (Inv.lk A i)) .none z g) λe w p=>Post.step a rfl (Gh.up.refl G) p
   |some sh e x W=>
    have a:Sc.next S (.ret (.bool false) (.ite t (some e) env::k)) m=(.ev e env k,m):=rfl;rw[qbi a rfl]at g;exact Calls.mono (j G m w' sh e env k E c F d pf (Inv.lk A i) W O P z g) λe w p=>Post.step a rfl (Gh.up.refl G) p
  |proc v b h=>cases h
 ·have a:Sc.next S (.ret v (.ite t e env::k)) m=(.ev t env k,m):=by
   unfold Sc.next;split <;> simp_all
  rw[qbi a rfl]at g;have go:∀w',Lk w w'->Calls prog o (#[.pointer pf,.func (.func c) #[] d]++q) w' (Post G S (n+1) (.ret v (.ite t e env::k)) m):=λw' A=>
   Calls.mono (j G m w' sh t env k o c q d pf (Inv.lk A i) N O P z g) λe w p=>Post.step a rfl (Gh.up.refl G) p
  by_cases s:ty=181
  ·subst s;cases C with
   |bool b=>
    cases b with
    |false=>exact absurd rfl Q
    |true=>exact qtc q1 q2 q3 f pf c d o q w _ r Post.ends c4 c2 c3 go
  ·exact qtd ty y q1 q2 q3 f pf c d o q w _ r Post.ends c4 c2 c3 s go
theorem qvs(b:qq5 S n)(i:Inv G S m w){l:List Ex}{env:Option Nat}
  (r:G.I q1=some (.cells #[xl] 241 (0,0)))(s:G.I q2=some (.cells #[.pointer pf] 378 (0,0)))(t:G.I q3=some (.cells #[u] 295 (0,0)))
  (d:SRep G sh l xl)(y:NRep G env pf)(z:Sh G sh pf)(f:FRep G k u)(g:Ct.ended (go S (n+1) (.ret v (.body l env::k)) m).1=true):
  Calls prog 385 (#[x]++#[bp q1,bp q2,bp q3]) w (Post G S (n+1) (.ret v (.body l env::k)) m):=by
 obtain⟨h,j,rfl,A⟩:=f.isF;obtain⟨o,q,rfl,c⟩:=d.isF;have a:Sc.next S (.ret v (.body l env::k)) m=(qge l env k,m):=rfl;rw[qbi a rfl]at g;refine q37 x q1 q2 q3 pf h j o q w _ c Post.ends (by rw[i.cell r];rfl) (by rw[i.cell s];rfl) (by rw[i.cell t];rfl) ?_;intro w' B;exact Calls.mono (qi6 b G m w' sh l env k o h q j pf (Inv.lk B i) d y z f g) λe w p=>Post.step a rfl (Gh.up.refl G) p
end
end
section
theorem VsRep.reverse(h:VsRep G vs xs):VsRep G vs.reverse xs.reverse:=by
 refine⟨by simp[h.1],λj v x a b=>?_⟩;have c:j<vs.length:=by simpa using (eL.1 a).1
 rw[List.getElem?_reverse c]at a;rw[List.getElem?_reverse (by rw[<-h.1];exact c),<-h.1]at b;exact h.2 _ v x a b
section
variable {S:Sub} {n:Nat} {G:Gh} {m:Mc} {w:Wd} {v:Vl} {x:Vu} {k:List Fr}
theorem qzg(b0:qq5 S n)(i:Inv G S m w)(hv:VRep G v x){vs:List Vl}{l:List Ex}{env:Option Nat}{q4 q5 d q:Nat}{sl x0 u:Vu}{H:OA}
  (h1:G.mbox q1)(h2:G.I q2=some (.cells #[sl] 426 (0,0)))(h3:G.I q3=some (.cells #[.pointer pf] 378 (0,0)))(h4:G.I q4=some (.cells #[.pointer H] 470 (0,0)))(h5:G.I q5=some (.cells #[.func (.func 372) #[] #[bp d,bp q]] 450 (0,0)))(h6:G.mbox d)(h7:G.I q=some (.cells #[u] 295 (0,0)))
  (hb:vs.length+xs.length<=90000)(hr:RowI G 241 sl (x0::xs))(hx:XRep G sh l xs)(hc:HRep G vs.reverse H)(hn:NRep G env pf)(hs:Sh G sh pf)(hk:FRep G k u)(he:Ct.ended (go S (n+1) (.ret v (.app vs l env::k)) m).1=true):
  Calls prog 396 (#[x]++#[bp q1,bp q2,bp q3,bp q4,bp q5]) w (Post G S (n+1) (.ret v (.app vs l env::k)) m):=by
 obtain⟨ku,cu,rfl,b9⟩:=hk.isF;obtain⟨ty,y,rfl⟩:=hv.form;obtain⟨g,o,cap,T,rfl,hg,V,hm,W⟩:=hr;obtain⟨cs,b1,b2⟩:=hc.chn i;have b3:cs.length=vs.length:=by rw[<-b2.1];simp
 have i1:=i.alloc (.cells #[.iface ty y,.pointer H,.int .i64 ((cs.length:Int)+1)] 485);have x1:=i.x1 (.cells #[.iface ty y,.pointer H,.int .i64 ((cs.length:Int)+1)] 485);have B:xs.length+1<=cap:=by simpa using V
 refine q0t q1 q2 q3 q4 q5 G.mb g o xs.length cap ty 372 y pf H cs.length #[bp d,bp q] w _ Post.ends (by rw[i.cell h1];rfl) (by rw[i.cell h2];rfl) (by rw[i.cell h3];rfl)
  (λv w' p=>⟨p.cell h1,p.cell h2,p.cell h3,p.cell h4,p.cell h5⟩) (by rw[i.cell h4];rfl) (by rw[i.cell h5];rfl) b1.gsize (by omega) (by omega) B (by simpa using hm) ?_
 intro w' hw;have A:=Inv.lk hw i1;have c0:w'.heap.size=w.heap.size+1:=by rw[hw.heap];simp
 have X:HRep (G.add w.heap.size (.cells #[.iface ty y,.pointer H,.int .i64 ((cs.length:Int)+1)] 485)) (v::vs.reverse) (some ⟨w.heap.size,0,none⟩):=
  .cons v vs.reverse w.heap.size (.iface ty y) H (by rw[b3];simp only[List.length_reverse];exact Gh.add_at _ _ _) (hv.mono x1.le) (hc.mono x1.le)
 cases hx with
 |nil=>
  obtain⟨b,Y,s⟩:=X.chn A;have Z:b.length=vs.length+1:=by rw[<-s.1];simp
  have Q:=A.alloc5 (.cells #[bp G.mb] 107) (.cells #[.slice (tl1 g o cap) 0 (cap-1)] 426) (.cells #[.pointer pf] 378) (.cells #[.pointer (some ⟨w.heap.size,0,none⟩)] 470) (.cells #[.func (.func 372) #[] #[bp d,bp q]] 450);have J:=A.x5 (.cells #[bp G.mb] 107) (.cells #[.slice (tl1 g o cap) 0 (cap-1)] 426) (.cells #[.pointer pf] 378) (.cells #[.pointer (some ⟨w.heap.size,0,none⟩)] 470) (.cells #[.func (.func 372) #[] #[bp d,bp q]] 450);have L:=x1.le.trans J.le;have U:=x1.up.trans J.up;obtain⟨f,al,M⟩:∃f al,vs++[v]=f::al:=by
   cases vs with
   |nil=>exact⟨v,[],rfl⟩
   |cons a r=>exact⟨a,r++[v],rfl⟩
  have D:Sc.next S (.ret v (.app vs [] env::k)) m=qcn S f al k m:=by
   simp only[Sc.next,M]
  have a0:(v::vs.reverse).reverse=vs++[v]:=by simp
  have a1:∀x∈b,∃t v,x=Value.iface t v:=λx hx=>by
   obtain⟨j,hj,rfl⟩:=List.mem_iff_getElem.1 hx;have b4:j<(v::vs.reverse).length:=by rw[s.1];exact hj
   exact(s.2 j _ _ (eG b4) (eG hj)).form
  have E:VsRep (G.add w.heap.size (.cells #[.iface ty y,.pointer H,.int .i64 ((cs.length:Int)+1)] 485)) (f::al) b.reverse:=by
   have:=s.reverse;rw[a0,M]at this;exact this
  have N:al.length=vs.length:=by have:=congrArg List.length M;simp at this;omega
  have a3:b.reverse.length=al.length+1:=by simp;omega
  obtain⟨xf,xr,O⟩:∃xf xr,b.reverse=xf::xr:=by
   cases h:b.reverse with
   |nil=>rw[h]at a3;simp at a3
   |cons a r=>exact⟨a,r,rfl⟩
  rw[O]at E;have a4:=(E.2 0 f xf rfl rfl).mono J.le;obtain⟨tf,yf,rfl⟩:=a4.form;have a5:(((((w'.alloc (.cells #[bp G.mb] 107)).alloc (.cells #[.slice (tl1 g o cap) 0 (cap-1)] 426)).alloc (.cells #[.pointer pf] 378)).alloc (.cells #[.pointer (some ⟨w.heap.size,0,none⟩)] 470)).alloc (.cells #[.func (.func 372) #[] #[bp d,bp q]] 450)).heap.size=w'.heap.size+5:=by simp
  have i7:=Q.below ((Below.refl _ _).alloc (eR _) (.cells b.reverse.toArray 116));have a6:((((((w'.alloc (.cells #[bp G.mb] 107)).alloc (.cells #[.slice (tl1 g o cap) 0 (cap-1)] 426)).alloc (.cells #[.pointer pf] 378)).alloc (.cells #[.pointer (some ⟨w.heap.size,0,none⟩)] 470)).alloc (.cells #[.func (.func 372) #[] #[bp d,bp q]] 450)).alloc (.cells b.reverse.toArray 116)).heap[w'.heap.size+5]? =some (.cells b.reverse.toArray 116 (0,0)):=by
   rw[<-a5];exact eN _ _
  refine Calls.mono (R:=Post _ S n (qcn S f al k m).1 (qcn S f al k m).2) ?_ (λe w p=>Post.step D rfl U p);refine qqo G.mb 372 #[bp d,bp q] (tl1 g o cap) pf (some ⟨w.heap.size,0,none⟩) (cap-1) b w' _ q5t Post.ends (λv w2 p=>⟨p.cell (Gh.add_at _ _ _),p.cell (by rw[qah _ (by omega)];exact Gh.add_at _ _ _)⟩) Y a1 (by omega) (by omega) ?_;intro w2 F;have P:=Inv.lk F i7;have K:w2.heap[w'.heap.size+5]? =some (.cells b.reverse.toArray 116 (0,0)):=by rw[F.heap];exact a6
  rw[show b.length=vs.length+1 from Z];refine q6m d q G.mb (w'.heap.size+5) 0 vs.length (vs.length+1) tf ku yf cu w2 _ Post.ends (by rw[P.cell (L.mbox h6),L.mb];rfl) (by rw[P.cell (L.I h7)];rfl) (by simp[World.cell?,K,O]) (eR _) (by omega) ?_;intro w3 a7;have i8:=Inv.lk a7 P;have a8:=qru (n:=n) _ m w3 f al k (.iface tf yf) (tl1 (w'.heap.size+5) 0 (vs.length+1)) vs.length (vs.length+1-1) ku cu i8 a4 ?_ (hk.mono L)
  ·rw[L.mb]at a8;exact a8
  ·cases al with
   |nil=>
    left;have h0:vs.length=0:=by rw[<-N];rfl
    exact⟨rfl,tl1 (w'.heap.size+5) 0 (vs.length+1),vs.length+1-1,by rw[h0]⟩
   |cons a2 c2=>
    right;have b5:w'.heap.size+5=(((((w'.alloc (.cells #[bp G.mb] 107)).alloc (.cells #[.slice (tl1 g o cap) 0 (cap-1)] 426)).alloc (.cells #[.pointer pf] 378)).alloc (.cells #[.pointer (some ⟨w.heap.size,0,none⟩)] 470)).alloc (.cells #[.func (.func 372) #[] #[bp d,bp q]] 450)).heap.size:=a5.symm;have b6:vs.length+1≠1:=by rw[<-N];simp
    refine⟨w'.heap.size+5,1,vs.length,b.reverse.toArray,by rw[N,tl1,if_neg b6];simp,by simp,by omega,by omega,by rw[a7.heap];exact K,?_,?_,?_,?_⟩
    ·intro a9;have:=Q.ml a9;omega
    ·rw[b5];exact Q.fresh (eR _)
    ·intro hF;have:=(Q.ff hF).2;omega
    ·intro j u hu;have hj:j+1<(Value.iface tf yf::xr).length:=by
      rw[<-E.1];simp;have:=(eL.1 hu).1;simpa using this
     refine⟨(Value.iface tf yf::xr)[j+1],by rw[O];simp[Nat.add_comm 1 j],?_⟩;exact(E.2 (j+1) u _ (by simpa using hu) (eG hj)).mono J.le
 |cons sh e1 r y1 c hf hl=>
  obtain⟨k1,c1,rfl,b7⟩:=hf.isF;have b8:c.length+2<=cap:=by simp at B;omega
  have ht:tl1 g o cap=some ⟨g,o+1,none⟩:=by unfold tl1;rw[if_neg (by omega)]
  have D:Sc.next S (.ret v (.app vs (e1::r) env::k)) m=(.ev e1 env (.app (vs++[v]) r env::k),m):=rfl;rw[qbi D rfl]at he;have Q:=A.alloc5 (.cells #[bp G.mb] 107) (.cells #[.slice (some ⟨g,o+1,none⟩) (c.length+1) (cap-1)] 426) (.cells #[.pointer pf] 378) (.cells #[.pointer (some ⟨w.heap.size,0,none⟩)] 470) (.cells #[.func (.func 372) #[] #[bp d,bp q]] 450);have J:=A.x5 (.cells #[bp G.mb] 107) (.cells #[.slice (some ⟨g,o+1,none⟩) (c.length+1) (cap-1)] 426) (.cells #[.pointer pf] 378) (.cells #[.pointer (some ⟨w.heap.size,0,none⟩)] 470) (.cells #[.func (.func 372) #[] #[bp d,bp q]] 450);have L:=x1.le.trans J.le;have U:=x1.up.trans J.up;have C:∀j z,(Value.func (.func k1) #[] c1::c)[j]? =some z->T[o+1+j]? =some z:=λj z hz=>by
   have:=W (j+1) z (by simpa using hz);rw[show o+1+j=o+(j+1)from by omega];exact this
  rw[ht];refine qhl G.mb g (o+1) c.length (cap-1) k1 c1 pf (some ⟨w.heap.size,0,none⟩) 372 #[bp d,bp q] w' _ b7 Post.ends (by rw[A.cell (x1.le.I hg)];exact C 0 _ rfl) ?_;intro w2 F;refine Calls.mono (b0 _ m w2 sh e1 env (.app (vs++[v]) r env::k) k1 396 c1 _ pf (Inv.lk F Q) (hf.mono L) (hn.mono L) (hs.mono L)
   (.app sh (vs++[v]) r env k _ _ _ _ _ d q (.slice (some ⟨g,o+1,none⟩) (c.length+1) (cap-1)) (.func (.func k1) #[] c1) (.func (.func ku) #[] cu) c pf (some ⟨w.heap.size,0,none⟩) ?_ ?_ ?_ ?_ ?_ (L.mbox h6) (L.I h7) (by simp at hb|-;omega) ?_ (hl.mono L) ?_ (hn.mono L) (hs.mono L) (hk.mono L)) he) (λe w p=>Post.step D rfl U p)
  ·show _=some (Obj.cells #[bp G.mb] 107 (0,0));rw[qah _ (by omega),qah _ (by omega),qah _ (by omega),qah _ (by omega)];exact Gh.add_at _ _ _
  ·rw[qah _ (by omega),qah _ (by omega),qah _ (by omega)];exact Gh.add_at _ _ _
  ·rw[qah _ (by omega),qah _ (by omega)];exact Gh.add_at _ _ _
  ·rw[qah _ (by omega)];exact Gh.add_at _ _ _
  ·exact Gh.add_at _ _ _
  ·exact⟨g,o+1,cap-1,T,rfl,L.I hg,by simp;omega,by omega,C⟩
  ·rw[List.reverse_append];exact X.mono J.le
end
end
theorem qdg(t:BA)(l:List UInt8):(t==(⟨l.toArray⟩:BA))=decide (t.data.toList=l):=by
 obtain⟨⟨d⟩⟩:=t;show(Array.mk d==l.toArray)=decide (d=l);by_cases h:d=l <;> simp[h]
theorem q7h(e:Bool)(n:Nat)(t:BA)(w:Wd):(Instr.checkKey e (n+1) 9 (.string t)).run prog w=.ok () w:=by
 simp[Instr.checkKey,run_underlying underlying9]
theorem qh8(e:Bool)(t:BA)(w:Wd):(Instr.checkKey e 10000 9 (.string t)).run prog w=.ok () w:=q7h e 9999 t w
def qdj(s:List UInt8):List (List UInt8×Nat)->Option Nat
 | []=>none
 |(t,b)::r=>if s=t then some b else qdj s r
theorem qjv(t:BA):∀(es:List MapEntry) (B:List (List UInt8×Nat)) (i:Nat),es.map (λe=>(e.key,e.val))=B.map (λp=>(Value.string ⟨p.1.toArray⟩,Value.pointer (some ⟨p.2,0,none⟩)))->
  ∃r,Instr.findNow .string (.string t) es i=some r/\r.map (·.2)=(qdj t.data.toList B).map λb=>Value.pointer (some ⟨b,0,none⟩)
 | [],[],i,_=>⟨none,rfl,rfl⟩
 | [],_::_,i,h=>by simp at h
 |_::_,[],i,h=>by simp at h
 |e::es,(s,b)::B,i,h=>by
  simp only[List.map_cons,List.cons.injEq,Prod.mk.injEq]at h;obtain⟨⟨c,d⟩,f⟩:=h;simp only[Instr.findNow,c,Instr.sameNow,qdg,qdj];by_cases a:t.data.toList=s
  ·simp[a,d]
  ·simp only[a,decide_false];obtain⟨r,e1,e2⟩:=qjv t es B (i+1) f;exact⟨r,e1,by simpa[a]using e2⟩
theorem qa4(b:Nat)(es:Array MapEntry)(a:Nat)(w:Wd)(c:w.heap[b]? =some (.map es a)):(getObj b).run prog w=.ok (.map es a) w:=by
 unfold getObj;simp[Sem.run,c]
theorem qii(c:Nat)(es:Array MapEntry)(a:Nat)(B:List (List UInt8×Nat))(t:BA)(w:Wd)(f:w.heap[c]? =some (.map es a))(g:es.toList.map (λe=>(e.key,e.val))=B.map (λp=>(Value.string ⟨p.1.toArray⟩,Value.pointer (some ⟨p.2,0,none⟩)))):
  (Instr.lookup 114 (.map (some c)) (.string t) false).run prog w=.ok (.pointer ((qdj t.data.toList B).map λb=>⟨b,0,none⟩)) w:=by
 obtain⟨r,e1,e2⟩:=qjv t es.toList B 0 g;have d:=qa4 c es a w f;cases r with
 |none=>
  cases hl:qdj t.data.toList B with
  |none=>simp[Instr.lookup,run_underlying underlying114,go_sem,d,qh8,Instr.findKey,run_underlying underlying9,e1]
  |some b=>rw[hl]at e2;simp at e2
 |some p=>
  cases hl:qdj t.data.toList B with
  |none=>rw[hl]at e2;simp at e2
  |some b=>rw[hl]at e2;obtain⟨i,v⟩:=p;simp at e2;subst e2;simp[Instr.lookup,run_underlying underlying114,go_sem,d,qh8,Instr.findKey,run_underlying underlying9,e1]
theorem qe2(c b:Nat)(es:Array MapEntry)(a:Nat)(B:List (List UInt8×Nat))(t:BA)(w:Wd)(d:w.heap[c]? =some (.map es a))(f:es.toList.map (λe=>(e.key,e.val))=B.map (λp=>(Value.string ⟨p.1.toArray⟩,Value.pointer (some ⟨p.2,0,none⟩))))(g:qdj t.data.toList B=none):
  (Instr.mapUpdate 114 (.map (some c)) (.string t) (.pointer (some ⟨b,0,none⟩))).run prog w=.ok () {w with heap:=w.heap.setIfInBounds c (.map (es.push ⟨.string t,.pointer (some ⟨b,0,none⟩),a⟩) (a+1))}:=by
 obtain⟨r,e1,e2⟩:=qjv t es.toList B 0 f;rw[g]at e2;have h:r=none:=by simpa using e2
 subst h;have i:=qa4 c es a w d;simp[Instr.mapUpdate,run_underlying underlying114,go_sem,i,qh8,Instr.findKey,run_underlying underlying9,e1];unfold setObj;simp[Sem.run,d]
theorem qlf{s:List UInt8}:∀{B:List (List UInt8×Nat)} {b:Nat},qdj s B=some b->(s,b)∈B
 | [],_,h=>by simp[qdj]at h
 |(t,c)::r,b,h=>by
  by_cases a:s=t
  ·subst a;simp[qdj]at h;subst h;simp
  ·simp[qdj,a]at h;exact List.mem_cons_of_mem _ (qlf h)
theorem qfj{s:List UInt8}:∀{B:List (List UInt8×Nat)},qdj s B=none->∀b,(s,b)∉B
 | [],_,b,h=>by simp at h
 |(t,c)::r,hn,b,h=>by
  by_cases a:s=t
  ·subst a;simp[qdj]at hn
  ·simp[qdj,a]at hn;rcases List.mem_cons.1 h with h|h
   ·cases h;exact a rfl
   ·exact qfj hn b h
def Gh.glob(G:Gh)(s:Bs)(b:Nat):Gh:={G with B:=G.B++[(s,b)]}
theorem Gh.le_glob(G:Gh)(s:Bs)(b:Nat):G.le (G.glob s b):=⟨_root_.id,_root_.id,_root_.id,λh=>List.mem_append_left _ h,rfl,rfl,rfl,rfl,rfl,rfl⟩
theorem Gh.up_glob(G:Gh)(s:Bs)(b:Nat):G.up (G.glob s b):=⟨G.le_glob s b,rfl,rfl⟩
theorem Inv.newGlob(i:Inv G S m w)(L:∀c,(s,c)∉G.B)(M:w.heap[b]? =some (.cells #[.nilIface] 318 (0,0)))(z:b∉G.mut)(C:G.I b=Option.none)(D:¬G.F b)
  (l:∀c,c≠G.mp->w'.heap[c]? =w.heap[c]?)(N:w'.heap.size=w.heap.size)(E:w'.os=w.os/\w'.tape=w.tape/\w'.output=w.output)
  (P:∃es r,w'.heap[G.mp]? =some (.map es r)/\es.toList.map (λe=>(e.key,e.val))=(G.B++[(s,b)]).map (λp=>(Value.string ⟨p.1.toArray⟩,bp p.2))):Inv (G.glob s b) S m w':=by
 have h:=G.le_glob s b;have k:∀c,c∈(G.glob s b).mut↔c∈G.mut\/c=b:=λc=>by
  simp only[Gh.mut,Gh.glob,Gh.rows,List.mem_cons,List.mem_append,List.map_append,List.map_cons,List.map_nil];constructor
  ·rintro(h|h|h|h|(h|h|h)|h)
   ·exact .inl (.inl h)
   ·exact .inl (.inr (.inl h))
   ·exact .inl (.inr (.inr (.inl h)))
   ·exact .inl (.inr (.inr (.inr (.inl h))))
   ·exact .inl (.inr (.inr (.inr (.inr (.inl h)))))
   ·exact .inr h
   ·simp at h
   ·exact .inl (.inr (.inr (.inr (.inr (.inr h)))))
  ·rintro((h|h|h|h|h|h)|h)
   ·exact .inl h
   ·exact .inr (.inl h)
   ·exact .inr (.inr (.inl h))
   ·exact .inr (.inr (.inr (.inl h)))
   ·exact .inr (.inr (.inr (.inr (.inl (.inl h)))))
   ·exact .inr (.inr (.inr (.inr (.inr h))))
   ·exact .inr (.inr (.inr (.inr (.inl (.inr (.inl h))))))
 have H:b<w.heap.size:=(eE.1 M).1;have J:(G.glob s b).mut.Nodup:=by
  have e:(G.glob s b).mut=G.mb::G.sb::G.cb::G.mp::(G.B.map (·.2)++([b]++G.rows)):=by simp[Gh.mut,Gh.glob,Gh.rows]
  have p:((G.B.map (·.2)++([b]++G.rows))).Perm (b::(G.B.map (·.2)++G.rows)):=by
   rw[<-List.append_assoc];exact(List.perm_append_comm (l₁:=G.B.map (·.2)) (l₂:=[b])).append_right G.rows
  rw[e];have q:(G.mb::G.sb::G.cb::G.mp::(G.B.map (·.2)++([b]++G.rows))).Perm (b::G.mut):=by
   refine((((p.cons G.mp).cons G.cb).cons G.sb).cons G.mb).trans ?_;refine((((List.Perm.swap _ _ _).cons _).cons _).cons _).trans ?_;refine(((List.Perm.swap _ _ _).cons _).cons _).trans ?_;refine((List.Perm.swap _ _ _).cons _).trans ?_;exact List.Perm.swap _ _ _
  exact q.nodup_iff.2 (List.nodup_cons.2 ⟨z,i.nd⟩)
 have keep:∀{c:Nat} {o:Obj},G.I c=some o->w'.heap[c]? =w.heap[c]?:=fun {c o} f=>l c λe=>by rw[e,i.mi i.m4]at f;cases f
 refine⟨λf=>by rw[keep f];exact i.imm f,J,?_,?_,i.st.keep (l _ (Ne.symm i.mp_sb)),i.ce.keep (l _ (Ne.symm i.mp_cb)),i.sl,i.cl,?_,P,?_,?_,?_,?_,i.el,i.jl,i.jn,i.ji,?_,?_,?_,?_⟩
 ·intro c f;rcases (k c).1 f with f|rfl
  ·exact i.mi f
  ·exact C
 ·intro c f;rw[N];rcases (k c).1 f with f|rfl
  ·exact i.ml f
  ·exact H
 ·obtain⟨Q,R,a,c⟩:=i.ma;exact⟨Q,R,by show w'.heap[G.mb]? =_;rw[l _ (Ne.symm i.mp_mb)];exact a,c.mono h⟩
 ·intro t c htc;rcases List.mem_append.1 htc with htc|htc
  ·obtain⟨x,u,A⟩:=i.gl htc;exact⟨x,by rw[l c (i.lateB htc).2.2.2];exact u,A.mono h⟩
  ·simp at htc;obtain⟨rfl,rfl⟩:=htc;refine⟨.nilIface,by rw[l c λe=>z (e▸i.m4)];exact M,?_⟩;rcases hl:lookup t m.glob with _|v
   ·rfl
   ·obtain⟨d,T⟩:=i.gd hl;exact absurd T (L d)
 ·intro t v U;obtain⟨c,f⟩:=i.gd U;exact⟨c,List.mem_append_left _ f⟩
 ·show((G.B++[(s,b)]).map (·.1)).Nodup;rw[List.map_append,List.nodup_append];refine⟨i.gk,by simp,λx V y O e=>?_⟩;simp at O;subst O;subst e;obtain⟨⟨p1,X⟩,Y,rfl⟩:=List.mem_map.1 V;exact L X Y
 ·intro j vs e Z;obtain⟨fb,sv,pf,u,A,h3,h4⟩:=i.en Z;exact⟨fb,sv,pf,u,A,h3.mono h,h4.mono h λg o n cap K=>l g (i.lateE (by rw[u,K])).2.2.2⟩
 ·show w'.os=G.W.os/\w'.tape=G.W.tape/\w'.output=G.W.output;rw[E.1,E.2.1,E.2.2];exact i.fo
 ·intro c f;obtain⟨u,A⟩:=i.ff f;rw[l c (λe=>i.fm i.m4 (e▸f)),N];exact⟨u,A⟩
 ·intro c f;rcases (k c).1 f with f|rfl
  ·exact i.fm f
  ·exact D
 ·exact i.fi
theorem Inv.mb2(i:Inv G S m w):w.cell? ⟨G.mb,2,Option.none⟩=some (.map (some G.mp)):=by obtain⟨a,b,h,_⟩:=i.ma;simp[World.cell?,h]
theorem Inv.gfz(i:Inv G S m w)(h:(s,b)∈G.B):w.frozen? ⟨b,0,Option.none⟩=false:=by obtain⟨x,a,_⟩:=i.gl h;simp[World.frozen?,a]
theorem Inv.gcell(i:Inv G S m w)(h:(s,b)∈G.B):∃x,w.cell? ⟨b,0,Option.none⟩=some x/\(x=.nilIface\/∃t y,x=.iface t y):=by
 obtain⟨x,c,a⟩:=i.gl h;refine⟨x,by simp[World.cell?,c],?_⟩;rcases hl:lookup s m.glob with _|v
 ·rw[hl]at a;exact .inl a
 ·rw[hl]at a;exact .inr (VRep.form a)
section
section
variable {S:Sub} {n:Nat} {G:Gh} {m:Mc} {w:Wd} {v:Vl} {x:Vu} {k:List Fr}
theorem qzd(h:quv S n)(i:Inv G S m w)(J:VRep G v x){sh:List Nat}{t:Tg}{env:Option Nat}{q1 q2 q3:Nat}{xs u:Vu}{pf:OA}
  (U:G.I q1=some (.cells #[xs] 413 (0,0)))(V:G.I q2=some (.cells #[.pointer pf] 378 (0,0)))(W:G.I q3=some (.cells #[u] 295 (0,0)))
  (K:TRep G sh t xs)(X:NRep G env pf)(Y:Sh G sh pf)(L:FRep G k u)(d:Ct.ended (go S (n+1) (.ret v (.set t env::k)) m).1=true):
  Calls prog 356 (#[x]++#[bp q1,bp q2,bp q3]) w (Post G S (n+1) (.ret v (.set t env::k)) m):=by
 obtain⟨M,O,rfl,r⟩:=L.isF;obtain⟨ks,cs,rfl,z⟩:=K.isF;refine q36 q1 q2 q3 ks cs x pf M O w _ r z Post.ends (by rw[i.cell U];rfl) (by rw[i.cell V];rfl) ?_;cases K with
 |loc u j N q Z P A B=>
  obtain⟨jx,fb,sv,vs,e',k1,k2,Q,k4,k5,k6,f⟩:=i.find u X Y Z;rcases k6 with⟨rfl,_⟩|⟨g,o,cap,a0,rfl,hne,R,hx⟩
  ·simp at f;omega
  obtain⟨C,rfl⟩:∃C,N=C+1:=⟨N-1,by omega⟩;obtain⟨y,D,E⟩:=hx j (vs[j]'(by omega)) (eG (by omega));have c:Sc.next S (.ret v (.set (.loc u j) env::k)) m=(.ret .none k,{m with envs:=m.envs.modify jx λ(l,u)=>(l.set j v,u)}):=by
   simp only[Sc.next,qn5,k1]
  rw[qbi c rfl]at d;rw[f]at Q;have F:=qrw q u j fb g o (C+1) cap x y pf w J.form (by rw[i.cell B];rfl) (by rw[i.cell B];rfl) k4 (by rw[k5,f]) P A.1 A.2 (by simp[World.cell?,R,D]) E.form (by simp[World.frozen?,R]);refine Calls.mono F ?_;rintro e w' ⟨rfl,w1,H,rfl⟩;left;have T:=(i.below H).setEnv (a:=j) Q k2 f P J;exact⟨rfl,by rw[T.cell W];rfl,Calls.mono (h G _ _ .none k _ M O T .none L d) λe w p=>Post.step c rfl (Gh.up.refl G) p⟩
 |glo s q b B A=>exact absurd d (qfb rfl rfl _)
 |def' s a1 q4 t h4 h5 a2=>exact absurd d (qfb rfl rfl _)
theorem qy4(j:quv S n){w1:Wd}{env:Option Nat}{b:Nat}{c:Array Vu}(i:Inv G S {m with steps:=m.steps+1} w1)(D:NRep G env pf)(E:Sh G sh pf)(A:FRep G k (.func (.func b) #[] c))(d:(m.steps:Int)<S.fuel){N:Nat}{r:Bool}{o:Vu}
  (F:G.mbox q1)(H:G.I q2=some (.cells #[xl] 241 (0,0)))(J:G.I q3=some (.cells #[o] 440 (0,0)))(K:SRep G (N::sh) l xl)(q:BRep G N r o)(B:Ct.ended (go S (n+1) (.ev (.lam N r l) env k) m).1=true):
  Calls prog 382 (#[.pointer pf,.func (.func b) #[] c]++#[bp q1,bp q2,bp q3]) w1 (Post G S (n+1) (.ev (.lam N r l) env k) m):=by
 have c1:w1.cell? ⟨q1,0,none⟩=some (.pointer (some ⟨G.mb,0,none⟩)):=by rw[i.cell F];rfl
 by_cases f:(m.cells:Int)<S.quota
 ·have a:Sc.next S (.ev (.lam N r l) env k) m=(.ret (.lam m.ids N r l env) k,{m with steps:=m.steps+1,cells:=m.cells+1,ids:=m.ids+1}):=by
   simp[Sc.next,Sc.step,d,Sc.cell,f]
  rw[qbi a rfl]at B;obtain⟨R,T,s,t⟩:=A.isF;cases s;have h:=i.cells (m.cells+1) (by push_cast;omega);have h:Inv G S {m with steps:=m.steps+1,cells:=m.cells+1} (w1.setCell ⟨G.cb,0,none⟩ (.int .i64 ((m.cells:Int)+1))):=by simpa using h
  refine qp9 q1 q2 q3 G.mb G.cb b m.cells S.quota pf c w1 _ t Post.ends c1 i.mb1 i.ce (by omega) (by omega) (by have:=i.cl.2;omega) ?_;intro w' M;have u:=h.alloc (.cells #[.pointer pf] 378);have v:=h.x1 (.cells #[.pointer pf] 378);have x:=u.newObj (.cells #[.func (.func 383) #[] #[bp q2,bp q3,bp w1.heap.size]] 300);have g:=u.ext_newObj (.cells #[.func (.func 383) #[] #[bp q2,bp q3,bp w1.heap.size]] 300);have y:=u.at_newObj (.cells #[.func (.func 383) #[] #[bp q2,bp q3,bp w1.heap.size]] 300);have O:((w1.setCell ⟨G.cb,0,none⟩ (.int .i64 ((m.cells:Int)+1))).alloc (.cells #[.pointer pf] 378)).heap.size=w1.heap.size+1:=by simp
  have z:(w1.setCell ⟨G.cb,0,none⟩ (.int .i64 ((m.cells:Int)+1))).heap.size=w1.heap.size:=qag;rw[O]at x g y;rw[z]at x g y v;have L:=v.le.trans g.le;refine Calls.mono (j _ _ w' (.lam m.ids N r l env) k _ b c (Inv.lk M x) (.proc _ _ (.lam sh m.ids N r l env (w1.heap.size+1) q2 q3 w1.heap.size xl o pf y (Gh.add_at _ _ _) (L.I H) (L.I J) (g.le.I (Gh.add_at _ _ _)) (K.mono L) (q.mono L) (D.mono L) (E.mono L))) (A.mono L) B) (λe w p=>Post.step a rfl (v.up.trans g.up) p)
 ·have a:Sc.next S (.ev (.lam N r l) env k) m=(.stop 11,{m with steps:=m.steps+1}):=by
   simp[Sc.next,Sc.step,d,Sc.cell,f]
  have P:(m.cells:Int)=S.quota:=by have:(m.cells:Int)<=S.quota:=i.cl.1;omega
  have C:Mt G.cb m.cells S.quota 11 w1:=i.ce;rw[<-P]at C;refine Calls.mono (qm5 q1 q2 q3 G.mb G.cb b m.cells pf c w1 c1 i.mb1 C (by omega) (by have:=i.cl.2;omega)) ?_;rintro e w' ⟨rfl,q⟩;have Q:=i.cells m.cells (by omega);exact Post.step a rfl (Gh.up.refl G) (Post.now (.stop 11 _ _ (Q.cntB (by rw[qag];exact eR _) q)))
end
end
theorem Inv.loose(i:Inv G S m w){v:Vu}(hI:G.I b=Option.none)(q:b∉G.mut)(r:¬G.F b):Inv G S m (w.setCell ⟨b,o,Option.none⟩ v):=by
 have k:∀c,c≠b->(w.setCell ⟨b,o,Option.none⟩ v).heap[c]? =w.heap[c]?:=λc d=>qab (a:=⟨b,o,Option.none⟩) c d
 have f:∀{c:Nat},c∈G.mut->(w.setCell ⟨b,o,Option.none⟩ v).heap[c]? =w.heap[c]?:=fun {c} d=>k c λe=>q (e▸d)
 refine⟨fun {c x} d=>by rw[k c λe=>by rw[e,hI]at d;cases d];exact i.imm d,i.nd,i.mi,λh=>by rw[qag];exact i.ml h,i.st.keep (f i.m2),i.ce.keep (f i.m3),i.sl,i.cl,by rw[f i.m1];exact i.ma,by rw[f i.m4];exact i.mp,fun {s c} h=>by rw[f (i.m5 h)];exact i.gl h,i.gd,i.gk,?_,i.el,i.jl,i.jn,i.ji,i.fo,fun {c} d=>by rw[k c λe=>r (e▸d),qag];exact i.ff d,i.fm,i.fi⟩;intro j vs e t;obtain⟨fb,u,pf,p,y,z,A⟩:=i.en t;exact⟨fb,u,pf,p,y,z,A.mono (Gh.le.refl _) λg o n cap l=>f (i.m6 (by rw[p,l]))⟩
theorem qfh:∀(l:List Dt) (m:Mc) (d:Dt),qee m (l++[d])=((qee m l).1++[(ql1 (qee m l).2 d).1],(ql1 (qee m l).2 d).2)
 | [],m,d=>by simp[qee]
 |a::r,m,d=>by
  simp only[List.cons_append,qee,qfh r,List.cons_append]
theorem VsRep.snoc{v:Vl}(h:VsRep G vs xs)(c:VRep G v x):VsRep G (vs++[v]) (xs++[x]):=by
 refine⟨by simp[h.1],λi u y a b=>?_⟩;rcases Nat.lt_or_ge i vs.length with hi|hi
 ·rw[eA hi]at a;rw[eA (by rw[<-h.1];exact hi)]at b;exact h.2 i u y a b
 ·rw[eB hi]at a;rw[eB (by rw[<-h.1];exact hi),<-h.1]at b;rcases hz:i-vs.length with _|z
  ·rw[hz]at a b;simp at a b;subst a;subst b;exact c
  ·rw[hz]at a;simp at a
theorem DsRep.at{G:Gh}:∀{l:List Dt} {es:List Dl},DsRep G l es->l.length=es.length/\∀(i:Nat) (d:Dt) (e:Dl),l[i]? =some d->es[i]? =some e->DRep G d e
 |_,_,.nil=>⟨rfl,λi d e h=>by simp at h⟩
 |_,_,.cons d r e es h hs=>by
  obtain⟨c,f⟩:=DsRep.at hs;refine⟨by simp[c],λi g j a b=>?_⟩;cases i with
  |zero=>simp at a b;subst a;subst b;exact h
  |succ i=>exact f i g j (by simpa using a) (by simpa using b)
def qyc(N:Nat):Prop:=∀(G:Gh) (S:Sub) (m:Mc) (w:Wd) (d:Dt) (e:Dl),SizeOf.sizeOf d<N->Inv G S m w->DRep G d e->
 Calls prog 60 #[.agg e.cells] w λe' w'=>∃H x,e'=.returned x/\G.ext H w.heap.size/\Inv H S (ql1 m d).2 w'/\VRep H (ql1 m d).1 x/\Below w.heap.size w w'
theorem qzs(G:Gh)(S:Sub)(m:Mc)(w:Wd)(d:Dt)(e:Dl)(i:Inv G S m w)(h:DRep G d e)(f:e.k≠4):
  Calls prog 60 #[.agg e.cells] w λl w'=>∃H x,l=.returned x/\G.ext H w.heap.size/\Inv H S (ql1 m d).2 w'/\VRep H (ql1 m d).1 x/\Below w.heap.size w w':=by
 obtain⟨a,r,n,o,s,t,g,j⟩:=e;have b:=hZ i;clear i;cases h with
 |num e h p q=>
  obtain rfl:a=0:=h;go_enter func60,ntmps60
  go_wp2;go_ret;exact⟨G,_,rfl,Gh.ext.refl _ _,b.out.below ((Below.refl _ _).alloc (eR _) _),.num _ p q,(Below.refl _ _).alloc (eR _) _⟩
 |bool e h=>
  obtain rfl:a=1:=h;go_enter func60,ntmps60
  go_wp2;go_ret;exact⟨G,_,rfl,Gh.ext.refl _ _,b.out.below ((Below.refl _ _).alloc (eR _) _),.bool _,(Below.refl _ _).alloc (eR _) _⟩
 |str e h c=>
  obtain rfl:a=2:=h;go_enter func60,ntmps60
  go_wp2;go_ret;exact⟨G,_,rfl,Gh.ext.refl _ _,b.out.below ((Below.refl _ _).alloc (eR _) _),.str _ c,(Below.refl _ _).alloc (eR _) _⟩
 |sym e h c=>
  obtain rfl:a=3:=h;go_enter func60,ntmps60
  go_wp2;go_ret;exact⟨G,_,rfl,Gh.ext.refl _ _,b.out.below ((Below.refl _ _).alloc (eR _) _),.sym _ c,(Below.refl _ _).alloc (eR _) _⟩
 |nil e h=>exact absurd h f
 |list e h=>exact absurd h f
theorem qn2{l:List Dt}{d:Dt}(h:d∈l):SizeOf.sizeOf d<SizeOf.sizeOf (Dt.list l):=by
 have:=List.sizeOf_lt_of_mem h;simp;omega
theorem qsm(N:Nat)(ih:qyc N)(G:Gh)(S:Sub)(m:Mc)(w:Wd)(l:List Dt)(xk xn:Int)(R:Bool)(T:BA)(xm:Int)(xa:OA)(xlen t:Nat)(i:Inv G S m w)(hk:xk=4)(hz:SizeOf.sizeOf (Dt.list l)<=N)
  (es:List Dl)(hl:l.length=es.length)(hd:∀(i:Nat) (d:Dt) (e:Dl),l[i]? =some d->es[i]? =some e->DRep G d e)(K:xlen=es.length)
  (L:∀(i j:Nat) (x:Dl),es[i]? =some x->j<6->∃g o,xa=some ⟨g,o,none⟩/\g<w.heap.size/\w.cell? ⟨g,o+i*6+j,none⟩=x.cells[j]?)(d4:xlen<=1000000):
  Calls prog 60 #[.agg (Dl.cells ⟨xk,xn,R,T,xm,xa,xlen,t⟩)] w λe' w'=>∃H x,e'=.returned x/\G.ext H w.heap.size/\Inv H S (ql1 m (.list l)).2 w'/\VRep H (ql1 m (.list l)).1 x/\Below w.heap.size w w':=by
 subst hk;have HI:=hZ i;have HD:=hZ hd;have HL:=hZ hl;have M:=hZ K;have O:=hZ L;have b9:=hZ ih;have HZ:=hZ hz;have d6:∀w:Wd,(Instr.makeSlice 184 (.int .i64 (xlen:Int)) (.int .i64 (xlen:Int))).run prog w=.ok (.slice (some ⟨w.heap.size,0,none⟩) xlen xlen) (w.alloc (.cells (madeCells #[.nilIface] xlen) 116)):=
  λw=>run_make_row' 184 116 .nilIface 16 underlying184 qm8 rfl .i64 .i64 xlen (by omega) (by omega) w
 clear i hd hl K L ih hz;go_enter func60,ntmps60
 go_wp2;go_loopw [35] (λc wr=>∃(k:Nat) (H:Gh) (xs:List Vu) (cs:Array Vu),k<=xlen/\c=.int .i64 (k:Int)/\G.ext H w.heap.size/\Inv H S (qee m (l.take k)).2 wr/\VsRep H (qee m (l.take k)).1 xs/\
   wr.heap[w.heap.size+1]? =some (.cells cs 116 (0,0))/\cs.size=xlen/\xs.length=k/\(∀j,j<k->cs[j]? =xs[j]?)/\H.I (w.heap.size+1)=none/\Below w.heap.size w wr) (λc _=>xlen-(intOf c).toNat)
 case atStart=>
  have i1:=(HI.out.below ((Below.refl _ _).alloc (eR _) (.cells #[.int .i64 4,.int .i64 xn,.bool R,.string T,.int .i64 xm,.slice xa xlen t] 134)));have i2:=i1.below ((Below.refl _ _).alloc (eR _) (.cells (madeCells #[.nilIface] xlen) 116));refine⟨0,G,[],madeCells #[.nilIface] xlen,Nat.zero_le _,rfl,Gh.ext.refl _ _,by simpa[qee]using i2,by simp[qee];exact⟨rfl,λj v x h=>by simp at h⟩,?_,size_madeCells _ _,rfl,λj h=>by omega,HI.out.fresh (by omega),((Below.refl _ _).alloc (eR _) _).alloc (by simp) _⟩;have:=eN (w:=w.alloc (.cells #[.int .i64 4,.int .i64 xn,.bool R,.string T,.int .i64 xm,.slice xa xlen t] 134)) (o:=.cells (madeCells #[.nilIface] xlen) 116);simpa using this
 case round=>
  obtain⟨k,H,xs,cs,hk,rfl,hx,hi,hv,a3,a4,a5,a6,a7,a8⟩:=hrel;have HX:=hZ hx;have a9:=hZ hi;have HV:=hZ hv;have U:=hZ a3;have b0:=hZ a4;have q:=hZ a5;have b1:=hZ a6;have c6:=hZ a7;have V:=hZ a8;clear hx hi hv a3 a4 a5 a6 a7 a8;have b2:w.heap.size+1<wr.heap.size:=(eE.1 U.out).1;by_cases b3:k<xlen
  ·have u:k<es.length:=by rw[<-M.out];exact b3
   have X:k<l.length:=by rw[HL.out];exact u
   obtain⟨⟨yk,yn,A,C,ym,ya,f,n⟩,hy⟩:∃y,y=es[k]:=⟨_,rfl⟩;have Y:es[k]? =some ⟨yk,yn,A,C,ym,ya,f,n⟩:=by rw[hy];exact eG u
   obtain⟨g,o,rfl,c7,c8⟩:=O.out k 0 _ Y (by omega);have cell:∀j,j<6->wr.cell? ⟨g,o+k*6+j,none⟩=(Dl.cells ⟨yk,yn,A,C,ym,ya,f,n⟩)[j]?:=λj hj=>by
    obtain⟨g',o',e1,e2,e3⟩:=O.out k j _ Y hj;cases e1;exact(V.out.cell (p:=⟨g,o+k*6+j,none⟩) c7).trans e3
   have c0:wr.cell? ⟨g,o+k*6,none⟩=some (.int .i64 yk):=cell 0 (by omega);have c1:wr.cell? ⟨g,o+k*6+1,none⟩=some (.int .i64 yn):=cell 1 (by omega);have c2:wr.cell? ⟨g,o+k*6+2,none⟩=some (.bool A):=cell 2 (by omega);have c3:wr.cell? ⟨g,o+k*6+3,none⟩=some (.string C):=cell 3 (by omega);have c4:wr.cell? ⟨g,o+k*6+4,none⟩=some (.int .i64 ym):=cell 4 (by omega);have c5:wr.cell? ⟨g,o+k*6+5,none⟩=some (.slice ya f n):=cell 5 (by omega);have b4:=HD.out k l[k] _ (eG X) Y;have HRep:Hid (∀w',Below wr.heap.size wr w'->Calls prog 60 #[.agg (Dl.cells ⟨yk,yn,A,C,ym,ya,f,n⟩)] w' λe' Z=>∃s x,e'=.returned x/\H.ext s wr.heap.size/\Inv s S (ql1 (qee m (l.take k)).2 l[k]).2 Z/\VRep s (ql1 (qee m (l.take k)).2 l[k]).1 x/\Below wr.heap.size wr Z):=λw' hb=>by
    refine Calls.mono (b9.out H S _ w' l[k] _ (eW (qn2 (List.getElem_mem X)) HZ.out) (a9.out.below hb) (b4.mono HX.out.le)) ?_;rintro e' Z ⟨s,x,r1,b,P,D,J⟩;exact⟨s,x,r1,⟨b.le,b.E,b.B,λc9=>b.I (eW c9 hb.size),b.W,b.F⟩,P,D,hb.trans (J.mono hb.size)⟩
   clear cell hy b4 c8;have d5:(k:Int)<(xlen:Int):=by omega
   go_wp2_with (go_at_call 60;refine(HRep.out _ ((Below.refl _ _).alloc (eR _) _)).mono ?_;rintro e w2 ⟨s,v,rfl,a0⟩;refine Hid.out ?_)
   obtain⟨b,P,D,J⟩:=a0;have r:w2.heap[w.heap.size+1]? =some (.cells cs 116 (0,0)):=by rw[J.block _ b2];exact U.out
   have b5:k<cs.size:=by rw[b0.out];exact b3
   have cG:w2.cell? ⟨w.heap.size+1,k,none⟩=some cs[k]:=by simp[World.cell?,r,b5]
   have fG:w2.frozen? ⟨w.heap.size+1,k,none⟩=false:=by simp[World.frozen?,r]
   obtain⟨tp,pp,rfl⟩:=D.form;have HR:=hZ (And.intro b (And.intro P (And.intro D (And.intro J r))));clear b P D J r;refine hZ ?_;go_wp2;go_roundw
   case rel=>
    obtain⟨b,P,D,J,r⟩:=HR.out;have ht:l.take (k+1)=l.take k++[l[k]]:=by rw[List.take_add_one,eG X];rfl
    have b6:s.I (w.heap.size+1)=none:=by rw[b.I b2];exact c6.out
    have d0:w.heap.size+1∉s.mut:=by
     rw[b.mut,HX.out.mut];intro b7;have:=HI.out.ml b7;omega
    have d1:¬s.F (w.heap.size+1):=by
     rw[b.F,HX.out.F];intro hf;have:=(HI.out.ff hf).2;omega
    refine⟨k+1,s,xs++[.iface tp pp],cs.setIfInBounds k (.iface tp pp),by omega,by go_num,HX.out.trans b V.out.size,?_,?_,?_,by simpa using b0.out,by simp[q.out],?_,b6,?_⟩
    ·rw[ht,qfh];exact P.loose b6 d0 d1
    ·rw[ht,qfh];exact(HV.out.mono b.le).snoc D
    ·simp[World.setCell,Array.getElem?_modify,r]
    ·intro j hj;by_cases d2:j=k
     ·subst d2;rw[eB (by rw[q.out];exact eR _),q.out];simp[b5]
     ·rw[Array.getElem?_setIfInBounds_ne (by omega),eA (by rw[q.out];omega)];exact b1.out j (by omega)
    ·have z:Below w.heap.size w w2:=V.out.trans (J.mono V.out.size);exact⟨z.os,z.tape,z.output,by rw[qag];exact z.size,λc hc=>by rw[qab (a:=⟨w.heap.size+1,k,none⟩) c (by show c≠w.heap.size+1;omega)];exact z.block c hc⟩
   case measure=>simp[intOf];omega
  ·have u:k=xlen:=by omega
   have HK:=hZ u;clear u;have b8:l.take k=l:=by rw[HK.out,M.out,<-HL.out];simp
   have a1:=HV.out;have a2:=a9.out;rw[b8]at a1 a2;have Q:xs.length=xlen:=by rw[q.out,HK.out]
   have hL:=qom H S (qee m l).2 wr (some ⟨w.heap.size+1,0,none⟩) xlen (qee m l).1 xs .nil (.iface 186 (.agg #[])) a2 a1 .nil (.inr ⟨w.heap.size+1,0,rfl,λj hj=>by
     have:=b1.out j (by rw[q.out]at hj;exact hj);simp only[World.cell?,U.out,Nat.zero_add];rw[eG hj]at this;simpa using this⟩) (by omega)
   rw[Q]at hL;have d3:=hZ hL;clear hL Q a1 a2 b8;go_wp2_with (go_at_call 91;refine d3.out.mono ?_;rintro e w2 ⟨s,x,rfl,a0⟩)
   go_ret;obtain⟨b,P,D,J⟩:=a0;exact⟨s,x,rfl,HX.out.trans b V.out.size,P,D,V.out.trans (J.mono V.out.size)⟩
theorem qmm:∀N,qyc N
 |0=>λG S m w d e h=>by omega
 |N+1=>λG S m w d e I i h=>by
  by_cases b:e.k=4
  ·obtain⟨r,s,c,f,t,u,a,xcap⟩:=e;cases h with
   |num e h=>simp only at h b;omega
   |bool e h=>simp only at h b;omega
   |str e h _=>simp only at h b;omega
   |sym e h _=>simp only at h b;omega
   |nil e h n=>
    obtain rfl:a=0:=n;exact qsm N (qmm N) G S m w [] r s c f t u 0 xcap i b (by omega) [] rfl (λi d e h=>by simp at h) rfl (λi j x h=>by simp at h) (by omega)
   |list e h l es g o y n z A B v C D=>
    obtain rfl:u=some ⟨g,o,none⟩:=B;obtain⟨p,q⟩:=D.at;exact qsm N (qmm N) G S m w l r s c f t _ a xcap i b (by omega) es p q n (λE j x F H=>⟨g,o,rfl,(eE.1 (i.imm v)).1,by rw[i.cell v];exact C E j x F H⟩) (by have J:a<=xcap:=z;have K:a<=30000:=A;omega)
  ·exact qzs G S m w d e i h b
theorem q2b(G:Gh)(S:Sub)(m:Mc)(w:Wd)(d:Dt)(e:Dl)(i:Inv G S m w)(h:DRep G d e):
  Calls prog 60 #[.agg e.cells] w λa w'=>∃H x,a=.returned x/\G.ext H w.heap.size/\Inv H S (ql1 m d).2 w'/\VRep H (ql1 m d).1 x/\Below w.heap.size w w':=qmm _ G S m w d e (Nat.lt_succ_self _) i h
end Go.Proofs.YtldaocpojcfljaaGreatDoor
