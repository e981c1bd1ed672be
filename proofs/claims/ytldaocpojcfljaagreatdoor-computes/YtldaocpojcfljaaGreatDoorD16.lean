import Derived.Test.YtldaocpojcfljaaGreatDoorD15
import Derived.MapKept
set_option maxRecDepth 100000
set_option maxHeartbeats 4000000
namespace Go.Proofs.YtldaocpojcfljaaGreatDoor
open Tryz hiding parts
open Go.RowKit Go.Shelf
section
open Sc
def setB(w:World)(b:Nat)(o:Obj):World:={w with heap:=w.heap.setIfInBounds b o}
theorem qf6{w:World}{b:Nat}{o x:Obj}(h:w.heap[b]? =some x):(setB w b o).heap[b]? =some o:=by
 have:=(Array.getElem?_eq_some_iff.1 h).1;simp[setB,this]
theorem qbl{w:World}{b c:Nat}{o:Obj}(h:c≠b):(setB w b o).heap[c]? =w.heap[c]?:=by
 simp[setB,Ne.symm h]
theorem qbw{w:World}{b:Nat}{o:Obj}:(setB w b o).heap.size=w.heap.size:=by simp[setB]
theorem qbn(mp:Nat)(es:Array MapEntry)(clock:Nat)(o:Obj)(w:World)(hw:w.heap[mp]? =some (.map es clock)):(setObj mp o).run prog w=.ok () (setB w mp o):=MapKept.run_setObj_map _ hw
def putI(i:Sc.Id)(v:Value):List (Sc.Id×Value)->List (Sc.Id×Value)
 | []=>[(i,v)]
 |(j,a)::r=>if i=j then(j,v)::r else(j,a)::putI i v r
theorem findI2(t:ByteArray)(m:Int):∀(es:List MapEntry) (L:List (Sc.Id×Value)) (n:Nat),es.map (fun e=>(e.key,e.val))=L.map (fun p=>(keyV p.1,p.2))->
  ((∀w,(Instr.findAsking 382 (idV t m) es n).run prog w=.ok none w)/\lookI (t.data.toList,m) L=none/\∀v,putI (t.data.toList,m) v L=L++[((t.data.toList,m),v)])\/
  ∃j e0,(∀w,(Instr.findAsking 382 (idV t m) es n).run prog w=.ok (some (n+j,e0.val)) w)/\es[j]? =some e0/\e0.key=idV t m/\lookI (t.data.toList,m) L=some e0.val/\∀v,(es.modify j fun e=>{e with val:=v}).map (fun e=>(e.key,e.val))=(putI (t.data.toList,m) v L).map (fun p=>(keyV p.1,p.2))
 | [],[],n,_=>.inl ⟨fun w=>by simp[Instr.findAsking],rfl,fun _=>rfl⟩
 | [],_::_,n,h=>by simp at h
 |_::_,[],n,h=>by simp at h
 |e::es,(j,v)::L,n,h=>by
  simp only[List.map_cons,List.cons.injEq,Prod.mk.injEq]at h;obtain⟨⟨h1,h2⟩,h3⟩:=h;have he:=fun w=>eq382 t ⟨j.1.toArray⟩ m j.2 w
  simp only[qb8]at he;by_cases hj:(t.data.toList,m)=j
  ·subst hj;right;refine⟨0,e,fun w=>?_,rfl,?_,by simp[lookI,h2],fun v=>?_⟩
   ·have he:=he w;simp[Instr.findAsking,h1,he,h2]
   ·rw[h1]
   ·simp[putI,List.modify,h1,h3]
  ·have hf:(decide (t.data.toList=j.1)&&m==j.2)=false:=by
    by_cases h4:t.data.toList=j.1
    ·have:¬m=j.2:=fun h5=>hj (Prod.ext h4 h5)
     simp[h4,this]
    ·simp[h4]
   simp only[hf]at he;rcases findI2 t m es L (n+1) h3 with⟨e1,e2,e3⟩|⟨k,e0,e1,e2,e3,e4,e5⟩
   ·left;exact⟨fun w=>by have he:=he w;simp[Instr.findAsking,h1,he,e1],by simpa[lookI,hj]using e2,fun u=>by simp[putI,hj,e3 u]⟩
   ·right;refine⟨k+1,e0,fun w=>?_,by simpa using e2,e3,by simpa[lookI,hj]using e4,fun u=>?_⟩
    ·have he:=he w;simp[Instr.findAsking,h1,he,e1];omega
    ·have:=e5 u;simp[putI,hj,List.modify_succ_cons,this,h1,h2]
theorem qhx(t:ByteArray)(m:Int)(es:List MapEntry)(L:List (Sc.Id×Value))(h:es.map (fun e=>(e.key,e.val))=L.map (fun p=>(keyV p.1,p.2))):
  ((∀w,(Instr.findKey 382 (idV t m) es).run prog w=.ok none w)/\lookI (t.data.toList,m) L=none/\∀v,putI (t.data.toList,m) v L=L++[((t.data.toList,m),v)])\/
  ∃j e0,(∀w,(Instr.findKey 382 (idV t m) es).run prog w=.ok (some (j,e0.val)) w)/\es[j]? =some e0/\e0.key=idV t m/\lookI (t.data.toList,m) L=some e0.val/\∀v,(es.modify j fun e=>{e with val:=v}).map (fun e=>(e.key,e.val))=(putI (t.data.toList,m) v L).map (fun p=>(keyV p.1,p.2)):=by
 have fk:∀(w:World) r,(Instr.findAsking 382 (idV t m) es 0).run prog w=.ok r w->(Instr.findKey 382 (idV t m) es).run prog w=.ok r w:=fun w r hr=>by
  cases es with
  |nil=>simp[Instr.findAsking]at hr;subst hr;simp[Instr.findKey,run_underlying underlying382,Instr.findNow]
  |cons e es=>simp[Instr.findKey,run_underlying underlying382,Instr.findNow,Instr.sameNow,hr]
 rcases findI2 t m es L 0 h with⟨e1,e2,e3⟩|⟨j,e0,e1,e2,e3,e4,e5⟩
 ·exact .inl ⟨fun w=>fk w _ (e1 w),e2,e3⟩
 ·exact .inr ⟨j,e0,fun w=>by have:=fk w _ (e1 w);simpa using this,e2,e3,e4,e5⟩
theorem qn0(t:ByteArray)(m:Int):Instr.sameBits 10000 (idV t m) (idV t m)=true:=by
 have h:(t==t)=true:=by rw[qb8];simp
 simp[Instr.sameBits,h]
theorem qcy{α:Type}(f:α->α):∀(l:List α) (j:Nat) (x:α),x∈l.modify j f->x∈l\/∃y,y∈l/\x=f y
 | [],_,x,h=>by simp at h
 |a::r,0,x,h=>by
  simp[List.modify]at h;rcases h with rfl|h
  ·exact .inr ⟨a,by simp,rfl⟩
  ·exact .inl (by simp[h])
 |a::r,j+1,x,h=>by
  rw[List.modify_succ_cons]at h;rcases List.mem_cons.1 h with rfl|h
  ·exact .inl (by simp)
  ·rcases qcy f r j x h with h|⟨y,h1,h2⟩
   ·exact .inl (by simp[h])
   ·exact .inr ⟨y,by simp[h1],h2⟩
theorem qe2(l:List MapEntry)(j:Nat)(v:Value):(l.modify j fun e=>{e with val:=v}).map (·.born)=l.map (·.born):=by
 induction l generalizing j with
 |nil=>simp
 |cons a r ih=>
  cases j with
  |zero=>simp[List.modify]
  |succ j=>rw[List.modify_succ_cons];simp[ih j]
theorem qmd(l:List MapEntry)(j:Nat)(e0:MapEntry)(h:l[j]? =some e0):(l.modify j fun e=>{e with key:=e0.key})=l:=by
 induction l generalizing j with
 |nil=>simp
 |cons a r ih=>
  cases j with
  |zero=>simp at h;subst h;simp[List.modify]
  |succ j=>rw[List.modify_succ_cons,ih j (by simpa using h)]
theorem qgh(l:List MapEntry)(j:Nat)(e0:MapEntry)(v:Value)(h:l[j]? =some e0):(l.modify j fun e=>{e with key:=e0.key,val:=v})=l.modify j fun e=>{e with val:=v}:=by
 induction l generalizing j with
 |nil=>simp
 |cons a r ih=>
  cases j with
  |zero=>simp at h;subst h;simp[List.modify]
  |succ j=>rw[List.modify_succ_cons,List.modify_succ_cons,ih j (by simpa using h)]
theorem qdy(l:List MapEntry)(hn:(l.map (·.born)).Nodup)(j:Nat)(e0:MapEntry)(h:l[j]? =some e0):l.findIdx? (fun e=>((e.born:Nat):Int)==((e0.born:Nat):Int))=some j:=by
 induction l generalizing j with
 |nil=>simp at h
 |cons a r ih=>
  simp only[List.map_cons,List.nodup_cons]at hn;cases j with
  |zero=>simp at h;subst h;simp[List.findIdx?_cons]
  |succ j=>
   have h':r[j]? =some e0:=by simpa using h
   have hne:¬(a.born:Int)=(e0.born:Int):=fun e=>hn.1 (List.mem_map.2 ⟨e0,List.mem_of_getElem? h',by omega⟩)
   have hb:((a.born:Int)==(e0.born:Int))=false:=by simpa using hne
   simp only[List.findIdx?_cons,hb];rw[ih hn.2 j h'];rfl
def Stamps(es:Array MapEntry)(clock:Nat):Prop:=(es.toList.map (·.born)).Nodup/\∀e,e∈es.toList->e.born<clock
theorem qe5(xs:Array MapEntry)(p:MapEntry->Bool):xs.findIdx? p=xs.toList.findIdx? p:=by
 cases xs;simp
theorem entryI(bm:Nat)(es:Array MapEntry)(clock:Nat)(L:List (Sc.Id×Value))(t:ByteArray)(m:Int)(hL:es.toList.map (fun e=>(e.key,e.val))=L.map (fun p=>(keyV p.1,p.2)))(hs:Stamps es clock):
  ∃(st:Nat) (es1:Array MapEntry) (clock1:Nat),(∀w:World,w.heap[bm]? =some (.map es clock)->(Instr.mapEntry 327 (.map (some bm)) (idV t m)).run prog w=.ok (.tuple #[(lookI (t.data.toList,m) L).getD (.slice none 0 0),.int .i64 (st:Int)]) (setB w bm (.map es1 clock1)))/\
   ∀val,∃es2 clock2,(∀w2:World,w2.heap[bm]? =some (.map es1 clock1)->(Instr.entryStore 327 (.map (some bm)) (.int .i64 (st:Int)) val).run prog w2=.ok () (setB w2 bm (.map es2 clock2)))/\es2.toList.map (fun e=>(e.key,e.val))=(putI (t.data.toList,m) val L).map (fun p=>(keyV p.1,p.2))/\Stamps es2 clock2:=by
 obtain⟨s1,s2⟩:=hs;have chk:=fun w=>qk0 false t m w
 rcases qhx t m es.toList L hL with⟨e1,e2,e3⟩|⟨j,e0,e1,e2,e3,e4,e5⟩
 ·refine⟨clock,es.push ⟨idV t m,.slice none 0 0,clock⟩,clock+1,fun w hw=>?_,fun val=>⟨es.push ⟨idV t m,val,clock⟩,clock+1,fun w2 hw2=>?_,?_,?_⟩⟩
  ·rw[e2];simp[Instr.mapEntry,run_underlying underlying327,go_sem,qa5 bm es clock w hw,chk,e1,qbn bm es clock _ w hw,goInt,Result.andThen]
  ·have hidx:(es.push ⟨idV t m,.slice none 0 0,clock⟩).findIdx? (fun e=>((e.born:Nat):Int)==((clock:Nat):Int))=some es.size:=by
    rw[qe5];have:=qdy (es.push ⟨idV t m,.slice none 0 0,clock⟩).toList (by
     simp only[Array.toList_push,List.map_append,List.map_cons,List.map_nil];refine List.nodup_append.2 ⟨s1,by simp,fun a ha c hc e=>?_⟩;simp only[List.mem_singleton]at hc;obtain⟨x,hx,rfl⟩:=List.mem_map.1 ha;have:=s2 x hx;omega) es.size ⟨idV t m,.slice none 0 0,clock⟩ (by simp)
    exact this
   have hmod:(es.push ⟨idV t m,.slice none 0 0,clock⟩).modify es.size (fun e=>{e with val:=val})=es.push ⟨idV t m,val,clock⟩:=by
    apply Array.ext';rw[Array.toList_modify,Array.toList_push,Array.toList_push,<-Array.length_toList];generalize es.toList=l;induction l with
    |nil=>rfl
    |cons a r ih=>simp[List.modify_succ_cons,ih]
   simp[Instr.entryStore,go_sem,qa5 bm _ _ w2 hw2,asInt,asIntOf,hidx,hmod,qbn bm _ _ _ w2 hw2,Result.andThen]
  ·rw[e3];simp[hL]
  ·refine⟨?_,fun e he=>?_⟩
   ·simp only[Array.toList_push,List.map_append,List.map_cons,List.map_nil];refine List.nodup_append.2 ⟨s1,by simp,fun a ha c hc e=>?_⟩;simp only[List.mem_singleton]at hc;obtain⟨x,hx,rfl⟩:=List.mem_map.1 ha;have:=s2 x hx;omega
   ·simp only[Array.toList_push,List.mem_append,List.mem_singleton]at he;rcases he with he|rfl
    ·have:=s2 e he;omega
    ·simp
 ·have hj:es[j]? =some e0:=by simpa using e2
  have hsame:es.modify j (fun e=>{e with key:=idV t m})=es:=by
   apply Array.ext';rw[Array.toList_modify,<-e3,qmd _ _ _ e2]
  have hk:(Instr.keyThatStays (idV t m) (idV t m))=pure (idV t m):=by
   unfold Instr.keyThatStays;rw[qn0];rfl
  refine⟨e0.born,es,clock,fun w hw=>?_,fun val=>⟨es.modify j (fun e=>{e with val:=val}),clock,fun w2 hw2=>?_,?_,?_⟩⟩
  ·rw[e4];simp[Instr.mapEntry,run_underlying underlying327,go_sem,qa5 bm es clock w hw,chk,e1,hj,e3,hk,hsame,qbn bm es clock _ w hw,goInt,Result.andThen]
  ·have hidx:es.findIdx? (fun e=>((e.born:Nat):Int)==((e0.born:Nat):Int))=some j:=by
    rw[qe5];exact qdy _ s1 j e0 e2
   simp[Instr.entryStore,go_sem,qa5 bm _ _ w2 hw2,asInt,asIntOf,hidx,qbn bm _ _ _ w2 hw2,Result.andThen]
  ·rw[Array.toList_modify];exact e5 val
  ·refine⟨by rw[Array.toList_modify,qe2];exact s1,fun e he=>?_⟩;rw[Array.toList_modify]at he;rcases qcy _ _ _ _ he with h|⟨y,h1,rfl⟩
   ·exact s2 e h
   ·exact s2 y h1
theorem updateI(bm:Nat)(es:Array MapEntry)(clock:Nat)(L:List (Sc.Id×Value))(t:ByteArray)(m:Int)(hL:es.toList.map (fun e=>(e.key,e.val))=L.map (fun p=>(keyV p.1,p.2)))(hs:Stamps es clock)(hk:(lookI (t.data.toList,m) L).isSome)(val:Value):
  ∃es2:Array MapEntry,(∀w:World,w.heap[bm]? =some (.map es clock)->(Instr.mapUpdate 327 (.map (some bm)) (idV t m) val).run prog w=.ok () (setB w bm (.map es2 clock)))/\es2.toList.map (fun e=>(e.key,e.val))=(putI (t.data.toList,m) val L).map (fun p=>(keyV p.1,p.2))/\Stamps es2 clock:=by
 obtain⟨s1,s2⟩:=hs;have chk:=fun w=>qk0 false t m w
 rcases qhx t m es.toList L hL with⟨e1,e2,e3⟩|⟨j,e0,e1,e2,e3,e4,e5⟩
 ·rw[e2]at hk;cases hk
 ·have hj:es[j]? =some e0:=by simpa using e2
  have hmod:es.modify j (fun e=>{e with key:=idV t m,val:=val})=es.modify j (fun e=>{e with val:=val}):=by
   apply Array.ext';rw[Array.toList_modify,Array.toList_modify,<-e3,qgh _ _ _ _ e2]
  have hk:(Instr.keyThatStays (idV t m) (idV t m))=pure (idV t m):=by
   unfold Instr.keyThatStays;rw[qn0];rfl
  refine⟨es.modify j (fun e=>{e with val:=val}),fun w hw=>?_,?_,?_⟩
  ·simp[Instr.mapUpdate,run_underlying underlying327,go_sem,qa5 bm es clock w hw,chk,e1,hj,e3,hk,hmod,qbn bm es clock _ w hw,Result.andThen]
  ·rw[Array.toList_modify];exact e5 val
  ·refine⟨by rw[Array.toList_modify,qe2];exact s1,fun e he=>?_⟩;rw[Array.toList_modify]at he;rcases qcy _ _ _ _ he with h|⟨y,h1,rfl⟩
   ·exact s2 e h
   ·exact s2 y h1
end
section
open Sc
theorem qbd{w w':World}{lo e s:Nat}{v:Value}{n:Nat}{xs:List Value}(h:w.ownsRow lo e s v n xs)(hk:∀g,v.ownBlock=some g->w'.heap[g]? =w.heap[g]?):w'.ownsRow lo e s v n xs:=by
 refine⟨h.1,?_⟩;rcases h.2 with h|⟨g,cap,cur,hv,hb,hg,hr⟩
 ·exact .inl h
 ·exact .inr ⟨g,cap,cur,hv,hb,by rw[hk g (by rw[hv];rfl)];exact hg,hr⟩
abbrev own(L:List (Sc.Id×Value)):List Nat:=L.filterMap (·.2.ownBlock)
theorem qhd{i:Sc.Id}{v:Value}:∀{L:List (Sc.Id×Value)},(L.map (·.1)).Nodup->((putI i v L).map (·.1)).Nodup/\∀j,j∈(putI i v L).map (·.1)->j=i\/j∈L.map (·.1)
 | [],_=>by simp[putI]
 |(j,a)::r,h=>by
  simp only[List.map_cons,List.nodup_cons]at h;by_cases hj:i=j
  ·subst hj;simp only[putI,if_pos,List.map_cons,List.nodup_cons];exact⟨h,fun k hk=>by rcases List.mem_cons.1 hk with rfl|hk <;> simp_all⟩
  ·obtain⟨h1,h2⟩:=qhd (i:=i) (v:=v) h.2;simp only[putI,if_neg hj,List.map_cons,List.nodup_cons];refine⟨⟨fun hm=>?_,h1⟩,fun k hk=>?_⟩
   ·rcases h2 j hm with rfl|hm
    ·exact hj rfl
    ·exact h.1 hm
   ·rcases List.mem_cons.1 hk with rfl|hk
    ·right;simp
    ·rcases h2 k hk with rfl|hk
     ·exact .inl rfl
     ·right;simp only[List.mem_cons];exact .inr hk
theorem qkg{i:Sc.Id}{v:Value}:∀{L:List (Sc.Id×Value)},(L.map (·.1)).Nodup->∀{p:Sc.Id×Value},p∈putI i v L->p=(i,v)\/(p∈L/\p.1≠i)
 | [],_,p,h=>by simp[putI]at h;exact .inl h
 |(j,a)::r,hn,p,h=>by
  simp only[List.map_cons,List.nodup_cons]at hn;by_cases hj:i=j
  ·subst hj;simp only[putI,if_pos]at h;rcases List.mem_cons.1 h with rfl|h
   ·exact .inl rfl
   ·refine .inr ⟨by simp[h],fun e=>hn.1 ?_⟩;exact List.mem_map.2 ⟨p,h,e⟩
  ·simp only[putI,if_neg hj]at h;rcases List.mem_cons.1 h with rfl|h
   ·exact .inr ⟨by simp,fun e=>hj e.symm⟩
   ·rcases qkg hn.2 h with h|⟨h1,h2⟩
    ·exact .inl h
    ·exact .inr ⟨by simp[h1],h2⟩
theorem qhc{i j:Sc.Id}{v:Value}:∀{L:List (Sc.Id×Value)},lookI j (putI i v L)=none->j≠i/\lookI j L=none
 | [],h=>by
  by_cases e:j=i <;> simp[putI,lookI,e]at h
  exact⟨e,rfl⟩
 |(k,a)::r,h=>by
  by_cases hk:i=k
  ·subst hk;simp only[putI,if_pos,lookI]at h;by_cases e:j=i
   ·simp[e]at h
   ·simp only[if_neg e]at h;exact⟨e,by simp[lookI,e,h]⟩
  ·simp only[putI,if_neg hk,lookI]at h;by_cases e:j=k
   ·simp[e]at h
   ·simp only[if_neg e]at h;obtain⟨h1,h2⟩:=qhc h;exact⟨h1,by simp[lookI,e,h2]⟩
theorem qoe{i:Sc.Id}{v:Value}{g:Nat}(hv:v.ownBlock=some g):∀{L:List (Sc.Id×Value)},(L.map (·.1)).Nodup->(own L).Nodup->(∀u,lookI i L=some u->u.ownBlock=some g\/g∉own L)->(lookI i L=none->g∉own L)->
  (own (putI i v L)).Nodup/\∀b,b∈own (putI i v L)->b=g\/b∈own L
 | [],_,_,_,_=>by simp[own,putI,hv]
 |(j,a)::r,hn,ho,h1,h2=>by
  simp only[List.map_cons,List.nodup_cons]at hn;have hcons:own ((j,a)::r)=(match a.ownBlock with|some b=>b::own r|none=>own r):=by
   simp only[own,List.filterMap_cons];cases a.ownBlock <;> rfl
  by_cases hj:i=j
  ·subst hj;have e1:own (putI i v ((i,a)::r))=g::own r:=by simp[own,putI,hv]
   rw[e1];have hl:lookI i ((i,a)::r)=some a:=by simp[lookI]
   have hgr:g∉own r:=by
    rcases h1 a hl with h|h
    ·rw[hcons,h]at ho;exact(List.nodup_cons.1 ho).1
    ·intro hm;apply h;rw[hcons];cases a.ownBlock <;> simp[hm]
   have hrn:(own r).Nodup:=by
    rw[hcons]at ho;cases ha:a.ownBlock <;> rw[ha]at ho
    ·exact ho
    ·exact(List.nodup_cons.1 ho).2
   refine⟨List.nodup_cons.2 ⟨hgr,hrn⟩,fun b hb=>?_⟩;rcases List.mem_cons.1 hb with rfl|hb
   ·exact .inl rfl
   ·right;rw[hcons];cases a.ownBlock <;> simp[hb]
  ·have hl:lookI i ((j,a)::r)=lookI i r:=by simp[lookI,hj]
   rw[hl]at h1 h2;have sub:g∉own ((j,a)::r)->g∉own r:=fun h hm=>h (by rw[hcons];cases a.ownBlock <;> simp[hm])
   have hrn:(own r).Nodup:=by
    rw[hcons]at ho;cases ha:a.ownBlock <;> rw[ha]at ho
    ·exact ho
    ·exact(List.nodup_cons.1 ho).2
   obtain⟨q1,q2⟩:=qoe hv hn.2 hrn (fun u hu=>(h1 u hu).imp id sub) (fun hu=>sub (h2 hu));have e1:own (putI i v ((j,a)::r))=(match a.ownBlock with|some b=>b::own (putI i v r)|none=>own (putI i v r)):=by
    simp only[own,putI,if_neg hj,List.filterMap_cons];cases a.ownBlock <;> rfl
   rw[e1];cases ha:a.ownBlock with
   |none=>
    refine⟨q1,fun b hb=>?_⟩;rw[hcons,ha];exact q2 b hb
   |some c=>
    rw[hcons,ha]at ho;have hcr:=(List.nodup_cons.1 ho).1;have hcg:c≠g:=fun e=>by
     subst e;cases hu:lookI i r with
     |none=>exact h2 hu (by rw[hcons,ha];simp)
     |some u=>
      rcases h1 u hu with h|h
      ·exact hcr (List.mem_filterMap.2 ⟨_,qb5 hu,h⟩)
      ·exact h (by rw[hcons,ha];simp)
    refine⟨List.nodup_cons.2 ⟨fun hm=>?_,q1⟩,fun b hb=>?_⟩
    ·rcases q2 c hm with h|h
     ·exact hcg h
     ·exact hcr h
    ·rw[hcons,ha];rcases List.mem_cons.1 hb with rfl|hb
     ·right;simp
     ·rcases q2 b hb with h|h
      ·exact .inl h
      ·right;simp only[List.mem_cons];exact .inr h
def spU(sp:Sc.Id->List (Nat×Nat))(i:Sc.Id)(p:List (Nat×Nat)):Sc.Id->List (Nat×Nat):=fun j=>if j=i then p else sp j
theorem ScMapF.put{X:Xe}{sp:Sc.Id->List (Nat×Nat)}{w w3 w4:World}{L:List (Sc.Id×Value)}{i:Sc.Id}{p:List (Nat×Nat)}{v:Value}{es2:Array MapEntry}{clock2:Nat}(h:ScMapF X sp w L)
  (hm:w4.heap[X.bm]? =some (.map es2 clock2))(he:es2.toList.map (fun e=>(e.key,e.val))=(putI i v L).map (fun p=>(keyV p.1,p.2)))(hs:Stamps es2 clock2)(hb:X.bm<X.lo)
  (h4:∀b,b≠X.bm->w4.heap[b]? =w3.heap[b]?)
  (hv:w3.ownsRow X.lo 459 2 v p.length (spotCells p))
  (hk:∀q,q∈L->q.1≠i->∀g,q.2.ownBlock=some g->w3.heap[g]? =w.heap[g]?)
  (hg:∀g,v.ownBlock=some g->(∀u,lookI i L=some u->u.ownBlock=some g\/g∉own L)/\(lookI i L=none->g∉own L))(hvs:(∃g,v.ownBlock=some g)\/own (putI i v L)=own L):
  ScMapF X (spU sp i p) w4 (putI i v L)/\∀b,b∈own (putI i v L)->v.ownBlock=some b\/b∈own L:=by
 obtain⟨_,hnd,hown,hnone,hbn⟩:=h;have ho:(own (putI i v L)).Nodup/\∀b,b∈own (putI i v L)->v.ownBlock=some b\/b∈own L:=by
  rcases hvs with⟨g,hvg⟩|heq
  ·obtain⟨a,b⟩:=hg g hvg;obtain⟨q1,q2⟩:=qoe hvg hnd hbn a b;exact⟨q1,fun c hc=>(q2 c hc).imp (fun e=>by rw[e];exact hvg) id⟩
  ·rw[heq];exact⟨hbn,fun b hb=>.inr hb⟩
 refine⟨⟨⟨es2,clock2,hm,he,hs.1,hs.2⟩,(qhd hnd).1,fun q hq=>?_,fun j hj=>?_,ho.1⟩,ho.2⟩
 ·rcases qkg hnd hq with rfl|⟨hq,hne⟩
  ·have e1:spU sp i p i=p:=if_pos rfl;simp only[e1];refine qbd hv fun g hgv=>h4 g ?_
   have:=(hv.lt g hgv).1;omega
  ·have e1:spU sp i p q.1=sp q.1:=if_neg hne;rw[e1];have h0:=hown q hq;refine qbd h0 fun g hgv=>?_
   have h1:=(h0.lt g hgv).1;rw[h4 g (by omega),hk q hq hne g hgv]
 ·obtain⟨h1,h2⟩:=qhc hj;show(if j=i then p else sp j)=[];rw[if_neg h1];exact hnone j h2
end
section
open Sc
theorem info459:(prog.info? 459).map (fun i=>(i.zero,i.size,i.bytes))=some (some (.agg #[.int .i64 0,.int .i64 0]),2,16):=by kernel_rfl
structure Tw (X:Xe) (O:Nat->Prop) (w w':World):Prop where
 os:w'.os=w.os
 tape:w'.tape=w.tape
 output:w'.output=w.output
 size:w.heap.size<=w'.heap.size
 blk:∀{k:Nat},k<w.heap.size->k≠X.ab->k≠X.bm->¬O k->w'.heap[k]? =w.heap[k]?
theorem Tw.cell{X:Xe}{O:Nat->Prop}{w w':World}(h:Tw X O w w'){b o:Nat}{v:Value}(hv:w.cell? ⟨b,o,none⟩=some v)(h1:b≠X.ab)(h2:b≠X.bm)(h3:¬O b):w'.cell? ⟨b,o,none⟩=some v:=by
 have:=h.blk (qac hv) h1 h2 h3;simp only[World.cell?,this]at hv|-;exact hv
def EntQ(X:Xe)(sp:Sc.Id->List (Nat×Nat))(L:List (Sc.Id×Value))(i:Sc.Id)(p:Nat×Nat)(_O:Nat->Prop)(_w0 w:World)(w':World):Prop:=
 ∃L',ScMapF X (spU sp i (sp i++[p])) w' L'/\(∀b,b∈own L'->b∈own L\/w.heap.size<=b)/\(w'.os=w.os/\w'.tape=w.tape/\w'.output=w.output/\w.heap.size<=w'.heap.size/\∀k,k<w.heap.size->k≠X.bm->k∉own L->w'.heap[k]? =w.heap[k]?)
theorem qc4(a b:List (Nat×Nat)):spotCells (a++b)=spotCells a++spotCells b:=by simp[spotCells]
theorem qkk{X:Xe}{sp:Sc.Id->List (Nat×Nat)}{w:World}{L:List (Sc.Id×Value)}(h:ScMapF X sp w L)(i:Sc.Id):w.ownsRow X.lo 459 2 ((lookI i L).getD (.slice none 0 0)) (sp i).length (spotCells (sp i)):=by
 cases hl:lookI i L with
 |some v=>exact h.2.2.1 _ (qb5 hl)
 |none=>rw[h.2.2.2.1 i hl];exact⟨rfl,.inl ⟨rfl,rfl⟩⟩
theorem qsz{X:Xe}{sp:Sc.Id->List (Nat×Nat)}{w W2 w3:World}{L:List (Sc.Id×Value)}{t:ByteArray}{m:Int}{p:Nat×Nat}{O:Nat->Prop}{w0:World}{es1:Array MapEntry}{clock1:Nat}{g cap:Nat}{es2:Array MapEntry}{clock2:Nat}
  (h:ScMapF X sp w L)(hb:X.bm<X.lo)(_hlo:X.lo<=w.heap.size)
  (h2:W2.os=w.os/\W2.tape=w.tape/\W2.output=w.output/\w.heap.size<=W2.heap.size/\∀k,k<w.heap.size->k≠X.bm->W2.heap[k]? =w.heap[k]?)
  (hm3:w3.heap[X.bm]? =some (.map es1 clock1))
  (he:es2.toList.map (fun e=>(e.key,e.val))=(putI (t.data.toList,m) (.slice (some ⟨g,0,none⟩) ((sp (t.data.toList,m)).length+1) cap) L).map (fun p=>(keyV p.1,p.2)))(hs:Stamps es2 clock2)
  (hown:w3.ownsRow X.lo 459 2 (.slice (some ⟨g,0,none⟩) ((sp (t.data.toList,m)).length+1) cap) ((sp (t.data.toList,m)).length+1) (spotCells (sp (t.data.toList,m))++[.int .i64 (p.1:Int),.int .i64 (p.2:Int)]))
  (hgr:W2.grownBy w3 ((lookI (t.data.toList,m) L).getD (.slice none 0 0)).ownBlock)(hat:((lookI (t.data.toList,m) L).getD (.slice none 0 0)).ownBlock=some g\/g=W2.heap.size)(w':World)(hw:Lk (setB w3 X.bm (.map es2 clock2)) w'):
  EntQ X sp L (t.data.toList,m) p O w0 w w':=by
 obtain⟨a1,a2,a3,a4,a5⟩:=h2;have hne:∀b,b≠X.bm->(setB w3 X.bm (.map es2 clock2)).heap[b]? =w3.heap[b]?:=fun b hb'=>qbl hb'
 have hlow:∀u,lookI (t.data.toList,m) L=some u->∀c,u.ownBlock=some c->c∈own L:=fun u hu c hc=>List.mem_filterMap.2 ⟨_,qb5 hu,hc⟩
 have hlt:∀c,c∈own L->X.lo<=c/\c<w.heap.size:=fun c hc=>by
  obtain⟨q,hq,he⟩:=List.mem_filterMap.1 hc;exact(h.2.2.1 q hq).lt c he
 have hrow:∀c,((lookI (t.data.toList,m) L).getD (.slice none 0 0)).ownBlock=some c->c∈own L:=fun c hc=>by
  cases hl:lookI (t.data.toList,m) L with
  |none=>rw[hl]at hc;cases hc
  |some u=>rw[hl]at hc;exact hlow u hl c hc
 have hg:∀c,Value.ownBlock (.slice (some ⟨g,0,none⟩) ((sp (t.data.toList,m)).length+1) cap)=some c->(∀u,lookI (t.data.toList,m) L=some u->u.ownBlock=some c\/c∉own L)/\(lookI (t.data.toList,m) L=none->c∉own L):=fun c hc=>by
  obtain rfl:g=c:=by simpa[Value.ownBlock]using hc
  rcases hat with h1|h1
  ·cases hl:lookI (t.data.toList,m) L with
   |none=>rw[hl]at h1;cases h1
   |some u=>rw[hl]at h1;exact⟨fun u' hu'=>by cases hu';exact .inl h1,nofun⟩
  ·have:g∉own L:=fun hm=>by have:=hlt g hm;omega
   exact⟨fun _ _=>.inr this,fun _=>this⟩
 have hp:(sp (t.data.toList,m)++[p]).length=(sp (t.data.toList,m)).length+1:=by simp
 have hsc:spotCells (sp (t.data.toList,m)++[p])=spotCells (sp (t.data.toList,m))++[.int .i64 (p.1:Int),.int .i64 (p.2:Int)]:=by rw[qc4];simp[spotCells]
 have hh:w'.heap=(setB w3 X.bm (.map es2 clock2)).heap:=hw.heap;obtain⟨q1,q2⟩:=h.put (w3:=w3) (w4:=w') (i:=(t.data.toList,m)) (p:=sp (t.data.toList,m)++[p]) (v:=.slice (some ⟨g,0,none⟩) ((sp (t.data.toList,m)).length+1) cap) (by rw[hh];exact qf6 hm3) he hs hb (fun b hb'=>by rw[hh];exact hne b hb') (by rw[hp,hsc];exact hown)
  (fun q hq hqi c hc=>by
   have hcm:c∈own L:=List.mem_filterMap.2 ⟨_,hq,hc⟩;have hcl:=hlt c hcm;rw[hgr.block c (by omega) (fun e=>?_),a5 c hcl.2 (by omega)];cases hl:lookI (t.data.toList,m) L with
   |none=>rw[hl]at e;cases e
   |some u=>
    rw[hl]at e;have e:some c=u.ownBlock:=e;have hnd:=h.2.2.2.2;have:∀(M:List (Sc.Id×Value)),(own M).Nodup->∀a b,a∈M->b∈M->a.2.ownBlock=some c->b.2.ownBlock=some c->a=b:=by
     intro M;induction M with
     |nil=>intro _ a b ha;cases ha
     |cons x M ih=>
      intro hM a b ha hb' hac hbc;have hcons:own (x::M)=(match x.2.ownBlock with|some b=>b::own M|none=>own M):=by
       simp only[own,List.filterMap_cons];cases x.2.ownBlock <;> rfl
      rcases List.mem_cons.1 ha with rfl|ha2
      ·rcases List.mem_cons.1 hb' with rfl|hb2
       ·rfl
       ·rw[hcons,hac]at hM;exact absurd (List.mem_filterMap.2 ⟨_,hb2,hbc⟩) (List.nodup_cons.1 hM).1
      ·rcases List.mem_cons.1 hb' with rfl|hb2
       ·rw[hcons,hbc]at hM;exact absurd (List.mem_filterMap.2 ⟨_,ha2,hac⟩) (List.nodup_cons.1 hM).1
       ·refine ih ?_ a b ha2 hb2 hac hbc;rw[hcons]at hM;cases hx:x.2.ownBlock <;> rw[hx]at hM
        ·exact hM
        ·exact(List.nodup_cons.1 hM).2
    have:=this L hnd q ((t.data.toList,m),u) hq (qb5 hl) hc e.symm;exact hqi (by rw[this])) hg (.inl ⟨g,rfl⟩)
 refine⟨_,q1,fun b hb'=>?_,hw.os.trans (hgr.os.trans a1),hw.tape.trans (hgr.tape.trans a2),hw.output.trans (hgr.output.trans a3),?_,fun k hk hkb hko=>?_⟩
 ·rcases q2 b hb' with e|e
  ·obtain rfl:g=b:=by simpa[Value.ownBlock]using e
   rcases hat with h1|h1
   ·exact .inl (hrow _ h1)
   ·right;omega
  ·exact .inl e
 ·rw[hh,qbw];exact Nat.le_trans a4 hgr.size
 ·rw[hh,hne k hkb,hgr.block k (by omega) (fun e=>hko (hrow k e.symm)),a5 k hk hkb]
end
section
open Sc
def spN(sp:Sc.Id->List (Nat×Nat))(l:List Sc.Id)(d:Nat):Sc.Id->List (Nat×Nat):=fun j=>sp j++(match findIn j l with|some n=>[(d,n)]|none=>[])
theorem qfs(j i:Sc.Id):∀l:List Sc.Id,findIn j (l++[i])=match findIn j l with|some n=>some n|none=>if i=j then some l.length else none
 | []=>by simp[findIn]
 |k::r=>by
  simp only[List.cons_append,findIn];by_cases h:k=j
  ·simp[h]
  ·simp only[if_neg h,qfs j i r];cases findIn j r with
   |some n=>simp
   |none=>by_cases e:i=j <;> simp[e]
theorem qc3{j:Sc.Id}:∀{l:List Sc.Id},j∉l->findIn j l=none
 | [],_=>rfl
 |k::r,h=>by
  simp only[List.mem_cons,not_or]at h;simp[findIn,Ne.symm h.1,qc3 h.2]
theorem qq0(sp:Sc.Id->List (Nat×Nat))(l:List Sc.Id)(i:Sc.Id)(d:Nat)(h:i∉l):spN sp (l++[i]) d=spU (spN sp l d) i (spN sp l d i++[(d,l.length)]):=by
 funext j
 unfold spU spN;rw[qfs];by_cases e:j=i
 ·subst e;rw[qc3 h];simp
 ·rw[if_neg e];cases findIn j l with
  |some n=>rfl
  |none=>simp[Ne.symm e]
theorem spN_nil(sp:Sc.Id->List (Nat×Nat))(d:Nat):spN sp [] d=sp:=by
 funext j;simp[spN,findIn]
theorem qg8(l:List Sc.Id)(r:Scope):spN (fun i=>spots i r) l (r.length+1)=fun i=>spots i (l::r):=rfl
def EntP(X:Xe)(sp:Sc.Id->List (Nat×Nat))(L:List (Sc.Id×Value))(l:List Sc.Id)(d:Nat)(w:World)(e:Ending)(w':World):Prop:=
 e=.returned (.tuple #[])/\∃L',ScMapF X (spN sp l (d+1)) w' L'/\(∀b,b∈own L'->b∈own L\/w.heap.size<=b)/\Tw X (fun b=>b∈own L) w w'/\w'.heap[X.ab]? =some (.cells #[.int .i64 ((d:Int)+1),.map (some X.bm)] 329 (0,0))
theorem qpj{X:Xe}{sp:Sc.Id->List (Nat×Nat)}{L L1:List (Sc.Id×Value)}{i:Sc.Id}{p:Nat×Nat}{O:Nat->Prop}{w0 w w1 w':World}(hO:O=fun b=>b∈own L)(h:EntQ X sp L1 i p O w0 w1 w')(ht:Tw X O w w1)(hb1:∀b,b∈own L1->b∈own L\/w.heap.size<=b):
  ∃L',ScMapF X (spU sp i (sp i++[p])) w' L'/\(∀b,b∈own L'->b∈own L\/w.heap.size<=b)/\Tw X O w w'/\∀k,k<w1.heap.size->k≠X.bm->k∉own L1->w'.heap[k]? =w1.heap[k]?:=by
 obtain⟨L',h1,h2,a1,a2,a3,a4,a5⟩:=h;refine⟨L',h1,fun b hb=>?_,⟨a1.trans ht.os,a2.trans ht.tape,a3.trans ht.output,Nat.le_trans ht.size a4,fun {k} hk h3 h4 h5=>?_⟩,a5⟩
 ·rcases h2 b hb with h|h
  ·exact hb1 b h
  ·right;have:=ht.size;omega
 ·rw[a5 k (Nat.lt_of_lt_of_le hk ht.size) h4 (fun hm=>?_),ht.blk hk h3 h4 h5];rcases hb1 k hm with h|h
  ·subst hO;exact h5 h
  ·omega
theorem qsy(X:Xe)(sp:Sc.Id->List (Nat×Nat))(L:List (Sc.Id×Value))(ids:List (ByteArray×Int))(na:Option Addr)(nc d:Nat)(w:World)(hm:ScMapF X sp w L)(hab:w.heap[X.ab]? =some (.cells #[.int .i64 (d:Int),.map (some X.bm)] 329 (0,0)))
  (hr:IdRow w na ids)(hrn:∀g,na=some ⟨g,0,none⟩->g≠X.ab/\g≠X.bm/\g∉own L)(hd:Sc.distinct (ids.map idS)=true)(hn:ids.length<=1000000)(hdd:d<=1000000000)(hsp:∀i,(sp i).length<=1000000000)(hlo:X.ab<X.lo/\X.bm<X.lo/\X.ab≠X.bm/\X.lo<=w.heap.size):
  Calls prog 359 #[bp X.ab,.slice na ids.length nc] w (EntP X sp L (ids.map idS) d w):=by
 obtain⟨i0,hi,hz0',hz1',hz2'⟩:=info_parts info459;obtain⟨nn,hnn⟩:∃nn,nn=ids.length:=⟨_,rfl⟩;rw[<-hnn]at hn|-;have HN:=hZ hnn;have HM:=hZ hm;have HAb:=hZ hab;have HR:=hZ hr;have HRn:=hZ hrn;have HD:=hZ hd;have HSp:=hZ hsp;obtain⟨l1,l2,l3,l4⟩:=hlo;have a0:w.cell? ⟨X.ab,0,none⟩=some (.int .i64 (d:Int)):=by simp[World.cell?,hab]
 have af:w.frozen? ⟨X.ab,0,none⟩=false:=by simp[World.frozen?,hab]
 clear hm hab hr hrn hd hsp hnn;go_enter func359,ntmps359
 go_wp2;go_loopw [15] (fun c wr=>∃(k:Nat) (L1:List (Sc.Id×Value)),k<=nn/\c=.int .i64 (k:Int)/\ScMapF X (spN sp ((ids.map idS).take k) (d+1)) wr L1/\(∀b,b∈own L1->b∈own L\/w.heap.size<=b)/\Tw X (fun b=>b∈own L) w wr/\wr.heap[X.ab]? =some (.cells #[.int .i64 ((d:Int)+1),.map (some X.bm)] 329 (0,0))) (fun c _=>nn-(intOf c).toNat)
 case atStart=>
  have hset:(w.setCell ⟨X.ab,0,none⟩ (.int .i64 ((d:Int)+1))).heap[X.ab]? =some (.cells #[.int .i64 ((d:Int)+1),.map (some X.bm)] 329 (0,0)):=by
   simp[World.setCell,Array.getElem?_modify,HAb.out]
  have hels:∀b,b≠X.ab->(w.setCell ⟨X.ab,0,none⟩ (.int .i64 ((d:Int)+1))).heap[b]? =w.heap[b]?:=fun b hb=>qaa (a:=⟨X.ab,0,none⟩) b hb
  refine⟨0,L,Nat.zero_le _,rfl,?_,fun b hb=>.inl hb,⟨rfl,rfl,rfl,by rw[qaf];exact Nat.le_refl _,fun {k} _ h1 _ _=>hels k h1⟩,hset⟩;obtain⟨q1,q2,q3,q4⟩:=HM.out;rw[List.take_zero,spN_nil];exact⟨by rw[hels _ (Ne.symm l3)];exact q1,q2,fun p hp=>qbd (q3 p hp) fun g hg=>hels g (by have:=((q3 p hp).lt g hg).1;omega),q4⟩
 case round=>
  obtain⟨k,L1,hk,rfl,hm1,hb1,ht,hab1⟩:=hrel;have HM1:=hZ hm1;have HB1:=hZ hb1;have HT:=hZ ht;have HAb1:=hZ hab1;have labr:X.ab<wr.heap.size:=(Array.getElem?_eq_some_iff.1 hab1).1;clear hm1 hb1 ht hab1;by_cases hlt:k<nn
  ·have hkl:k<ids.length:=by rw[<-HN.out];exact hlt
   have hp:ids[k]? =some ids[k]:=List.getElem?_eq_getElem hkl;obtain⟨⟨pt,pm⟩,hpe⟩:∃p,p=ids[k]:=⟨_,rfl⟩;rw[<-hpe]at hp;obtain⟨g,rfl,r0,r1⟩:=HR.out k _ hp;obtain⟨n1,n2,n3⟩:=HRn.out g rfl;have r0':wr.cell? ⟨g,k*2,none⟩=some (.string pt):=HT.out.cell r0 n1 n2 n3;have r1':wr.cell? ⟨g,k*2+1,none⟩=some (.int .i64 pm):=HT.out.cell r1 n1 n2 n3;have htk:(ids.map idS).take (k+1)=(ids.map idS).take k++[idS (pt,pm)]:=by rw[List.take_add_one,List.getElem?_map,hp];rfl
   have hnot:idS (pt,pm)∉(ids.map idS).take k:=by
    have h1:=qco ((ids.map idS).take (k+1)) ((ids.map idS).drop (k+1)) (by rw[List.take_append_drop];exact HD.out);rw[htk,qcp]at h1;simp only[Bool.and_eq_true,Bool.not_eq_true',List.contains_eq_mem,decide_eq_false_iff_not]at h1;exact h1.2
   have hlen:((ids.map idS).take k).length=k:=by simp;omega
   have hsn:=qq0 sp _ _ (d+1) hnot;rw[<-htk,hlen]at hsn;have HSn:=hZ hsn;obtain⟨⟨es,clock,m1,m2,m3,m4⟩,mrest⟩:=HM1.out;obtain⟨st,es1,clock1,hme,hst⟩:=entryI X.bm es clock L1 pt pm m2 ⟨m3,m4⟩;generalize hspk:spN sp ((ids.map idS).take k) (d+1)=spk at HM1 HSn;have hspl:(spk (pt.data.toList,pm)).length<=2000000000:=by
    rw[<-hspk];unfold spN;have:=HSp.out (pt.data.toList,pm);rw[List.length_append];cases findIn (pt.data.toList,pm) ((ids.map idS).take k) <;> simp <;> omega
   have hbmr:X.bm<wr.heap.size:=(Array.getElem?_eq_some_iff.1 m1).1;obtain⟨W0,hW0⟩:∃W0,W0=(wr.alloc (.cells #[.string pt,.int .i64 pm] 382)):=⟨_,rfl⟩;have hb0:Below wr.heap.size wr W0:=by rw[hW0];exact qab _ _
   have hbx:W0.heap[wr.heap.size]? =some (.cells #[.string pt,.int .i64 pm] 382 (0,0)):=by rw[hW0];exact heap_alloc_new _ _
   have hs0:W0.heap.size=wr.heap.size+1:=by rw[hW0];simp
   have x0:W0.cell? ⟨wr.heap.size,0,none⟩=some (.string pt):=by simp only[World.cell?,hbx];rfl
   have x1:W0.cell? ⟨wr.heap.size,1,none⟩=some (.int .i64 pm):=by simp only[World.cell?,hbx];rfl
   have hab0:W0.heap[X.ab]? =some (.cells #[.int .i64 ((d:Int)+1),.map (some X.bm)] 329 (0,0)):=by rw[hb0.block _ labr];exact HAb1.out
   have y0:W0.cell? ⟨X.ab,0,none⟩=some (.int .i64 ((d:Int)+1)):=by simp only[World.cell?,hab0];rfl
   have y1:W0.cell? ⟨X.ab,1,none⟩=some (.map (some X.bm)):=by simp only[World.cell?,hab0];rfl
   obtain⟨W1,hW1⟩:∃W1,W1=(W0.alloc (.cells #[.int .i64 ((d:Int)+1),.int .i64 (k:Int)] 459)).drew:=⟨_,rfl⟩;have hb01:Below wr.heap.size wr W1:=by
    rw[hW1];exact(hb0.alloc (by show wr.heap.size<=W0.heap.size;omega) _).trans ((bl0 (by exact⟨rfl,rfl,rfl,rfl⟩)).mono (by show wr.heap.size<=(W0.heap.push _).size;simp;omega))
   have hel:W1.heap[W0.heap.size]? =some (.cells #[.int .i64 ((d:Int)+1),.int .i64 (k:Int)] 459 (0,0)):=by
    rw[hW1];exact heap_alloc_new W0 (.cells #[.int .i64 ((d:Int)+1),.int .i64 (k:Int)] 459)
   have hs1:W1.heap.size=wr.heap.size+2:=by rw[hW1];show(W0.heap.push _).size=_;simp[hs0]
   have hm1':W1.heap[X.bm]? =some (.map es clock):=by rw[hb01.block _ hbmr];exact m1
   have hme1:=hme W1 hm1';obtain⟨W2,hW2⟩:∃W2,W2=setB W1 X.bm (.map es1 clock1):=⟨_,rfl⟩;rw[<-hW2]at hme1;have hm2':W2.heap[X.bm]? =some (.map es1 clock1):=by rw[hW2];exact qf6 hm1'
   have hs2:W2.heap.size=wr.heap.size+2:=by rw[hW2,qbw];exact hs1
   have hne2:∀b,b≠X.bm->W2.heap[b]? =W1.heap[b]?:=fun b hb=>by rw[hW2];exact qbl hb
   have hel2:W2.heap[W0.heap.size]? =some (.cells #[.int .i64 ((d:Int)+1),.int .i64 (k:Int)] 459 (0,0)):=by rw[hne2 _ (by omega)];exact hel
   have h2:W2.os=wr.os/\W2.tape=wr.tape/\W2.output=wr.output/\wr.heap.size<=W2.heap.size/\∀b,b<wr.heap.size->b≠X.bm->W2.heap[b]? =wr.heap[b]?:=by
    refine⟨by rw[hW2];exact hb01.os,by rw[hW2];exact hb01.tape,by rw[hW2];exact hb01.output,by omega,fun b hb hne=>by rw[hne2 b hne,hb01.block b hb]⟩
   have hlow:=qkk HM1.out (pt.data.toList,pm);have hltO:∀c,c∈own L1->X.lo<=c/\c<wr.heap.size:=fun c hc=>by
    obtain⟨q,hq,he⟩:=List.mem_filterMap.1 hc;exact(HM1.out.2.2.1 q hq).lt c he
   have hown2:W2.ownsRow X.lo 459 2 ((lookI (pt.data.toList,pm) L1).getD (.slice none 0 0)) (spk (pt.data.toList,pm)).length (spotCells (spk (pt.data.toList,pm))):=qbd hlow fun c hc=>h2.2.2.2.2 c (hlow.lt c hc).2 (by have:=(hlow.lt c hc).1;omega)
   have hrowne:∀c,((lookI (pt.data.toList,pm) L1).getD (.slice none 0 0)).ownBlock=some c->X.lo<=c/\c<wr.heap.size:=fun c hc=>hlow.lt c hc
   have hlor:X.lo<=wr.heap.size:=Nat.le_trans l4 HT.out.size;have HRow:=hZ hrowne;have HOwn2:=hZ hown2;have H2:=hZ h2;have HSt:=hZ hst;have HEl2:=hZ hel2;have HM2:=hZ hm2';have HNe2:=hZ hne2;have hkl':(k:Int)<(nn:Int):=by omega
   have z0:W1.cell? ⟨wr.heap.size,0,none⟩=some (.string pt):=by
    rw[hW1];exact qaj (w:=W0) x0
   have z1:W1.cell? ⟨wr.heap.size,1,none⟩=some (.int .i64 pm):=by rw[hW1];exact qaj (w:=W0) x1
   have z2:W1.cell? ⟨X.ab,0,none⟩=some (.int .i64 ((d:Int)+1)):=by rw[hW1];exact qaj (w:=W0) y0
   have z3:W1.cell? ⟨X.ab,1,none⟩=some (.map (some X.bm)):=by rw[hW1];exact qaj (w:=W0) y1
   have HZ:=hZ (And.intro z0 (And.intro z1 (And.intro z2 z3)));have HHab:Hid (W2.heap[X.ab]? =some (.cells #[.int .i64 ((d:Int)+1),.map (some X.bm)] 329 (0,0))/\W2.heap[wr.heap.size]? =some (.cells #[.string pt,.int .i64 pm] 382 (0,0))):=by
    refine⟨by rw[hne2 _ l3,hb01.block _ labr];exact HAb1.out,?_⟩;rw[hne2 _ (by omega),hW1];have e5:=Below.heap_alloc W0 (.cells #[.int .i64 ((d:Int)+1),.int .i64 (k:Int)] 459) wr.heap.size (by omega);exact e5.trans hbx
   clear hp hpe r0 r1 m1 m2 m3 m4 mrest hme hst hbx hb0 hab0 hb01 hel hm1' hm2' hne2 hel2 h2 hlow hown2 hrowne hnot hlen hsn htk z0 z1 z2 z3 hspk;have HNews:Hid (∀j u,[Value.int .i64 ((d:Int)+1),.int .i64 (k:Int)][j]? =some u->W2.cell? ((⟨W0.heap.size,0,none⟩:Addr).add j)=some u):=World.news_of_block (cs:=#[.int .i64 ((d:Int)+1),.int .i64 (k:Int)]) HEl2.out;have HOne:Hid (∀u∈[Value.int .i64 ((d:Int)+1),.int .i64 (k:Int)],u.oneCell'=true):=by
    intro u hu;simp at hu;rcases hu with rfl|rfl <;> rfl
   have HLen:Hid ((spk (pt.data.toList,pm)).length+1<=maxLen):=by
    have:(spk (pt.data.toList,pm)).length+1<=maxLen:=by unfold maxLen;omega
    exact this
   have HBy:Hid (((spk (pt.data.toList,pm)).length+1)*16<=140737488355328):=by
    have:((spk (pt.data.toList,pm)).length+1)*16<=140737488355328:=by omega
    exact this
   have HLo2:Hid (X.lo<=W2.heap.size):=by
    have:X.lo<=W2.heap.size:=by omega
    exact this
   have HNum:Hid (X.bm<X.lo/\X.ab<X.lo/\X.lo<=wr.heap.size/\X.ab≠X.bm/\X.bm<wr.heap.size/\X.ab<wr.heap.size/\W2.heap.size=wr.heap.size+2):=⟨l2,l1,hlor,l3,hbmr,labr,hs2⟩;have HFinal:Hid (∀(g3 cap3:Nat) (w3:World),w3.ownsRow X.lo 459 2 (.slice (some ⟨g3,0,none⟩) ((spk (pt.data.toList,pm)).length+1) cap3) ((spk (pt.data.toList,pm)).length+1) (spotCells (spk (pt.data.toList,pm))++[.int .i64 ((d:Int)+1),.int .i64 (k:Int)])->W2.grownBy w3 ((lookI (pt.data.toList,pm) L1).getD (.slice none 0 0)).ownBlock->(((lookI (pt.data.toList,pm) L1).getD (.slice none 0 0)).ownBlock=some g3\/g3=W2.heap.size)->
     ∃w4,(Instr.entryStore 327 (.map (some X.bm)) (.int .i64 (st:Int)) (.slice (some ⟨g3,0,none⟩) ((spk (pt.data.toList,pm)).length+1) cap3)).run prog w3=.ok () w4/\(w3.cell? ⟨wr.heap.size,0,none⟩=some (.string pt)/\w3.cell? ⟨wr.heap.size,1,none⟩=some (.int .i64 pm)/\w3.cell? ⟨X.ab,0,none⟩=some (.int .i64 ((d:Int)+1))/\w3.cell? ⟨X.ab,1,none⟩=some (.map (some X.bm)))/\(w4.cell? ⟨wr.heap.size,0,none⟩=some (.string pt)/\w4.cell? ⟨wr.heap.size,1,none⟩=some (.int .i64 pm)/\w4.cell? ⟨X.ab,0,none⟩=some (.int .i64 ((d:Int)+1))/\w4.cell? ⟨X.ab,1,none⟩=some (.map (some X.bm)))/\
      ∃L',ScMapF X (spN sp ((ids.map idS).take (k+1)) (d+1)) w4 L'/\(∀b,b∈own L'->b∈own L\/w.heap.size<=b)/\Tw X (fun b=>b∈own L) w w4/\w4.heap[X.ab]? =some (.cells #[.int .i64 ((d:Int)+1),.map (some X.bm)] 329 (0,0))):=fun g3 cap3 w3 ho hg ha=>by
    obtain⟨es2,clock2,hst2,he2,hst3⟩:=HSt.out (.slice (some ⟨g3,0,none⟩) ((spk (pt.data.toList,pm)).length+1) cap3);obtain⟨q1,q2,q3,q4,q5,q6,q7⟩:=HNum.out;have far:∀b,b<W2.heap.size->(b<X.lo\/wr.heap.size<=b)->w3.heap[b]? =W2.heap[b]?:=fun b hb hc=>hg.block b hb fun e=>by
     have:=HRow.out b e.symm;omega
    have hm3:w3.heap[X.bm]? =some (.map es1 clock1):=by rw[far _ (by omega) (.inl q1)];exact HM2.out
    have hab3:w3.heap[X.ab]? =some (.cells #[.int .i64 ((d:Int)+1),.map (some X.bm)] 329 (0,0)):=by rw[far _ (by omega) (.inl q2)];exact HHab.out.1
    have hbx3:w3.heap[wr.heap.size]? =some (.cells #[.string pt,.int .i64 pm] 382 (0,0)):=by rw[far _ (by omega) (.inr (Nat.le_refl _))];exact HHab.out.2
    have hab4:(setB w3 X.bm (.map es2 clock2)).heap[X.ab]? =some (.cells #[.int .i64 ((d:Int)+1),.map (some X.bm)] 329 (0,0)):=by rw[qbl q4];exact hab3
    have hbx4:(setB w3 X.bm (.map es2 clock2)).heap[wr.heap.size]? =some (.cells #[.string pt,.int .i64 pm] 382 (0,0)):=by rw[qbl (by omega)];exact hbx3
    have hE:=qsz (t:=pt) (m:=pm) (p:=(d+1,k)) (O:=fun b=>b∈own L) (w0:=w) HM1.out q1 q3 H2.out hm3 he2 hst3 ho hg ha (setB w3 X.bm (.map es2 clock2)) ⟨rfl,rfl,rfl,rfl⟩;obtain⟨L',e1,e2,e3,_⟩:=qpj rfl hE HT.out HB1.out;refine⟨_,hst2 w3 hm3,⟨by simp only[World.cell?,hbx3];rfl,by simp only[World.cell?,hbx3];rfl,by simp only[World.cell?,hab3];rfl,by simp only[World.cell?,hab3];rfl⟩,⟨by simp only[World.cell?,hbx4];rfl,by simp only[World.cell?,hbx4];rfl,by simp only[World.cell?,hab4];rfl,by simp only[World.cell?,hab4];rfl⟩,L',?_,e2,e3,hab4⟩;rw[HSn.out];exact e1
   have HZ2:Hid (W2.cell? ⟨wr.heap.size,0,none⟩=some (.string pt)/\W2.cell? ⟨wr.heap.size,1,none⟩=some (.int .i64 pm)/\W2.cell? ⟨X.ab,0,none⟩=some (.int .i64 ((d:Int)+1))/\W2.cell? ⟨X.ab,1,none⟩=some (.map (some X.bm))):=by
    obtain⟨e1,e2⟩:=HHab.out;exact⟨by simp only[World.cell?,e2];rfl,by simp only[World.cell?,e2];rfl,by simp only[World.cell?,e1];rfl,by simp only[World.cell?,e1];rfl⟩
   rw[hW1]at hme1 HZ;clear hW1 hW2 hs1 HSt HEl2 HM2 HNe2 HHab H2 HM1 HB1 HT HAb1 HSn HRow hs2 hspl;go_wp2_with (fail)
   rw[<-hW0];clear hW0 hs0 r0' r1';go_region_held3 (fun w'=>w'.cell? ⟨wr.heap.size,0,none⟩=some (.string pt)/\w'.cell? ⟨wr.heap.size,1,none⟩=some (.int .i64 pm)/\w'.cell? ⟨X.ab,0,none⟩=some (.int .i64 ((d:Int)+1))/\w'.cell? ⟨X.ab,1,none⟩=some (.map (some X.bm)))
    (first|(exact HZ4.out)|(exact HZ3.out)|(exact HZ2.out)|(exact HZ.out)|(exact⟨x0,x1,y0,y1⟩)|go_keep)
    (first|(refine step_append_lies _ rfl _ _ 457 rfl X.lo 459 i0 (.agg #[.int .i64 0,.int .i64 0]) 2 16 underlying457 hi hz0' hz1' hz2' rfl (by decide) _ _ _ rfl HOwn2.out ⟨W0.heap.size,0,none⟩ 1 1 [.int .i64 ((d:Int)+1),.int .i64 (k:Int)] rfl rfl HNews.out HOne.out (by decide) HLen.out HBy.out HLo2.out W2.heap.size rfl ?_;intro g3 cap3 w3 hown3 hgrow3 hat3 hlt3;obtain⟨w4,hst4,hz3,hz4,hfin⟩:=HFinal.out g3 cap3 w3 hown3 hgrow3 hat3;have HZ3:=hZ hz3;have HZ4:=hZ hz4;have HFin:=hZ hfin;clear hown3 hgrow3 hat3 hlt3 hz3 hz4 hfin))
   all_goals
    go_wp2;go_roundw
    case rel=>
     obtain⟨L',e1,e2,e3,e4⟩:=HFin.out;exact⟨k+1,L',by omega,by go_num,e1,e2,e3,e4⟩
    case measure=>simp[intOf];omega
  ·have hke:k=nn:=by omega
   have htk:(ids.map idS).take k=ids.map idS:=by rw[hke,HN.out,<-List.length_map (f:=idS),List.take_length]
   have hm1:=HM1.out;rw[htk]at hm1;have HM1':=hZ hm1;have hnl:¬(k:Int)<(nn:Int):=by omega
   clear hke htk hm1 HM1;go_wp2;go_end0;exact⟨rfl,L1,HM1'.out,HB1.out,HT.out,HAb1.out⟩
end
section
open Sc
theorem qq3(g n cap:Nat)(hc:n+1<=cap)(_hn:n+1<=2000000000)(w:World):(Instr.slice 457 (.slice (some ⟨g,0,none⟩) (n+1) cap) none (some (.int .i64 (n:Int))) none).run prog w=.ok (.slice (some ⟨g,0,none⟩) n cap) w:=by
 have h1:(n:Int)<=cap:=by omega
 have h2:n<=cap:=by omega
 simp[Instr.slice,Instr.sliceBounds,run_underlying underlying457,go_sem,h1]
theorem qod{w:World}{lo:Nat}{v:Value}{n:Nat}{xs:List Value}{x y:Value}(h:w.ownsRow lo 459 2 v (n+1) (xs++[x,y])):∃g cap,v=.slice (some ⟨g,0,none⟩) (n+1) cap/\n+1<=cap/\w.ownsRow lo 459 2 (.slice (some ⟨g,0,none⟩) n cap) n xs:=by
 obtain⟨h1,h2⟩:=h;have hx:xs.length=n*2:=by simp at h1;omega
 rcases h2 with⟨_,h0⟩|⟨g,cap,cur,hv,hb,hg,hn,hm,hsz,htk⟩
 ·omega
 ·refine⟨g,cap,hv,hn,hx,.inr ⟨g,cap,cur,rfl,hb,hg,by omega,hm,hsz,?_⟩⟩;have:(cur.toList.take ((n+1)*2)).take (n*2)=xs:=by rw[htk,<-hx];simp
  rw[<-this,List.take_take];congr 1;omega
def spL(sp:Sc.Id->List (Nat×Nat))(l:List Sc.Id)(d k:Nat):Sc.Id->List (Nat×Nat):=fun j=>if j∈l.take k then sp j else spN sp l d j
theorem qq1(sp:Sc.Id->List (Nat×Nat))(l:List Sc.Id)(d:Nat):spL sp l d 0=spN sp l d:=by funext j;simp[spL]
theorem spL_all(sp:Sc.Id->List (Nat×Nat))(l:List Sc.Id)(d:Nat):spL sp l d l.length=sp:=by
 funext j
 unfold spL;by_cases h:j∈l
 ·simp[h]
 ·simp[h,spN,qc3 h]
theorem qq2(sp:Sc.Id->List (Nat×Nat))(l:List Sc.Id)(d k:Nat)(i:Sc.Id)(h:l[k]? =some i):spL sp l d (k+1)=spU (spL sp l d k) i (sp i):=by
 funext j
 unfold spL spU;rw[List.take_add_one,h];by_cases e:j=i
 ·subst e;simp
 ·simp[e]
theorem qfr{i:Sc.Id}:∀{l:List Sc.Id},i∈l->∃n,findIn i l=some n
 | [],h=>by simp at h
 |j::r,h=>by
  by_cases e:j=i
  ·exact⟨0,by simp[findIn,e]⟩
  ·rcases List.mem_cons.1 h with rfl|h
   ·exact absurd rfl e
   ·obtain⟨n,hn⟩:=qfr h;exact⟨n+1,by simp[findIn,e,hn]⟩
theorem spL_at(sp:Sc.Id->List (Nat×Nat))(l:List Sc.Id)(d k:Nat)(i:Sc.Id)(h:l[k]? =some i)(hn:i∉l.take k):∃n,spL sp l d k i=sp i++[(d,n)]:=by
 obtain⟨n,hf⟩:=qfr (List.mem_of_getElem? h);exact⟨n,by simp[spL,hn,spN,hf]⟩
def LeaP(X:Xe)(sp:Sc.Id->List (Nat×Nat))(L:List (Sc.Id×Value))(d:Nat)(w:World)(e:Ending)(w':World):Prop:=
 e=.returned (.tuple #[])/\∃L',ScMapF X sp w' L'/\(∀b,b∈own L'->b∈own L)/\Tw X (fun b=>b∈own L) w w'/\w'.heap[X.ab]? =some (.cells #[.int .i64 (d:Int),.map (some X.bm)] 329 (0,0))
theorem qkh{i:Sc.Id}{u v:Value}(h:v.ownBlock=u.ownBlock):∀{L:List (Sc.Id×Value)},lookI i L=some u->own (putI i v L)=own L
 | [],hl=>by simp[lookI]at hl
 |(j,a)::r,hl=>by
  by_cases e:i=j
  ·subst e;simp[lookI]at hl;subst hl;simp only[own,putI,if_pos,List.filterMap_cons,h]
  ·simp only[lookI,if_neg e]at hl;have:=qkh h hl;simp only[own,putI,if_neg e,List.filterMap_cons]at this|-;rw[this]
theorem qr8(X:Xe)(sp:Sc.Id->List (Nat×Nat))(L:List (Sc.Id×Value))(ids:List (ByteArray×Int))(na:Option Addr)(nc d:Nat)(w:World)(hm:ScMapF X (spN sp (ids.map idS) (d+1)) w L)(hab:w.heap[X.ab]? =some (.cells #[.int .i64 ((d:Int)+1),.map (some X.bm)] 329 (0,0)))
  (hr:IdRow w na ids)(hrn:∀g,na=some ⟨g,0,none⟩->g≠X.ab/\g≠X.bm/\g∉own L)(hd:Sc.distinct (ids.map idS)=true)(hn:ids.length<=1000000)(hdd:d<=1000000000)(hsp:∀i,(sp i).length<=1000000000)(hlo:X.ab<X.lo/\X.bm<X.lo/\X.ab≠X.bm/\X.lo<=w.heap.size):
  Calls prog 360 #[bp X.ab,.slice na ids.length nc] w (LeaP X sp L d w):=by
 obtain⟨nn,hnn⟩:∃nn,nn=ids.length:=⟨_,rfl⟩;rw[<-hnn]at hn|-;have HN:=hZ hnn;have HM:=hZ hm;have HAb:=hZ hab;have HR:=hZ hr;have HRn:=hZ hrn;have HD:=hZ hd;have HSp:=hZ hsp;obtain⟨l1,l2,l3,l4⟩:=hlo;have a0:w.cell? ⟨X.ab,0,none⟩=some (.int .i64 ((d:Int)+1)):=by simp[World.cell?,hab]
 have af:w.frozen? ⟨X.ab,0,none⟩=false:=by simp[World.frozen?,hab]
 have hsub:(d:Int)+1-1=d:=by omega
 clear hm hab hr hrn hd hsp hnn;go_enter func360,ntmps360
 go_wp2;go_loopw [16] (fun c wr=>∃(k:Nat) (L1:List (Sc.Id×Value)),k<=nn/\c=.int .i64 (k:Int)/\ScMapF X (spL sp (ids.map idS) (d+1) k) wr L1/\(∀b,b∈own L1->b∈own L)/\Tw X (fun b=>b∈own L) w wr/\wr.heap[X.ab]? =some (.cells #[.int .i64 (d:Int),.map (some X.bm)] 329 (0,0))) (fun c _=>nn-(intOf c).toNat)
 case atStart=>
  have hset:(w.setCell ⟨X.ab,0,none⟩ (.int .i64 (d:Int))).heap[X.ab]? =some (.cells #[.int .i64 (d:Int),.map (some X.bm)] 329 (0,0)):=by
   simp[World.setCell,Array.getElem?_modify,HAb.out]
  have hels:∀b,b≠X.ab->(w.setCell ⟨X.ab,0,none⟩ (.int .i64 (d:Int))).heap[b]? =w.heap[b]?:=fun b hb=>qaa (a:=⟨X.ab,0,none⟩) b hb
  refine⟨0,L,Nat.zero_le _,rfl,?_,fun b hb=>hb,⟨rfl,rfl,rfl,by rw[qaf];exact Nat.le_refl _,fun {k} _ h1 _ _=>hels k h1⟩,hset⟩;obtain⟨q1,q2,q3,q4⟩:=HM.out;rw[qq1];exact⟨by rw[hels _ (Ne.symm l3)];exact q1,q2,fun p hp=>qbd (q3 p hp) fun g hg=>hels g (by have:=((q3 p hp).lt g hg).1;omega),q4⟩
 case round=>
  obtain⟨k,L1,hk,rfl,hm1,hb1,ht,hab1⟩:=hrel;have HM1:=hZ hm1;have HB1:=hZ hb1;have HT:=hZ ht;have HAb1:=hZ hab1;have labr:X.ab<wr.heap.size:=(Array.getElem?_eq_some_iff.1 hab1).1;clear hm1 hb1 ht hab1;by_cases hlt:k<nn
  ·have hkl:k<ids.length:=by rw[<-HN.out];exact hlt
   have hp:ids[k]? =some ids[k]:=List.getElem?_eq_getElem hkl;obtain⟨⟨pt,pm⟩,hpe⟩:∃p,p=ids[k]:=⟨_,rfl⟩;rw[<-hpe]at hp;obtain⟨g,rfl,r0,r1⟩:=HR.out k _ hp;obtain⟨n1,n2,n3⟩:=HRn.out g rfl;have r0':wr.cell? ⟨g,k*2,none⟩=some (.string pt):=HT.out.cell r0 n1 n2 n3;have r1':wr.cell? ⟨g,k*2+1,none⟩=some (.int .i64 pm):=HT.out.cell r1 n1 n2 n3;have hlk:(ids.map idS)[k]? =some (pt.data.toList,pm):=by rw[List.getElem?_map,hp];rfl
   have htk:(ids.map idS).take (k+1)=(ids.map idS).take k++[idS (pt,pm)]:=by rw[List.take_add_one,hlk];rfl
   have hnot:(pt.data.toList,pm)∉(ids.map idS).take k:=by
    have h1:=qco ((ids.map idS).take (k+1)) ((ids.map idS).drop (k+1)) (by rw[List.take_append_drop];exact HD.out);rw[htk,qcp]at h1;simp only[Bool.and_eq_true,Bool.not_eq_true',List.contains_eq_mem,decide_eq_false_iff_not]at h1;exact h1.2
   obtain⟨n0,hat⟩:=spL_at sp (ids.map idS) (d+1) k _ hlk hnot;have hsu:=qq2 sp (ids.map idS) (d+1) k _ hlk;have HSu:=hZ hsu;have hlow:=qkk HM1.out (pt.data.toList,pm);rw[hat]at hlow;have hlen:(sp (pt.data.toList,pm)++[(d+1,n0)]).length=(sp (pt.data.toList,pm)).length+1:=by simp
   rw[hlen,qc4]at hlow;obtain⟨g1,cap1,hv1,hc1,hsh⟩:=qod (x:=.int .i64 ((d+1:Nat):Int)) (y:=.int .i64 (n0:Int)) (by simpa[spotCells]using hlow);have hspb:=HSp.out (pt.data.toList,pm);generalize hsn:(sp (pt.data.toList,pm)).length=sn at hv1 hc1 hsh hspb hlow;have hlkI:lookI (pt.data.toList,pm) L1=some (.slice (some ⟨g1,0,none⟩) (sn+1) cap1):=by
    cases hl:lookI (pt.data.toList,pm) L1 with
    |none=>rw[hl]at hv1;simp at hv1
    |some u=>rw[hl]at hv1;simp at hv1;rw[hv1]
   obtain⟨⟨es,clock,m1,m2,m3,m4⟩,mrest⟩:=HM1.out;have hbmr:X.bm<wr.heap.size:=(Array.getElem?_eq_some_iff.1 m1).1;obtain⟨es2,hup,he2,hs2⟩:=updateI X.bm es clock L1 pt pm m2 ⟨m3,m4⟩ (by rw[hlkI];rfl) (.slice (some ⟨g1,0,none⟩) sn cap1);have hlook:∀w',w'.heap[X.bm]? =some (.map es clock)->(Instr.lookup 327 (.map (some X.bm)) (idV pt pm) false).run prog w'=.ok (.slice (some ⟨g1,0,none⟩) (sn+1) cap1) w':=fun w' hw'=>by
    rw[qen X.bm es clock L1 pt pm w' hw' m2,hlkI];rfl
   obtain⟨W0,hW0⟩:∃W0,W0=(wr.alloc (.cells #[.string pt,.int .i64 pm] 382)):=⟨_,rfl⟩;have hb0:Below wr.heap.size wr W0:=by rw[hW0];exact qab _ _
   have hbx:W0.heap[wr.heap.size]? =some (.cells #[.string pt,.int .i64 pm] 382 (0,0)):=by rw[hW0];exact heap_alloc_new _ _
   have x0:W0.cell? ⟨wr.heap.size,0,none⟩=some (.string pt):=by simp only[World.cell?,hbx];rfl
   have x1:W0.cell? ⟨wr.heap.size,1,none⟩=some (.int .i64 pm):=by simp only[World.cell?,hbx];rfl
   have hab0:W0.heap[X.ab]? =some (.cells #[.int .i64 (d:Int),.map (some X.bm)] 329 (0,0)):=by rw[hb0.block _ labr];exact HAb1.out
   have y1:W0.cell? ⟨X.ab,1,none⟩=some (.map (some X.bm)):=by simp only[World.cell?,hab0];rfl
   have hm0:W0.heap[X.bm]? =some (.map es clock):=by rw[hb0.block _ hbmr];exact m1
   have hlk1:=hlook W0.drew hm0;have hup2:=hup W0.drew.drew hm0;have hsl:∀w,(Instr.slice 457 (.slice (some ⟨g1,0,none⟩) (sn+1) cap1) none (some (.int .i64 (sn:Int))) none).run prog w=.ok (.slice (some ⟨g1,0,none⟩) sn cap1) w:=fun w=>qq3 g1 sn cap1 hc1 (by omega) w
   have hs1:(sn:Int)+1-1=sn:=by omega
   obtain⟨w4,hw4⟩:∃w4,w4=setB W0.drew.drew X.bm (.map es2 clock):=⟨_,rfl⟩;rw[<-hw4]at hup2;have HFin:Hid (∃L',ScMapF X (spL sp (ids.map idS) (d+1) (k+1)) w4 L'/\(∀b,b∈own L'->b∈own L)/\Tw X (fun b=>b∈own L) w w4/\w4.heap[X.ab]? =some (.cells #[.int .i64 (d:Int),.map (some X.bm)] 329 (0,0))):=by
    have hne:∀b,b≠X.bm->w4.heap[b]? =W0.heap[b]?:=fun b hb=>by rw[hw4];exact qbl hb
    have hown:own (putI (pt.data.toList,pm) (.slice (some ⟨g1,0,none⟩) sn cap1) L1)=own L1:=qkh (u:=.slice (some ⟨g1,0,none⟩) (sn+1) cap1) (v:=.slice (some ⟨g1,0,none⟩) sn cap1) rfl hlkI;obtain⟨q1,q2⟩:=HM1.out.put (w3:=W0) (w4:=w4) (i:=(pt.data.toList,pm)) (p:=sp (pt.data.toList,pm)) (v:=.slice (some ⟨g1,0,none⟩) sn cap1) (by rw[hw4];exact qf6 (w:=W0.drew.drew) hm0) he2 hs2 l2 hne
     (by rw[hsn];exact qbd hsh fun c hc=>hb0.block c (hsh.lt c hc).2)
     (fun q hq _ c hc=>hb0.block c ((HM1.out.2.2.1 q hq).lt c hc).2)
     (fun c hc=>⟨fun u hu=>by rw[hlkI]at hu;cases hu;exact .inl hc,fun h=>by rw[hlkI]at h;cases h⟩) (.inr hown)
    refine⟨_,by rw[HSu.out];exact q1,fun b hb=>HB1.out b (by rw[hown]at hb;exact hb),⟨by rw[hw4];exact hb0.os.trans HT.out.os,by rw[hw4];exact hb0.tape.trans HT.out.tape,by rw[hw4];exact hb0.output.trans HT.out.output,?_,fun {c} h1 h2 h3 h4=>?_⟩,by rw[hne _ l3];exact hab0⟩
    ·rw[hw4,qbw];exact Nat.le_trans HT.out.size hb0.size
    ·rw[hne c h3,hb0.block c (Nat.lt_of_lt_of_le h1 HT.out.size)];exact HT.out.blk h1 h2 h3 h4
   have hkl':(k:Int)<(nn:Int):=by omega
   clear hp hpe r0 r1 m1 m2 m3 m4 mrest hup hlook hbx hb0 hab0 hm0 hlow hsh hnot hlk htk hsu hat hlen hlkI hv1 he2 hs2 hw4 HM1 HB1 HT HAb1 HSu;go_wp2_with (fail)
   rw[<-hW0];clear hW0 r0' r1';go_region
   go_wp2_with (fail)
   go_region
   go_wp2;go_roundw
   case rel=>
    obtain⟨L',e1,e2,e3,e4⟩:=HFin.out;exact⟨k+1,L',by omega,by go_num,e1,e2,e3,e4⟩
   case measure=>simp[intOf];omega
  ·have hke:k=nn:=by omega
   have htk:k=(ids.map idS).length:=by rw[hke,HN.out];simp
   have hm1:=HM1.out;rw[htk,spL_all]at hm1;have HM1':=hZ hm1;have hnl:¬(k:Int)<(nn:Int):=by omega
   clear hke htk hm1 HM1;go_wp2;go_end0;exact⟨rfl,L1,HM1'.out,HB1.out,HT.out,HAb1.out⟩
end
section
open Sc
theorem info134:(prog.info? 134).map (fun i=>(i.zero,i.size,i.bytes))=some (some (.agg #[.int .i64 0,.int .i64 0,.bool false,.string ⟨#[]⟩,.int .i64 0,.slice none 0 0]),6,72):=by kernel_rfl
theorem qhi(a:Option Addr)(n c:Nat)(w:World):Calls prog 238 #[.slice a n c] w fun e w'=>e=.returned (.agg (Dl.cells ⟨4,0,false,⟨#[]⟩,0,a,n,c⟩))/\∃o,Lk (w.alloc o) w':=by
 go_enter func238,ntmps238
 go_wp2;refine bodyPost_ret (v:=.agg #[.int .i64 4,.int .i64 0,.bool false,.string ⟨#[]⟩,.int .i64 0,.slice a n c]) (by simp[results,results238,go_sem, *]) rfl ?_;exact⟨rfl,_,⟨rfl,rfl,rfl,rfl⟩⟩
theorem qfn(xb n xcap:Nat)(xa:Option Addr)(w:World)(Q:Ending->World->Prop)(hn:n<3)
  (hQ:∀w',Below w.heap.size w w'->Q (.panicked (stopP (stopV 4))) w'):
  Calls prog 337 #[bp xb,.slice xa n xcap] w Q:=by
 have HQ:=hZ hQ;have hc:n=0\/n=1\/n=2:=by omega
 clear hQ hn;rcases hc with rfl|rfl|rfl;all_goals
  go_enter func337,ntmps337
  go_wp2_with (first|(go_at_call 290;refine(qax _).mono ?_;rintro e w2 ⟨rfl,o,rfl⟩))
  exact⟨rfl,HQ.out _ (qab _ _)⟩
theorem qjf(xb g o n xcap:Nat)(yk:Int)(w:World)(Q:Ending->World->Prop)(c0:w.cell? ⟨g,o+6,none⟩=some (.int .i64 yk))(hk:yk≠4)(hn:n+3<=1000000)
  (hQ:∀w',Below w.heap.size w w'->Q (.panicked (stopP (stopV 4))) w'):
  Calls prog 337 #[bp xb,.slice (some ⟨g,o,none⟩) (n+3) xcap] w Q:=by
 have HQ:=hZ hQ;have hk':(yk==4)=false:=by simpa using hk
 have h3:(3:Int)<=(n:Int)+3:=by omega
 have h1:(1:Int)<(n:Int)+3:=by omega
 clear hQ;go_enter func337,ntmps337
 go_wp2_with (first|(go_at_call 290;refine(qax _).mono ?_;rintro e w2 ⟨rfl,o,rfl⟩))
 exact⟨rfl,HQ.out _ (qab _ _)⟩
end
end Go.Proofs.YtldaocpojcfljaaGreatDoor
