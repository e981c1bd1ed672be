import Derived.Test.YtldaocpojcfljaaGreatDoorC09
import Derived.Deep.RegionHeld2
set_option maxRecDepth 100000
set_option maxHeartbeats 4000000
namespace Go.Proofs.YtldaocpojcfljaaGreatDoor
open Tryz hiding parts
open Go.RowKit Go.Shelf
section
open Sc
section
variable {G:Gh} {S:Sub} {m:Mc} {w:World}
theorem Inv.m1 (_:Inv G S m w):G.mb∈G.mut:=by simp [Gh.mut]
theorem Inv.m2 (_:Inv G S m w):G.sb∈G.mut:=by simp [Gh.mut]
theorem Inv.m3 (_:Inv G S m w):G.cb∈G.mut:=by simp [Gh.mut]
theorem Inv.m4 (_:Inv G S m w):G.mp∈G.mut:=by simp [Gh.mut]
theorem Inv.m5 (_:Inv G S m w) {s:Bs} {b:Nat} (h:(s,b)∈G.B):b∈G.mut:=by
 simp only [Gh.mut,List.mem_cons,List.mem_append,List.mem_map];exact .inr (.inr (.inr (.inr (.inl ⟨_,h,rfl⟩))))
theorem Inv.m6 (_:Inv G S m w) {i fb g o n cap:Nat} (h:G.E[i]? =some (fb,.slice (some ⟨g,o,Option.none⟩) (n+1) cap)):g∈G.mut:=by
 simp only [Gh.mut,List.mem_cons,List.mem_append];exact .inr (.inr (.inr (.inr (.inr (qc7 h)))))
theorem Inv.sb_mb (i:Inv G S m w):G.sb≠G.mb:=by have:=i.nd;simp only [Gh.mut,List.nodup_cons,List.mem_cons,not_or]at this;exact fun e=>this.1.1 e.symm
theorem Inv.cb_mb (i:Inv G S m w):G.cb≠G.mb:=by have:=i.nd;simp only [Gh.mut,List.nodup_cons,List.mem_cons,not_or]at this;exact fun e=>this.1.2.1 e.symm
theorem Inv.mp_mb (i:Inv G S m w):G.mp≠G.mb:=by have:=i.nd;simp only [Gh.mut,List.nodup_cons,List.mem_cons,not_or]at this;exact fun e=>this.1.2.2.1 e.symm
theorem Inv.cb_sb (i:Inv G S m w):G.cb≠G.sb:=by have:=i.nd;simp only [Gh.mut,List.nodup_cons,List.mem_cons,not_or]at this;exact fun e=>this.2.1.1 e.symm
theorem Inv.mp_sb (i:Inv G S m w):G.mp≠G.sb:=by have:=i.nd;simp only [Gh.mut,List.nodup_cons,List.mem_cons,not_or]at this;exact fun e=>this.2.1.2.1 e.symm
theorem Inv.mp_cb (i:Inv G S m w):G.mp≠G.cb:=by have:=i.nd;simp only [Gh.mut,List.nodup_cons,List.mem_cons,not_or]at this;exact fun e=>this.2.2.1.1 e.symm
theorem Inv.late (i:Inv G S m w) {b:Nat} (h:b∈G.B.map (·.2)++G.rows):b≠G.mb∧b≠G.sb∧b≠G.cb∧b≠G.mp:=by
 have:=i.nd;simp only [Gh.mut,List.nodup_cons,List.mem_cons,not_or]at this
 exact⟨fun e=>this.1.2.2.2 (e▸h),fun e=>this.2.1.2.2 (e▸h),fun e=>this.2.2.1.2 (e▸h),fun e=>this.2.2.2.1 (e▸h)⟩
theorem Inv.lateB (i:Inv G S m w) {s:Bs} {b:Nat} (h:(s,b)∈G.B):b≠G.mb∧b≠G.sb∧b≠G.cb∧b≠G.mp:=i.late (List.mem_append_left _ (List.mem_map.2 ⟨_,h,rfl⟩))
theorem Inv.lateE (i:Inv G S m w) {j fb g o n cap:Nat} (h:G.E[j]? =some (fb,.slice (some ⟨g,o,Option.none⟩) (n+1) cap)):g≠G.mb∧g≠G.sb∧g≠G.cb∧g≠G.mp:=i.late (List.mem_append_right _ (qc7 h))
theorem Inv.nd2 (i:Inv G S m w):(G.B.map (·.2)++G.rows).Nodup:=by
 have:=i.nd;simp only [Gh.mut,List.nodup_cons]at this;exact this.2.2.2.2
theorem Inv.turn {m':Mc} {w':World} {b:Nat} (i:Inv G S m w) (hb:b∈G.mut) (hk:∀c,c≠b→w'.heap[c]? =w.heap[c]?) (hs:w'.heap.size=w.heap.size) (ho:w'.os=w.os∧w'.tape=w.tape∧w'.output=w.output)
  (st:Mt G.sb m'.steps S.fuel 10 w') (ce:Mt G.cb m'.cells S.quota 11 w') (sl:(m'.steps:Int)≤S.fuel) (cl:(m'.cells:Int)≤S.quota)
  (ma:∃gv wp,w'.heap[G.mb]? =some (.cells #[bp G.sb,bp G.cb,.map (some G.mp),gv,.pointer wp] 119 (0,0))∧WRep G m'.wnd wp)
  (mp:∃es clock,w'.heap[G.mp]? =some (.map es clock)∧es.toList.map (fun e=>(e.key,e.val))=G.B.map (fun p=>(Value.string ⟨p.1.toArray⟩,bp p.2)))
  (gl:∀{s:Bs} {b:Nat},(s,b)∈G.B→∃x,w'.heap[b]? =some (.cells #[x] 318 (0,0))∧GVal G (lookup s m'.glob) x)
  (gd:∀{s:Bs} {v:Vl},lookup s m'.glob=some v→∃b,(s,b)∈G.B)
  (en:∀{i:Nat} {vs:List Vl} {e:Option Nat},m'.envs[i]? =some (vs,e)→∃fb sv pf,G.E[i]? =some (fb,sv)∧G.I fb=some (.cells #[sv,.pointer pf] 461 (0,0))∧NRep G e pf∧ERow G w'.heap sv vs)
  (el:G.E.length=m'.envs.length) (jl:G.J.length=m'.ids):Inv G S m' w':=
 ⟨fun {c o} hc=>by
  rw [hk c (by intro e;subst e;rw [i.mi hb]at hc;cases hc)];exact i.imm hc,
  i.nd,i.mi,fun h=>by rw [hs];exact i.ml h,st,ce,⟨sl,i.sl.2⟩,⟨cl,i.cl.2⟩,ma,mp,gl,gd,i.gk,en,el,jl,i.jn,i.ji,by rw [ho.1,ho.2.1,ho.2.2];exact i.fo,
  fun {c} hc=>by rw [hk c (fun e=>i.fm hb (e▸hc)),hs];exact i.ff hc,i.fm,i.fi⟩
theorem qaa {w:World} {a:Addr} {v:Value} (c:Nat) (h:c≠a.block):(w.setCell a v).heap[c]? =w.heap[c]?:=Below.heap_setCell _ _ _ _ h
theorem qaf {w:World} {a:Addr} {v:Value}:(w.setCell a v).heap.size=w.heap.size:=by simp [World.setCell]
theorem Mt.set {b:Nat} {t mo out:Int} {w:World} (h:Mt b t mo out w) (t':Int):Mt b t' mo out (w.setCell ⟨b,0,Option.none⟩ (.int .i64 t')):=by
 unfold Mt at*;simp [World.setCell,Array.getElem?_modify,h]
theorem Mt.keep {b:Nat} {t mo out:Int} {w w':World} (h:Mt b t mo out w) (e:w'.heap[b]? =w.heap[b]?):Mt b t mo out w':=by unfold Mt at*;rw [e];exact h
theorem Inv.glKeep {w':World} {b:Nat} (i:Inv G S m w) (hk:∀c,c≠b→w'.heap[c]? =w.heap[c]?) (hn:∀s c,(s,c)∈G.B→c≠b):∀{s:Bs} {c:Nat},(s,c)∈G.B→∃x,w'.heap[c]? =some (.cells #[x] 318 (0,0))∧GVal G (lookup s m.glob) x:=fun {s c} h=>by
 rw [hk c (hn s c h)];exact i.gl h
theorem Inv.enKeep {w':World} {b:Nat} (i:Inv G S m w) (hk:∀c,c≠b→w'.heap[c]? =w.heap[c]?) (hn:∀j fb g o n cap:Nat,G.E[j]? =some (fb,Value.slice (some ⟨g,o,Option.none⟩) (n+1) cap)→g≠b):
  ∀{j:Nat} {vs:List Vl} {e:Option Nat},m.envs[j]? =some (vs,e)→∃fb sv pf,G.E[j]? =some (fb,sv)∧G.I fb=some (.cells #[sv,.pointer pf] 461 (0,0))∧NRep G e pf∧ERow G w'.heap sv vs:=fun {j vs e} h=>by
 obtain⟨fb,sv,pf,h1,h2,h3,h4⟩:=i.en h
 exact⟨fb,sv,pf,h1,h2,h3,h4.mono (Gh.le.refl _) fun g o n cap e=>hk g (hn j fb g o n cap (by rw [h1,e]))⟩
theorem Inv.steps (i:Inv G S m w) (n:Nat) (h:(n:Int)≤S.fuel):Inv G S {m with steps:=n} (w.setCell ⟨G.sb,0,Option.none⟩ (.int .i64 (n:Int))):=
 i.turn i.m2 (fun c hc=>qaa c hc) qaf ⟨rfl,rfl,rfl⟩ (i.st.set _) (i.ce.keep (qaa _ i.cb_sb)) h i.cl.1
  (by rw [qaa (a:=⟨G.sb,0,Option.none⟩) _ (Ne.symm i.sb_mb)];exact i.ma) (by rw [qaa (a:=⟨G.sb,0,Option.none⟩) _ i.mp_sb];exact i.mp)
  (i.glKeep (fun c hc=>qaa c hc) fun s c h=>(i.lateB h).2.1) i.gd
  (i.enKeep (fun c hc=>qaa c hc) fun j fb g o n cap h=>(i.lateE h).2.1) i.el i.jl
theorem Inv.cells (i:Inv G S m w) (n:Nat) (h:(n:Int)≤S.quota):Inv G S {m with cells:=n} (w.setCell ⟨G.cb,0,Option.none⟩ (.int .i64 (n:Int))):=
 i.turn i.m3 (fun c hc=>qaa c hc) qaf ⟨rfl,rfl,rfl⟩ (i.st.keep (qaa _ (Ne.symm i.cb_sb))) (i.ce.set _) i.sl.1 h
  (by rw [qaa (a:=⟨G.cb,0,Option.none⟩) _ (Ne.symm i.cb_mb)];exact i.ma) (by rw [qaa (a:=⟨G.cb,0,Option.none⟩) _ i.mp_cb];exact i.mp)
  (i.glKeep (fun c hc=>qaa c hc) fun s c h=>(i.lateB h).2.2.1) i.gd
  (i.enKeep (fun c hc=>qaa c hc) fun j fb g o n cap h=>(i.lateE h).2.2.1) i.el i.jl
theorem Inv.given (i:Inv G S m w) (x:Value):Inv G S m (w.setCell ⟨G.mb,3,Option.none⟩ x):=
 i.turn i.m1 (fun c hc=>qaa c hc) qaf ⟨rfl,rfl,rfl⟩ (i.st.keep (qaa _ i.sb_mb)) (i.ce.keep (qaa _ i.cb_mb)) i.sl.1 i.cl.1
  (by obtain⟨gv,wp,a,b⟩:=i.ma;exact⟨x,wp,by simp [World.setCell,Array.getElem?_modify,a],b⟩) (by rw [qaa (a:=⟨G.mb,3,Option.none⟩) _ i.mp_mb];exact i.mp)
  (i.glKeep (fun c hc=>qaa c hc) fun s c h=>(i.lateB h).1) i.gd
  (i.enKeep (fun c hc=>qaa c hc) fun j fb g o n cap h=>(i.lateE h).1) i.el i.jl
theorem Inv.winders (i:Inv G S m w) (ws:List Wn) (wp:Option Addr) (h:WRep G ws wp):Inv G S {m with wnd:=ws} (w.setCell ⟨G.mb,4,Option.none⟩ (.pointer wp)):=
 i.turn i.m1 (fun c hc=>qaa c hc) qaf ⟨rfl,rfl,rfl⟩ (i.st.keep (qaa _ i.sb_mb)) (i.ce.keep (qaa _ i.cb_mb)) i.sl.1 i.cl.1
  (by obtain⟨gv,wp',a,b⟩:=i.ma;exact⟨gv,wp,by simp [World.setCell,Array.getElem?_modify,a],h⟩) (by rw [qaa (a:=⟨G.mb,4,Option.none⟩) _ i.mp_mb];exact i.mp)
  (i.glKeep (fun c hc=>qaa c hc) fun s c h=>(i.lateB h).1) i.gd
  (i.enKeep (fun c hc=>qaa c hc) fun j fb g o n cap h=>(i.lateE h).1) i.el i.jl
theorem qdm (s t:Bs) (v:Vl):∀l:List (Bs×Vl),lookup t (put s v l)=if s=t then some v else lookup t l
 | []=>by simp [put,lookup]
 |(u,x)::r=>by
  by_cases h:u=s
  ·subst h
   simp only [put,if_true,lookup]
   by_cases k:u=t <;> simp [k]
  ·simp only [put,if_neg h,lookup,qdm s t v r]
   by_cases k:u=t
   ·subst k;simp [Ne.symm h]
   ·simp [k]
theorem Inv.setGlob (i:Inv G S m w) {s:Bs} {b:Nat} (hs:(s,b)∈G.B) {v:Vl} {x:Value} (hv:VRep G v x):Inv G S {m with glob:=put s v m.glob} (w.setCell ⟨b,0,Option.none⟩ x):=by
 have hl:=i.lateB hs
 refine i.turn (i.m5 hs) (fun c hc=>qaa c hc) qaf ⟨rfl,rfl,rfl⟩ (i.st.keep (qaa _ (Ne.symm hl.2.1))) (i.ce.keep (qaa _ (Ne.symm hl.2.2.1))) i.sl.1 i.cl.1
  (by rw [qaa (a:=⟨b,0,Option.none⟩) _ (Ne.symm hl.1)];exact i.ma) (by rw [qaa (a:=⟨b,0,Option.none⟩) _ (Ne.symm hl.2.2.2)];exact i.mp) ?_ ?_
  (i.enKeep (fun c hc=>qaa c hc) fun j fb g o n cap h e=>?_) i.el i.jl
 ·intro t c ht
  rw [qdm]
  by_cases e:s=t
  ·subst e
   have hc:c=b:=by
    obtain⟨j,hj,e1⟩:=List.mem_iff_getElem.1 hs
    obtain⟨k,hk,e2⟩:=List.mem_iff_getElem.1 ht
    have:j=k:=(List.getElem_inj (h₀:=by simpa using hj) (h₁:=by simpa using hk) i.gk).1 (by simp [e1,e2])
    subst this;rw [e1]at e2;cases e2;rfl
   subst hc
   obtain⟨y,h1,_⟩:=i.gl ht
   refine⟨x,by simp [World.setCell,Array.getElem?_modify,h1],?_⟩
   rw [if_pos rfl];exact hv
  ·obtain⟨y,h1,h2⟩:=i.gl ht
   refine⟨y,?_,by rw [if_neg e];exact h2⟩
   rw [qaa (a:=⟨b,0,Option.none⟩) c ?_];exact h1
   intro ec
   have ec:c=b:=ec
   subst ec
   have hn:=(List.nodup_append.1 i.nd2).1
   obtain⟨j,hj,e1⟩:=List.mem_iff_getElem.1 hs
   obtain⟨k,hk,e2⟩:=List.mem_iff_getElem.1 ht
   have:j=k:=(List.getElem_inj (h₀:=by simpa using hj) (h₁:=by simpa using hk) hn).1 (by simp [e1,e2])
   subst this;rw [e1]at e2;cases e2;exact e rfl
 ·intro t u ht
  rw [qdm]at ht
  by_cases e:s=t
  ·subst e;exact⟨b,hs⟩
  ·rw [if_neg e]at ht;exact i.gd ht
 ·have e:g=b:=e
  subst e
  exact(List.nodup_append.1 i.nd2).2.2 _ (List.mem_map.2 ⟨_,hs,rfl⟩) _ (qc7 h) rfl
def Gh.id (G:Gh) (b:Nat):Gh:={G with J:=G.J++[b]}
theorem Gh.le_id (G:Gh) (b:Nat):G.le (G.id b):=⟨_root_.id,fun {i c} h=>by
 show(G.J++[b])[i]? =some c
 rw [List.getElem?_append_left (List.getElem?_eq_some_iff.1 h).1];exact h,_root_.id,_root_.id,rfl,rfl,rfl,rfl,rfl,rfl⟩
theorem Gh.id_at (G:Gh) (b:Nat):(G.id b).J[G.J.length]? =some b:=by show(G.J++[b])[G.J.length]? =some b;simp
theorem Inv.newId (i:Inv G S m w) {b:Nat} {o:Obj} (hb:b∉G.J) (ho:G.I b=some o):Inv (G.id b) S {m with ids:=m.ids+1} w:=by
 have h:=G.le_id b
 refine⟨i.imm,i.nd,i.mi,i.ml,i.st,i.ce,i.sl,i.cl,?_,i.mp,?_,i.gd,i.gk,?_,i.el,?_,?_,?_,i.fo,i.ff,i.fm,i.fi⟩
 ·obtain⟨gv,wp,a,c⟩:=i.ma;exact⟨gv,wp,a,c.mono h⟩
 ·intro s c hs;obtain⟨x,a,k⟩:=i.gl hs;exact⟨x,a,k.mono h⟩
 ·intro j vs e hj
  obtain⟨fb,sv,pf,a,c,d,k⟩:=i.en hj
  exact⟨fb,sv,pf,a,c,d.mono h,k.mono h fun _ _ _ _ _=>rfl⟩
 ·show(G.J++[b]).length=m.ids+1
  simp [i.jl]
 ·show(G.J++[b]).Nodup
  rw [List.nodup_append]
  exact⟨i.jn,by simp,fun x hx y hy e=>by simp at hy;subst hy;subst e;exact hb hx⟩
 ·intro c hc
  have hc:c∈G.J++[b]:=hc
  rcases List.mem_append.1 hc with hc|hc
  ·exact i.ji hc
  ·simp at hc;subst hc;exact⟨o,ho⟩
theorem Inv.newObj (i:Inv G S m w) (o:Obj):Inv ((G.add w.heap.size o).id w.heap.size) S {m with ids:=m.ids+1} (w.alloc o):=
 (i.alloc o).newId (fun h=>by
  obtain⟨x,hx⟩:=i.ji h
  rw [i.fresh (Nat.le_refl _)]at hx;cases hx) (Gh.add_at _ _ _)
theorem Inv.le_newObj (i:Inv G S m w) (o:Obj):G.le ((G.add w.heap.size o).id w.heap.size):=(Gh.le_add (i.fresh (Nat.le_refl _))).trans (Gh.le_id _ _)
theorem Inv.at_newObj (i:Inv G S m w) (o:Obj):((G.add w.heap.size o).id w.heap.size).J[m.ids]? =some w.heap.size:=by rw [←i.jl];exact Gh.id_at _ _
def LRow (G:Gh) (h:Array Obj) (sv:Value) (vs:List Vl):Prop:=
 (vs=[]∧∃a cap,sv=.slice a 0 cap)∨
 ∃g o cap arr,sv=.slice (some ⟨g,o,Option.none⟩) vs.length cap∧vs≠[]∧vs.length≤cap∧vs.length≤1000000∧h[g]? =some (.cells arr 116 (0,0))∧g∉G.mut∧G.I g=Option.none∧¬G.F g∧∀i v,vs[i]? =some v→∃x,arr[o+i]? =some x∧VRep G v x
theorem Inv.fix (i:Inv G S m w) {g:Nat} {o:Obj} (hmf:g∉G.mut∧¬G.F g) (hn:G.I g=Option.none) (hw:w.heap[g]? =some o):Inv (G.add g o) S m w:=by
 have hm:=hmf.1
 have h:=Gh.le_add (o:=o) hn
 refine⟨?_,i.nd,?_,i.ml,i.st,i.ce,i.sl,i.cl,?_,i.mp,?_,i.gd,i.gk,?_,i.el,i.jl,i.jn,?_,i.fo,i.ff,i.fm,fun {b} hb=>(if_neg (fun e:b=g=>hmf.2 (e▸hb))).trans (i.fi hb)⟩
 ·intro b x hb
  have hb:(if b=g then some o else G.I b)=some x:=hb
  by_cases e:b=g
  ·subst e;rw [if_pos rfl]at hb;cases hb;exact hw
  ·rw [if_neg e]at hb;exact i.imm hb
 ·intro b hb
  show(if b=g then some o else G.I b)=Option.none
  rw [if_neg (fun e:b=g=>hm (e▸hb))];exact i.mi hb
 ·obtain⟨gv,wp,a,c⟩:=i.ma;exact⟨gv,wp,a,c.mono h⟩
 ·intro s c hs;obtain⟨x,a,k⟩:=i.gl hs;exact⟨x,a,k.mono h⟩
 ·intro j vs e hj
  obtain⟨fb,sv,pf,a,c,d,k⟩:=i.en hj
  exact⟨fb,sv,pf,a,h.I c,d.mono h,k.mono h fun _ _ _ _ _=>rfl⟩
 ·intro b hb
  obtain⟨x,hx⟩:=i.ji hb
  exact⟨x,h.I hx⟩
def Gh.env (G:Gh) (fb:Nat) (sv:Value):Gh:={G with E:=G.E++[(fb,sv)]}
theorem Gh.le_env (G:Gh) (fb:Nat) (sv:Value):G.le (G.env fb sv):=⟨_root_.id,_root_.id,fun {i c} h=>by
 show(G.E++[(fb,sv)])[i]? =some c
 rw [List.getElem?_append_left (List.getElem?_eq_some_iff.1 h).1];exact h,_root_.id,rfl,rfl,rfl,rfl,rfl,rfl⟩
theorem Inv.pushEnv (i:Inv G S m w) {fb:Nat} {sv:Value} {vs:List Vl} {pf:Option Addr} {e:Option Nat} (hf:G.I fb=some (.cells #[sv,.pointer pf] 461 (0,0))) (hp:NRep G e pf) (hr:LRow G w.heap sv vs):
  Inv (G.env fb sv) S {m with envs:=m.envs++[(vs,e)]} w:=by
 have h:=G.le_env fb sv
 have hrow:(G.env fb sv).rows=G.rows++rowOf sv:=by
  unfold Gh.rows
  show(G.E++[(fb,sv)]).flatMap _=_
  rw [List.flatMap_append];simp
 have hmut:(G.env fb sv).mut=G.mut++rowOf sv:=by
  unfold Gh.mut;rw [hrow];simp [Gh.env]
 have hnew:∀b,b∈rowOf sv→b∉G.mut∧G.I b=Option.none∧b<w.heap.size∧¬G.F b:=by
  rcases hr with⟨rfl,a,cap,rfl⟩|⟨g,o,cap,arr,rfl,hne,_,_,hg,hm,hn,hnf,_⟩
  ·intro b hb;cases a <;> simp [rowOf]at hb
  ·obtain⟨v,r,rfl⟩:=List.exists_cons_of_ne_nil hne
   intro b hb
   have hb:b∈[g]:=hb
   simp at hb;subst hb
   exact⟨hm,hn,(Array.getElem?_eq_some_iff.1 hg).1,hnf⟩
 have hnd:(rowOf sv).Nodup:=by
  unfold rowOf;split <;> simp
 refine⟨i.imm,?_,?_,?_,i.st,i.ce,i.sl,i.cl,?_,i.mp,?_,i.gd,i.gk,?_,?_,i.jl,i.jn,i.ji,i.fo,i.ff,?_,i.fi⟩
 ·rw [hmut,List.nodup_append]
  exact⟨i.nd,hnd,fun a ha b hb e=>(hnew b hb).1 (e▸ha)⟩
 ·intro b hb
  rw [hmut]at hb
  rcases List.mem_append.1 hb with hb|hb
  ·exact i.mi hb
  ·exact(hnew b hb).2.1
 ·intro b hb
  rw [hmut]at hb
  rcases List.mem_append.1 hb with hb|hb
  ·exact i.ml hb
  ·exact(hnew b hb).2.2.1
 ·obtain⟨gv,wp,a,c⟩:=i.ma;exact⟨gv,wp,a,c.mono h⟩
 ·intro s c hs;obtain⟨x,a,k⟩:=i.gl hs;exact⟨x,a,k.mono h⟩
 ·intro j us e' hj
  by_cases hlt:j<m.envs.length
  ·have hj:(m.envs++[(vs,e)])[j]? =some (us,e'):=hj
   rw [List.getElem?_append_left hlt]at hj
   obtain⟨fb',sv',pf',a,c,d,k⟩:=i.en hj
   exact⟨fb',sv',pf',h.E a,c,d.mono h,k.mono h fun _ _ _ _ _=>rfl⟩
  ·have hj:(m.envs++[(vs,e)])[j]? =some (us,e'):=hj
   rw [List.getElem?_append_right (by omega)]at hj
   obtain⟨hj0,hj⟩:j-m.envs.length=0∧(vs,e)=(us,e'):=by
    rcases hz:j-m.envs.length with _|z
    ·rw [hz]at hj;exact⟨rfl,by simpa using hj⟩
    ·rw [hz]at hj;simp at hj
   cases hj
   refine⟨fb,sv,pf,?_,hf,hp.mono h,?_⟩
   ·show(G.E++[(fb,sv)])[j]? =some (fb,sv)
    rw [List.getElem?_append_right (by rw [i.el];omega),i.el,hj0];rfl
   ·rcases hr with⟨rfl,a,cap,rfl⟩|⟨g,o,cap,arr,rfl,hne,_,_,hg,hm,hn,_,hx⟩
    ·exact .inl ⟨rfl,a,cap,rfl⟩
    ·exact .inr ⟨g,o,cap,arr,rfl,hne,hg,fun q v hv=>by obtain⟨x,e1,e2⟩:=hx q v hv;exact⟨x,e1,e2.mono h⟩⟩
 ·show(G.E++[(fb,sv)]).length=(m.envs++[(vs,e)]).length
  simp [i.el]
 ·intro b hb
  rw [hmut]at hb
  rcases List.mem_append.1 hb with hb|hb
  ·exact i.fm hb
  ·exact(hnew b hb).2.2.2
end
end
section
theorem qai {P:Program} {id:Nat} {Q:Exit→Act→World→Prop} {a:Act} {w:World} {l:List Oper} (n:Nat) (hm:P.follows .mixedOrders=true) (hB:Region.lexTailB .any l.toArray n=true)
  (h:wpStill P l.toArray w.drew (fun a'=>wpList P l.toArray Q (l.drop n) a' w.drew) (l.take n) a):(Code.region id l.toArray true).wp P Q a w:=wp_region_still_tail n hm hB h
theorem qoo (d:Nat) (t:Nat) (v:Value) (w:World):(Op.equalIn (d+1) 116 (.iface t v) .nilIface).run prog w=.ok false w:=by
 simp [Op.equalIn,run_underlying underlying116]
theorem qrv (t:Nat) (v:Value) (w:World):(binOp .neq 116 (.iface t v) .nilIface).run prog w=.ok (.bool true) w:=by
 have e:(Op.equal 116 (.iface t v) .nilIface).run prog w=.ok false w:=qoo 9999 t v w
 simp [binOp,e]
theorem qon (d:Nat) (w:World):(Op.equalIn (d+1) 116 .nilIface .nilIface).run prog w=.ok true w:=by
 simp [Op.equalIn,run_underlying underlying116]
theorem qru (w:World):(binOp .neq 116 .nilIface .nilIface).run prog w=.ok (.bool false) w:=by
 have e:(Op.equal 116 .nilIface .nilIface).run prog w=.ok true w:=qon 9999 w
 simp [binOp,e]
theorem qfl (b t:Nat) (v:Value) (w:World) (h:w.cell? ⟨b,0,none⟩=some (.iface t v)):Calls prog 369 #[.pointer (some ⟨b,0,none⟩)] w fun e w'=>e=.returned (.tuple #[])∧w'=w:=by
 have he:∀w,(binOp BinOp.neq 116 (.iface t v) .nilIface).run prog w=.ok (.bool true) w:=fun w=>qrv _ _ w
 go_enter func369,ntmps369
 go_wp2_with (go_at_call 273;refine(qbi _ _).mono ?_;rintro e w2 ⟨rfl,hww⟩;obtain rfl:=hww.symm)
 go_end0
 exact⟨rfl,rfl⟩
theorem qej (b:Nat) (w:World) (h:w.cell? ⟨b,0,none⟩=some .nilIface):Calls prog 369 #[.pointer (some ⟨b,0,none⟩)] w fun e w'=>e=.panicked (stopP (stopV 5))∧∃o,w'=w.alloc o:=by
 have he:∀w,(binOp BinOp.neq 116 .nilIface .nilIface).run prog w=.ok (.bool false) w:=fun w=>qru w
 go_enter func369,ntmps369
 go_wp2_with (go_at_call 273;refine(qbh _ _).mono ?_;rintro e w2 ⟨rfl,o,rfl⟩)
 exact⟨rfl,rfl,o,rfl⟩
theorem qmk (q b t:Nat) (v:Value) (pf:Option Addr) (k:Nat) (cp:Array Value) (w:World) (Q:Ending→World→Prop)
  (eg:∀args w,(callFunc k args).run prog w=.ok (.enter k args) w)
  (hQ:∀e w,Q e w→(∃v,e=.returned v)∨(∃ps,e=.panicked ps))
  (h1:w.cell? ⟨q,0,none⟩=some (.pointer (some ⟨b,0,none⟩))) (h2:w.cell? ⟨b,0,none⟩=some (.iface t v))
  (hK:∀w',Lk w w'→Calls prog k (#[.iface t v]++cp) w' Q):
  Calls prog 368 #[.pointer pf,.func (.func k) #[] cp,.pointer (some ⟨q,0,none⟩)] w Q:=by
 have HK:=hZ hK
 have HQ:=hZ hQ
 clear hK hQ
 go_enter func368,ntmps368
 go_wp2_with (go_at_call 369;refine(qfl _ _ _ _ h2).mono ?_;rintro e w2 ⟨rfl,hww⟩;obtain rfl:=hww.symm)
 go_wp2_with (go_at_fn k;refine(HK.out _ (by exact⟨rfl,rfl,rfl,rfl⟩)).mono ?_;intro e w2 hq)
 all_goals first|exact hq|exact⟨rfl,hq⟩|(rcases HQ.out _ _ hq with⟨v,h⟩|⟨ps,h⟩ <;> cases h)
theorem qjo (q b:Nat) (pf:Option Addr) (k:Nat) (cp:Array Value) (w:World)
  (h1:w.cell? ⟨q,0,none⟩=some (.pointer (some ⟨b,0,none⟩))) (h2:w.cell? ⟨b,0,none⟩=some .nilIface):
  Calls prog 368 #[.pointer pf,.func (.func k) #[] cp,.pointer (some ⟨q,0,none⟩)] w fun e w'=>e=.panicked (stopP (stopV 5))∧∃o,w'=w.alloc o:=by
 go_enter func368,ntmps368
 go_wp2_with (go_at_call 369;refine(qej _ _ h2).mono ?_;rintro e w2 ⟨rfl,o,rfl⟩)
 exact⟨rfl,rfl,o,rfl⟩
theorem qf5 (q b t:Nat) (v x:Value) (pf:Option Addr) (w:World)
  (h1:w.cell? ⟨q,0,none⟩=some (.pointer (some ⟨b,0,none⟩))) (h2:w.cell? ⟨b,0,none⟩=some (.iface t v)) (hf:w.frozen? ⟨b,0,none⟩=false) (hx:∃t y,x=.iface t y):
  Calls prog 401 #[.pointer pf,x,.pointer (some ⟨q,0,none⟩)] w fun e w'=>e=.returned (.tuple #[])∧w'=w.setCell ⟨b,0,none⟩ x:=by
 obtain⟨tx,y,rfl⟩:=hx
 go_enter func401,ntmps401
 go_wp2_with (go_at_call 369;refine(qfl _ _ _ _ h2).mono ?_;rintro e w2 ⟨rfl,hww⟩;obtain rfl:=hww.symm)
 go_wp2
 go_end0
 exact⟨rfl,rfl⟩
theorem qe7 (q b:Nat) (x:Value) (pf:Option Addr) (w:World)
  (h1:w.cell? ⟨q,0,none⟩=some (.pointer (some ⟨b,0,none⟩))) (h2:w.cell? ⟨b,0,none⟩=some .nilIface):
  Calls prog 401 #[.pointer pf,x,.pointer (some ⟨q,0,none⟩)] w fun e w'=>e=.panicked (stopP (stopV 5))∧∃o,w'=w.alloc o:=by
 go_enter func401,ntmps401
 go_wp2_with (go_at_call 369;refine(qej _ _ h2).mono ?_;rintro e w2 ⟨rfl,o,rfl⟩)
 exact⟨rfl,rfl,o,rfl⟩
theorem qq8 (w:World):Calls prog 413 #[.pointer none] w fun e w'=>e=.returned (.int .i64 0)∧w'=w:=by
 go_enter func413,ntmps413
 go_wp2
 go_ret
 exact⟨rfl,rfl⟩
theorem qns (b:Nat) (n:Int) (w:World) (h:w.cell? ⟨b,2,none⟩=some (.int .i64 n)):Calls prog 413 #[.pointer (some ⟨b,0,none⟩)] w fun e w'=>e=.returned (.int .i64 n)∧w'=w:=by
 go_enter func413,ntmps413
 go_wp2
 go_ret
 exact⟨rfl,rfl⟩
def Gsize (w:World) (p:Option Addr) (n:Int):Prop:=(p=none∧n=0)∨∃b,p=some ⟨b,0,none⟩∧w.cell? ⟨b,2,none⟩=some (.int .i64 n)
theorem qj9 (p:Option Addr) (n:Int) (w:World) (h:Gsize w p n):Calls prog 413 #[.pointer p] w fun e w'=>e=.returned (.int .i64 n)∧w'=w:=by
 rcases h with⟨rfl,rfl⟩|⟨b,rfl,h⟩
 ·exact qq8 w
 ·exact qns b n w h
theorem qqj (p:Option Addr) (n:Int) (t:Nat) (v:Value) (w:World) (h:Gsize w p n) (h0:0≤n) (h1:n≤1000000):
  Calls prog 397 #[.pointer p,.iface t v] w fun e w'=>e=.returned (.pointer (some ⟨w.heap.size,0,none⟩))∧w'=w.alloc (.cells #[.iface t v,.pointer p,.int .i64 (n+1)] 485):=by
 have HS:=hZ (qj9 p n w h)
 clear h
 go_enter func397,ntmps397
 go_wp2_with (go_at_call 413;refine HS.out.mono ?_;rintro e w2 ⟨rfl,hww⟩;obtain rfl:=hww.symm)
 go_wp2
 go_ret
 exact⟨rfl,rfl⟩
end
section
def tl1 (g o cap:Nat):Option Addr:=if cap=1 then some ⟨g,o,none⟩else some ⟨g,o+1,none⟩
theorem qq4 (g o n cap:Nat) (_hc:n+1≤cap) (w:World):(Instr.slice 184 (.slice (some ⟨g,o,none⟩) (n+1) cap) (some (.int .i64 1)) none none).run prog w=.ok (.slice (tl1 g o cap) n (cap-1)) w:=by
 have h1:(1:Int)≤((n+1:Nat):Int):=by omega
 simp [Instr.slice,Instr.sliceBounds,run_underlying underlying184,go_sem,tl1]
 intro h;omega
theorem qj7 (g o n cap:Nat) (_hc:n+1≤cap) (w:World):(Instr.slice 426 (.slice (some ⟨g,o,none⟩) (n+1) cap) (some (.int .i64 1)) none none).run prog w=.ok (.slice (tl1 g o cap) n (cap-1)) w:=by
 have h1:(1:Int)≤((n+1:Nat):Int):=by omega
 simp [Instr.slice,Instr.sliceBounds,run_underlying underlying426,go_sem,tl1]
 intro h;omega
theorem qev (mb g o n cap k:Nat) (cp:Array Value) (pf pd:Option Addr) (ku:Nat) (cu:Array Value) (w:World) (Q:Ending→World→Prop)
  (eg:∀args w,(callFunc k args).run prog w=.ok (.enter k args) w)
  (hQ:∀e w,Q e w→(∃v,e=.returned v)∨(∃ps,e=.panicked ps))
  (hc:w.cell? ⟨g,o,none⟩=some (.func (.func k) #[] cp))
  (hK:∀w',Lk (((((w.alloc (.cells #[.pointer (some ⟨mb,0,none⟩)] 107)).alloc (.cells #[.slice (some ⟨g,o,none⟩) (n+1) cap] 426)).alloc (.cells #[.pointer pf] 378)).alloc (.cells #[.pointer pd] 470)).alloc (.cells #[.func (.func ku) #[] cu] 450)) w'→
   Calls prog k (#[.pointer pf,.func (.func 396) #[] #[.pointer (some ⟨w.heap.size,0,none⟩),.pointer (some ⟨w.heap.size+1,0,none⟩),.pointer (some ⟨w.heap.size+2,0,none⟩),.pointer (some ⟨w.heap.size+3,0,none⟩),.pointer (some ⟨w.heap.size+4,0,none⟩)]]++cp) w' Q):
  Calls prog 371 #[.pointer (some ⟨mb,0,none⟩),.slice (some ⟨g,o,none⟩) (n+1) cap,.pointer pf,.pointer pd,.func (.func ku) #[] cu] w Q:=by
 have HK:=hZ hK
 have HQ:=hZ hQ
 have kc:∀o1 o2 o3 o4 o5:Obj,(((((w.alloc o1).alloc o2).alloc o3).alloc o4).alloc o5).cell? ⟨g,o,none⟩=some (.func (.func k) #[] cp):=fun o1 o2 o3 o4 o5=>by
  rw [←hc];exact qjw (qac hc) o1 o2 o3 o4 o5
 have h0:(((n+1:Nat):Int)==0)=false:=by simp;omega
 have hnat:(0:Int)<(n:Int)+1:=by omega
 clear hK hQ
 go_enter func371,ntmps371
 go_wp2
 refine qai 5 (by kernel_rfl) (by kernel_rfl) ?_
 simp only [List.take_succ_cons,List.take_zero,List.drop_succ_cons,List.drop_zero]
 repeat still_step
 refine wpStill_nil ?_
 go_wp2_with (go_at_fn k;refine(HK.out _ (by exact⟨rfl,rfl,rfl,rfl⟩)).mono ?_;intro e w2 hq)
 all_goals first|exact hq|exact⟨rfl,hq⟩|(rcases HQ.out _ _ hq with⟨v,h⟩|⟨ps,h⟩ <;> cases h)
theorem app11 (q1 q2 mb g o n cap t ku:Nat) (v:Value) (cu:Array Value) (w:World) (Q:Ending→World→Prop)
  (hQ:∀e w,Q e w→(∃v,e=.returned v)∨(∃ps,e=.panicked ps))
  (h1:w.cell? ⟨q1,0,none⟩=some (.pointer (some ⟨mb,0,none⟩))) (h2:w.cell? ⟨q2,0,none⟩=some (.func (.func ku) #[] cu))
  (h3:w.cell? ⟨g,o,none⟩=some (.iface t v)) (hc:n+1≤cap) (hm:n+1≤1000000)
  (hK:∀w',Lk w w'→Calls prog 283 #[.pointer (some ⟨mb,0,none⟩),.iface t v,.slice (tl1 g o cap) n (cap-1),.func (.func ku) #[] cu] w' Q):
  Calls prog 372 #[.slice (some ⟨g,o,none⟩) (n+1) cap,.pointer (some ⟨q1,0,none⟩),.pointer (some ⟨q2,0,none⟩)] w Q:=by
 have HK:=hZ hK
 have HQ:=hZ hQ
 have hnat:(0:Int)<(n:Int)+1:=by omega
 have hsl:∀w,(Instr.slice 184 (.slice (some ⟨g,o,none⟩) (n+1) cap) (some (.int .i64 1)) none none).run prog w=.ok (.slice (tl1 g o cap) n (cap-1)) w:=fun w=>qq4 g o n cap hc w
 clear hK hQ
 go_enter func372,ntmps372
 go_wp2
 refine qai 7 (by kernel_rfl) (by kernel_rfl) ?_
 simp only [List.take_succ_cons,List.take_zero,List.drop_succ_cons,List.drop_zero]
 repeat still_step
 refine wpStill_nil ?_
 go_wp2_with (go_at_call 283;refine(HK.out _ (by exact⟨rfl,rfl,rfl,rfl⟩)).mono ?_;intro e w2 hq)
 all_goals first|exact hq|exact⟨rfl,hq⟩|(rcases HQ.out _ _ hq with⟨v,h⟩|⟨ps,h⟩ <;> cases h)
theorem qqg (q1 q2 q3 b k:Nat) (cp:Array Value) (sa:Option Addr) (sn sc ku:Nat) (cu:Array Value) (w:World) (Q:Ending→World→Prop)
  (eg:∀args w,(callFunc k args).run prog w=.ok (.enter k args) w)
  (hQ:∀e w,Q e w→(∃v,e=.returned v)∨(∃ps,e=.panicked ps))
  (h1:w.cell? ⟨q1,0,none⟩=some (.pointer (some ⟨b,0,none⟩))) (hb:w.cell? ⟨b,0,none⟩=some (.func (.func k) #[] cp)) (h2:w.cell? ⟨q2,0,none⟩=some (.slice sa sn sc)) (h3:w.cell? ⟨q3,0,none⟩=some (.func (.func ku) #[] cu))
  (hK:∀w',Lk w w'→Calls prog k (#[.slice sa sn sc,.func (.func ku) #[] cu]++cp) w' Q):
  Calls prog 311 #[.pointer (some ⟨q1,0,none⟩),.pointer (some ⟨q2,0,none⟩),.pointer (some ⟨q3,0,none⟩)] w Q:=by
 have HK:=hZ hK
 have HQ:=hZ hQ
 clear hK hQ
 go_enter func311,ntmps311
 go_wp2
 refine qai 6 (by kernel_rfl) (by kernel_rfl) ?_
 simp only [List.take_succ_cons,List.take_zero,List.drop_succ_cons,List.drop_zero]
 repeat still_step
 refine wpStill_nil ?_
 go_wp2_with (go_at_fn k;refine(HK.out _ (by exact⟨rfl,rfl,rfl,rfl⟩)).mono ?_;intro e w2 hq)
 all_goals first|exact hq|exact⟨rfl,hq⟩|(rcases HQ.out _ _ hq with⟨v,h⟩|⟨ps,h⟩ <;> cases h)
theorem gather1 (q1 q2 q3 q4 q5 mb g o n cap t ku:Nat) (v:Value) (pf pd:Option Addr) (c:Int) (cu:Array Value) (w:World) (Q:Ending→World→Prop)
  (hQ:∀e w,Q e w→(∃v,e=.returned v)∨(∃ps,e=.panicked ps))
  (h1:w.cell? ⟨q1,0,none⟩=some (.pointer (some ⟨mb,0,none⟩))) (h2:w.cell? ⟨q2,0,none⟩=some (.slice (some ⟨g,o,none⟩) (n+1) cap)) (h3:w.cell? ⟨q3,0,none⟩=some (.pointer pf))
  (hS:∀v w',Q (.returned v) w'→w'.cell? ⟨q1,0,none⟩=some (.pointer (some ⟨mb,0,none⟩))∧w'.cell? ⟨q2,0,none⟩=some (.slice (some ⟨g,o,none⟩) (n+1) cap)∧w'.cell? ⟨q3,0,none⟩=some (.pointer pf)∧w'.cell? ⟨q4,0,none⟩=some (.pointer pd)∧w'.cell? ⟨q5,0,none⟩=some (.func (.func ku) #[] cu))
  (h4:w.cell? ⟨q4,0,none⟩=some (.pointer pd)) (h5:w.cell? ⟨q5,0,none⟩=some (.func (.func ku) #[] cu)) (hg:Gsize w pd c) (h0:0≤c) (hc1:c≤1000000) (hc:n+1≤cap) (hm:n+1≤1000000)
  (hK:∀w',Lk (w.alloc (.cells #[.iface t v,.pointer pd,.int .i64 (c+1)] 485)) w'→Calls prog 371 #[.pointer (some ⟨mb,0,none⟩),.slice (tl1 g o cap) n (cap-1),.pointer pf,.pointer (some ⟨w.heap.size,0,none⟩),.func (.func ku) #[] cu] w' Q):
  Calls prog 396 #[.iface t v,.pointer (some ⟨q1,0,none⟩),.pointer (some ⟨q2,0,none⟩),.pointer (some ⟨q3,0,none⟩),.pointer (some ⟨q4,0,none⟩),.pointer (some ⟨q5,0,none⟩)] w Q:=by
 have HK:=hZ hK
 have HQ:=hZ hQ
 have hnat:(0:Int)<(n:Int)+1:=by omega
 have hsl:∀w,(Instr.slice 426 (.slice (some ⟨g,o,none⟩) (n+1) cap) (some (.int .i64 1)) none none).run prog w=.ok (.slice (tl1 g o cap) n (cap-1)) w:=fun w=>qj7 g o n cap hc w
 have HS:=hZ hS
 have HG:Hid (∀w',Lk w w'→Gsize w' pd c):=fun w' hw=>by
  rcases hg with h|⟨b,e1,e2⟩
  ·exact .inl h
  ·exact .inr ⟨b,e1,by rw [World.cell?,hw.heap];exact e2⟩
 have l1:=qac h1
 have l2:=qac h2
 have l3:=qac h3
 have l4:=qac h4
 have l5:=qac h5
 have k5:∀o:Obj,(w.alloc o).cell? ⟨q5,0,none⟩=some (.func (.func ku) #[] cu):=fun o=>(qad l5 o).trans h5
 have k1:∀o:Obj,(w.alloc o).cell? ⟨q1,0,none⟩=some (.pointer (some ⟨mb,0,none⟩)):=fun o=>(qad l1 o).trans h1
 have k2:∀x:Obj,(w.alloc x).cell? ⟨q2,0,none⟩=some (.slice (some ⟨g,o,none⟩) (n+1) cap):=fun x=>(qad l2 x).trans h2
 have k3:∀o:Obj,(w.alloc o).cell? ⟨q3,0,none⟩=some (.pointer pf):=fun o=>(qad l3 o).trans h3
 have k4:∀o:Obj,(w.alloc o).cell? ⟨q4,0,none⟩=some (.pointer pd):=fun o=>(qad l4 o).trans h4
 clear hK hQ hS hg l1 l2 l3 l4 l5
 go_enter func396,ntmps396
 go_wp2
 go_region_held2 (fun w'=>w'.cell? ⟨q1,0,none⟩=some (.pointer (some ⟨mb,0,none⟩))∧w'.cell? ⟨q2,0,none⟩=some (.slice (some ⟨g,o,none⟩) (n+1) cap)∧w'.cell? ⟨q3,0,none⟩=some (.pointer pf)∧w'.cell? ⟨q4,0,none⟩=some (.pointer pd)∧w'.cell? ⟨q5,0,none⟩=some (.func (.func ku) #[] cu)) (first|(exact HS.out _ _ hq)|go_keep)
  (first|(go_at_call 397;refine(qqj pd c t v _ (HG.out _ (by exact⟨rfl,rfl,rfl,rfl⟩)) h0 hc1).mono ?_;rintro e w2 ⟨rfl,rfl⟩)|(go_at_call 371;refine(HK.out _ (by exact⟨rfl,rfl,rfl,rfl⟩)).mono ?_;intro e w2 hq;rcases HQ.out _ _ hq with⟨v,rfl⟩|⟨ps,rfl⟩;rotate_left;(exact⟨rfl,hq⟩)))
 go_wp2
 exact hq
end
end Go.Proofs.YtldaocpojcfljaaGreatDoor
