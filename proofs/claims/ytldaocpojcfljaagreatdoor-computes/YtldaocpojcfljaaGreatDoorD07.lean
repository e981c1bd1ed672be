import Derived.Test.YtldaocpojcfljaaGreatDoorD06
set_option maxRecDepth 100000
set_option maxHeartbeats 4000000
namespace Go.Proofs.YtldaocpojcfljaaGreatDoor
open Tryz hiding parts
open Go.RowKit Go.Shelf
section
open Sc
section
variable {G:Gh} {S:Sub} {m:Mc} {w:World}
theorem Inv.setEnv(i:Inv G S m w){j fb g o n cap a:Nat}{vs:List Vl}{e:Option Nat}{v:Vl}{x:Value}(hE:G.E[j]? =some (fb,.slice (some ⟨g,o,none⟩) (n+1) cap))(hm:m.envs[j]? =some (vs,e))(hl:vs.length=n+1)(ha:a<n+1)(hv:VRep G v x):
  Inv G S {m with envs:=m.envs.modify j fun(l,u)=>(l.set a v,u)} (w.setCell ⟨g,o+a,none⟩ x):=by
 have hlt:=i.lateE hE;refine i.turn (i.m6 hE) (fun c hc=>qaa c hc) qaf ⟨rfl,rfl,rfl⟩ (i.st.keep (qaa _ (Ne.symm hlt.2.1))) (i.ce.keep (qaa _ (Ne.symm hlt.2.2.1))) i.sl.1 i.cl.1
  (by rw[qaa (a:=⟨g,o+a,none⟩) _ (Ne.symm hlt.1)];exact i.ma) (by rw[qaa (a:=⟨g,o+a,none⟩) _ (Ne.symm hlt.2.2.2)];exact i.mp)
  (i.glKeep (fun c hc=>qaa c hc) fun s c h e=>?_) i.gd ?_ (by simp only[List.length_modify];exact i.el) i.jl
 ·have e:c=g:=e;subst e;exact(List.nodup_append.1 i.nd2).2.2 _ (List.mem_map.2 ⟨_,h,rfl⟩) _ (qc7 hE) rfl
 ·intro j' vs' e' hj';have hj':(m.envs.modify j fun(l,u)=>(l.set a v,u))[j']? =some (vs',e'):=hj';by_cases hjj:j=j'
  ·subst hjj;rw[List.getElem?_modify]at hj';simp only[if_true,hm]at hj';cases hj';obtain⟨fb2,sv2,pf2,e1,e2,e3,e4⟩:=i.en hm;rw[hE]at e1;cases e1;refine⟨fb,_,pf2,hE,e2,e3,?_⟩;rcases e4 with⟨h1,_⟩|⟨g',o',cap',arr,h1,h2,h3,h4⟩
   ·subst h1;simp at hl
   ·have h1':g=g'/\o=o'/\n+1=vs.length/\cap=cap':=by simpa[and_assoc]using h1
    obtain⟨rfl,rfl,_,rfl⟩:=h1';have hao:o+a<arr.size:=by
     obtain⟨y,hy,_⟩:=h4 a vs[a] (List.getElem?_eq_getElem (by omega));exact(Array.getElem?_eq_some_iff.1 hy).1
    refine .inr ⟨g,o,cap,arr.setIfInBounds (o+a) x,by simp;omega,by intro e;apply h2;simpa using congrArg List.length e,?_,?_⟩
    ·simp[World.setCell,Array.getElem?_modify,h3]
    ·intro b u hb;by_cases hab:a=b
     ·subst hab;rw[List.getElem?_set]at hb;simp only[if_true]at hb;rw[if_pos (by omega)]at hb;cases hb;exact⟨x,by simp[hao],hv⟩
     ·rw[List.getElem?_set_ne hab]at hb;obtain⟨y,hy1,hy2⟩:=h4 b u hb;exact⟨y,by rw[Array.getElem?_setIfInBounds_ne (by omega)];exact hy1,hy2⟩
  ·rw[List.getElem?_modify]at hj';have hj2:m.envs[j']? =some (vs',e'):=by
    rcases hx:m.envs[j']? with _|p
    ·rw[hx]at hj';simp at hj'
    ·rw[hx]at hj';simpa[hjj]using hj'
   obtain⟨fb2,sv2,pf2,e1,e2,e3,e4⟩:=i.en hj2;refine⟨fb2,sv2,pf2,e1,e2,e3,e4.mono (Gh.le.refl _) fun g' o' n' cap' hsv=>qaa (a:=⟨g,o+a,none⟩) g' fun eg=>?_⟩;have eg:g'=g:=eg;subst eg;subst hsv;have hnd:=(List.nodup_append.1 i.nd2).2.1;have hj1:j<G.E.length:=(List.getElem?_eq_some_iff.1 hE).1;have hj3:j'<G.E.length:=(List.getElem?_eq_some_iff.1 e1).1;have key:∀(L:List (Nat×Value)) (p q:Nat) (b c:Nat×Value),p<q->L[p]? =some b->L[q]? =some c->g'∈rowOf b.2->g'∈rowOf c.2->¬(L.flatMap fun x=>rowOf x.2).Nodup:=by
    intro L;induction L with
    |nil=>intro p q b c _ h;simp at h
    |cons y r ih=>
     intro p q b c hpq hp hq hb hc hn;rw[List.flatMap_cons,List.nodup_append]at hn;cases q with
     |zero=>omega
     |succ q=>
      have hq:r[q]? =some c:=by simpa using hq
      cases p with
      |zero=>
       have hp:y=b:=by simpa using hp
       subst hp;exact hn.2.2 g' hb g' (List.mem_flatMap.2 ⟨c,List.mem_of_getElem? hq,hc⟩) rfl
      |succ p=>exact ih p q b c (by omega) (by simpa using hp) hq hb hc hn.2.1
   rcases Nat.lt_or_gt_of_ne hjj with hlt'|hlt'
   ·exact key G.E j j' _ _ hlt' hE e1 (by simp[rowOf]) (by simp[rowOf]) hnd
   ·exact key G.E j' j _ _ hlt' e1 hE (by simp[rowOf]) (by simp[rowOf]) hnd
end
theorem VRep.proc_iff{G:Gh}{v:Vl}{t:Nat}{y:Value}(h:VRep G v (.iface t y)):isProc v=decide (t=281):=by
 cases h with
 |proc v b h=>cases h <;> rfl
 |_=>rfl
theorem qbr{S:Sub}{n:Nat}(G:Gh)(m:Mc)(w:World)(f:Vl)(l:List Vl)(k:List Fr)(x:Value)(sa:Option Addr)(sn sc ku:Nat)(cu:Array Value)
  (i:Inv G S m w)(hf:VRep G f x)(hl:LRow G w.heap (.slice sa sn sc) l)(hk:FRep G k (.func (.func ku) #[] cu)):
  Calls prog 283 #[bp G.mb,x,.slice sa sn sc,.func (.func ku) #[] cu] w (Post G S n (applyTo S f l k m).1 (applyTo S f l k m).2):=by
 by_cases hst:(m.steps:Int)<S.fuel
 ·have i1:=i.steps (m.steps+1) (by push_cast;omega);obtain⟨t,y,rfl⟩:=hf.form;by_cases ht:t=281
  ·subst ht;have ha:applyTo S f l k m=(.ap f l k,{m with steps:=m.steps+1}):=by simp[applyTo,Sc.step,hst,hf.proc_iff]
   rw[ha];cases hf with
   |proc v b hq=>
    refine Calls.mono (qtf G.mb G.sb b ku m.steps S.fuel sa sn sc cu w i.mb0 i.st (by omega) (by omega) (by have:=i.sl.2;omega)) ?_;rintro e w' ⟨rfl,hw⟩;have i1:Inv G S {m with steps:=m.steps+1} (w.setCell ⟨G.sb,0,none⟩ (.int .i64 ((m.steps:Int)+1))):=by simpa using i1
    have i4:=i1.alloc3 (.cells #[.slice sa sn sc] 184) (.cells #[.func (.func ku) #[] cu] 295) (.cells #[.pointer (some ⟨b,0,none⟩)] 281);have x4:=i1.x3 (.cells #[.slice sa sn sc] 184) (.cells #[.func (.func ku) #[] cu] 295) (.cells #[.pointer (some ⟨b,0,none⟩)] 281);rw[qaf]at i4 x4;refine Post.now (.ap f l k _ w' _ _ x4.up (Inv.lk hw i4) (.mk f l k (w.heap.size+2) w.heap.size (w.heap.size+1) b (.slice sa sn sc) (.func (.func ku) #[] cu) ?_ ?_ ?_ (hq.mono x4.le) ?_ (hk.mono x4.le)))
    ·exact Gh.add_at _ _ _
    ·rw[qae _ (by omega),qae _ (by omega)];exact Gh.add_at _ _ _
    ·rw[qae _ (by omega)];exact Gh.add_at _ _ _
    ·rcases hl with⟨h1,h2⟩|⟨g,o,cap,arr,h1,h2,h3,h4,h5,h6,h7,h8,h9⟩
     ·exact .inl ⟨h1,h2⟩
     ·have hgl:g<w.heap.size:=(Array.getElem?_eq_some_iff.1 h5).1;have hgs:g≠G.sb:=fun e=>h6 (e▸i.m2)
      refine .inr ⟨g,o,cap,arr,h1,h2,h3,h4,?_,by rw[x4.mut];exact h6,by rw[x4.I hgl];exact h7,by rw[x4.F];exact h8,fun q u hu=>?_⟩
      ·rw[hw.heap,Below.heap_alloc _ _ _ (by simp;omega),Below.heap_alloc _ _ _ (by simp;omega),Below.heap_alloc _ _ _ (by simp;omega),qaa (a:=⟨G.sb,0,none⟩) g hgs];exact h5
      ·obtain⟨z,z1,z2⟩:=h9 q u hu;exact⟨z,z1,z2.mono x4.le⟩
  ·have ha:applyTo S f l k m=(.stop 6,{m with steps:=m.steps+1}):=by simp[applyTo,Sc.step,hst,hf.proc_iff,ht]
   rw[ha];refine Calls.mono (qqf G.mb G.sb t ku y m.steps S.fuel sa sn sc cu w i.mb0 i.st (by omega) (by omega) (by have:=i.sl.2;omega) ht) ?_;rintro e w' ⟨rfl,hb⟩;have i1:Inv G S {m with steps:=m.steps+1} (w.setCell ⟨G.sb,0,none⟩ (.int .i64 ((m.steps:Int)+1))):=by simpa using i1
   exact Post.now (.stop 6 _ _ (i1.cntB (by rw[qaf];exact Nat.le_refl _) hb))
 ·have ha:applyTo S f l k m=(.stop 10,m):=by simp[applyTo,Sc.step,hst]
  rw[ha];have hm:(m.steps:Int)=S.fuel:=by have:=i.sl.1;omega
  have hM:=i.st;rw[<-hm]at hM;refine Calls.mono (qqe G.mb G.sb ku x m.steps sa sn sc cu w i.mb0 hM (by omega) (by have:=i.sl.2;omega)) ?_;rintro e w' ⟨rfl,hb⟩;have i1:=i.steps m.steps (by omega);exact Post.now (.stop 10 _ _ (i1.cntB (by rw[qaf];exact Nat.le_refl _) hb))
end
section
open Sc
theorem HRep.chn{G:Gh}{S:Sub}{m:Mc}{w:World}(i:Inv G S m w):∀{vs:List Vl} {p:Option Addr},HRep G vs p->∃xs,Chn w xs p/\VsRep G vs xs
 |_,_,.nil=>⟨[],rfl,rfl,fun j v x h=>by simp at h⟩
 |_,_,.cons v r b x pd hb hv hr=>by
  obtain⟨xs,h1,h2⟩:=HRep.chn i hr;refine⟨x::xs,⟨b,pd,rfl,by rw[<-h2.1];exact i.imm hb,h1⟩,by simp[h2.1],?_⟩;intro j u y hu hy;cases j with
  |zero=>simp at hu hy;subst hu;subst hy;exact hv
  |succ j=>exact h2.2 j u y (by simpa using hu) (by simpa using hy)
theorem Chn.gsize{w:World}:∀{xs:List Value} {p:Option Addr},Chn w xs p->Gsize w p (xs.length:Int)
 | [],_,h=>.inl ⟨h,rfl⟩
 |x::r,_,⟨b,q,e1,e2,_⟩=>.inr ⟨b,e1,by simp[World.cell?,e2]⟩
section
variable {S:Sub} {n:Nat} {G:Gh} {m:Mc} {w:World} {v:Vl} {x:Value} {k:List Fr}
theorem ret_nil(i:Inv G S m w)(hv:VRep G v x){q:Nat}(hq:G.mbox q):
  Calls prog 230 (#[x]++#[bp q]) w (Post G S (n+1) (.ret v []) m):=by
 obtain⟨t,y,rfl⟩:=hv.form;obtain⟨z,hz⟩:=i.mb3;refine Calls.mono (run1 q G.mb t y z w (by rw[i.cell hq];rfl) hz (i.mbf 3)) ?_;rintro e w' ⟨rfl,rfl⟩;refine Post.step (c1:=.done v) (m1:=m) (by simp[Sc.next]) rfl (Gh.up.refl G) (Post.now (.done v m _ G (.iface t y) (Gh.up.refl G) (i.given _) ?_ hv));obtain⟨gv,wp,a,_⟩:=i.ma;simp[World.cell?,World.setCell,Array.getElem?_modify,a]
theorem ret_ite(ihe:SimE S n)(ihv:SimV S n)(i:Inv G S m w)(hv:VRep G v x){sh:List Nat}{t:Ex}{e:Option Ex}{env:Option Nat}{q1 q2 q3 q4:Nat}{xe xt u:Value}{pf:Option Addr}
  (h1:G.I q1=some (.cells #[xe] 241 (0,0)))(h2:G.I q2=some (.cells #[.pointer pf] 378 (0,0)))(h3:G.I q3=some (.cells #[u] 295 (0,0)))(h4:G.I q4=some (.cells #[xt] 241 (0,0)))
  (ht:CRep G sh t xt)(hel:ORep G sh e xe)(hn:NRep G env pf)(hs:Sh G sh pf)(hk:FRep G k u)(he:Ct.ended (go S (n+1) (.ret v (.ite t e env::k)) m).1=true):
  Calls prog 399 (#[x]++#[bp q1,bp q2,bp q3,bp q4]) w (Post G S (n+1) (.ret v (.ite t e env::k)) m):=by
 obtain⟨ku,cu,rfl,egu⟩:=hk.isF;obtain⟨kt,ct,rfl,egt⟩:=ht.isF;obtain⟨ke,ce,rfl,ege⟩:=hel.isF;obtain⟨ty,y,rfl⟩:=hv.form;have c1:w.cell? ⟨q1,0,none⟩=some (.func (.func ke) #[] ce):=by rw[i.cell h1];rfl
 have c2:w.cell? ⟨q2,0,none⟩=some (.pointer pf):=by rw[i.cell h2];rfl
 have c3:w.cell? ⟨q3,0,none⟩=some (.func (.func ku) #[] cu):=by rw[i.cell h3];rfl
 have c4:w.cell? ⟨q4,0,none⟩=some (.func (.func kt) #[] ct):=by rw[i.cell h4];rfl
 by_cases hf:v=.bool false
 ·subst hf;cases hv with
  |bool b=>
   refine qme q1 q2 q3 q4 pf ku cu ke ce w _ ege Post.ends c1 c2 c3 ?_;intro w' hw;cases hel with
   |none=>
    have hnx:Sc.next S (.ret (.bool false) (.ite t none env::k)) m=(.ret .none k,m):=rfl;rw[qan hnx rfl]at he;refine qkj ku pf cu w' _ egu Post.ends ?_;intro w'' hw2;exact Calls.mono (ihv G m w'' .none k _ ku cu (Inv.lk hw2 (Inv.lk hw i)) .none hk he) fun e w p=>Post.step hnx rfl (Gh.up.refl G) p
   |some sh e x hc=>
    have hnx:Sc.next S (.ret (.bool false) (.ite t (some e) env::k)) m=(.ev e env k,m):=rfl;rw[qan hnx rfl]at he;exact Calls.mono (ihe G m w' sh e env k ke ku ce cu pf (Inv.lk hw i) hc hn hs hk he) fun e w p=>Post.step hnx rfl (Gh.up.refl G) p
  |proc v b h=>cases h
 ·have hnx:Sc.next S (.ret v (.ite t e env::k)) m=(.ev t env k,m):=by
   unfold Sc.next;split <;> simp_all
  rw[qan hnx rfl]at he;have go:∀w',Lk w w'->Calls prog kt (#[.pointer pf,.func (.func ku) #[] cu]++ct) w' (Post G S (n+1) (.ret v (.ite t e env::k)) m):=fun w' hw=>
   Calls.mono (ihe G m w' sh t env k kt ku ct cu pf (Inv.lk hw i) ht hn hs hk he) fun e w p=>Post.step hnx rfl (Gh.up.refl G) p
  by_cases hty:ty=181
  ·subst hty;cases hv with
   |bool b=>
    cases b with
    |false=>exact absurd rfl hf
    |true=>exact qo4 q1 q2 q3 q4 pf ku cu kt ct w _ egt Post.ends c4 c2 c3 go
  ·exact qo5 ty y q1 q2 q3 q4 pf ku cu kt ct w _ egt Post.ends c4 c2 c3 hty go
theorem qrh(ihe:SimE S n)(i:Inv G S m w){sh:List Nat}{l:List Ex}{env:Option Nat}{q1 q2 q3:Nat}{xl u:Value}{pf:Option Addr}
  (h1:G.I q1=some (.cells #[xl] 241 (0,0)))(h2:G.I q2=some (.cells #[.pointer pf] 378 (0,0)))(h3:G.I q3=some (.cells #[u] 295 (0,0)))
  (hl:SRep G sh l xl)(hn:NRep G env pf)(hs:Sh G sh pf)(hk:FRep G k u)(he:Ct.ended (go S (n+1) (.ret v (.body l env::k)) m).1=true):
  Calls prog 385 (#[x]++#[bp q1,bp q2,bp q3]) w (Post G S (n+1) (.ret v (.body l env::k)) m):=by
 obtain⟨ku,cu,rfl,egu⟩:=hk.isF;obtain⟨kl,cl,rfl,egl⟩:=hl.isF;have hnx:Sc.next S (.ret v (.body l env::k)) m=(bodyOf l env k,m):=rfl;rw[qan hnx rfl]at he;refine seq11 x q1 q2 q3 pf ku cu kl cl w _ egl Post.ends (by rw[i.cell h1];rfl) (by rw[i.cell h2];rfl) (by rw[i.cell h3];rfl) ?_;intro w' hw;exact Calls.mono (qd2 ihe G m w' sh l env k kl ku cl cu pf (Inv.lk hw i) hl hn hs hk he) fun e w p=>Post.step hnx rfl (Gh.up.refl G) p
end
end
section
open Sc
theorem VsRep.reverse{G:Gh}{vs:List Vl}{xs:List Value}(h:VsRep G vs xs):VsRep G vs.reverse xs.reverse:=by
 refine⟨by simp[h.1],fun j v x hv hx=>?_⟩;have hj:j<vs.length:=by simpa using (List.getElem?_eq_some_iff.1 hv).1
 rw[List.getElem?_reverse hj]at hv;rw[List.getElem?_reverse (by rw[<-h.1];exact hj),<-h.1]at hx;exact h.2 _ v x hv hx
section
variable {S:Sub} {n:Nat} {G:Gh} {m:Mc} {w:World} {v:Vl} {x:Value} {k:List Fr}
theorem ret_app(ihe:SimE S n)(i:Inv G S m w)(hv:VRep G v x){sh:List Nat}{vs:List Vl}{l:List Ex}{env:Option Nat}{q1 q2 q3 q4 q5 q6 q7:Nat}{sl x0 u:Value}{xs:List Value}{pf pd:Option Addr}
  (h1:G.mbox q1)(h2:G.I q2=some (.cells #[sl] 426 (0,0)))(h3:G.I q3=some (.cells #[.pointer pf] 378 (0,0)))(h4:G.I q4=some (.cells #[.pointer pd] 470 (0,0)))(h5:G.I q5=some (.cells #[.func (.func 372) #[] #[bp q6,bp q7]] 450 (0,0)))(h6:G.mbox q6)(h7:G.I q7=some (.cells #[u] 295 (0,0)))
  (hb:vs.length+xs.length<=90000)(hr:RowI G 241 sl (x0::xs))(hx:XRep G sh l xs)(hc:HRep G vs.reverse pd)(hn:NRep G env pf)(hs:Sh G sh pf)(hk:FRep G k u)(he:Ct.ended (go S (n+1) (.ret v (.app vs l env::k)) m).1=true):
  Calls prog 396 (#[x]++#[bp q1,bp q2,bp q3,bp q4,bp q5]) w (Post G S (n+1) (.ret v (.app vs l env::k)) m):=by
 obtain⟨ku,cu,rfl,egu⟩:=hk.isF;obtain⟨ty,y,rfl⟩:=hv.form;obtain⟨g,o,cap,arr,rfl,hg,hcap,hm,hrow⟩:=hr;obtain⟨cs,hch,hvs⟩:=hc.chn i;have hcl:cs.length=vs.length:=by rw[<-hvs.1];simp
 have i1:=i.alloc (.cells #[.iface ty y,.pointer pd,.int .i64 ((cs.length:Int)+1)] 485);have x1:=i.x1 (.cells #[.iface ty y,.pointer pd,.int .i64 ((cs.length:Int)+1)] 485);have hcap':xs.length+1<=cap:=by simpa using hcap
 refine gather1 q1 q2 q3 q4 q5 G.mb g o xs.length cap ty 372 y pf pd cs.length #[bp q6,bp q7] w _ Post.ends (by rw[i.cell h1];rfl) (by rw[i.cell h2];rfl) (by rw[i.cell h3];rfl)
  (fun v w' p=>⟨p.cell h1,p.cell h2,p.cell h3,p.cell h4,p.cell h5⟩) (by rw[i.cell h4];rfl) (by rw[i.cell h5];rfl) hch.gsize (by omega) (by omega) hcap' (by simpa using hm) ?_
 intro w' hw;have i1':=Inv.lk hw i1;have hs1:w'.heap.size=w.heap.size+1:=by rw[hw.heap];simp
 have hc':HRep (G.add w.heap.size (.cells #[.iface ty y,.pointer pd,.int .i64 ((cs.length:Int)+1)] 485)) (v::vs.reverse) (some ⟨w.heap.size,0,none⟩):=
  .cons v vs.reverse w.heap.size (.iface ty y) pd (by rw[hcl];simp only[List.length_reverse];exact Gh.add_at _ _ _) (hv.mono x1.le) (hc.mono x1.le)
 cases hx with
 |nil=>
  obtain⟨cs',hch',hvs'⟩:=hc'.chn i1';have hcl':cs'.length=vs.length+1:=by rw[<-hvs'.1];simp
  have i6:=i1'.alloc5 (.cells #[bp G.mb] 107) (.cells #[.slice (tl1 g o cap) 0 (cap-1)] 426) (.cells #[.pointer pf] 378) (.cells #[.pointer (some ⟨w.heap.size,0,none⟩)] 470) (.cells #[.func (.func 372) #[] #[bp q6,bp q7]] 450);have x6:=i1'.x5 (.cells #[bp G.mb] 107) (.cells #[.slice (tl1 g o cap) 0 (cap-1)] 426) (.cells #[.pointer pf] 378) (.cells #[.pointer (some ⟨w.heap.size,0,none⟩)] 470) (.cells #[.func (.func 372) #[] #[bp q6,bp q7]] 450);have L:=x1.le.trans x6.le;have U:=x1.up.trans x6.up;obtain⟨f,al,hfl⟩:∃f al,vs++[v]=f::al:=by
   cases vs with
   |nil=>exact⟨v,[],rfl⟩
   |cons a r=>exact⟨a,r++[v],rfl⟩
  have hnx:Sc.next S (.ret v (.app vs [] env::k)) m=applyTo S f al k m:=by
   simp only[Sc.next,hfl]
  have hrev:(v::vs.reverse).reverse=vs++[v]:=by simp
  have hone:∀x∈cs',∃t v,x=Value.iface t v:=fun x hx=>by
   obtain⟨j,hj,rfl⟩:=List.mem_iff_getElem.1 hx;have hj':j<(v::vs.reverse).length:=by rw[hvs'.1];exact hj
   exact(hvs'.2 j _ _ (List.getElem?_eq_getElem hj') (List.getElem?_eq_getElem hj)).form
  have hvr:VsRep (G.add w.heap.size (.cells #[.iface ty y,.pointer pd,.int .i64 ((cs.length:Int)+1)] 485)) (f::al) cs'.reverse:=by
   have:=hvs'.reverse;rw[hrev,hfl]at this;exact this
  have hal:al.length=vs.length:=by have:=congrArg List.length hfl;simp at this;omega
  have hrl:cs'.reverse.length=al.length+1:=by simp;omega
  obtain⟨xf,xr,hxr⟩:∃xf xr,cs'.reverse=xf::xr:=by
   cases h:cs'.reverse with
   |nil=>rw[h]at hrl;simp at hrl
   |cons a r=>exact⟨a,r,rfl⟩
  rw[hxr]at hvr;have hxf:=(hvr.2 0 f xf rfl rfl).mono x6.le;obtain⟨tf,yf,rfl⟩:=hxf.form;have hsz:(((((w'.alloc (.cells #[bp G.mb] 107)).alloc (.cells #[.slice (tl1 g o cap) 0 (cap-1)] 426)).alloc (.cells #[.pointer pf] 378)).alloc (.cells #[.pointer (some ⟨w.heap.size,0,none⟩)] 470)).alloc (.cells #[.func (.func 372) #[] #[bp q6,bp q7]] 450)).heap.size=w'.heap.size+5:=by simp
  have i7:=i6.below ((Below.refl _ _).alloc (Nat.le_refl _) (.cells cs'.reverse.toArray 116));have hnew:((((((w'.alloc (.cells #[bp G.mb] 107)).alloc (.cells #[.slice (tl1 g o cap) 0 (cap-1)] 426)).alloc (.cells #[.pointer pf] 378)).alloc (.cells #[.pointer (some ⟨w.heap.size,0,none⟩)] 470)).alloc (.cells #[.func (.func 372) #[] #[bp q6,bp q7]] 450)).alloc (.cells cs'.reverse.toArray 116)).heap[w'.heap.size+5]? =some (.cells cs'.reverse.toArray 116 (0,0)):=by
   rw[<-hsz];exact heap_alloc_new _ _
  refine Calls.mono (R:=Post _ S n (applyTo S f al k m).1 (applyTo S f al k m).2) ?_ (fun e w p=>Post.step hnx rfl U p);refine qml G.mb 372 #[bp q6,bp q7] (tl1 g o cap) pf (some ⟨w.heap.size,0,none⟩) (cap-1) cs' w' _ eg372 Post.ends (fun v w2 p=>⟨p.cell (Gh.add_at _ _ _),p.cell (by rw[qae _ (by omega)];exact Gh.add_at _ _ _)⟩) hch' hone (by omega) (by omega) ?_;intro w2 hw2;have i7':=Inv.lk hw2 i7;have hw2g:w2.heap[w'.heap.size+5]? =some (.cells cs'.reverse.toArray 116 (0,0)):=by rw[hw2.heap];exact hnew
  rw[show cs'.length=vs.length+1 from hcl'];refine app11 q6 q7 G.mb (w'.heap.size+5) 0 vs.length (vs.length+1) tf ku yf cu w2 _ Post.ends (by rw[i7'.cell (L.mbox h6),L.mb];rfl) (by rw[i7'.cell (L.I h7)];rfl) (by simp[World.cell?,hw2g,hxr]) (Nat.le_refl _) (by omega) ?_;intro w3 hw3;have i8:=Inv.lk hw3 i7';have hap:=qbr (n:=n) _ m w3 f al k (.iface tf yf) (tl1 (w'.heap.size+5) 0 (vs.length+1)) vs.length (vs.length+1-1) ku cu i8 hxf ?_ (hk.mono L)
  ·rw[L.mb]at hap;exact hap
  ·cases al with
   |nil=>
    left;have h0:vs.length=0:=by rw[<-hal];rfl
    exact⟨rfl,tl1 (w'.heap.size+5) 0 (vs.length+1),vs.length+1-1,by rw[h0]⟩
   |cons a2 al2=>
    right;have hgl:w'.heap.size+5=(((((w'.alloc (.cells #[bp G.mb] 107)).alloc (.cells #[.slice (tl1 g o cap) 0 (cap-1)] 426)).alloc (.cells #[.pointer pf] 378)).alloc (.cells #[.pointer (some ⟨w.heap.size,0,none⟩)] 470)).alloc (.cells #[.func (.func 372) #[] #[bp q6,bp q7]] 450)).heap.size:=hsz.symm;have hv0:vs.length+1≠1:=by rw[<-hal];simp
    refine⟨w'.heap.size+5,1,vs.length,cs'.reverse.toArray,by rw[hal,tl1,if_neg hv0];simp,by simp,by omega,by omega,by rw[hw3.heap];exact hw2g,?_,?_,?_,?_⟩
    ·intro hmem;have:=i6.ml hmem;omega
    ·rw[hgl];exact i6.fresh (Nat.le_refl _)
    ·intro hF;have:=(i6.ff hF).2;omega
    ·intro j u hu;have hj:j+1<(Value.iface tf yf::xr).length:=by
      rw[<-hvr.1];simp;have:=(List.getElem?_eq_some_iff.1 hu).1;simpa using this
     refine⟨(Value.iface tf yf::xr)[j+1],by rw[hxr];simp[Nat.add_comm 1 j],?_⟩;exact(hvr.2 (j+1) u _ (by simpa using hu) (List.getElem?_eq_getElem hj)).mono x6.le
 |cons sh e1 r y1 xs' hf hl=>
  obtain⟨k1,c1,rfl,eg1⟩:=hf.isF;have hcap2:xs'.length+2<=cap:=by simp at hcap';omega
  have ht:tl1 g o cap=some ⟨g,o+1,none⟩:=by unfold tl1;rw[if_neg (by omega)]
  have hnx:Sc.next S (.ret v (.app vs (e1::r) env::k)) m=(.ev e1 env (.app (vs++[v]) r env::k),m):=rfl;rw[qan hnx rfl]at he;have i6:=i1'.alloc5 (.cells #[bp G.mb] 107) (.cells #[.slice (some ⟨g,o+1,none⟩) (xs'.length+1) (cap-1)] 426) (.cells #[.pointer pf] 378) (.cells #[.pointer (some ⟨w.heap.size,0,none⟩)] 470) (.cells #[.func (.func 372) #[] #[bp q6,bp q7]] 450);have x6:=i1'.x5 (.cells #[bp G.mb] 107) (.cells #[.slice (some ⟨g,o+1,none⟩) (xs'.length+1) (cap-1)] 426) (.cells #[.pointer pf] 378) (.cells #[.pointer (some ⟨w.heap.size,0,none⟩)] 470) (.cells #[.func (.func 372) #[] #[bp q6,bp q7]] 450);have L:=x1.le.trans x6.le;have U:=x1.up.trans x6.up;have hrow2:∀j z,(Value.func (.func k1) #[] c1::xs')[j]? =some z->arr[o+1+j]? =some z:=fun j z hz=>by
   have:=hrow (j+1) z (by simpa using hz);rw[show o+1+j=o+(j+1)from by omega];exact this
  rw[ht];refine qev G.mb g (o+1) xs'.length (cap-1) k1 c1 pf (some ⟨w.heap.size,0,none⟩) 372 #[bp q6,bp q7] w' _ eg1 Post.ends (by rw[i1'.cell (x1.le.I hg)];exact hrow2 0 _ rfl) ?_;intro w2 hw2;refine Calls.mono (ihe _ m w2 sh e1 env (.app (vs++[v]) r env::k) k1 396 c1 _ pf (Inv.lk hw2 i6) (hf.mono L) (hn.mono L) (hs.mono L)
   (.app sh (vs++[v]) r env k _ _ _ _ _ q6 q7 (.slice (some ⟨g,o+1,none⟩) (xs'.length+1) (cap-1)) (.func (.func k1) #[] c1) (.func (.func ku) #[] cu) xs' pf (some ⟨w.heap.size,0,none⟩) ?_ ?_ ?_ ?_ ?_ (L.mbox h6) (L.I h7) (by simp at hb|-;omega) ?_ (hl.mono L) ?_ (hn.mono L) (hs.mono L) (hk.mono L)) he) (fun e w p=>Post.step hnx rfl U p)
  ·show _=some (Obj.cells #[bp G.mb] 107 (0,0));rw[qae _ (by omega),qae _ (by omega),qae _ (by omega),qae _ (by omega)];exact Gh.add_at _ _ _
  ·rw[qae _ (by omega),qae _ (by omega),qae _ (by omega)];exact Gh.add_at _ _ _
  ·rw[qae _ (by omega),qae _ (by omega)];exact Gh.add_at _ _ _
  ·rw[qae _ (by omega)];exact Gh.add_at _ _ _
  ·exact Gh.add_at _ _ _
  ·exact⟨g,o+1,cap-1,arr,rfl,L.I hg,by simp;omega,by omega,hrow2⟩
  ·rw[List.reverse_append];exact hc'.mono x6.le
end
end
section
open Sc
theorem qb8(t:ByteArray)(l:List UInt8):(t==(⟨l.toArray⟩:ByteArray))=decide (t.data.toList=l):=by
 obtain⟨⟨d⟩⟩:=t;show(Array.mk d==l.toArray)=decide (d=l);by_cases h:d=l <;> simp[h]
theorem chk9(e:Bool)(n:Nat)(t:ByteArray)(w:World):(Instr.checkKey e (n+1) 9 (.string t)).run prog w=.ok () w:=by
 simp[Instr.checkKey,run_underlying underlying9]
theorem qjv(e:Bool)(t:ByteArray)(w:World):(Instr.checkKey e 10000 9 (.string t)).run prog w=.ok () w:=chk9 e 9999 t w
def lookB(s:List UInt8):List (List UInt8×Nat)->Option Nat
 | []=>none
 |(t,b)::r=>if s=t then some b else lookB s r
theorem qgl(t:ByteArray):∀(es:List MapEntry) (B:List (List UInt8×Nat)) (i:Nat),es.map (fun e=>(e.key,e.val))=B.map (fun p=>(Value.string ⟨p.1.toArray⟩,Value.pointer (some ⟨p.2,0,none⟩)))->
  ∃r,Instr.findNow .string (.string t) es i=some r/\r.map (·.2)=(lookB t.data.toList B).map fun b=>Value.pointer (some ⟨b,0,none⟩)
 | [],[],i,_=>⟨none,rfl,rfl⟩
 | [],_::_,i,h=>by simp at h
 |_::_,[],i,h=>by simp at h
 |e::es,(s,b)::B,i,h=>by
  simp only[List.map_cons,List.cons.injEq,Prod.mk.injEq]at h;obtain⟨⟨h1,h2⟩,h3⟩:=h;simp only[Instr.findNow,h1,Instr.sameNow,qb8,lookB];by_cases hs:t.data.toList=s
  ·simp[hs,h2]
  ·simp only[hs,decide_false];obtain⟨r,e1,e2⟩:=qgl t es B (i+1) h3;exact⟨r,e1,by simpa[hs]using e2⟩
theorem qa5(mp:Nat)(es:Array MapEntry)(clock:Nat)(w:World)(hw:w.heap[mp]? =some (.map es clock)):(getObj mp).run prog w=.ok (.map es clock) w:=by
 unfold getObj;simp[Sem.run,hw]
theorem qdl(mp:Nat)(es:Array MapEntry)(clock:Nat)(B:List (List UInt8×Nat))(t:ByteArray)(w:World)(hw:w.heap[mp]? =some (.map es clock))(hB:es.toList.map (fun e=>(e.key,e.val))=B.map (fun p=>(Value.string ⟨p.1.toArray⟩,Value.pointer (some ⟨p.2,0,none⟩)))):
  (Instr.lookup 114 (.map (some mp)) (.string t) false).run prog w=.ok (.pointer ((lookB t.data.toList B).map fun b=>⟨b,0,none⟩)) w:=by
 obtain⟨r,e1,e2⟩:=qgl t es.toList B 0 hB;have hg:=qa5 mp es clock w hw;cases r with
 |none=>
  cases hl:lookB t.data.toList B with
  |none=>simp[Instr.lookup,run_underlying underlying114,go_sem,hg,qjv,Instr.findKey,run_underlying underlying9,e1]
  |some b=>rw[hl]at e2;simp at e2
 |some p=>
  cases hl:lookB t.data.toList B with
  |none=>rw[hl]at e2;simp at e2
  |some b=>rw[hl]at e2;obtain⟨i,v⟩:=p;simp at e2;subst e2;simp[Instr.lookup,run_underlying underlying114,go_sem,hg,qjv,Instr.findKey,run_underlying underlying9,e1]
theorem qcb(mp b:Nat)(es:Array MapEntry)(clock:Nat)(B:List (List UInt8×Nat))(t:ByteArray)(w:World)(hw:w.heap[mp]? =some (.map es clock))(hB:es.toList.map (fun e=>(e.key,e.val))=B.map (fun p=>(Value.string ⟨p.1.toArray⟩,Value.pointer (some ⟨p.2,0,none⟩))))(hl:lookB t.data.toList B=none):
  (Instr.mapUpdate 114 (.map (some mp)) (.string t) (.pointer (some ⟨b,0,none⟩))).run prog w=.ok () {w with heap:=w.heap.setIfInBounds mp (.map (es.push ⟨.string t,.pointer (some ⟨b,0,none⟩),clock⟩) (clock+1))}:=by
 obtain⟨r,e1,e2⟩:=qgl t es.toList B 0 hB;rw[hl]at e2;have hr:r=none:=by simpa using e2
 subst hr;have hg:=qa5 mp es clock w hw;simp[Instr.mapUpdate,run_underlying underlying114,go_sem,hg,qjv,Instr.findKey,run_underlying underlying9,e1];unfold setObj;simp[Sem.run,hw]
theorem qep{s:List UInt8}:∀{B:List (List UInt8×Nat)} {b:Nat},lookB s B=some b->(s,b)∈B
 | [],_,h=>by simp[lookB]at h
 |(t,c)::r,b,h=>by
  by_cases hs:s=t
  ·subst hs;simp[lookB]at h;subst h;simp
  ·simp[lookB,hs]at h;exact List.mem_cons_of_mem _ (qep h)
theorem qcr{s:List UInt8}:∀{B:List (List UInt8×Nat)},lookB s B=none->∀b,(s,b)∉B
 | [],_,b,h=>by simp at h
 |(t,c)::r,hn,b,h=>by
  by_cases hs:s=t
  ·subst hs;simp[lookB]at hn
  ·simp[lookB,hs]at hn;rcases List.mem_cons.1 h with h|h
   ·cases h;exact hs rfl
   ·exact qcr hn b h
def Gh.glob(G:Gh)(s:Bs)(b:Nat):Gh:={G with B:=G.B++[(s,b)]}
theorem Gh.le_glob(G:Gh)(s:Bs)(b:Nat):G.le (G.glob s b):=⟨_root_.id,_root_.id,_root_.id,fun h=>List.mem_append_left _ h,rfl,rfl,rfl,rfl,rfl,rfl⟩
theorem Gh.up_glob(G:Gh)(s:Bs)(b:Nat):G.up (G.glob s b):=⟨G.le_glob s b,rfl,rfl⟩
theorem Inv.newGlob{G:Gh}{S:Sub}{m:Mc}{w w':World}{s:Bs}{b:Nat}(i:Inv G S m w)(hs:∀c,(s,c)∉G.B)(hb:w.heap[b]? =some (.cells #[.nilIface] 318 (0,0)))(hbm:b∉G.mut)(hbi:G.I b=Option.none)(hbf:¬G.F b)
  (hk:∀c,c≠G.mp->w'.heap[c]? =w.heap[c]?)(hz:w'.heap.size=w.heap.size)(ho:w'.os=w.os/\w'.tape=w.tape/\w'.output=w.output)
  (hm:∃es clock,w'.heap[G.mp]? =some (.map es clock)/\es.toList.map (fun e=>(e.key,e.val))=(G.B++[(s,b)]).map (fun p=>(Value.string ⟨p.1.toArray⟩,bp p.2))):Inv (G.glob s b) S m w':=by
 have h:=G.le_glob s b;have hmut:∀c,c∈(G.glob s b).mut↔c∈G.mut\/c=b:=fun c=>by
  simp only[Gh.mut,Gh.glob,Gh.rows,List.mem_cons,List.mem_append,List.map_append,List.map_cons,List.map_nil];constructor
  ·rintro(h|h|h|h|(h|h|h)|h)
   ·exact .inl (.inl h)
   ·exact .inl (.inr (.inl h))
   ·exact .inl (.inr (.inr (.inl h)))
   ·exact .inl (.inr (.inr (.inr (.inl h))))
   ·exact .inl (.inr (.inr (.inr (.inr (.inl h)))))
   ·exact .inr h
   ·simp at h
   ·exact .inl (.inr (.inr (.inr (.inr (.inr h)))))
  ·rintro((h|h|h|h|h|h)|h)
   ·exact .inl h
   ·exact .inr (.inl h)
   ·exact .inr (.inr (.inl h))
   ·exact .inr (.inr (.inr (.inl h)))
   ·exact .inr (.inr (.inr (.inr (.inl (.inl h)))))
   ·exact .inr (.inr (.inr (.inr (.inr h))))
   ·exact .inr (.inr (.inr (.inr (.inl (.inr (.inl h))))))
 have hbl:b<w.heap.size:=(Array.getElem?_eq_some_iff.1 hb).1;have hnd:(G.glob s b).mut.Nodup:=by
  have e:(G.glob s b).mut=G.mb::G.sb::G.cb::G.mp::(G.B.map (·.2)++([b]++G.rows)):=by simp[Gh.mut,Gh.glob,Gh.rows]
  have p:((G.B.map (·.2)++([b]++G.rows))).Perm (b::(G.B.map (·.2)++G.rows)):=by
   rw[<-List.append_assoc];exact(List.perm_append_comm (l₁:=G.B.map (·.2)) (l₂:=[b])).append_right G.rows
  rw[e];have q:(G.mb::G.sb::G.cb::G.mp::(G.B.map (·.2)++([b]++G.rows))).Perm (b::G.mut):=by
   refine((((p.cons G.mp).cons G.cb).cons G.sb).cons G.mb).trans ?_;refine((((List.Perm.swap _ _ _).cons _).cons _).cons _).trans ?_;refine(((List.Perm.swap _ _ _).cons _).cons _).trans ?_;refine((List.Perm.swap _ _ _).cons _).trans ?_;exact List.Perm.swap _ _ _
  exact q.nodup_iff.2 (List.nodup_cons.2 ⟨hbm,i.nd⟩)
 have keep:∀{c:Nat} {o:Obj},G.I c=some o->w'.heap[c]? =w.heap[c]?:=fun {c o} hc=>hk c fun e=>by rw[e,i.mi i.m4]at hc;cases hc
 refine⟨fun hc=>by rw[keep hc];exact i.imm hc,hnd,?_,?_,i.st.keep (hk _ (Ne.symm i.mp_sb)),i.ce.keep (hk _ (Ne.symm i.mp_cb)),i.sl,i.cl,?_,hm,?_,?_,?_,?_,i.el,i.jl,i.jn,i.ji,?_,?_,?_,?_⟩
 ·intro c hc;rcases (hmut c).1 hc with hc|rfl
  ·exact i.mi hc
  ·exact hbi
 ·intro c hc;rw[hz];rcases (hmut c).1 hc with hc|rfl
  ·exact i.ml hc
  ·exact hbl
 ·obtain⟨gv,wp,a,c⟩:=i.ma;exact⟨gv,wp,by show w'.heap[G.mb]? =_;rw[hk _ (Ne.symm i.mp_mb)];exact a,c.mono h⟩
 ·intro t c htc;rcases List.mem_append.1 htc with htc|htc
  ·obtain⟨x,h1,h2⟩:=i.gl htc;exact⟨x,by rw[hk c (i.lateB htc).2.2.2];exact h1,h2.mono h⟩
  ·simp at htc;obtain⟨rfl,rfl⟩:=htc;refine⟨.nilIface,by rw[hk c fun e=>hbm (e▸i.m4)];exact hb,?_⟩;rcases hl:lookup t m.glob with _|v
   ·rfl
   ·obtain⟨d,hd⟩:=i.gd hl;exact absurd hd (hs d)
 ·intro t v ht;obtain⟨c,hc⟩:=i.gd ht;exact⟨c,List.mem_append_left _ hc⟩
 ·show((G.B++[(s,b)]).map (·.1)).Nodup;rw[List.map_append,List.nodup_append];refine⟨i.gk,by simp,fun x hx y hy e=>?_⟩;simp at hy;subst hy;subst e;obtain⟨⟨p1,p2⟩,hp,rfl⟩:=List.mem_map.1 hx;exact hs p2 hp
 ·intro j vs e hj;obtain⟨fb,sv,pf,h1,h2,h3,h4⟩:=i.en hj;exact⟨fb,sv,pf,h1,h2,h3.mono h,h4.mono h fun g o n cap hsv=>hk g (i.lateE (by rw[h1,hsv])).2.2.2⟩
 ·show w'.os=G.W.os/\w'.tape=G.W.tape/\w'.output=G.W.output;rw[ho.1,ho.2.1,ho.2.2];exact i.fo
 ·intro c hc;obtain⟨h1,h2⟩:=i.ff hc;rw[hk c (fun e=>i.fm i.m4 (e▸hc)),hz];exact⟨h1,h2⟩
 ·intro c hc;rcases (hmut c).1 hc with hc|rfl
  ·exact i.fm hc
  ·exact hbf
 ·exact i.fi
end
section
open Sc
theorem Inv.mb2{G:Gh}{S:Sub}{m:Mc}{w:World}(i:Inv G S m w):w.cell? ⟨G.mb,2,Option.none⟩=some (.map (some G.mp)):=by obtain⟨gv,wp,h,_⟩:=i.ma;simp[World.cell?,h]
theorem qmj(G:Gh)(S:Sub)(m:Mc)(w:World)(t:ByteArray)(i:Inv G S m w):
  Calls prog 227 #[bp G.mb,.string t] w fun e w'=>∃H b,e=.returned (bp b)/\G.up H/\Inv H S m w'/\(t.data.toList,b)∈H.B/\H.J=G.J/\H.E=G.E/\(∀c,c≠G.mp->c<w.heap.size->w'.heap[c]? =w.heap[c]?)/\w.heap.size<=w'.heap.size:=by
 obtain⟨es,clock,hmp,hB⟩:=i.mp;have c2:=i.mb2;have hl:=qdl G.mp es clock G.B t w hmp hB;cases hb:lookB t.data.toList G.B with
 |some b=>
  rw[hb]at hl;have hl:(Instr.lookup 114 (.map (some G.mp)) (.string t) false).run prog w=.ok (.pointer (some ⟨b,0,none⟩)) w:=hl;have HI:=hZ i;have HB:=hZ (qep hb);clear i hmp hB hb;go_enter func227,ntmps227
  go_wp2;go_ret;exact⟨G,b,rfl,Gh.up.refl G,HI.out,HB.out,rfl,rfl,fun _ _ _=>rfl,Nat.le_refl _⟩
 |none=>
  rw[hb]at hl;have hl:(Instr.lookup 114 (.map (some G.mp)) (.string t) false).run prog w=.ok (.pointer none) w:=hl;have hmpl:G.mp<w.heap.size:=(Array.getElem?_eq_some_iff.1 hmp).1;have hu:=qcb G.mp w.heap.size es clock G.B t (w.alloc (.cells #[.nilIface] 318)) (by rw[Below.heap_alloc _ _ _ hmpl];exact hmp) hB hb;have k2:(w.alloc (.cells #[.nilIface] 318)).cell? ⟨G.mb,2,none⟩=some (.map (some G.mp)):=(qad (qac c2) _).trans c2;have HI:=hZ i;have HB:=hZ hB;have HN:=hZ (qcr hb);have HM:=hZ hmp;clear i hB hb hmp;go_enter func227,ntmps227
  go_wp2;go_ret;have i1:=HI.out.below ((Below.refl _ _).alloc (Nat.le_refl _) (.cells #[.nilIface] 318));refine⟨G.glob t.data.toList w.heap.size,w.heap.size,rfl,G.up_glob _ _,i1.newGlob HN.out (heap_alloc_new _ _) (fun h=>by have:=HI.out.ml h;omega) (HI.out.fresh (Nat.le_refl _)) (fun h=>by have:=(HI.out.ff h).2;omega) ?_ (by simp) ⟨rfl,rfl,rfl⟩ ⟨es.push ⟨.string t,bp w.heap.size,clock⟩,clock+1,?_,?_⟩,?_,rfl,rfl,?_,by simp⟩
  ·intro c hc;simp[Ne.symm hc]
  ·simp[Array.getElem?_setIfInBounds];omega
  ·simp[HB.out]
  ·exact List.mem_append_right _ (by simp)
  ·intro c hc hcl;simp[Ne.symm hc,Below.heap_alloc _ _ _ hcl]
theorem Inv.gfz{G:Gh}{S:Sub}{m:Mc}{w:World}(i:Inv G S m w){s:Bs}{b:Nat}(h:(s,b)∈G.B):w.frozen? ⟨b,0,Option.none⟩=false:=by obtain⟨x,h1,_⟩:=i.gl h;simp[World.frozen?,h1]
theorem Inv.gcell{G:Gh}{S:Sub}{m:Mc}{w:World}(i:Inv G S m w){s:Bs}{b:Nat}(h:(s,b)∈G.B):∃x,w.cell? ⟨b,0,Option.none⟩=some x/\(x=.nilIface\/∃t y,x=.iface t y):=by
 obtain⟨x,h1,h2⟩:=i.gl h;refine⟨x,by simp[World.cell?,h1],?_⟩;rcases hl:lookup s m.glob with _|v
 ·rw[hl]at h2;exact .inl h2
 ·rw[hl]at h2;exact .inr (VRep.form h2)
theorem qmv(G:Gh)(S:Sub)(m:Mc)(w:World)(t:ByteArray)(v:Vl)(x:Value)(i:Inv G S m w)(hv:VRep G v x):
  Calls prog 139 #[bp G.mb,.string t,x] w fun e w'=>∃H,e=.returned (.tuple #[])/\G.up H/\Inv H S {m with glob:=put t.data.toList v m.glob} w'/\H.J=G.J/\H.E=G.E/\w.heap.size<=w'.heap.size:=by
 obtain⟨ty,y,rfl⟩:=hv.form;have HG:=hZ (qmj G S m w t i);have HV:=hZ hv;clear i hv;go_enter func139,ntmps139
 go_wp2_with (go_at_call 227;refine HG.out.mono ?_;rintro e w2 ⟨H,b,rfl,hH⟩;refine Hid.out ?_)
 obtain⟨hu,hi,hm,hJ,hE,hk,hz⟩:=hH;obtain⟨z,hz1,hz2⟩:=hi.gcell hm;have hz3:=hi.gfz hm;have HH:=hZ (And.intro hu (And.intro hi (And.intro hm (And.intro hJ (And.intro hE hz)))));clear hu hi hm hJ hE hk hz;rcases hz2 with rfl|⟨t',y',rfl⟩;all_goals
  refine hZ ?_;go_wp2;go_end0;obtain⟨hu,hi,hm,hJ,hE,hz⟩:=HH.out;exact⟨H,rfl,hu,hi.setGlob hm (HV.out.mono hu.le),hJ,hE,by rw[qaf];exact hz⟩
theorem qmw(G:Gh)(S:Sub)(m:Mc)(w:World)(t:ByteArray)(v:Vl)(x:Value)(q1 q2:Nat)(pf:Option Addr)(i:Inv G S m w)(hv:VRep G v x)(h1:G.mbox q1)(h2:G.I q2=some (.cells #[.string t] 9 (0,0))):
  Calls prog 322 #[.pointer pf,x,bp q1,bp q2] w fun e w'=>∃H,e=.returned (.tuple #[])/\G.up H/\Inv H S {m with glob:=put t.data.toList v m.glob} w'/\H.J=G.J/\H.E=G.E/\w.heap.size<=w'.heap.size:=by
 obtain⟨ty,y,rfl⟩:=hv.form;have HD:=hZ (qmv G S m w t v (.iface ty y) i hv);have c1:w.cell? ⟨q1,0,none⟩=some (.pointer (some ⟨G.mb,0,none⟩)):=by rw[i.cell h1];rfl
 have c2:w.cell? ⟨q2,0,none⟩=some (.string t):=by rw[i.cell h2];rfl
 clear i hv h1 h2;go_enter func322,ntmps322
 go_wp2_with (go_at_call 139;refine HD.out.mono ?_;rintro e w2 ⟨H,rfl,hH⟩)
 go_end0;exact⟨H,rfl,hH⟩
end
section
open Sc
section
variable {S:Sub} {n:Nat} {G:Gh} {m:Mc} {w:World} {v:Vl} {x:Value} {k:List Fr}
theorem ret_set(ihv:SimV S n)(i:Inv G S m w)(hv:VRep G v x){sh:List Nat}{t:Tg}{env:Option Nat}{q1 q2 q3:Nat}{xs u:Value}{pf:Option Addr}
  (h1:G.I q1=some (.cells #[xs] 413 (0,0)))(h2:G.I q2=some (.cells #[.pointer pf] 378 (0,0)))(h3:G.I q3=some (.cells #[u] 295 (0,0)))
  (ht:TRep G sh t xs)(hn:NRep G env pf)(hs:Sh G sh pf)(hk:FRep G k u)(he:Ct.ended (go S (n+1) (.ret v (.set t env::k)) m).1=true):
  Calls prog 356 (#[x]++#[bp q1,bp q2,bp q3]) w (Post G S (n+1) (.ret v (.set t env::k)) m):=by
 obtain⟨ku,cu,rfl,egu⟩:=hk.isF;obtain⟨ks,cs,rfl,egs⟩:=ht.isF;refine set11 q1 q2 q3 ks cs x pf ku cu w _ egu egs Post.ends (by rw[i.cell h1];rfl) (by rw[i.cell h2];rfl) ?_;cases ht with
 |loc u j N q hu hj hb hq=>
  obtain⟨jx,fb,sv,vs,e',k1,k2,k3,k4,k5,k6,k7⟩:=i.find u hn hs hu;rcases k6 with⟨rfl,_⟩|⟨g,o,cap,arr,rfl,hne,hg,hx⟩
  ·simp at k7;omega
  obtain⟨N',rfl⟩:∃N',N=N'+1:=⟨N-1,by omega⟩;obtain⟨y,hy1,hy2⟩:=hx j (vs[j]'(by omega)) (List.getElem?_eq_getElem (by omega));have hnx:Sc.next S (.ret v (.set (.loc u j) env::k)) m=(.ret .none k,{m with envs:=m.envs.modify jx fun(l,u)=>(l.set j v,u)}):=by
   simp only[Sc.next,setLocal,k1]
  rw[qan hnx rfl]at he;rw[k7]at k3;have hsl:=qnu q u j fb g o (N'+1) cap x y pf w hv.form (by rw[i.cell hq];rfl) (by rw[i.cell hq];rfl) k4 (by rw[k5,k7]) hj hb.1 hb.2 (by simp[World.cell?,hg,hy1]) hy2.form (by simp[World.frozen?,hg]);refine Calls.mono hsl ?_;rintro e w' ⟨rfl,w1,hw1,rfl⟩;left;have i2:=(i.below hw1).setEnv (a:=j) k3 k2 k7 hj hv;exact⟨rfl,by rw[i2.cell h3];rfl,Calls.mono (ihv G _ _ .none k _ ku cu i2 .none hk he) fun e w p=>Post.step hnx rfl (Gh.up.refl G) p⟩
 |glo s q b hq hb=>
  obtain⟨z,hz1,hz2⟩:=i.gl hb;have hc:w.cell? ⟨b,0,none⟩=some z:=by simp[World.cell?,hz1]
  rcases hl:lookup s m.glob with _|v0
  ·rw[hl]at hz2;obtain rfl:z=.nilIface:=hz2;have hnx:Sc.next S (.ret v (.set (.glo s) env::k)) m=(.stop 5,m):=by simp[Sc.next,hl]
   refine Calls.mono (qe7 q b x pf w (by rw[i.cell hq];rfl) hc) ?_;rintro e w' ⟨rfl,o,rfl⟩;exact .inr ⟨⟨_,rfl⟩,Post.step hnx rfl (Gh.up.refl G) (Post.now (.stop 5 _ _ (i.cntB (Nat.le_refl _) ((Below.refl _ _).alloc (Nat.le_refl _) _))))⟩
  ·rw[hl]at hz2;obtain⟨t0,y0,rfl⟩:=VRep.form hz2;have hnx:Sc.next S (.ret v (.set (.glo s) env::k)) m=(.ret .none k,{m with glob:=put s v m.glob}):=by simp[Sc.next,hl]
   rw[qan hnx rfl]at he;refine Calls.mono (qf5 q b t0 y0 x pf w (by rw[i.cell hq];rfl) hc (i.gfz hb) hv.form) ?_;rintro e w' ⟨rfl,rfl⟩;left;have i2:=i.setGlob hb hv;exact⟨rfl,by rw[i2.cell h3];rfl,Calls.mono (ihv G _ _ .none k _ ku cu i2 .none hk he) fun e w p=>Post.step hnx rfl (Gh.up.refl G) p⟩
 |def' s q3' q4 t h4 h5 hts=>
  subst hts;have hnx:Sc.next S (.ret v (.set (.def' t.data.toList) env::k)) m=(.ret .none k,{m with glob:=put t.data.toList v m.glob}):=rfl;rw[qan hnx rfl]at he;refine Calls.mono (qmw G S m w t v x q3' q4 pf i hv h4 h5) ?_;rintro e w' ⟨H,rfl,hu,hi,_,_,_⟩;left;exact⟨rfl,by rw[hi.cell (hu.le.I h3)];rfl,Calls.mono (ihv H _ _ .none k _ ku cu hi .none (hk.mono hu.le) he) fun e w p=>Post.step hnx rfl hu p⟩
theorem sim_lam(ihv:SimV S n){w1:World}{sh:List Nat}{env:Option Nat}{ku:Nat}{cu:Array Value}{pf:Option Addr}(i:Inv G S {m with steps:=m.steps+1} w1)(hn:NRep G env pf)(hs:Sh G sh pf)(hk:FRep G k (.func (.func ku) #[] cu))(hst:(m.steps:Int)<S.fuel){N:Nat}{r:Bool}{l:List Ex}{q1 q2 q3:Nat}{xb xl:Value}
  (h1:G.mbox q1)(h2:G.I q2=some (.cells #[xl] 241 (0,0)))(h3:G.I q3=some (.cells #[xb] 440 (0,0)))(hl:SRep G (N::sh) l xl)(hb:BRep G N r xb)(he:Ct.ended (go S (n+1) (.ev (.lam N r l) env k) m).1=true):
  Calls prog 382 (#[.pointer pf,.func (.func ku) #[] cu]++#[bp q1,bp q2,bp q3]) w1 (Post G S (n+1) (.ev (.lam N r l) env k) m):=by
 have c1:w1.cell? ⟨q1,0,none⟩=some (.pointer (some ⟨G.mb,0,none⟩)):=by rw[i.cell h1];rfl
 by_cases hce:(m.cells:Int)<S.quota
 ·have hnx:Sc.next S (.ev (.lam N r l) env k) m=(.ret (.lam m.ids N r l env) k,{m with steps:=m.steps+1,cells:=m.cells+1,ids:=m.ids+1}):=by
   simp[Sc.next,Sc.step,hst,Sc.cell,hce]
  rw[qan hnx rfl]at he;obtain⟨kk,ck,hku,egu⟩:=hk.isF;cases hku;have ic:=i.cells (m.cells+1) (by push_cast;omega);have ic:Inv G S {m with steps:=m.steps+1,cells:=m.cells+1} (w1.setCell ⟨G.cb,0,none⟩ (.int .i64 ((m.cells:Int)+1))):=by simpa using ic
  refine qmb q1 q2 q3 G.mb G.cb ku m.cells S.quota pf cu w1 _ egu Post.ends c1 i.mb1 i.ce (by omega) (by omega) (by have:=i.cl.2;omega) ?_;intro w' hw;have ia:=ic.alloc (.cells #[.pointer pf] 378);have xa:=ic.x1 (.cells #[.pointer pf] 378);have io:=ia.newObj (.cells #[.func (.func 383) #[] #[bp q2,bp q3,bp w1.heap.size]] 300);have xo:=ia.ext_newObj (.cells #[.func (.func 383) #[] #[bp q2,bp q3,bp w1.heap.size]] 300);have ao:=ia.at_newObj (.cells #[.func (.func 383) #[] #[bp q2,bp q3,bp w1.heap.size]] 300);have hz:((w1.setCell ⟨G.cb,0,none⟩ (.int .i64 ((m.cells:Int)+1))).alloc (.cells #[.pointer pf] 378)).heap.size=w1.heap.size+1:=by simp
  have hz0:(w1.setCell ⟨G.cb,0,none⟩ (.int .i64 ((m.cells:Int)+1))).heap.size=w1.heap.size:=qaf;rw[hz]at io xo ao;rw[hz0]at io xo ao xa;have L:=xa.le.trans xo.le;refine Calls.mono (ihv _ _ w' (.lam m.ids N r l env) k _ ku cu (Inv.lk hw io) (.proc _ _ (.lam sh m.ids N r l env (w1.heap.size+1) q2 q3 w1.heap.size xl xb pf ao (Gh.add_at _ _ _) (L.I h2) (L.I h3) (xo.le.I (Gh.add_at _ _ _)) (hl.mono L) (hb.mono L) (hn.mono L) (hs.mono L))) (hk.mono L) he) (fun e w p=>Post.step hnx rfl (xa.up.trans xo.up) p)
 ·have hnx:Sc.next S (.ev (.lam N r l) env k) m=(.stop 11,{m with steps:=m.steps+1}):=by
   simp[Sc.next,Sc.step,hst,Sc.cell,hce]
  have hm:(m.cells:Int)=S.quota:=by have:(m.cells:Int)<=S.quota:=i.cl.1;omega
  have hM:Mt G.cb m.cells S.quota 11 w1:=i.ce;rw[<-hm]at hM;refine Calls.mono (qji q1 q2 q3 G.mb G.cb ku m.cells pf cu w1 c1 i.mb1 hM (by omega) (by have:=i.cl.2;omega)) ?_;rintro e w' ⟨rfl,hb⟩;have i1:=i.cells m.cells (by omega);exact Post.step hnx rfl (Gh.up.refl G) (Post.now (.stop 11 _ _ (i1.cntB (by rw[qaf];exact Nat.le_refl _) hb)))
end
end
section
open Sc
theorem Inv.loose{G:Gh}{S:Sub}{m:Mc}{w:World}(i:Inv G S m w){b o:Nat}{v:Value}(hI:G.I b=Option.none)(hm:b∉G.mut)(hf:¬G.F b):Inv G S m (w.setCell ⟨b,o,Option.none⟩ v):=by
 have k:∀c,c≠b->(w.setCell ⟨b,o,Option.none⟩ v).heap[c]? =w.heap[c]?:=fun c hc=>qaa (a:=⟨b,o,Option.none⟩) c hc
 have km:∀{c:Nat},c∈G.mut->(w.setCell ⟨b,o,Option.none⟩ v).heap[c]? =w.heap[c]?:=fun {c} hc=>k c fun e=>hm (e▸hc)
 refine⟨fun {c x} hc=>by rw[k c fun e=>by rw[e,hI]at hc;cases hc];exact i.imm hc,i.nd,i.mi,fun h=>by rw[qaf];exact i.ml h,i.st.keep (km i.m2),i.ce.keep (km i.m3),i.sl,i.cl,by rw[km i.m1];exact i.ma,by rw[km i.m4];exact i.mp,fun {s c} h=>by rw[km (i.m5 h)];exact i.gl h,i.gd,i.gk,?_,i.el,i.jl,i.jn,i.ji,i.fo,fun {c} hc=>by rw[k c fun e=>hf (e▸hc),qaf];exact i.ff hc,i.fm,i.fi⟩;intro j vs e hj;obtain⟨fb,sv,pf,h1,h2,h3,h4⟩:=i.en hj;exact⟨fb,sv,pf,h1,h2,h3,h4.mono (Gh.le.refl _) fun g o n cap hsv=>km (i.m6 (by rw[h1,hsv]))⟩
theorem qdk:∀(l:List Dt) (m:Mc) (d:Dt),ofDts m (l++[d])=((ofDts m l).1++[(ofDt (ofDts m l).2 d).1],(ofDt (ofDts m l).2 d).2)
 | [],m,d=>by simp[ofDts]
 |a::r,m,d=>by
  simp only[List.cons_append,ofDts,qdk r,List.cons_append]
theorem VsRep.snoc{G:Gh}{vs:List Vl}{xs:List Value}{v:Vl}{x:Value}(h:VsRep G vs xs)(hv:VRep G v x):VsRep G (vs++[v]) (xs++[x]):=by
 refine⟨by simp[h.1],fun i u y hu hy=>?_⟩;rcases Nat.lt_or_ge i vs.length with hi|hi
 ·rw[List.getElem?_append_left hi]at hu;rw[List.getElem?_append_left (by rw[<-h.1];exact hi)]at hy;exact h.2 i u y hu hy
 ·rw[List.getElem?_append_right hi]at hu;rw[List.getElem?_append_right (by rw[<-h.1];exact hi),<-h.1]at hy;rcases hz:i-vs.length with _|z
  ·rw[hz]at hu hy;simp at hu hy;subst hu;subst hy;exact hv
  ·rw[hz]at hu;simp at hu
theorem DsRep.at{G:Gh}:∀{l:List Dt} {es:List Dl},DsRep G l es->l.length=es.length/\∀(i:Nat) (d:Dt) (e:Dl),l[i]? =some d->es[i]? =some e->DRep G d e
 |_,_,.nil=>⟨rfl,fun i d e h=>by simp at h⟩
 |_,_,.cons d r e es h hs=>by
  obtain⟨h1,h2⟩:=DsRep.at hs;refine⟨by simp[h1],fun i d' e' hd he=>?_⟩;cases i with
  |zero=>simp at hd he;subst hd;subst he;exact h
  |succ i=>exact h2 i d' e' (by simpa using hd) (by simpa using he)
def OfSaid(N:Nat):Prop:=∀(G:Gh) (S:Sub) (m:Mc) (w:World) (d:Dt) (e:Dl),SizeOf.sizeOf d<N->Inv G S m w->DRep G d e->
 Calls prog 60 #[.agg e.cells] w fun e' w'=>∃H x,e'=.returned x/\G.ext H w.heap.size/\Inv H S (ofDt m d).2 w'/\VRep H (ofDt m d).1 x/\Below w.heap.size w w'
theorem of_atom(G:Gh)(S:Sub)(m:Mc)(w:World)(d:Dt)(e:Dl)(i:Inv G S m w)(h:DRep G d e)(hk:e.k≠4):
  Calls prog 60 #[.agg e.cells] w fun e' w'=>∃H x,e'=.returned x/\G.ext H w.heap.size/\Inv H S (ofDt m d).2 w'/\VRep H (ofDt m d).1 x/\Below w.heap.size w w':=by
 obtain⟨xk,xn,xtr,xtx,xm,xa,xlen,xcap⟩:=e;have HI:=hZ i;clear i;cases h with
 |num e h h0 h1=>
  obtain rfl:xk=0:=h;go_enter func60,ntmps60
  go_wp2;go_ret;exact⟨G,_,rfl,Gh.ext.refl _ _,HI.out.below ((Below.refl _ _).alloc (Nat.le_refl _) _),.num _ h0 h1,(Below.refl _ _).alloc (Nat.le_refl _) _⟩
 |bool e h=>
  obtain rfl:xk=1:=h;go_enter func60,ntmps60
  go_wp2;go_ret;exact⟨G,_,rfl,Gh.ext.refl _ _,HI.out.below ((Below.refl _ _).alloc (Nat.le_refl _) _),.bool _,(Below.refl _ _).alloc (Nat.le_refl _) _⟩
 |str e h hz=>
  obtain rfl:xk=2:=h;go_enter func60,ntmps60
  go_wp2;go_ret;exact⟨G,_,rfl,Gh.ext.refl _ _,HI.out.below ((Below.refl _ _).alloc (Nat.le_refl _) _),.str _ hz,(Below.refl _ _).alloc (Nat.le_refl _) _⟩
 |sym e h hz=>
  obtain rfl:xk=3:=h;go_enter func60,ntmps60
  go_wp2;go_ret;exact⟨G,_,rfl,Gh.ext.refl _ _,HI.out.below ((Below.refl _ _).alloc (Nat.le_refl _) _),.sym _ hz,(Below.refl _ _).alloc (Nat.le_refl _) _⟩
 |nil e h=>exact absurd h hk
 |list e h=>exact absurd h hk
end
section
open Sc
theorem qj8{l:List Dt}{d:Dt}(h:d∈l):SizeOf.sizeOf d<SizeOf.sizeOf (Dt.list l):=by
 have:=List.sizeOf_lt_of_mem h;simp;omega
theorem qol(N:Nat)(ih:OfSaid N)(G:Gh)(S:Sub)(m:Mc)(w:World)(l:List Dt)(xk xn:Int)(xtr:Bool)(xtx:ByteArray)(xm:Int)(xa:Option Addr)(xlen xcap:Nat)(i:Inv G S m w)(hk:xk=4)(hz:SizeOf.sizeOf (Dt.list l)<=N)
  (es:List Dl)(hl:l.length=es.length)(hd:∀(i:Nat) (d:Dt) (e:Dl),l[i]? =some d->es[i]? =some e->DRep G d e)(hlen:xlen=es.length)
  (hrow:∀(i j:Nat) (x:Dl),es[i]? =some x->j<6->∃g o,xa=some ⟨g,o,none⟩/\g<w.heap.size/\w.cell? ⟨g,o+i*6+j,none⟩=x.cells[j]?)(h100:xlen<=1000000):
  Calls prog 60 #[.agg (Dl.cells ⟨xk,xn,xtr,xtx,xm,xa,xlen,xcap⟩)] w fun e' w'=>∃H x,e'=.returned x/\G.ext H w.heap.size/\Inv H S (ofDt m (.list l)).2 w'/\VRep H (ofDt m (.list l)).1 x/\Below w.heap.size w w':=by
 subst hk;have HI:=hZ i;have HD:=hZ hd;have HL:=hZ hl;have HLen:=hZ hlen;have HRow:=hZ hrow;have HIh:=hZ ih;have HZ:=hZ hz;have hmk:∀w:World,(Instr.makeSlice 184 (.int .i64 (xlen:Int)) (.int .i64 (xlen:Int))).run prog w=.ok (.slice (some ⟨w.heap.size,0,none⟩) xlen xlen) (w.alloc (.cells (madeCells #[.nilIface] xlen) 116)):=
  fun w=>run_make_row' 184 116 .nilIface 16 underlying184 qet rfl .i64 .i64 xlen (by omega) (by omega) w
 clear i hd hl hlen hrow ih hz;go_enter func60,ntmps60
 go_wp2;go_loopw [35] (fun c wr=>∃(k:Nat) (H:Gh) (xs:List Value) (cs:Array Value),k<=xlen/\c=.int .i64 (k:Int)/\G.ext H w.heap.size/\Inv H S (ofDts m (l.take k)).2 wr/\VsRep H (ofDts m (l.take k)).1 xs/\
   wr.heap[w.heap.size+1]? =some (.cells cs 116 (0,0))/\cs.size=xlen/\xs.length=k/\(∀j,j<k->cs[j]? =xs[j]?)/\H.I (w.heap.size+1)=none/\Below w.heap.size w wr) (fun c _=>xlen-(intOf c).toNat)
 case atStart=>
  have i1:=(HI.out.below ((Below.refl _ _).alloc (Nat.le_refl _) (.cells #[.int .i64 4,.int .i64 xn,.bool xtr,.string xtx,.int .i64 xm,.slice xa xlen xcap] 134)));have i2:=i1.below ((Below.refl _ _).alloc (Nat.le_refl _) (.cells (madeCells #[.nilIface] xlen) 116));refine⟨0,G,[],madeCells #[.nilIface] xlen,Nat.zero_le _,rfl,Gh.ext.refl _ _,by simpa[ofDts]using i2,by simp[ofDts];exact⟨rfl,fun j v x h=>by simp at h⟩,?_,size_madeCells _ _,rfl,fun j h=>by omega,HI.out.fresh (by omega),((Below.refl _ _).alloc (Nat.le_refl _) _).alloc (by simp) _⟩;have:=heap_alloc_new (w:=w.alloc (.cells #[.int .i64 4,.int .i64 xn,.bool xtr,.string xtx,.int .i64 xm,.slice xa xlen xcap] 134)) (o:=.cells (madeCells #[.nilIface] xlen) 116);simpa using this
 case round=>
  obtain⟨k,H,xs,cs,hk,rfl,hx,hi,hv,hcs,hsz,hxl,hcx,hfr,hbl⟩:=hrel;have HX:=hZ hx;have HI':=hZ hi;have HV:=hZ hv;have HCs:=hZ hcs;have HSz:=hZ hsz;have HXl:=hZ hxl;have HCx:=hZ hcx;have HFr:=hZ hfr;have HB:=hZ hbl;clear hx hi hv hcs hsz hxl hcx hfr hbl;have hGr:w.heap.size+1<wr.heap.size:=(Array.getElem?_eq_some_iff.1 HCs.out).1;by_cases hlt:k<xlen
  ·have hke:k<es.length:=by rw[<-HLen.out];exact hlt
   have hkl:k<l.length:=by rw[HL.out];exact hke
   obtain⟨⟨yk,yn,ytr,ytx,ym,ya,ylen,ycap⟩,hy⟩:∃y,y=es[k]:=⟨_,rfl⟩;have hey:es[k]? =some ⟨yk,yn,ytr,ytx,ym,ya,ylen,ycap⟩:=by rw[hy];exact List.getElem?_eq_getElem hke
   obtain⟨g,o,rfl,hgw,c00⟩:=HRow.out k 0 _ hey (by omega);have cell:∀j,j<6->wr.cell? ⟨g,o+k*6+j,none⟩=(Dl.cells ⟨yk,yn,ytr,ytx,ym,ya,ylen,ycap⟩)[j]?:=fun j hj=>by
    obtain⟨g',o',e1,e2,e3⟩:=HRow.out k j _ hey hj;cases e1;exact(HB.out.cell (p:=⟨g,o+k*6+j,none⟩) hgw).trans e3
   have c0:wr.cell? ⟨g,o+k*6,none⟩=some (.int .i64 yk):=cell 0 (by omega);have c1:wr.cell? ⟨g,o+k*6+1,none⟩=some (.int .i64 yn):=cell 1 (by omega);have c2:wr.cell? ⟨g,o+k*6+2,none⟩=some (.bool ytr):=cell 2 (by omega);have c3:wr.cell? ⟨g,o+k*6+3,none⟩=some (.string ytx):=cell 3 (by omega);have c4:wr.cell? ⟨g,o+k*6+4,none⟩=some (.int .i64 ym):=cell 4 (by omega);have c5:wr.cell? ⟨g,o+k*6+5,none⟩=some (.slice ya ylen ycap):=cell 5 (by omega);have hdr:=HD.out k l[k] _ (List.getElem?_eq_getElem hkl) hey;have HRep:Hid (∀w',Below wr.heap.size wr w'->Calls prog 60 #[.agg (Dl.cells ⟨yk,yn,ytr,ytx,ym,ya,ylen,ycap⟩)] w' fun e' w''=>∃H' x,e'=.returned x/\H.ext H' wr.heap.size/\Inv H' S (ofDt (ofDts m (l.take k)).2 l[k]).2 w''/\VRep H' (ofDt (ofDts m (l.take k)).2 l[k]).1 x/\Below wr.heap.size wr w''):=fun w' hb=>by
    refine Calls.mono (HIh.out H S _ w' l[k] _ (Nat.lt_of_lt_of_le (qj8 (List.getElem_mem hkl)) HZ.out) (HI'.out.below hb) (hdr.mono HX.out.le)) ?_;rintro e' w'' ⟨H',x,r1,r2,r3,r4,r5⟩;exact⟨H',x,r1,⟨r2.le,r2.E,r2.B,fun hb'=>r2.I (Nat.lt_of_lt_of_le hb' hb.size),r2.W,r2.F⟩,r3,r4,hb.trans (r5.mono hb.size)⟩
   clear cell hy hdr c00;have hkl':(k:Int)<(xlen:Int):=by omega
   go_wp2_with (go_at_call 60;refine(HRep.out _ ((Below.refl _ _).alloc (Nat.le_refl _) _)).mono ?_;rintro e w2 ⟨H',v,rfl,hH'⟩;refine Hid.out ?_)
   obtain⟨r2,r3,r4,r5⟩:=hH';have hG2:w2.heap[w.heap.size+1]? =some (.cells cs 116 (0,0)):=by rw[r5.block _ hGr];exact HCs.out
   have hkc:k<cs.size:=by rw[HSz.out];exact hlt
   have cG:w2.cell? ⟨w.heap.size+1,k,none⟩=some cs[k]:=by simp[World.cell?,hG2,hkc]
   have fG:w2.frozen? ⟨w.heap.size+1,k,none⟩=false:=by simp[World.frozen?,hG2]
   obtain⟨tp,pp,rfl⟩:=r4.form;have HR:=hZ (And.intro r2 (And.intro r3 (And.intro r4 (And.intro r5 hG2))));clear r2 r3 r4 r5 hG2;refine hZ ?_;go_wp2;go_roundw
   case rel=>
    obtain⟨r2,r3,r4,r5,hG2⟩:=HR.out;have ht:l.take (k+1)=l.take k++[l[k]]:=by rw[List.take_add_one,List.getElem?_eq_getElem hkl];rfl
    have hIb:H'.I (w.heap.size+1)=none:=by rw[r2.I hGr];exact HFr.out
    have hmb:w.heap.size+1∉H'.mut:=by
     rw[r2.mut,HX.out.mut];intro hmem;have:=HI.out.ml hmem;omega
    have hfb:¬H'.F (w.heap.size+1):=by
     rw[r2.F,HX.out.F];intro hf;have:=(HI.out.ff hf).2;omega
    refine⟨k+1,H',xs++[.iface tp pp],cs.setIfInBounds k (.iface tp pp),by omega,by go_num,HX.out.trans r2 HB.out.size,?_,?_,?_,by simpa using HSz.out,by simp[HXl.out],?_,hIb,?_⟩
    ·rw[ht,qdk];exact r3.loose hIb hmb hfb
    ·rw[ht,qdk];exact(HV.out.mono r2.le).snoc r4
    ·simp[World.setCell,Array.getElem?_modify,hG2]
    ·intro j hj;by_cases hjk:j=k
     ·subst hjk;rw[List.getElem?_append_right (by rw[HXl.out];exact Nat.le_refl _),HXl.out];simp[hkc]
     ·rw[Array.getElem?_setIfInBounds_ne (by omega),List.getElem?_append_left (by rw[HXl.out];omega)];exact HCx.out j (by omega)
    ·have hb2:Below w.heap.size w w2:=HB.out.trans (r5.mono HB.out.size);exact⟨hb2.os,hb2.tape,hb2.output,by rw[qaf];exact hb2.size,fun c hc=>by rw[qaa (a:=⟨w.heap.size+1,k,none⟩) c (by show c≠w.heap.size+1;omega)];exact hb2.block c hc⟩
   case measure=>simp[intOf];omega
  ·have hke:k=xlen:=by omega
   have HK:=hZ hke;clear hke;have htk:l.take k=l:=by rw[HK.out,HLen.out,<-HL.out];simp
   have hv':=HV.out;have hi':=HI'.out;rw[htk]at hv' hi';have hxl':xs.length=xlen:=by rw[HXl.out,HK.out]
   have hL:=qc9 H S (ofDts m l).2 wr (some ⟨w.heap.size+1,0,none⟩) xlen (ofDts m l).1 xs .nil (.iface 186 (.agg #[])) hi' hv' .nil (.inr ⟨w.heap.size+1,0,rfl,fun j hj=>by
     have:=HCx.out j (by rw[HXl.out]at hj;exact hj);simp only[World.cell?,HCs.out,Nat.zero_add];rw[List.getElem?_eq_getElem hj]at this;simpa using this⟩) (by omega)
   rw[hxl']at hL;have HL2:=hZ hL;clear hL hxl' hv' hi' htk;go_wp2_with (go_at_call 91;refine HL2.out.mono ?_;rintro e w2 ⟨H',x,rfl,hH'⟩)
   go_ret;obtain⟨r2,r3,r4,r5⟩:=hH';exact⟨H',x,rfl,HX.out.trans r2 HB.out.size,r3,r4,HB.out.trans (r5.mono HB.out.size)⟩
theorem qiz:∀N,OfSaid N
 |0=>fun G S m w d e h=>by omega
 |N+1=>fun G S m w d e hz i h=>by
  by_cases hk:e.k=4
  ·obtain⟨xk,xn,xtr,xtx,xm,xa,xlen,xcap⟩:=e;cases h with
   |num e h=>simp only at h hk;omega
   |bool e h=>simp only at h hk;omega
   |str e h _=>simp only at h hk;omega
   |sym e h _=>simp only at h hk;omega
   |nil e h hl=>
    obtain rfl:xlen=0:=hl;exact qol N (qiz N) G S m w [] xk xn xtr xtx xm xa 0 xcap i hk (by omega) [] rfl (fun i d e h=>by simp at h) rfl (fun i j x h=>by simp at h) (by omega)
   |list e h l es g o arr hl hc hm ha hg hr hs=>
    obtain rfl:xa=some ⟨g,o,none⟩:=ha;obtain⟨hs1,hs2⟩:=hs.at;exact qol N (qiz N) G S m w l xk xn xtr xtx xm _ xlen xcap i hk (by omega) es hs1 hs2 hl (fun i' j x hx hj=>⟨g,o,rfl,(Array.getElem?_eq_some_iff.1 (i.imm hg)).1,by rw[i.cell hg];exact hr i' j x hx hj⟩) (by have h1:xlen<=xcap:=hc;have h2:xlen<=30000:=hm;omega)
  ·exact of_atom G S m w d e i h hk
theorem of_inv(G:Gh)(S:Sub)(m:Mc)(w:World)(d:Dt)(e:Dl)(i:Inv G S m w)(h:DRep G d e):
  Calls prog 60 #[.agg e.cells] w fun e' w'=>∃H x,e'=.returned x/\G.ext H w.heap.size/\Inv H S (ofDt m d).2 w'/\VRep H (ofDt m d).1 x/\Below w.heap.size w w':=qiz _ G S m w d e (Nat.lt_succ_self _) i h
end
section
open Sc
theorem cellsN_ok{S:Sub}:∀(n:Nat) {m:Mc},(m.cells:Int)+n<=S.quota->cellsN S n m=(.ok (),{m with cells:=m.cells+n})
 |0,m,_=>rfl
 |n+1,m,h=>by
  have h0:(m.cells:Int)<S.quota:=by push_cast at h;omega
  simp only[cellsN,Sc.cell,if_pos h0];rw[cellsN_ok n (by push_cast at h|-;omega)];simp only[Nat.add_assoc,Nat.add_comm 1 n]
theorem qb7{S:Sub}:∀(n:Nat) {m:Mc},(m.cells:Int)<=S.quota->S.quota<(m.cells:Int)+n->cellsN S n m=(.error 11,{m with cells:=S.quota.toNat})
 |0,m,h,h'=>by push_cast at h';omega
 |n+1,m,h,h'=>by
  by_cases h0:(m.cells:Int)<S.quota
  ·simp only[cellsN,Sc.cell,if_pos h0];rw[qb7 n (by push_cast;omega) (by push_cast at h'|-;omega)]
  ·simp only[cellsN,Sc.cell,if_neg h0];have:S.quota.toNat=m.cells:=by omega
   rw[this]
theorem qpx(q1 q2 q3 mb cb k N:Nat)(e:Dl)(t mo:Int)(pf:Option Addr)(cp:Array Value)(w:World)(Q:Ending->World->Prop)
  (eg:∀args w,(callFunc k args).run prog w=.ok (.enter k args) w)
  (hQ:∀e w,Q e w->(∃v,e=.returned v)\/(∃ps,e=.panicked ps))
  (h1:w.cell? ⟨q1,0,none⟩=some (.pointer (some ⟨mb,0,none⟩)))(h2:w.cell? ⟨q2,0,none⟩=some (.int .i64 (N:Int)))(h3:w.cell? ⟨mb,1,none⟩=some (.pointer (some ⟨cb,0,none⟩)))
  (hd:∀j,w.cell? ⟨q3,j,none⟩=e.cells[j]?)(hne:q3≠cb)(hM:Mt cb t mo 11 w)(h0:0<=t)(ht:t+N<=mo)(hm:mo<=1000000)
  (hO:∀w',Lk (w.setCell ⟨cb,0,none⟩ (.int .i64 (t+N))) w'->Calls prog 60 #[.agg e.cells] w' fun e' w2=>∃ty y,e'=.returned (.iface ty y)/\∀w3,Lk w2 w3->Calls prog k (#[.iface ty y]++cp) w3 Q):
  Calls prog 340 #[.pointer pf,.func (.func k) #[] cp,.pointer (some ⟨q1,0,none⟩),.pointer (some ⟨q2,0,none⟩),.pointer (some ⟨q3,0,none⟩)] w Q:=by
 obtain⟨xk,xn,xtr,xtx,xm,xa,xlen,xcap⟩:=e;have HO:=hZ hO;have HQ:=hZ hQ;have HT:Hid (∀w',Lk w w'->Calls prog 200 #[.pointer (some ⟨cb,0,none⟩),.int .i64 (N:Int)] w' fun e w2=>e=.returned (.tuple #[])/\∃k,w2=(w'.setCell ⟨cb,0,none⟩ (.int .i64 (t+N))).drewN k):=fun w' hl=>
  qba cb t mo 11 N w' (by unfold Mt at*;rw[hl.heap];exact hM) h0 ht (by omega) hm
 have kd:∀(j:Nat) (v:Value),(w.setCell ⟨cb,0,none⟩ v).cell? ⟨q3,j,none⟩=(Dl.cells ⟨xk,xn,xtr,xtx,xm,xa,xlen,xcap⟩)[j]?:=fun j v=>(qag hne).trans (hd j)
 have d0:∀v,(w.setCell ⟨cb,0,none⟩ v).cell? ⟨q3,0,none⟩=some (.int .i64 xk):=fun v=>kd 0 v
 have d1:∀v,(w.setCell ⟨cb,0,none⟩ v).cell? ⟨q3,1,none⟩=some (.int .i64 xn):=fun v=>kd 1 v
 have d2:∀v,(w.setCell ⟨cb,0,none⟩ v).cell? ⟨q3,2,none⟩=some (.bool xtr):=fun v=>kd 2 v
 have d3:∀v,(w.setCell ⟨cb,0,none⟩ v).cell? ⟨q3,3,none⟩=some (.string xtx):=fun v=>kd 3 v
 have d4:∀v,(w.setCell ⟨cb,0,none⟩ v).cell? ⟨q3,4,none⟩=some (.int .i64 xm):=fun v=>kd 4 v
 have d5:∀v,(w.setCell ⟨cb,0,none⟩ v).cell? ⟨q3,5,none⟩=some (.slice xa xlen xcap):=fun v=>kd 5 v
 clear hO hQ hM kd hd;go_enter func340,ntmps340
 go_wp2;refine qai 5 (by kernel_rfl) (by kernel_rfl) ?_;simp only[List.take_succ_cons,List.take_zero,List.drop_succ_cons,List.drop_zero];repeat still_step
 refine wpStill_nil ?_;go_wp2_with (go_at_call 200;refine(HT.out _ (by exact⟨rfl,rfl,rfl,rfl⟩)).mono ?_;rintro e w2 ⟨rfl,kd,rfl⟩)
 go_wp2_with (go_at_call 60;refine(HO.out _ (by exact⟨rfl,rfl,rfl,rfl⟩)).mono ?_;rintro e w2 ⟨ty,y,rfl,hk⟩;have HK:=hZ hk;clear hk)
 go_wp2_with (go_at_fn k;refine(HK.out _ (by exact⟨rfl,rfl,rfl,rfl⟩)).mono ?_;intro e w3 hq)
 all_goals first|exact hq|exact⟨rfl,hq⟩|(rcases HQ.out _ _ hq with⟨v,h⟩|⟨ps,h⟩ <;> cases h)
theorem qmz(q1 q2 q3 mb cb k N:Nat)(t mo:Int)(pf:Option Addr)(cp:Array Value)(w:World)
  (h1:w.cell? ⟨q1,0,none⟩=some (.pointer (some ⟨mb,0,none⟩)))(h2:w.cell? ⟨q2,0,none⟩=some (.int .i64 (N:Int)))(h3:w.cell? ⟨mb,1,none⟩=some (.pointer (some ⟨cb,0,none⟩)))
  (hM:Mt cb t mo 11 w)(h0:0<=t)(ht:mo<t+N)(htm:t<=mo)(hm:mo<=1000000):
  Calls prog 340 #[.pointer pf,.func (.func k) #[] cp,.pointer (some ⟨q1,0,none⟩),.pointer (some ⟨q2,0,none⟩),.pointer (some ⟨q3,0,none⟩)] w fun e w'=>e=.panicked (stopP (stopV 11))/\Below w.heap.size (w.setCell ⟨cb,0,none⟩ (.int .i64 mo)) w':=by
 have HT:Hid (∀w',Lk w w'->Calls prog 200 #[.pointer (some ⟨cb,0,none⟩),.int .i64 (N:Int)] w' fun e w2=>e=.panicked (stopP (stopV 11))/\Below w'.heap.size (w'.setCell ⟨cb,0,none⟩ (.int .i64 mo)) w2):=fun w' hl=>
  qa1 cb t mo 11 N w' (by unfold Mt at*;rw[hl.heap];exact hM) h0 ht (by omega) htm hm
 clear hM;go_enter func340,ntmps340
 go_wp2;refine qai 5 (by kernel_rfl) (by kernel_rfl) ?_;simp only[List.take_succ_cons,List.take_zero,List.drop_succ_cons,List.drop_zero];repeat still_step
 refine wpStill_nil ?_;go_wp2_with (go_at_call 200;refine(HT.out _ (by exact⟨rfl,rfl,rfl,rfl⟩)).mono ?_;rintro e w2 ⟨rfl,hb⟩)
 exact⟨rfl,rfl,hb.os,hb.tape,hb.output,hb.size,hb.block⟩
section
variable {S:Sub} {n:Nat} {G:Gh} {m:Mc} {k:List Fr}
theorem sim_quo(ihv:SimV S n){w1:World}{env:Option Nat}{ku:Nat}{cu:Array Value}{pf:Option Addr}(i:Inv G S {m with steps:=m.steps+1} w1)(hk:FRep G k (.func (.func ku) #[] cu))(hst:(m.steps:Int)<S.fuel){d:Dt}{q1 q2 q3:Nat}{el:Dl}
  (h1:G.mbox q1)(h2:G.I q2=some (.cells #[.int .i64 (members d:Int)] 3 (0,0)))(h3:G.I q3=some (.cells el.cells 134 (0,0)))(hd:DRep G d el)(he:Ct.ended (go S (n+1) (.ev (.quo d) env k) m).1=true):
  Calls prog 340 (#[.pointer pf,.func (.func ku) #[] cu]++#[bp q1,bp q2,bp q3]) w1 (Post G S (n+1) (.ev (.quo d) env k) m):=by
 have c1:w1.cell? ⟨q1,0,none⟩=some (.pointer (some ⟨G.mb,0,none⟩)):=by rw[i.cell h1];rfl
 have c2:w1.cell? ⟨q2,0,none⟩=some (.int .i64 (members d:Int)):=by rw[i.cell h2];rfl
 have hcl:(m.cells:Int)<=S.quota:=i.cl.1;by_cases hce:(m.cells:Int)+members d<=S.quota
 ·have hnx:Sc.next S (.ev (.quo d) env k) m=(.ret (ofDt {m with steps:=m.steps+1,cells:=m.cells+members d} d).1 k,(ofDt {m with steps:=m.steps+1,cells:=m.cells+members d} d).2):=by
   simp only[Sc.next,Sc.step,if_pos hst];rw[cellsN_ok (m:={m with steps:=m.steps+1}) _ hce]
  rw[qan hnx rfl]at he;obtain⟨kk,ck,hku,egu⟩:=hk.isF;cases hku;have ic:=i.cells (m.cells+members d) (by push_cast;exact hce);have ic:Inv G S {m with steps:=m.steps+1,cells:=m.cells+members d} (w1.setCell ⟨G.cb,0,none⟩ (.int .i64 ((m.cells:Int)+(members d:Int)))):=by simpa using ic
  refine qpx q1 q2 q3 G.mb G.cb ku (members d) el m.cells S.quota pf cu w1 _ egu Post.ends c1 c2 i.mb1 (fun j=>i.cell h3 j) (i.ne h3 i.m3) i.ce (by omega) hce (by have:=i.cl.2;omega) ?_;intro w' hw;refine Calls.mono (of_inv G S _ w' d el (Inv.lk hw ic) hd) ?_;rintro e' w2 ⟨H,x,rfl,hH,hi,hx,_⟩;obtain⟨ty,y,rfl⟩:=hx.form;refine⟨ty,y,rfl,fun w3 hw3=>?_⟩;exact Calls.mono (ihv H _ w3 _ k _ ku cu (Inv.lk hw3 hi) hx (hk.mono hH.le) he) fun e w p=>Post.step hnx rfl hH.up p
 ·have hnx:Sc.next S (.ev (.quo d) env k) m=(.stop 11,{m with steps:=m.steps+1,cells:=S.quota.toNat}):=by
   simp only[Sc.next,Sc.step,if_pos hst];rw[qb7 (m:={m with steps:=m.steps+1}) _ hcl (by show S.quota<(m.cells:Int)+(members d:Int);omega)]
  refine Calls.mono (qmz q1 q2 q3 G.mb G.cb ku (members d) m.cells S.quota pf cu w1 c1 c2 i.mb1 i.ce (by omega) (by omega) hcl (by have:=i.cl.2;omega)) ?_;rintro e w' ⟨rfl,hb⟩;have hq:((S.quota.toNat:Nat):Int)=S.quota:=Int.toNat_of_nonneg (by have:(0:Int)<=(m.cells:Int):=Int.natCast_nonneg _;omega);have i1:=i.cells S.quota.toNat (by omega);rw[hq]at i1;exact Post.step hnx rfl (Gh.up.refl G) (Post.now (.stop 11 _ _ (i1.cntB (by rw[qaf];exact Nat.le_refl _) hb)))
end
end
section
open Sc
theorem sim_ev{S:Sub}{n:Nat}(ihe:SimE S n)(ihv:SimV S n):SimE S (n+1):=by
 intro G m w sh e env k kx ku cx cu pf i hc hn hs hk he;have hns:e≠.skip:=by
  intro h;subst h;cases hc with
  |step sh e pm pc y h1 h2 h=>cases h
 refine qq9 G m w sh e env k kx ku cx cu pf i hc (fun hst=>?_) ?_
 ·cases e <;> first|exact absurd rfl hns|simp[Sc.next,Sc.step,hst]
 ·intro ky cy w1 i1 hi hst;cases hi with
  |quo _ d q1 q2 q3 el h1 h2 h3 hd=>exact sim_quo ihv i1 hk hst h1 h2 h3 hd he
  |loc sh u j N q hu hj hb hq=>exact sim_loc ihv i1 hn hs hk hst hu hj hq hb.1 hb.2 he
  |glo sh s q b hq hb=>exact sim_glo ihv i1 hk hst hq hb he
  |ite sh c t e q1 q2 q3 xc xe xt h1 h2 h3 hcc ht hel=>exact sim_ite ihe i1 hn hs hk hst h1 h2 h3 hcc ht hel he
  |setL sh u j a q1 q2 xa xs h1 h2 ha ht=>exact qim ihe i1 hn hs hk (by simp[Sc.next,Sc.step,hst]) h1 h2 ha ht he
  |setG sh s a q1 q2 xa xs h1 h2 ha ht=>exact qim ihe i1 hn hs hk (by simp[Sc.next,Sc.step,hst]) h1 h2 ha ht he
  |defG sh s a q1 q2 xa xs h1 h2 ha ht=>exact qim ihe i1 hn hs hk (by simp[Sc.next,Sc.step,hst]) h1 h2 ha ht he
  |lam sh N r l q1 q2 q3 xb xl h1 h2 h3 hl hb=>exact sim_lam ihv i1 hn hs hk hst h1 h2 h3 hl hb he
  |app sh f l q1 q2 sl xs h1 h2 hb hr hx=>exact sim_app ihe i1 hn hs hk hst h1 h2 hb hr hx he
  |seq sh a l y h=>exact sim_seq ihe i1 hn hs hk hst h he
end
section
open Sc
theorem LRow.vals{G:Gh}{w:World}{sa:Option Addr}{sn sc:Nat}{vs:List Vl}(h:LRow G w.heap (.slice sa sn sc) vs):
  ∃xs,VsRep G vs xs/\xs.length=sn/\sn=vs.length/\(xs=[]\/∃g o,sa=some ⟨g,o,none⟩/\∀(j:Nat) (h:j<xs.length),w.cell? ⟨g,o+j,none⟩=some xs[j])/\(∀g o,sa=some ⟨g,o,none⟩->xs≠[]->g∉G.mut)/\xs.length<=1000000:=by
 rcases h with⟨rfl,a,cap,h⟩|⟨g,o,cap,arr,h,hne,hc,hm,hg,hgm,_,_,hx⟩
 ·cases h;exact⟨[],⟨rfl,fun i v x h=>by simp at h⟩,rfl,rfl,.inl rfl,fun _ _ _ h=>absurd rfl h,by simp⟩
 ·cases h;have hl:∀i,i<vs.length->((arr.toList.drop o).take vs.length)[i]? =arr[o+i]?:=fun i hi=>by
   rw[List.getElem?_take,if_pos hi,List.getElem?_drop];simp
  have hlen:((arr.toList.drop o).take vs.length).length=vs.length:=by
   apply Nat.le_antisymm
   ·simp;omega
   ·rcases Nat.lt_or_ge ((arr.toList.drop o).take vs.length).length vs.length with hlt|hge
    ·obtain⟨x,h1,_⟩:=hx _ _ (List.getElem?_eq_getElem hlt);have:=hl _ hlt;rw[h1]at this;rw[List.getElem?_eq_none (Nat.le_refl _)]at this;cases this
    ·exact hge
  refine⟨(arr.toList.drop o).take vs.length,⟨hlen.symm,fun i v x hv hx'=>?_⟩,hlen,rfl,.inr ⟨g,o,rfl,fun j hj=>?_⟩,fun g' o' e _=>by cases e;exact hgm,by omega⟩
  ·obtain⟨y,h1,h2⟩:=hx i v hv;rw[hl i (List.getElem?_eq_some_iff.1 hv).1,h1]at hx';cases hx';exact h2
  ·have:=hl j (by omega);simp only[World.cell?,hg];rw[<-List.getElem?_eq_getElem hj,this];simp
end
section
theorem qao(a:Option Addr)(n cap:Nat)(w:World)(_hn:n<=1000000):Calls prog 258 #[.slice a n cap,.int .i64 (n:Int)] w fun e w'=>e=.returned (.tuple #[])/\w'=w:=by
 have hee:((n:Int)==(n:Int))=true:=by simp
 go_enter func258,ntmps258
 go_wp2_with (go_at_call 273;refine(qbi _ _).mono ?_;rintro e w2 ⟨rfl,hww⟩;obtain rfl:=hww.symm)
 go_end0;exact⟨rfl,rfl⟩
theorem qa4(a:Option Addr)(n N cap:Nat)(w:World)(_hn:n<=1000000)(hne:n≠N):Calls prog 258 #[.slice a n cap,.int .i64 (N:Int)] w fun e w'=>e=.panicked (stopP (stopV 7))/\∃o,w'=w.alloc o:=by
 have hee:((n:Int)==(N:Int))=false:=by simp;omega
 go_enter func258,ntmps258
 go_wp2_with (go_at_call 273;refine(qbh _ _).mono ?_;rintro e w2 ⟨rfl,o,rfl⟩)
 exact⟨rfl,rfl,o,rfl⟩
theorem qd5(a:Int)(w:World):Calls prog 259 #[.iface 180 (.int .i64 a)] w fun e w'=>e=.returned (.int .i64 a)/\w'=w:=by
 have ha:∀w,(Instr.typeAssert (.iface 180 (.int .i64 a)) 116 180 true).run prog w=.ok (.tuple #[.int .i64 a,.bool true]) w:=fun w=>is180 _ w
 go_enter func259,ntmps259
 go_wp2;go_ret;exact⟨rfl,rfl⟩
theorem qe3(t:Nat)(y:Value)(w:World)(ht:t≠180):Calls prog 259 #[.iface t y] w fun e w'=>e=.panicked (stopP (stopV 6))/\∃o,w'=w.alloc o:=by
 have ha:∀w,(Instr.typeAssert (.iface t y) 116 180 true).run prog w=.ok (.tuple #[.int .i64 0,.bool false]) w:=fun w=>qbx _ _ ht w
 go_enter func259,ntmps259
 go_wp2_with (go_at_call 131;refine(qc6 _ _).mono ?_;rintro e w2 ⟨rfl,o,rfl⟩)
 exact⟨rfl,rfl,o,rfl⟩
theorem qng(g o cap q kw ku:Nat)(a b:Int)(cw cu:Array Value)(w:World)(Q:Ending->World->Prop)
  (ew:∀args w,(callFunc kw args).run prog w=.ok (.enter kw args) w)(eg:∀args w,(callFunc ku args).run prog w=.ok (.enter ku args) w)
  (hQ:∀e w,Q e w->(∃v,e=.returned v)\/(∃ps,e=.panicked ps))
  (h0:w.cell? ⟨g,o,none⟩=some (.iface 180 (.int .i64 a)))(h1:w.cell? ⟨g,o+1,none⟩=some (.iface 180 (.int .i64 b)))(hq:w.cell? ⟨q,0,none⟩=some (.func (.func kw) #[] cw))
  (hW:∀w',Lk w w'->Calls prog kw (#[.int .i64 a,.int .i64 b]++cw) w' fun e w1=>(∃t y,e=.returned (.iface t y)/\∀w2,Lk w1 w2->Calls prog ku (#[.iface t y]++cu) w2 Q)\/((∃ps,e=.panicked ps)/\Q e w1)):
  Calls prog 257 #[.slice (some ⟨g,o,none⟩) 2 cap,.func (.func ku) #[] cu,.pointer (some ⟨q,0,none⟩)] w Q:=by
 have HW:=hZ hW;have HQ:=hZ hQ;have HM:=hZ (qao (some ⟨g,o,none⟩) 2 cap w (by omega));clear hW hQ;go_enter func257,ntmps257
 go_wp2_with (go_at_call 258;refine HM.out.mono ?_;rintro e w2 ⟨rfl,hww⟩;obtain rfl:=hww.symm)
 go_wp2_with (go_at_call 259;refine(qd5 _ _).mono ?_;rintro e w2 ⟨rfl,hww⟩;obtain rfl:=hww.symm)
 go_wp2_with (go_at_call 259;refine(qd5 _ _).mono ?_;rintro e w2 ⟨rfl,hww⟩;obtain rfl:=hww.symm)
 go_wp2_with (go_at_fn kw;refine(HW.out _ (by exact⟨rfl,rfl,rfl,rfl⟩)).mono ?_;rintro e w1 (⟨t,y,rfl,hk⟩|⟨⟨ps,rfl⟩,hq⟩))
 ·have HK:=hZ hk;clear hk;go_wp2_with (go_at_fn ku;refine(HK.out _ (by exact⟨rfl,rfl,rfl,rfl⟩)).mono ?_;intro e w3 hq)
  all_goals first|exact hq|exact⟨rfl,hq⟩|(rcases HQ.out _ _ hq with⟨v,h⟩|⟨ps,h⟩ <;> cases h)
 ·exact⟨rfl,hq⟩
theorem qle(a:Option Addr)(n cap q:Nat)(ku:Nat)(cu:Array Value)(w:World)(hn:n<=1000000)(hne:n≠2):
  Calls prog 257 #[.slice a n cap,.func (.func ku) #[] cu,.pointer (some ⟨q,0,none⟩)] w fun e w'=>e=.panicked (stopP (stopV 7))/\∃o,w'=w.alloc o:=by
 have HM:=hZ (qa4 a n 2 cap w hn hne);go_enter func257,ntmps257
 go_wp2_with (go_at_call 258;refine HM.out.mono ?_;rintro e w2 ⟨rfl,o,rfl⟩)
 exact⟨rfl,rfl,o,rfl⟩
theorem qld(g o cap q t0 t1:Nat)(y0 y1:Value)(ku:Nat)(cu:Array Value)(w:World)
  (h0:w.cell? ⟨g,o,none⟩=some (.iface t0 y0))(h1:w.cell? ⟨g,o+1,none⟩=some (.iface t1 y1))(ht:t0≠180\/((∃a,t0=180/\y0=.int .i64 a)/\t1≠180)):
  Calls prog 257 #[.slice (some ⟨g,o,none⟩) 2 cap,.func (.func ku) #[] cu,.pointer (some ⟨q,0,none⟩)] w fun e w'=>e=.panicked (stopP (stopV 6))/\∃o,w'=w.alloc o:=by
 have HM:=hZ (qao (some ⟨g,o,none⟩) 2 cap w (by omega));rcases ht with ht|⟨⟨a,rfl,rfl⟩,ht⟩
 ·have HA:=hZ (fun w=>qe3 t0 y0 w ht);clear ht;go_enter func257,ntmps257
  go_wp2_with (go_at_call 258;refine HM.out.mono ?_;rintro e w2 ⟨rfl,hww⟩;obtain rfl:=hww.symm)
  go_wp2_with (go_at_call 259;refine(HA.out _).mono ?_;rintro e w2 ⟨rfl,o,rfl⟩)
  exact⟨rfl,rfl,o,rfl⟩
 ·have HA:=hZ (fun w=>qe3 t1 y1 w ht);clear ht;go_enter func257,ntmps257
  go_wp2_with (go_at_call 258;refine HM.out.mono ?_;rintro e w2 ⟨rfl,hww⟩;obtain rfl:=hww.symm;refine Hid.out ?_)
  refine hZ ?_;go_wp2_with (go_at_call 259;refine(qd5 _ _).mono ?_;rintro e w2 ⟨rfl,hww⟩;obtain rfl:=hww.symm;refine Hid.out ?_)
  refine hZ ?_;go_wp2_with (go_at_call 259;refine(HA.out _).mono ?_;rintro e w2 ⟨rfl,o,rfl⟩)
  exact⟨rfl,rfl,o,rfl⟩
end
end Go.Proofs.YtldaocpojcfljaaGreatDoor
