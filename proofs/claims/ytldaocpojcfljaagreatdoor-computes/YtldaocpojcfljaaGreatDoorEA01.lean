import Derived.Test.YtldaocpojcfljaaGreatDoorD22
set_option maxRecDepth 100000
set_option maxHeartbeats 4000000
namespace Go.Proofs.YtldaocpojcfljaaGreatDoor
open Tryz hiding parts
section
namespace Sc
open Go
abbrev Row':=List (Bool×Int)
def opT(b:Bool):Bs:=if b then [45]else [43]
def opP(b:Bool):Pm:=if b then .sub else .add
def exR:Row'->Ex
 | []=>.quo (.num 0)
 |(b,v)::r=>.app (.glo (opT b)) [exR r,.quo (.num v)]
def dtR:Row'->Dt
 | []=>.num 0
 |(b,v)::r=>.list [.sym (opT b) 0,dtR r,.num v]
def txR:Row'->Bs
 | []=>[48]
 |(b,v)::r=>Px.paren [opT b,txR r,Lib.itoa v]
def addR(b:Bool)(n v:Int):Int:=if b then n-v else n+v
def vaR:Row'->Option Int
 | []=>some 0
 |(b,v)::r=>(vaR r).bind (fun n=>if fits (addR b n v)then some (addR b n v)else none)
theorem op_reads(d:Nat)(b:Bool):Py.Reads d (opT b) (.sym (opT b) 0)/\Px.Starts (opT b):=by
 cases b <;> exact Py.sym_reads d _ (by decide) (by decide) (by decide) (by decide)
theorem zero_itoa:Lib.itoa 0=[48]:=by kernel_rfl
theorem tx_reads:∀(l:Row') (d:Nat),(∀p,p∈l->-9223372036854775808<=p.2/\p.2<=9223372036854775807)->d+l.length<=30->Py.Reads d (txR l) (dtR l)/\Px.Starts (txR l)
 | [],d,_,_=>by
  have h:=Py.num_reads d 0 (by decide) (by decide);rw[zero_itoa]at h;exact h
 |(b,v)::r,d,hv,hd=>by
  simp only[List.length_cons]at hd;have hr:=tx_reads r (d+1) (fun p hp=>hv p (List.mem_cons_of_mem _ hp)) (by omega);have ho:=op_reads (d+1) b;have hb:=hv (b,v) (List.mem_cons_self ..);have hn:=Py.num_reads (d+1) v hb.1 hb.2;exact Py.list_reads d (by omega) _ _ (.cons ho.1 ho.2 (.cons hr.1 hr.2 (.cons hn.1 hn.2 .nil)))
theorem means_glo(s:Bs)(m:Int)(h:Kw.of s=Option.none):Xs.means {} (s,m) []=.var:=by
 simp[Xs.means,find,h,Xs.mcr]
theorem op_kw(b:Bool):Kw.of (opT b)=Option.none:=by cases b <;> decide
theorem form_num(S:Sub)(f:Nat)(x:Xs)(sc:Scope)(v:Int):form S (f+1) x sc (.num v)=(.ok (.quo (.num v)),x):=rfl
theorem form_sum(S:Sub):∀(l:Row') (f:Nat),6*l.length+1<=f->form S f {} [] (dtR l)=(.ok (exR l),{})
 | [],f,hf=>by
  obtain⟨g,rfl⟩:∃g,f=g+1:=⟨f-1,by simp at hf;omega⟩;rfl
 |(b,v)::r,f,hf=>by
  simp only[List.length_cons]at hf;obtain⟨g,rfl⟩:∃g,f=g+1+1+1+1+1+1:=⟨f-6,by omega⟩;have hr:=form_sum S r (g+1+1) (by omega);have hop:form S (g+1+1+1) {} [] (.sym (opT b) 0)=(.ok (.glo (opT b)),{}):=by
   simp only[form,varEx,means_glo _ _ (op_kw b),find]
  show(match Xs.means {} (opT b,0) []with
   | .var=>app S (g+1+1+1+1+1) {} [] [.sym (opT b) 0,dtR r,.num v]
   | .mac mc=>_
   | .kw k=>_)=_
  rw[means_glo _ _ (op_kw b)];simp only[app,forms,hop,hr,form_num,exR]
theorem lookup_op(b:Bool):lookup (opT b) m0.glob=some (.prim (opP b)):=by cases b <;> kernel_rfl
theorem sum_runs(t:Bs)(l:Row'):∀(n:Int) (m:Mc) (K:List Fr),vaR l=some n->m.glob=m0.glob->m.steps+4*l.length+1<=20000->
  ToN (plenty t) (7*l.length+1) (.ev (exR l) Option.none K) m (.ret (.num n) K) {m with steps:=m.steps+4*l.length+1}:=by
 induction l with
 |nil=>
  intro n m K hv hg hs;have hn:(0:Int)=n:=by simpa[vaR]using hv
  subst hn;refine ToN.one ?_;have hf:(m.steps:Int)<(plenty t).fuel:=by show(m.steps:Int)<20000;simp at hs;omega
  simp only[exR,next,step_ok hf,members,cellsN,ofDt];rfl
 |cons p r ih=>
  obtain⟨b,v⟩:=p;intro n m K hv hg hs;simp only[List.length_cons]at hs;rw[vaR]at hv;cases hr:vaR r with
  |none=>rw[hr]at hv;simp at hv
  |some n0=>
   rw[hr]at hv;simp only[Option.bind_some]at hv;split at hv
   ·rename_i hfit;have hn:addR b n0 v=n:=by simpa using hv
    subst hn;have hf:∀k:Nat,k<=4*r.length+4->((m.steps+k:Nat):Int)<(plenty t).fuel:=fun k hk=>by show((m.steps+k:Nat):Int)<20000;omega
    have hlk:lookup (opT b) m.glob=some (.prim (opP b)):=by rw[hg];exact lookup_op b
    have h1:next (plenty t) (.ev (exR ((b,v)::r)) Option.none K) m=(.ev (.glo (opT b)) Option.none (.app [] [exR r,.quo (.num v)] Option.none::K),{m with steps:=m.steps+1}):=by
     simp only[exR,next,step_ok (hf 0 (by omega))]
    have h2:next (plenty t) (.ev (.glo (opT b)) Option.none (.app [] [exR r,.quo (.num v)] Option.none::K)) {m with steps:=m.steps+1}=(.ret (.prim (opP b)) (.app [] [exR r,.quo (.num v)] Option.none::K),{m with steps:=m.steps+2}):=by
     simp only[next,step_ok (m:={m with steps:=m.steps+1}) (hf 1 (by omega)),hlk]
    have h3:next (plenty t) (.ret (.prim (opP b)) (.app [] [exR r,.quo (.num v)] Option.none::K)) {m with steps:=m.steps+2}=(.ev (exR r) Option.none (.app [.prim (opP b)] [.quo (.num v)] Option.none::K),{m with steps:=m.steps+2}):=rfl;have h4:=ih n0 {m with steps:=m.steps+2} (.app [.prim (opP b)] [.quo (.num v)] Option.none::K) hr hg (by show m.steps+2+_+1<=_;omega);have h5:next (plenty t) (.ret (.num n0) (.app [.prim (opP b)] [.quo (.num v)] Option.none::K)) {m with steps:=m.steps+2+4*r.length+1}=(.ev (.quo (.num v)) Option.none (.app [.prim (opP b),.num n0] [] Option.none::K),{m with steps:=m.steps+2+4*r.length+1}):=rfl;have h6:next (plenty t) (.ev (.quo (.num v)) Option.none (.app [.prim (opP b),.num n0] [] Option.none::K)) {m with steps:=m.steps+2+4*r.length+1}=(.ret (.num v) (.app [.prim (opP b),.num n0] [] Option.none::K),{m with steps:=m.steps+2+4*r.length+1+1}):=by
     have:=hf (2+4*r.length+1) (by omega);simp only[next,step_ok (m:={m with steps:=m.steps+2+4*r.length+1}) (by simpa[Nat.add_assoc]using this),members,cellsN,ofDt]
    have h7:next (plenty t) (.ret (.num v) (.app [.prim (opP b),.num n0] [] Option.none::K)) {m with steps:=m.steps+2+4*r.length+1+1}=(.ap (.prim (opP b)) [.num n0,.num v] K,{m with steps:=m.steps+2+4*r.length+1+1+1}):=by
     have:=hf (2+4*r.length+1+1) (by omega);simp only[next,List.cons_append,List.nil_append,applyTo,step_ok (m:={m with steps:=m.steps+2+4*r.length+1+1}) (by simpa[Nat.add_assoc]using this),isProc,if_true]
    have h8:next (plenty t) (.ap (.prim (opP b)) [.num n0,.num v] K) {m with steps:=m.steps+2+4*r.length+1+1+1}=(.ret (.num (addR b n0 v)) K,{m with steps:=m.steps+2+4*r.length+1+1+1}):=by
     cases b <;> simp only[next,carry,opP,addR]at hfit|-<;> simp[Pm.isList,Pm.kinds,Pm.grant,Kd.ok,value,num] <;> simp_all [addR]
    have key:=(ToN.head h1 (ToN.head h2 (ToN.head h3 h4))).trans (ToN.head h5 (ToN.head h6 (ToN.head h7 (ToN.one h8))));have e1:7*r.length+1+1+1+1+(1+1+1+1)=7*(r.length+1)+1:=by omega
    have e2:m.steps+2+4*r.length+1+1+1=m.steps+4*(r.length+1)+1:=by omega
    rw[e1,e2]at key;exact key
   ·cases hv
theorem sum_stops(t:Bs)(l:Row'):∀(m:Mc) (K:List Fr),vaR l=none->m.glob=m0.glob->m.steps+4*l.length+1<=20000->
  ∃j s,j<=7*l.length+1/\ToN (plenty t) j (.ev (exR l) Option.none K) m (.stop 8) {m with steps:=s}:=by
 induction l with
 |nil=>intro m K hv;simp[vaR]at hv
 |cons p r ih=>
  obtain⟨b,v⟩:=p;intro m K hv hg hs;simp only[List.length_cons]at hs;rw[vaR]at hv;have hf:∀k:Nat,k<=4*r.length+4->((m.steps+k:Nat):Int)<(plenty t).fuel:=fun k hk=>by show((m.steps+k:Nat):Int)<20000;omega
  have hlk:lookup (opT b) m.glob=some (.prim (opP b)):=by rw[hg];exact lookup_op b
  have h1:next (plenty t) (.ev (exR ((b,v)::r)) Option.none K) m=(.ev (.glo (opT b)) Option.none (.app [] [exR r,.quo (.num v)] Option.none::K),{m with steps:=m.steps+1}):=by
   simp only[exR,next,step_ok (hf 0 (by omega))]
  have h2:next (plenty t) (.ev (.glo (opT b)) Option.none (.app [] [exR r,.quo (.num v)] Option.none::K)) {m with steps:=m.steps+1}=(.ret (.prim (opP b)) (.app [] [exR r,.quo (.num v)] Option.none::K),{m with steps:=m.steps+2}):=by
   simp only[next,step_ok (m:={m with steps:=m.steps+1}) (hf 1 (by omega)),hlk]
  have h3:next (plenty t) (.ret (.prim (opP b)) (.app [] [exR r,.quo (.num v)] Option.none::K)) {m with steps:=m.steps+2}=(.ev (exR r) Option.none (.app [.prim (opP b)] [.quo (.num v)] Option.none::K),{m with steps:=m.steps+2}):=rfl;cases hr:vaR r with
  |none=>
   obtain⟨j,s,hj,h4⟩:=ih {m with steps:=m.steps+2} (.app [.prim (opP b)] [.quo (.num v)] Option.none::K) hr hg (by show m.steps+2+_+1<=_;omega);exact⟨_,s,by simp only[List.length_cons];omega,ToN.head h1 (ToN.head h2 (ToN.head h3 h4))⟩
  |some n0=>
   rw[hr]at hv;simp only[Option.bind_some]at hv;split at hv
   ·cases hv
   ·rename_i hfit;have h4:=sum_runs t r n0 {m with steps:=m.steps+2} (.app [.prim (opP b)] [.quo (.num v)] Option.none::K) hr hg (by show m.steps+2+_+1<=_;omega);have h5:next (plenty t) (.ret (.num n0) (.app [.prim (opP b)] [.quo (.num v)] Option.none::K)) {m with steps:=m.steps+2+4*r.length+1}=(.ev (.quo (.num v)) Option.none (.app [.prim (opP b),.num n0] [] Option.none::K),{m with steps:=m.steps+2+4*r.length+1}):=rfl;have h6:next (plenty t) (.ev (.quo (.num v)) Option.none (.app [.prim (opP b),.num n0] [] Option.none::K)) {m with steps:=m.steps+2+4*r.length+1}=(.ret (.num v) (.app [.prim (opP b),.num n0] [] Option.none::K),{m with steps:=m.steps+2+4*r.length+1+1}):=by
     have:=hf (2+4*r.length+1) (by omega);simp only[next,step_ok (m:={m with steps:=m.steps+2+4*r.length+1}) (by simpa[Nat.add_assoc]using this),members,cellsN,ofDt]
    have h7:next (plenty t) (.ret (.num v) (.app [.prim (opP b),.num n0] [] Option.none::K)) {m with steps:=m.steps+2+4*r.length+1+1}=(.ap (.prim (opP b)) [.num n0,.num v] K,{m with steps:=m.steps+2+4*r.length+1+1+1}):=by
     have:=hf (2+4*r.length+1+1) (by omega);simp only[next,List.cons_append,List.nil_append,applyTo,step_ok (m:={m with steps:=m.steps+2+4*r.length+1+1}) (by simpa[Nat.add_assoc]using this),isProc,if_true]
    have h8:next (plenty t) (.ap (.prim (opP b)) [.num n0,.num v] K) {m with steps:=m.steps+2+4*r.length+1+1+1}=(.stop 8,{m with steps:=m.steps+2+4*r.length+1+1+1}):=by
     cases b <;> simp only[next,carry,opP,addR]at hfit|-<;> simp[Pm.isList,Pm.kinds,Pm.grant,Kd.ok,value,num] <;> simp_all
    have key:=(ToN.head h1 (ToN.head h2 (ToN.head h3 h4))).trans (ToN.head h5 (ToN.head h6 (ToN.head h7 (ToN.one h8))));exact⟨_,_,by simp only[List.length_cons];omega,key⟩
theorem itoa_len(v:Int)(h0:-9223372036854775808<=v)(h1:v<=9223372036854775807):(Lib.itoa v).length<=21:=Lib.itoa_length_le v h0 h1
theorem tx_len:∀l:Row',(∀p,p∈l->-9223372036854775808<=p.2/\p.2<=9223372036854775807)->(txR l).length<=26*l.length+1
 | [],_=>by simp[txR]
 |(b,v)::r,hv=>by
  have h1:=tx_len r (fun p hp=>hv p (List.mem_cons_of_mem _ hp));have hb:=hv (b,v) (List.mem_cons_self ..);have h2:=itoa_len v hb.1 hb.2;have h3:(opT b).length=1:=by cases b <;> rfl
  simp only[txR,Px.paren,Px.join,List.length_cons,List.length_append,List.length_nil];omega
theorem va_fits:∀(l:Row') (n:Int),vaR l=some n->fits n=true
 | [],n,h=>by
  have:(0:Int)=n:=by simpa[vaR]using h
  subst this;decide
 |(b,v)::r,n,h=>by
  rw[vaR]at h;cases hr:vaR r with
  |none=>rw[hr]at h;simp at h
  |some k=>
   rw[hr]at h;simp only[Option.bind_some]at h;split at h
   ·rename_i hf;cases h;exact hf
   ·cases h
def oneE(r:Ct×Mc):(Option Nat×Nat)×Option Vl×Xs×Mc:=match r with
 |(.done v,m)=>((Option.none,0),some v,{},m)
 |(.stop e,m)=>((some e,0),Option.none,{},m)
 |(_,m)=>((some 0,0),Option.none,{},m)
theorem run_one(t:Bs)(d:Dt)(e:Ex)(ht:t.length<=1200)(hr:Py.Reads 0 t d)(hs:Px.Starts t)(hn:noSyn d=true)(he:top (plenty t) plentyN {} d=(.ok e,{})):
  Does t (oneE (go (plenty t) plentyN (.ev e Option.none []) m0)):=by
 have hF:Py.Forms t [(d,t.length)]:=by
  have h:=Py.Forms.cons hr hs (fun c r h=>by cases h) .nil;simpa using h
 refine⟨_,hF,ht,fun f hf=>?_,?_⟩
 ·simp only[List.mem_singleton]at hf;rw[hf];exact hn
 ·simp only[List.map_cons,List.map_nil,Nat.sub_self,deal,he];rcases hgo:go (plenty t) plentyN (.ev e Option.none []) m0 with⟨c,m⟩;cases c <;> rfl
theorem top_sum(S:Sub)(l:Row')(hl:l.length<=29):top S plentyN {} (dtR l)=(.ok (exR l),{}):=by
 have hN:plentyN=999999999+1:=rfl;have hf:=form_sum S l plentyN (by rw[hN];omega);cases l with
 |nil=>rw[hN]at hf|-;exact hf
 |cons p r=>
  obtain⟨b,v⟩:=p;rw[hN]at hf|-;simp only[dtR]at hf|-;rw[top];simp only[means_glo _ _ (op_kw b)];exact hf
theorem dtR_syn(l:Row'):noSyn (dtR l)=true:=by
 cases l with
 |nil=>rfl
 |cons p r=>obtain⟨b,v⟩:=p;cases b <;> rfl
theorem run_sum(l:Row')(hl:l.length<=28)(hv:∀p,p∈l->-9223372036854775808<=p.2/\p.2<=9223372036854775807)(n:Int)(h:vaR l=some n):
  Does (txR l) ((Option.none,0),some (.num n),{},{m0 with steps:=4*l.length+1}):=by
 have htl:=tx_len l hv;have hr:=tx_reads l 0 hv (by omega);have h0:=run_one (txR l) (dtR l) (exR l) (by omega) hr.1 hr.2 (dtR_syn l) (top_sum _ l (by omega));have h1:=sum_runs (txR l) l n m0 [] h rfl (by show 0+4*l.length+1<=20000;omega);have h2:ToN (plenty (txR l)) 1 (.ret (.num n) []) {m0 with steps:=m0.steps+4*l.length+1} (.done (.num n)) {m0 with steps:=m0.steps+4*l.length+1}:=ToN.one rfl;rw[(h1.trans h2).done (show 7*l.length+1+1<=plentyN from by show _<=1000000000;omega)]at h0;have hs:m0.steps+4*l.length+1=4*l.length+1:=by show 0+_+1=_;omega
 rw[hs]at h0;exact h0
theorem run_over(l:Row')(hl:l.length<=28)(hv:∀p,p∈l->-9223372036854775808<=p.2/\p.2<=9223372036854775807)(h:vaR l=none):
  ∃s,Does (txR l) ((some 8,0),Option.none,{},{m0 with steps:=s}):=by
 have htl:=tx_len l hv;have hr:=tx_reads l 0 hv (by omega);have h0:=run_one (txR l) (dtR l) (exR l) (by omega) hr.1 hr.2 (dtR_syn l) (top_sum _ l (by omega));obtain⟨j,s,hj,h1⟩:=sum_stops (txR l) l m0 [] h rfl (by show 0+4*l.length+1<=20000;omega);rw[h1.stop (show j<=plentyN from by show _<=1000000000;omega)]at h0;exact⟨s,h0⟩
def txL(l:Row'):Bs:=Px.paren [[60],txR l,[55]]
def dtL(l:Row'):Dt:=.list [.sym [60] 0,dtR l,.num 7]
def exL(l:Row'):Ex:=.app (.glo [60]) [exR l,.quo (.num 7)]
theorem form_app(S:Sub)(f:Nat)(x x':Xs)(sc:Scope)(t:Bs)(m:Int)(r:List Dt)(e:Ex)(es:List Ex)(hm:x.means (t,m) sc=.var)(hf:forms S f x sc (.sym t m::r)=(.ok (e::es),x')):form S (f+1+1) x sc (.list (.sym t m::r))=(.ok (.app e es),x'):=by
 simp only[form,hm,app,hf]
theorem top_less(S:Sub)(l:Row')(hl:l.length<=29):top S plentyN {} (dtL l)=(.ok (exL l),{}):=by
 obtain⟨f,hN,hfl⟩:∃f,plentyN=f+1+1+1+1+1+1/\1000<=f:=⟨999999994,rfl,by omega⟩;have hr:=form_sum S l (f+1+1) (by omega);have hk:Kw.of [60]=Option.none:=by decide
 have hop:form S (f+1+1+1) {} [] (.sym [60] 0)=(.ok (.glo [60]),{}):=by
  simp only[form,varEx,means_glo _ _ hk,find]
 rw[hN];simp only[dtL,top,means_glo _ _ hk];refine form_app S (f+1+1+1+1) {} {} [] [60] 0 _ _ _ (means_glo _ _ hk) ?_;simp only[forms,hop,hr,form_num]
theorem run_less(l:Row')(hl:l.length<=28)(hv:∀p,p∈l->-9223372036854775808<=p.2/\p.2<=9223372036854775807)(n:Int)(h:vaR l=some n):
  Gives (txL l) (if n<7 then [35,116]else [35,102]):=by
 have htl:=tx_len l hv;have hr:=tx_reads l 1 hv (by omega);have ho:=Py.sym_reads 1 [60] (by decide) (by decide) (by decide) (by decide);have h7:=Py.num_reads 1 7 (by decide) (by decide);rw[show Lib.itoa 7=[55]from by kernel_rfl]at h7;have hL:=Py.list_reads 0 (by decide) _ _ (.cons ho.1 ho.2 (.cons hr.1 hr.2 (.cons h7.1 h7.2 .nil)));have h0:=run_one (txL l) (dtL l) (exL l) (by simp only[txL,Px.paren,Px.join,List.length_cons,List.length_append,List.length_nil];omega) hL.1 hL.2 rfl (top_less _ l (by omega));have hlk:lookup [60] m0.glob=some (.prim .lss):=by kernel_rfl
 have hf:∀k:Nat,k<=1000->((0+k:Nat):Int)<(plenty (txL l)).fuel:=fun k hk=>by show((0+k:Nat):Int)<20000;omega
 have h1:next (plenty (txL l)) (.ev (exL l) Option.none []) m0=(.ev (.glo [60]) Option.none [.app [] [exR l,.quo (.num 7)] Option.none],{m0 with steps:=1}):=by
  simp only[exL,next,step_ok (m:=m0) (hf 0 (by omega))];rfl
 have h2:next (plenty (txL l)) (.ev (.glo [60]) Option.none [.app [] [exR l,.quo (.num 7)] Option.none]) {m0 with steps:=1}=(.ret (.prim .lss) [.app [] [exR l,.quo (.num 7)] Option.none],{m0 with steps:=2}):=by
  simp only[next,step_ok (m:={m0 with steps:=1}) (hf 1 (by omega)),hlk]
 have h3:next (plenty (txL l)) (.ret (.prim .lss) [.app [] [exR l,.quo (.num 7)] Option.none]) {m0 with steps:=2}=(.ev (exR l) Option.none [.app [.prim .lss] [.quo (.num 7)] Option.none],{m0 with steps:=2}):=rfl;have h4:=sum_runs (txL l) l n {m0 with steps:=2} [.app [.prim .lss] [.quo (.num 7)] Option.none] h rfl (by show 2+4*l.length+1<=20000;omega);have h5:next (plenty (txL l)) (.ret (.num n) [.app [.prim .lss] [.quo (.num 7)] Option.none]) {m0 with steps:=2+4*l.length+1}=(.ev (.quo (.num 7)) Option.none [.app [.prim .lss,.num n] [] Option.none],{m0 with steps:=2+4*l.length+1}):=rfl;have h6:next (plenty (txL l)) (.ev (.quo (.num 7)) Option.none [.app [.prim .lss,.num n] [] Option.none]) {m0 with steps:=2+4*l.length+1}=(.ret (.num 7) [.app [.prim .lss,.num n] [] Option.none],{m0 with steps:=2+4*l.length+1+1}):=by
  have:=hf (2+4*l.length+1) (by omega);simp only[next,step_ok (m:={m0 with steps:=2+4*l.length+1}) (by simpa using this),members,cellsN,ofDt]
 have h7':next (plenty (txL l)) (.ret (.num 7) [.app [.prim .lss,.num n] [] Option.none]) {m0 with steps:=2+4*l.length+1+1}=(.ap (.prim .lss) [.num n,.num 7] [],{m0 with steps:=2+4*l.length+1+1+1}):=by
  have:=hf (2+4*l.length+1+1) (by omega);simp only[next,List.cons_append,List.nil_append,applyTo,step_ok (m:={m0 with steps:=2+4*l.length+1+1}) (by simpa using this),isProc,if_true]
 have h8:next (plenty (txL l)) (.ap (.prim .lss) [.num n,.num 7] []) {m0 with steps:=2+4*l.length+1+1+1}=(.ret (.bool (decide (n<7))) [],{m0 with steps:=2+4*l.length+1+1+1}):=rfl;have h9:next (plenty (txL l)) (.ret (.bool (decide (n<7))) []) {m0 with steps:=2+4*l.length+1+1+1}=(.done (.bool (decide (n<7))),{m0 with steps:=2+4*l.length+1+1+1}):=rfl;have key:=(ToN.head h1 (ToN.head h2 (ToN.head h3 h4))).trans (ToN.head h5 (ToN.head h6 (ToN.head h7' (ToN.head h8 (ToN.one h9)))));rw[key.done (show _<=plentyN from by show _<=1000000000;omega)]at h0;refine⟨by split <;> simp,_,h0,rfl,?_,rfl,rfl⟩;by_cases hn:n<7
 ·simp only[hn,decide_true,if_true];rfl
 ·simp only[hn,decide_false,if_false];rfl
end Sc
end
section
open Go.RowKit Go.Shelf
open Sc
def opB(xs os:List Int)(k:Nat):Bool:=decide (k<os.length)&&decide (Int.tmod (os.getD k 0) 2≠0)&&decide (xs.getD k 0≠-9223372036854775808)
def rowK(xs os:List Int):Nat->Row'
 |0=>[]
 |k+1=>(opB xs os k,xs.getD k 0)::rowK xs os k
theorem rowK_len(xs os:List Int):∀k,(rowK xs os k).length=k
 |0=>rfl
 |k+1=>by simp[rowK,rowK_len xs os k]
theorem rowK_in{xs os:List Int}(h:∀n,n∈xs->-9223372036854775808<=n/\n<=9223372036854775807):∀k,k<=xs.length->∀p,p∈rowK xs os k->-9223372036854775808<=p.2/\p.2<=9223372036854775807
 |0,_,p,hp=>by simp[rowK]at hp
 |k+1,hk,p,hp=>by
  simp only[rowK,List.mem_cons]at hp;rcases hp with rfl|hp
  ·refine h _ ?_;simp only[List.getD_eq_getElem?_getD,List.getElem?_eq_getElem (show k<xs.length by omega),Option.getD_some];exact List.getElem_mem _
  ·exact rowK_in h k (by omega) p hp
theorem txR_cons(b:Bool)(v:Int)(r:Row'):txR ((b,v)::r)=40::(opT b++32::(txR r++32::(Lib.itoa v++[41]))):=by
 simp[txR,Px.paren,Px.join]
theorem va_next{b:Bool}{v m n2:Int}{r:Row'}(h:vaR r=some m)(hn:fits (addR b m v)=true->n2=addR b m v):(vaR ((b,v)::r)).isSome=fits (addR b m v)/\∀q,vaR ((b,v)::r)=some q->n2=q:=by
 rw[vaR,h];simp only[Option.bind_some];by_cases hf:fits (addR b m v)=true
 ·rw[if_pos hf,hf];exact⟨rfl,fun q hq=>(hn hf).trans (Option.some.inj hq)⟩
 ·rw[if_neg hf];simp only[Bool.not_eq_true]at hf;rw[hf];exact⟨rfl,fun q hq=>by cases hq⟩
theorem va_none{b:Bool}{v:Int}{r:Row'}(h:vaR r=none):vaR ((b,v)::r)=none:=by rw[vaR,h];rfl
def bs(l:List UInt8):ByteArray:=⟨l.toArray⟩
theorem bs_add(x y:List UInt8)(h:x.length+y.length<=9223372036854775807)(w:World):(Op.stringOp .add (bs x) (bs y)).run prog w=.ok (.string (bs (x++y))) w:=by
 rw[run_string_add_sum w _ _ (by simpa[bs,ByteArray.size]using h)];unfold bs;rw[ByteArray.mk_append_mk]
theorem below_grow2{w w1:World}(h:Lk w w1)(k:Nat)(os:Array Obj):Below w.heap.size w (Go.Sort.grow (w1.drewN k) os):=(bl0 h).trans (Lib.below_grow _ _ (by rw[h.heap];exact Nat.le_refl _) k os)
def Row3(w:World)(xs os:List Int)(k:Nat)(t n g j:Value)(wr:World):Prop:=∃ns:Int,t=.string (bs (txR (rowK xs os k)))/\n=.int .i64 ns/\g=.bool (vaR (rowK xs os k)).isSome/\(∀m,vaR (rowK xs os k)=some m->ns=m)/\(-9223372036854775808<=ns/\ns<=9223372036854775807)/\j=.int .i64 (k:Int)/\Below w.heap.size w wr
theorem law3(xa oa:Option Addr)(xn xc on oc:Nat)(xs os:List Int)(w:World)(hxn:xn=xs.length)(hon:on=os.length)(h0:0<w.heap.size)(_hxm:xn<=9223372036854775807)(_hom:on<=9223372036854775807)(hT:GT w)
  (hx:∀i,i<xn->∃b o,xa=some ⟨b,o,none⟩/\b<w.heap.size/\w.cell? ⟨b,o+i,none⟩=some (.int .i64 (xs.getD i 0)))
  (ho:∀i,i<on->∃b o,oa=some ⟨b,o,none⟩/\b<w.heap.size/\w.cell? ⟨b,o+i,none⟩=some (.int .i64 (os.getD i 0)))
  (bx:∀n,n∈xs->-9223372036854775808<=n/\n<=9223372036854775807)(bo:∀n,n∈os->-9223372036854775808<=n/\n<=9223372036854775807)
  (hrun:∀k,k<=28->∀w',Below w.heap.size w w'->Calls prog 14 #[.agg (subC (bs (txR (rowK xs os k))))] w' fun e w2=>∃ve va st,e=.returned (.tuple #[.agg (resC ve 0 0 va st 0 0),.bool true])/\(∀n,vaR (rowK xs os k)=some n->ve=1/\va=⟨(Lib.itoa n).toArray⟩/\st=4*(k:Int)+1)/\(vaR (rowK xs os k)=none->ve=8/\va=⟨#[]⟩)/\Below w'.heap.size w' w2)
  (hless:∀k n,k<=28->vaR (rowK xs os k)=some n->∀w',Below w.heap.size w w'->Calls prog 14 #[.agg (subC (bs (txL (rowK xs os k))))] w' fun e w2=>∃st ce rw,e=.returned (.tuple #[.agg (resC 1 0 0 (if n<7 then⟨#[35,116]⟩else⟨#[35,102]⟩) st ce rw),.bool true])/\Below w'.heap.size w' w2):
  Calls prog 3 #[.slice xa xn xc,.slice oa on oc] w fun e w'=>e=.returned (.bool true)/\Below w.heap.size w w':=by
 have HX:=hZ hx;have HO:=hZ ho;have HBx:=hZ bx;have HBo:=hZ bo;have HR:=hZ hrun;have HS:=hZ hless;have HXn:=hZ hxn;have HOn:=hZ hon;have HT:=hZ hT;have H0:=hZ h0;clear hx ho bx bo hrun hless hxn hon hT h0;go_enter func3,ntmps3
 go_wp2;go_loopw [9,5,6,7,8] (fun c t n g j wr=>∃(k:Nat),k<=xn/\k<=28/\c=.int .i64 (k:Int)/\Row3 w xs os k t n g j wr) (fun c _ _ _ _ _=>28-(intOf c).toNat)
 case atStart=>exact⟨0,Nat.zero_le _,Nat.zero_le _,rfl,0,rfl,rfl,rfl,fun m h=>by simpa[rowK,vaR]using h,by omega,rfl,Below.refl _ _⟩
 case round=>
  obtain⟨k,hk,hk28,rfl,ns,rfl,rfl,rfl,hva,hns,rfl,hbl⟩:=hrel;have HB:=hZ hbl;have HVa:=hZ hva;clear hbl hva;by_cases hlt:k<xn/\k<28
  ·obtain⟨xb,xo,rfl,hxw,hxc⟩:=HX.out k hlt.1;have cx:wr.cell? ⟨xb,xo+k,none⟩=some (.int .i64 (xs.getD k 0)):=(HB.out.cell (p:=⟨xb,xo+k,none⟩) hxw).trans hxc;have hi1:(k:Int)<(xn:Int):=by omega
   have hi2:(k:Int)<28:=by omega
   clear hxc hxw;have hvb:-9223372036854775808<=xs.getD k 0/\xs.getD k 0<=9223372036854775807:=HBx.out _ (by
    simp only[List.getD_eq_getElem?_getD,List.getElem?_eq_getElem (show k<xs.length by rw[<-HXn.out];exact hlt.1),Option.getD_some];exact List.getElem_mem _)
   obtain⟨v,hv⟩:∃v,v=xs.getD k 0:=⟨_,rfl⟩;have hrow:rowK xs os (k+1)=(opB xs os k,v)::rowK xs os k:=by rw[hv];rfl
   rw[<-hv]at cx hvb;have HV:=hZ hv;have HRow:=hZ hrow;clear hv hrow;have hlen:(txR (rowK xs os k)).length<=26*k+1:=by
    have:=tx_len (rowK xs os k) (rowK_in HBx.out k (by rw[<-HXn.out];exact hk))
    rwa [rowK_len]at this
   have hil:=itoa_len v hvb.1 hvb.2;obtain⟨T,hTx⟩:∃T,T=txR (rowK xs os k):=⟨_,rfl⟩;rw[<-hTx]at hlen;rw[show bs (txR (rowK xs os k))=bs T by rw[hTx]];have HTx:=hZ hTx;clear hTx;have HG:Hid (∀w',Below wr.heap.size wr w'->GT w'):=fun w' hb=>HT.out.keep (by rw[hb.block 0 (by have:=HB.out.size;have:=H0.out;omega),HB.out.block 0 H0.out])
   have h3:(opB xs os k=false/\(¬(k:Int)<(on:Int)\/(∃ob oo z,oa=some ⟨ob,oo,none⟩/\(k:Int)<(on:Int)/\wr.cell? ⟨ob,oo+k,none⟩=some (.int .i64 z)/\(-9223372036854775808<=z/\z<=9223372036854775807)/\(Int.tmod z 2 !=0)=false)\/(∃ob oo z,oa=some ⟨ob,oo,none⟩/\(k:Int)<(on:Int)/\wr.cell? ⟨ob,oo+k,none⟩=some (.int .i64 z)/\(-9223372036854775808<=z/\z<=9223372036854775807)/\(Int.tmod z 2 !=0)=true/\(v != -9223372036854775808)=false)))\/(opB xs os k=true/\∃ob oo z,oa=some ⟨ob,oo,none⟩/\(k:Int)<(on:Int)/\wr.cell? ⟨ob,oo+k,none⟩=some (.int .i64 z)/\(-9223372036854775808<=z/\z<=9223372036854775807)/\(Int.tmod z 2 !=0)=true/\(v != -9223372036854775808)=true):=by
    by_cases hio:k<on
    ·obtain⟨ob,oo,e1,how,hoc⟩:=HO.out k hio;have co:wr.cell? ⟨ob,oo+k,none⟩=some (.int .i64 (os.getD k 0)):=(HB.out.cell (p:=⟨ob,oo+k,none⟩) how).trans hoc;have hzb:-9223372036854775808<=os.getD k 0/\os.getD k 0<=9223372036854775807:=HBo.out _ (by
      simp only[List.getD_eq_getElem?_getD,List.getElem?_eq_getElem (show k<os.length by rw[<-HOn.out];exact hio),Option.getD_some];exact List.getElem_mem _)
     have hio1:(k:Int)<(on:Int):=by omega
     have hopd:opB xs os k=(decide (Int.tmod (os.getD k 0) 2≠0)&&decide (v≠-9223372036854775808)):=by unfold opB;rw[<-HV.out];simp[<-HOn.out,hio]
     generalize os.getD k 0=z at co hzb hopd;by_cases hz:Int.tmod z 2=0
     ·exact .inl ⟨by rw[hopd];simp[hz],.inr (.inl ⟨ob,oo,z,e1,hio1,co,hzb,by simp[hz]⟩)⟩
     ·by_cases hvm:v=-9223372036854775808
      ·exact .inl ⟨by rw[hopd];simp[hvm],.inr (.inr ⟨ob,oo,z,e1,hio1,co,hzb,by simp[hz],by simp[hvm]⟩)⟩
      ·exact .inr ⟨by rw[hopd];simp[hvm,hz],ob,oo,z,e1,hio1,co,hzb,by simp[hz],by simp[hvm]⟩
    ·exact .inl ⟨by simp[opB,<-HOn.out,hio],.inl (by omega)⟩
   rcases h3 with⟨hob,h3⟩|⟨hob,h3⟩
   ·have HOb:=hZ hob;clear hob;have a1:∀w,(Op.stringOp .add ⟨#[40]⟩ ⟨#[43]⟩).run prog w=.ok (.string (bs [40,43])) w:=fun w=>bs_add [40] [43] (by decide) w
    have a2:∀w,(Op.stringOp .add (bs [40,43]) ⟨#[32]⟩).run prog w=.ok (.string (bs [40,43,32])) w:=fun w=>bs_add [40,43] [32] (by decide) w
    have a3:∀w,(Op.stringOp .add (bs [40,43,32]) (bs T)).run prog w=.ok (.string (bs (40::43::32::T))) w:=fun w=>bs_add [40,43,32] T (by simp;omega) w
    have a4:∀w,(Op.stringOp .add (bs (40::43::32::T)) ⟨#[32]⟩).run prog w=.ok (.string (bs (40::43::32::(T++[32])))) w:=fun w=>bs_add (40::43::32::T) [32] (by simp;omega) w
    have a5:∀w,(Op.stringOp .add (bs (40::43::32::(T++[32]))) ⟨(Lib.itoa v).toArray⟩).run prog w=.ok (.string (bs (40::43::32::(T++32::Lib.itoa v)))) w:=fun w=>(bs_add (40::43::32::(T++[32])) (Lib.itoa v) (by simp;omega) w).trans (by simp)
    have a6:∀w,(Op.stringOp .add (bs (40::43::32::(T++32::Lib.itoa v))) ⟨#[41]⟩).run prog w=.ok (.string (bs (40::43::32::(T++32::(Lib.itoa v++[41]))))) w:=fun w=>(bs_add (40::43::32::(T++32::Lib.itoa v)) [41] (by simp;omega) w).trans (by simp)
    cases hvr:vaR (rowK xs os k)with
    |none=>
     have HVr:=hZ hvr;simp only[Option.isSome_none];clear hvr;rcases h3 with hni|⟨ob,oo,z,rfl,hio1,co,hzb,hzB⟩|⟨ob,oo,z,rfl,hio1,co,hzb,hzB,hvB⟩;all_goals(
      go_wp2_with (go_at_call 12;refine(Tryz.strconv_Itoa v hvb.1 hvb.2 _ (HG.out _ (Below.refl _ _))).mono ?_;rintro e w2 ⟨rfl,nq,os2,hw2⟩;have HW2:=hZ (hw2▸Lib.below_grow _ _ (Nat.le_refl _) nq os2:Below wr.heap.size wr w2);clear hw2;refine Hid.out ?_)
      refine hZ ?_;go_wp2;refine⟨?_,by simp[intOf];omega⟩;exact⟨k+1,by omega,by omega,by go_num,ns,by rw[HRow.out,HOb.out,txR_cons,<-HTx.out];simp[opT],rfl,by rw[HRow.out,HOb.out,va_none HVr.out];rfl,by rw[HRow.out,HOb.out,va_none HVr.out];exact fun q hq=>(by cases hq),hns,by go_num,HB.out.trans (HW2.out.mono HB.out.size)⟩)
    |some m=>
     have HVr:=hZ hvr;obtain rfl:ns=m:=HVa.out m hvr;simp only[Option.isSome_some];clear hvr;rcases h3 with hni|⟨ob,oo,z,rfl,hio1,co,hzb,hzB⟩|⟨ob,oo,z,rfl,hio1,co,hzb,hzB,hvB⟩;all_goals(
      go_wp2_with (go_at_call 12;refine(Tryz.strconv_Itoa v hvb.1 hvb.2 _ (HG.out _ (Below.refl _ _))).mono ?_;rintro e w2 ⟨rfl,nq,os2,hw2⟩;have HW2:=hZ (hw2▸Lib.below_grow _ _ (Nat.le_refl _) nq os2:Below wr.heap.size wr w2);clear hw2;refine Hid.out ?_)
      refine hZ ?_;go_wp2_with (go_at_call 13;refine(sum13 ns v _ hns (by omega)).mono ?_;rintro e w3 ⟨⟨n2,rfl,hn2,hn3⟩,hw3⟩;have HN2:=hZ hn2;have HW3:=hZ (bl0 hw3);clear hn2 hw3)
      refine⟨?_,by simp[intOf];omega⟩;have hN:=va_next (b:=false) (v:=v) (n2:=n2) HVr.out (by rw[(show addR false ns v=ns+v from rfl)];exact HN2.out);exact⟨k+1,by omega,by omega,by go_num,n2,by rw[HRow.out,HOb.out,txR_cons,<-HTx.out];simp[opT],rfl,by rw[HRow.out,HOb.out,hN.1,(show addR false ns v=ns+v from rfl)],by rw[HRow.out,HOb.out];exact hN.2,hn3,by go_num,HB.out.trans ((HW2.out.trans (HW3.out.mono HW2.out.size)).mono HB.out.size)⟩)
   ·have HOb:=hZ hob;clear hob;have a1:∀w,(Op.stringOp .add ⟨#[40]⟩ ⟨#[45]⟩).run prog w=.ok (.string (bs [40,45])) w:=fun w=>bs_add [40] [45] (by decide) w
    have a2:∀w,(Op.stringOp .add (bs [40,45]) ⟨#[32]⟩).run prog w=.ok (.string (bs [40,45,32])) w:=fun w=>bs_add [40,45] [32] (by decide) w
    have a3:∀w,(Op.stringOp .add (bs [40,45,32]) (bs T)).run prog w=.ok (.string (bs (40::45::32::T))) w:=fun w=>bs_add [40,45,32] T (by simp;omega) w
    have a4:∀w,(Op.stringOp .add (bs (40::45::32::T)) ⟨#[32]⟩).run prog w=.ok (.string (bs (40::45::32::(T++[32])))) w:=fun w=>bs_add (40::45::32::T) [32] (by simp;omega) w
    have a5:∀w,(Op.stringOp .add (bs (40::45::32::(T++[32]))) ⟨(Lib.itoa v).toArray⟩).run prog w=.ok (.string (bs (40::45::32::(T++32::Lib.itoa v)))) w:=fun w=>(bs_add (40::45::32::(T++[32])) (Lib.itoa v) (by simp;omega) w).trans (by simp)
    have a6:∀w,(Op.stringOp .add (bs (40::45::32::(T++32::Lib.itoa v))) ⟨#[41]⟩).run prog w=.ok (.string (bs (40::45::32::(T++32::(Lib.itoa v++[41]))))) w:=fun w=>(bs_add (40::45::32::(T++32::Lib.itoa v)) [41] (by simp;omega) w).trans (by simp)
    cases hvr:vaR (rowK xs os k)with
    |none=>
     have HVr:=hZ hvr;simp only[Option.isSome_none];clear hvr;obtain⟨ob,oo,z,rfl,hio1,co,hzb,hzB,hvB⟩:=h3;have hvm:¬v=-9223372036854775808:=by simpa using hvB
     all_goals(
      go_wp2_with (go_at_call 12;refine(Tryz.strconv_Itoa v hvb.1 hvb.2 _ (HG.out _ (Below.refl _ _))).mono ?_;rintro e w2 ⟨rfl,nq,os2,hw2⟩;have HW2:=hZ (hw2▸Lib.below_grow _ _ (Nat.le_refl _) nq os2:Below wr.heap.size wr w2);clear hw2;refine Hid.out ?_)
      refine hZ ?_;go_wp2;refine⟨?_,by simp[intOf];omega⟩;exact⟨k+1,by omega,by omega,by go_num,ns,by rw[HRow.out,HOb.out,txR_cons,<-HTx.out];simp[opT],rfl,by rw[HRow.out,HOb.out,va_none HVr.out];rfl,by rw[HRow.out,HOb.out,va_none HVr.out];exact fun q hq=>(by cases hq),hns,by go_num,HB.out.trans (HW2.out.mono HB.out.size)⟩)
    |some m=>
     have HVr:=hZ hvr;obtain rfl:ns=m:=HVa.out m hvr;simp only[Option.isSome_some];clear hvr;obtain⟨ob,oo,z,rfl,hio1,co,hzb,hzB,hvB⟩:=h3;have hvm:¬v=-9223372036854775808:=by simpa using hvB
     all_goals(
      go_wp2_with (go_at_call 12;refine(Tryz.strconv_Itoa v hvb.1 hvb.2 _ (HG.out _ (Below.refl _ _))).mono ?_;rintro e w2 ⟨rfl,nq,os2,hw2⟩;have HW2:=hZ (hw2▸Lib.below_grow _ _ (Nat.le_refl _) nq os2:Below wr.heap.size wr w2);clear hw2;refine Hid.out ?_)
      refine hZ ?_;go_wp2_with (go_at_call 13;refine(sum13 ns (-v) _ hns (by omega)).mono ?_;rintro e w3 ⟨⟨n2,rfl,hn2,hn3⟩,hw3⟩;have HN2:=hZ hn2;have HW3:=hZ (bl0 hw3);clear hn2 hw3)
      refine⟨?_,by simp[intOf];omega⟩;have hN:=va_next (b:=true) (v:=v) (n2:=n2) HVr.out (by rw[(show addR true ns (v)=ns+ -v from(Int.sub_eq_add_neg ..))];exact HN2.out);exact⟨k+1,by omega,by omega,by go_num,n2,by rw[HRow.out,HOb.out,txR_cons,<-HTx.out];simp[opT],rfl,by rw[HRow.out,HOb.out,hN.1,(show addR true ns (v)=ns+ -v from(Int.sub_eq_add_neg ..))],by rw[HRow.out,HOb.out];exact hN.2,hn3,by go_num,HB.out.trans ((HW2.out.trans (HW3.out.mono HW2.out.size)).mono HB.out.size)⟩)
  ·have h2:((k:Int)<(xn:Int)/\¬(k:Int)<28)\/¬(k:Int)<(xn:Int):=by omega
   rcases h2 with⟨hi1,hi2⟩|hi1;all_goals(
    have HK28:=hZ hk28;cases hvr:vaR (rowK xs os k)with
    |none=>
     have HVr:=hZ hvr;simp only[Option.isSome_none];clear hvr;go_wp2_with (go_at_call 15;refine(qrp _ _).mono ?_;rintro e w1 ⟨rfl,hb1⟩;have HB1:=hZ (HB.out.trans (hb1.mono HB.out.size));clear hb1;refine Hid.out ?_)
     refine hZ ?_;go_wp2_with (go_at_call 14;refine(HR.out k HK28.out _ HB1.out).mono ?_;rintro e w2 ⟨ve,va,st,rfl,-,h8,hb2⟩;obtain⟨rfl,rfl⟩:=h8 HVr.out;have HB2:=hZ (HB1.out.trans (hb2.mono HB1.out.size));clear hb2 h8;refine Hid.out ?_)
     refine hZ ?_;unfold resC;go_wp2;go_ret;exact⟨rfl,HB2.out.alloc (by simpa using HB2.out.size) _⟩
    |some m=>
     have HVr:=hZ hvr;obtain rfl:ns=m:=HVa.out m hvr;simp only[Option.isSome_some];clear hvr;go_wp2_with (go_at_call 15;refine(qrp _ _).mono ?_;rintro e w1 ⟨rfl,hb1⟩;have HB1:=hZ (HB.out.trans (hb1.mono HB.out.size));clear hb1;refine Hid.out ?_)
     refine hZ ?_;go_wp2_with (go_at_call 14;refine(HR.out k HK28.out _ HB1.out).mono ?_;rintro e w2 ⟨ve,va,st,rfl,h1,-,hb2⟩;obtain⟨rfl,rfl,rfl⟩:=h1 ns HVr.out;have HB2:=hZ (HB1.out.trans (hb2.mono HB1.out.size));clear hb2 h1;refine Hid.out ?_)
     refine hZ ?_;unfold resC;have hlen:(txR (rowK xs os k)).length<=26*k+1:=by
      have:=tx_len (rowK xs os k) (rowK_in HBx.out k (by rw[<-HXn.out];exact hk))
      rwa [rowK_len]at this
     have htl:txL (rowK xs os k)=40::60::32::(txR (rowK xs os k)++[32,55,41]):=by simp[txL,Px.paren,Px.join]
     have HS1:=hZ (HS.out k ns HK28.out HVr.out);rw[htl]at HS1;have HR1:=HR;clear htl;obtain⟨T,hTx⟩:∃T,T=txR (rowK xs os k):=⟨_,rfl⟩;rw[<-hTx]at hlen HS1;rw[show bs (txR (rowK xs os k))=bs T by rw[hTx]];clear hTx;have a1:∀w,(Op.stringOp .add ⟨#[40,60,32]⟩ (bs T)).run prog w=.ok (.string (bs (40::60::32::T))) w:=fun w=>bs_add [40,60,32] T (by simp;omega) w
     have a2:∀w,(Op.stringOp .add (bs (40::60::32::T)) ⟨#[32,55,41]⟩).run prog w=.ok (.string (bs (40::60::32::(T++[32,55,41])))) w:=fun w=>(bs_add (40::60::32::T) [32,55,41] (by simp;omega) w).trans (by simp)
     have HG2:Hid (∀w',Below w2.heap.size w2 w'->GT w'):=fun w' hb=>HT.out.keep (by rw[hb.block 0 (by have:=HB2.out.size;have:=H0.out;omega),HB2.out.block 0 H0.out])
     clear hlt;by_cases h7:ns<7;all_goals(
      first|rw[if_pos h7]at HS1|rw[if_neg h7]at HS1
      go_wp2_with (go_at_call 17;refine(truth17 _ _).mono ?_;rintro e w3 ⟨rfl,hl3⟩;have HL3:=hZ hl3;clear hl3;refine Hid.out ?_)
      have hb3:Below w2.heap.size w2 w3:=(qab _ _).trans ((bl0 HL3.out).mono (by simp));have hbk:w3.heap[w2.heap.size]? =some (.cells #[.int .i64 1,.int .i64 0,.int .i64 0,.string (⟨(Lib.itoa ns).toArray⟩),.string ⟨#[]⟩,.int .i64 (4*(k:Int)+1),.int .i64 0,.int .i64 0,.slice none 0 0] 29 (0,0)):=by rw[HL3.out.heap];exact heap_alloc_new _ _
      have HBk:=hZ hbk;have HB3:=hZ hb3;clear hb3 hbk HL3;refine hZ ?_;go_wp2_with (go_at_call 16;refine(gives16 _ _ _ (fun w' hb=>HS1.out w' (HB2.out.trans ((HB3.out.trans (hb.mono HB3.out.size)).mono HB2.out.size)))).mono ?_;rintro e w4 ⟨rfl,hb4⟩;have HB4:=hZ hb4;clear hb4;refine Hid.out ?_)
      have hsz:w2.heap.size<w3.heap.size:=by obtain⟨h,-⟩:=Array.getElem?_eq_some_iff.1 HBk.out;exact h
      have hbk4:w4.heap[w2.heap.size]? =some (.cells #[.int .i64 1,.int .i64 0,.int .i64 0,.string (⟨(Lib.itoa ns).toArray⟩),.string ⟨#[]⟩,.int .i64 (4*(k:Int)+1),.int .i64 0,.int .i64 0,.slice none 0 0] 29 (0,0)):=by rw[HB4.out.block _ hsz];exact HBk.out
      have HB5:=hZ (HB3.out.trans (HB4.out.mono HB3.out.size));have b0:w4.cell? ⟨w2.heap.size,0,none⟩=some (.int .i64 1):=by simp only[World.cell?,hbk4];rfl
      have b3:w4.cell? ⟨w2.heap.size,3,none⟩=some (.string (⟨(Lib.itoa ns).toArray⟩)):=by simp only[World.cell?,hbk4];rfl
      have b5:w4.cell? ⟨w2.heap.size,5,none⟩=some (.int .i64 (4*(k:Int)+1)):=by simp only[World.cell?,hbk4];rfl
      have b6:w4.cell? ⟨w2.heap.size,6,none⟩=some (.int .i64 0):=by simp only[World.cell?,hbk4];rfl
      have HBk4:=hZ hbk4;have HLt:=hZ (Nat.lt_of_lt_of_le hsz HB4.out.size);clear hbk4 HB4 HBk HB3 hsz;refine hZ ?_;have HI:Hid (∀w1,Lk w4 w1->Calls prog 12 #[.int .i64 ns] w1 fun e w'=>e=.returned (.string ⟨(Lib.itoa ns).toArray⟩)/\(w'.cell? ⟨w2.heap.size,0,none⟩=some (.int .i64 1)/\w'.cell? ⟨w2.heap.size,3,none⟩=some (.string ⟨(Lib.itoa ns).toArray⟩)/\w'.cell? ⟨w2.heap.size,5,none⟩=some (.int .i64 (4*(k:Int)+1))/\w'.cell? ⟨w2.heap.size,6,none⟩=some (.int .i64 0))/\Below w4.heap.size w4 w'):=fun w1 hl=>by
       refine(Tryz.strconv_Itoa ns hns.1 hns.2 w1 (HG2.out _ (HB5.out.trans ((bl0 hl).mono HB5.out.size)))).mono ?_;rintro e w5 ⟨rfl,nq,os2,rfl⟩;have hb9:=below_grow2 hl nq os2;exact⟨rfl,⟨(hb9.cell (p:=⟨w2.heap.size,0,none⟩) HLt.out).trans b0,(hb9.cell (p:=⟨w2.heap.size,3,none⟩) HLt.out).trans b3,(hb9.cell (p:=⟨w2.heap.size,5,none⟩) HLt.out).trans b5,(hb9.cell (p:=⟨w2.heap.size,6,none⟩) HLt.out).trans b6⟩,hb9⟩
      have hw4:IntKind.i64.wrap (4*(k:Int))=4*(k:Int):=by rw[IntKind.wrap_i64];omega
      have hw5:IntKind.i64.wrap (4*(k:Int)+1)=4*(k:Int)+1:=by rw[IntKind.wrap_i64];omega
      go_wp2_with (fail)
      go_region_held2 (fun w'=>w'.cell? ⟨w2.heap.size,0,none⟩=some (.int .i64 1)/\w'.cell? ⟨w2.heap.size,3,none⟩=some (.string ⟨(Lib.itoa ns).toArray⟩)/\w'.cell? ⟨w2.heap.size,5,none⟩=some (.int .i64 (4*(k:Int)+1))/\w'.cell? ⟨w2.heap.size,6,none⟩=some (.int .i64 0)) (first|(exact⟨b0,b3,b5,b6⟩)|(exact HS9.out)|go_keep)
       (first|(go_at_call 12;refine(HI.out _ (by exact⟨rfl,rfl,rfl,rfl⟩)).mono ?_;rintro e w5 ⟨rfl,hs9,hb9⟩;have HS9:=hZ hs9;have HB9:=hZ hb9;clear hs9 hb9))
      go_wp2;go_ret;exact⟨rfl,HB2.out.trans ((HB5.out.trans (HB9.out.mono HB5.out.size)).mono HB2.out.size)⟩))
end
section
open Go.RowKit Go.Shelf
open Sc
theorem mStart_m0:mStart=m0:=by kernel_rfl
theorem noSyn_of{d:Dt}(h:noSyn d=true):¬isSyn d:=by
 rintro⟨k,r,rfl⟩;simp[noSyn]at h
theorem kept_does{t:Bs}{r:(Option Nat×Nat)×Option Vl×Xs×Mc}(hd:Does t r){w:World}(hT:GT w)(hV:Rd.GV w)(h6:6<=w.heap.size)(hne:r.1.1≠some 0):Calls prog 14 #[.agg (subC (bs t))] w (KeptR r w):=by
 obtain⟨fs,hF,hl,hn,rfl⟩:=hd;have hz:(bs t).size=t.length:=by simp[bs,ByteArray.size]
 have hL:Rd.L (bs t) 0=t:=by simp[Rd.L,bs]
 have htop:Py.topP (2*(bs t).size+2) (Rd.L (bs t) 0)=.inr (fs,[]):=by rw[hz,hL];exact Py.forms_top hF _ (Nat.le_refl _)
 have key:=kept_of (t:=bs t) (w:=w) (S:=plenty t) ⟨rfl,rfl,rfl⟩ hT hV h6 (by rw[hz];exact hl) fs [] htop (fun f hf=>noSyn_of (hn f hf)) (by rw[hz,mStart_m0];exact hne);rw[hz,mStart_m0]at key;exact key
theorem gl_below{w w':World}(hT:GT w)(hV:Rd.GV w)(h6:6<=w.heap.size)(hb:Below w.heap.size w w'):GT w'/\Rd.GV w'/\6<=w'.heap.size:=
 ⟨hT.keep (hb.block 0 (by omega)),GV.below hV hb h6,Nat.le_trans h6 hb.size⟩
theorem kept_gives{t v:Bs}(h:Gives t v){w:World}(hT:GT w)(hV:Rd.GV w)(h6:6<=w.heap.size):Calls prog 14 #[.agg (subC (bs t))] w fun e w2=>∃st ce rw,e=.returned (.tuple #[.agg (resC 1 0 0 (bs v) st ce rw),.bool true])/\Below w.heap.size w w2:=by
 obtain⟨hl,r,hd,h1,h2,-,-⟩:=h;refine(kept_does hd hT hV h6 (by rw[h1];simp)).mono ?_;rintro e w2 ⟨ve,pl,va,st,ce,rw,rfl,hr,hb⟩;obtain⟨⟨e0,p⟩,ov,x,m⟩:=r;simp only at h1 h2;subst h1;cases ov with
 |none=>simp at h2
 |some u=>
  simp only[Option.map_some,Option.some.injEq]at h2;obtain⟨rfl,rfl,rfl,-,-,-⟩:=hr;refine⟨st,ce,rw,?_,hb⟩;have:lastV (some u)=bs v:=by
   show(⟨((wr u).take 1200).toArray⟩:ByteArray)=⟨v.toArray⟩;rw[h2,List.take_of_length_le hl]
  rw[this]
theorem rowK_in'{xs os:List Int}(h:∀n,n∈xs->-9223372036854775808<=n/\n<=9223372036854775807):∀k,∀p,p∈rowK xs os k->-9223372036854775808<=p.2/\p.2<=9223372036854775807
 |0,p,hp=>by simp[rowK]at hp
 |k+1,p,hp=>by
  simp only[rowK,List.mem_cons]at hp;rcases hp with rfl|hp
  ·by_cases hk:k<xs.length
   ·refine h _ ?_;simp only[List.getD_eq_getElem?_getD,List.getElem?_eq_getElem hk,Option.getD_some];exact List.getElem_mem _
   ·have:xs.getD k 0=0:=by simp[List.getD_eq_getElem?_getD,List.getElem?_eq_none (show xs.length<=k by omega)]
    simp only[this];omega
  ·exact rowK_in' h k p hp
theorem computes_any(xa oa:Option Addr)(xn xc on oc:Nat)(xs os:List Int)(w:World)(hxn:xn=xs.length)(hon:on=os.length)(h6:6<=w.heap.size)(hxm:xn<=9223372036854775807)(hom:on<=9223372036854775807)(hT:GT w)(hV:Rd.GV w)
  (hx:∀i,i<xn->∃b o,xa=some ⟨b,o,none⟩/\b<w.heap.size/\w.cell? ⟨b,o+i,none⟩=some (.int .i64 (xs.getD i 0)))
  (ho:∀i,i<on->∃b o,oa=some ⟨b,o,none⟩/\b<w.heap.size/\w.cell? ⟨b,o+i,none⟩=some (.int .i64 (os.getD i 0)))
  (bx:∀n,n∈xs->-9223372036854775808<=n/\n<=9223372036854775807)(bo:∀n,n∈os->-9223372036854775808<=n/\n<=9223372036854775807):
  Calls prog 3 #[.slice xa xn xc,.slice oa on oc] w fun e w'=>e=.returned (.bool true)/\Below w.heap.size w w':=by
 have hin:=fun k=>rowK_in' (os:=os) bx k
 refine law3 xa oa xn xc on oc xs os w hxn hon (by omega) hxm hom hT hx ho bx bo ?_ ?_
 ·intro k hk w' hb;obtain⟨gT,gV,g6⟩:=gl_below hT hV h6 hb;have hkl:=rowK_len xs os k;cases hv:vaR (rowK xs os k)with
  |none=>
   obtain⟨s,hd⟩:=run_over (rowK xs os k) (by omega) (hin k) hv;refine(kept_does hd gT gV g6 (by simp)).mono ?_;rintro e w2 ⟨ve,pl,va,st,ce,rw,rfl,hr,hb2⟩;obtain⟨rfl,rfl,h1,-,rfl,rfl,rfl⟩:=hr;exact⟨_,_,_,rfl,fun n h=>by simp at h,fun _=>⟨rfl,h1 (by decide)⟩,hb2⟩
  |some n=>
   have hd:=run_sum (rowK xs os k) (by omega) (hin k) n hv;rw[hkl]at hd;refine(kept_does hd gT gV g6 (by simp)).mono ?_;rintro e w2 ⟨ve,pl,va,st,ce,rw,rfl,hr,hb2⟩;obtain⟨rfl,rfl,rfl,rfl,rfl,rfl⟩:=hr;have hb:=of_decide_eq_true (va_fits _ n hv);have hi:=itoa_len n hb.1 hb.2;refine⟨_,_,_,rfl,fun q h=>?_,fun h=>by simp at h,hb2⟩;obtain rfl:=Option.some.inj h;refine⟨rfl,?_,by simp⟩;show(⟨((wr (.num n)).take 1200).toArray⟩:ByteArray)=_;rw[List.take_of_length_le (by show(Lib.itoa n).length<=1200;omega)];rfl
 ·intro k n hk hv w' hb;obtain⟨gT,gV,g6⟩:=gl_below hT hV h6 hb;have hkl:=rowK_len xs os k;have h:=kept_gives (run_less (rowK xs os k) (by omega) (hin k) n hv) gT gV g6;refine h.mono ?_;rintro e w2 ⟨st,ce,rw,rfl,hb2⟩;refine⟨st,ce,rw,?_,hb2⟩;by_cases h7:n<7
  ·rw[if_pos h7,if_pos h7];rfl
  ·rw[if_neg h7,if_neg h7];rfl
end
end Go.Proofs.YtldaocpojcfljaaGreatDoor
