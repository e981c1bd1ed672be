import Derived.Test.YtldaocpojcfljaaGreatDoorD09
set_option maxRecDepth 100000
set_option maxHeartbeats 4000000
namespace Go.Proofs.YtldaocpojcfljaaGreatDoor
open Tryz hiding parts
open Go.RowKit Go.Shelf
section
open Sc
theorem not_b(b:Bool)(w:World):Calls prog 194 #[.iface 181 (.bool b)] w fun e w'=>e=.returned (.iface 181 (.bool (!b)))/\w'=w:=by
 have ha:∀w,(binOp .eql 116 (.iface 181 (.bool b)) (.iface 181 (.bool false))).run prog w=.ok (.bool (!b)) w:=fun w=>by
  rw[qdd];cases b <;> rfl
 go_enter func194,ntmps194
 go_wp2;go_ret;exact⟨rfl,rfl⟩
theorem not_n(t:Nat)(y:Value)(ht:t≠181)(w:World):Calls prog 194 #[.iface t y] w fun e w'=>e=.returned (.iface 181 (.bool false))/\w'=w:=by
 have ha:∀w,(binOp .eql 116 (.iface t y) (.iface 181 (.bool false))).run prog w=.ok (.bool false) w:=fun w=>qaw _ _ _ _ ht w
 clear ht;go_enter func194,ntmps194
 go_wp2;go_ret;exact⟨rfl,rfl⟩
theorem qrt{S:Sub}(m:Mc)(H:Gh)(w:World)(v:Vl)(x:Value)(i:Inv H S m w)(hv:VRep H v x):Calls prog 194 (#[x]++#[]) w (WorkOk H S (value S m .not [v])):=by
 have key:∀(x:Value) (b:Bool),value S m .not [v]=(.ok (.bool b),m)->Calls prog 194 #[x] w (fun e w'=>e=.returned (.iface 181 (.bool b))/\w'=w)->Calls prog 194 (#[x]++#[]) w (WorkOk H S (value S m .not [v])):=fun x b h hc=>by
  refine Calls.mono hc ?_;rintro e w' ⟨rfl,rfl⟩;exact WorkOk.bool h i
 cases hv with
 |bool b=>exact key _ (!b) (by cases b <;> rfl) (not_b b w)
 |proc v b h=>exact key _ false (by cases h <;> rfl) (not_n _ _ (by decide) w)
 |_=>exact key _ false rfl (not_n _ _ (by decide) w)
theorem qpi(d:Nat)(b b':Nat)(w:World){c c':Array Value}{k k':Nat}(hb:w.heap[b]? =some (.cells c k (0,0)))(hb':w.heap[b']? =some (.cells c' k' (0,0))):(Op.equalIn (d+1) 246 (.pointer (some ⟨b,0,none⟩)) (.pointer (some ⟨b',0,none⟩))).run prog w=.ok (b==b') w:=by
 by_cases e:b=b'
 ·subst e;simp[Op.equalIn,run_underlying underlying246,run_sameAddr_same,go_sem]
 ·have hs:=run_sameAddr_other (P:=prog) (w:=w) (a:=⟨b,0,none⟩) (b:=⟨b',0,none⟩) (by intro h;cases h;exact e rfl) hb hb';simp[Op.equalIn,run_underlying underlying246,hs,go_sem,e]
theorem qsw(b b':Nat)(w:World){c c':Array Value}{k k':Nat}(hb:w.heap[b]? =some (.cells c k (0,0)))(hb':w.heap[b']? =some (.cells c' k' (0,0))):(binOp .eql 116 (.iface 246 (bp b)) (.iface 246 (bp b'))).run prog w=.ok (.bool (b==b')) w:=
 qb2 246 _ _ _ w w fun d=>by
  have h:=qpi d b b' w hb hb';have hu:=run_underlying (w:=w) underlying116;rw[Op.equalIn];simp[run_underlying underlying116,cmp246,h]
theorem qph(d:Nat)(b b':Nat)(w:World){c c':Array Value}{k k':Nat}(hb:w.heap[b]? =some (.cells c k (0,0)))(hb':w.heap[b']? =some (.cells c' k' (0,0))):(Op.equalIn (d+1) 281 (.pointer (some ⟨b,0,none⟩)) (.pointer (some ⟨b',0,none⟩))).run prog w=.ok (b==b') w:=by
 by_cases e:b=b'
 ·subst e;simp[Op.equalIn,run_underlying underlying281,run_sameAddr_same,go_sem]
 ·have hs:=run_sameAddr_other (P:=prog) (w:=w) (a:=⟨b,0,none⟩) (b:=⟨b',0,none⟩) (by intro h;cases h;exact e rfl) hb hb';simp[Op.equalIn,run_underlying underlying281,hs,go_sem,e]
theorem qsv(b b':Nat)(w:World){c c':Array Value}{k k':Nat}(hb:w.heap[b]? =some (.cells c k (0,0)))(hb':w.heap[b']? =some (.cells c' k' (0,0))):(binOp .eql 116 (.iface 281 (bp b)) (.iface 281 (bp b'))).run prog w=.ok (.bool (b==b')) w:=
 qb2 281 _ _ _ w w fun d=>by
  have h:=qph d b b' w hb hb';have hu:=run_underlying (w:=w) underlying116;rw[Op.equalIn];simp[run_underlying underlying116,cmp281,h]
theorem qpg(d:Nat)(b b':Nat)(w:World){c c':Array Value}{k k':Nat}(hb:w.heap[b]? =some (.cells c k (0,0)))(hb':w.heap[b']? =some (.cells c' k' (0,0))):(Op.equalIn (d+1) 285 (.pointer (some ⟨b,0,none⟩)) (.pointer (some ⟨b',0,none⟩))).run prog w=.ok (b==b') w:=by
 by_cases e:b=b'
 ·subst e;simp[Op.equalIn,run_underlying underlying285,run_sameAddr_same,go_sem]
 ·have hs:=run_sameAddr_other (P:=prog) (w:=w) (a:=⟨b,0,none⟩) (b:=⟨b',0,none⟩) (by intro h;cases h;exact e rfl) hb hb';simp[Op.equalIn,run_underlying underlying285,hs,go_sem,e]
theorem qd4(b b':Nat)(w:World){c c':Array Value}{k k':Nat}(hb:w.heap[b]? =some (.cells c k (0,0)))(hb':w.heap[b']? =some (.cells c' k' (0,0))):(binOp .eql 116 (.iface 285 (bp b)) (.iface 285 (bp b'))).run prog w=.ok (.bool (b==b')) w:=
 qb2 285 _ _ _ w w fun d=>by
  have h:=qpg d b b' w hb hb';have hu:=run_underlying (w:=w) underlying116;rw[Op.equalIn];simp[run_underlying underlying116,cmp285,h]
theorem qpf(d:Nat)(b b':Nat)(w:World){c c':Array Value}{k k':Nat}(hb:w.heap[b]? =some (.cells c k (0,0)))(hb':w.heap[b']? =some (.cells c' k' (0,0))):(Op.equalIn (d+1) 322 (.pointer (some ⟨b,0,none⟩)) (.pointer (some ⟨b',0,none⟩))).run prog w=.ok (b==b') w:=by
 by_cases e:b=b'
 ·subst e;simp[Op.equalIn,run_underlying underlying322,run_sameAddr_same,go_sem]
 ·have hs:=run_sameAddr_other (P:=prog) (w:=w) (a:=⟨b,0,none⟩) (b:=⟨b',0,none⟩) (by intro h;cases h;exact e rfl) hb hb';simp[Op.equalIn,run_underlying underlying322,hs,go_sem,e]
theorem qsu(b b':Nat)(w:World){c c':Array Value}{k k':Nat}(hb:w.heap[b]? =some (.cells c k (0,0)))(hb':w.heap[b']? =some (.cells c' k' (0,0))):(binOp .eql 116 (.iface 322 (bp b)) (.iface 322 (bp b'))).run prog w=.ok (.bool (b==b')) w:=
 qb2 322 _ _ _ w w fun d=>by
  have h:=qpf d b b' w hb hb';have hu:=run_underlying (w:=w) underlying116;rw[Op.equalIn];simp[run_underlying underlying116,cmp322,h]
theorem qom{l:List Nat}(h:l.Nodup){a c:Nat}(ha:a<l.length)(hc:c<l.length)(e:l[a]=l[c]):a=c:=by
 have:=List.pairwise_iff_getElem.mp h;rcases Nat.lt_trichotomy a c with q|q|q
 ·exact absurd e (this a c ha hc q)
 ·exact q
 ·exact absurd e.symm (this c a hc ha q)
theorem Inv.jinj{G:Gh}{S:Sub}{m:Mc}{w:World}(i:Inv G S m w){a c b b':Nat}(h:G.J[a]? =some b)(h':G.J[c]? =some b'):(b==b')=(a==c):=by
 by_cases e:a=c
 ·subst e;rw[h]at h';cases h';simp
 ·have:b≠b':=fun eb=>by
   subst eb;obtain⟨l1,e1⟩:=List.getElem?_eq_some_iff.mp h;obtain⟨l2,e2⟩:=List.getElem?_eq_some_iff.mp h';exact e (qom i.jn l1 l2 (e1.trans e2.symm))
  rw[beq_eq_false_iff_ne.mpr this,beq_eq_false_iff_ne.mpr e]
end
section
open Sc
theorem qe1(a b:ByteArray):(a==b)=(a.data.toList==b.data.toList):=by
 have e1:(a==b)=decide (a=b):=by
  rcases a with⟨a⟩;rcases b with⟨b⟩;have:((⟨a⟩:ByteArray)==⟨b⟩)=(a==b):=rfl;rw[this];by_cases e:a=b
  ·subst e;simp
  ·simp[e]
 rw[e1];by_cases e:a=b
 ·subst e;simp
 ·have h:a.data.toList≠b.data.toList:=fun h=>e (by
   rcases a with⟨a⟩;rcases b with⟨b⟩;exact congrArg ByteArray.mk (Array.toList_inj.mp h))
  rw[beq_eq_false_iff_ne.mpr h];simp[e]
def Pm.mark(p:Pm):Nat×Nat×Nat:=(p.form,p.wrapF,if p.form=2 then 0 else p.workF)
theorem Pm.mark_inj(p q:Pm)(hp:p.form<=2)(hm:Pm.mark p=Pm.mark q):p=q:=by
 revert hp hm
 cases p <;> cases q <;> first|(intro _ _;rfl)|(intro hp hm;exfalso;revert hp hm;decide)
theorem Pm.name_inj(p q:Pm)(h:p.name=q.name):p=q:=by
 revert h
 cases p <;> cases q <;> first|(intro _;rfl)|(intro h;exfalso;revert h;decide)
end
section
open Sc
theorem PRep.inj{G:Gh}{p q:Pm}{x:Value}(hp:PRep G p x)(hq:PRep G q x):p=q:=by
 cases hp with
 |bare a hf h=>
  generalize ex:Value.func (.func p.wrapF) #[] #[bp a]=x at hq;cases hq with
  |bare a' hf' h'=>
   injection ex with e1 _ e2;injection e1 with e1
   have:a=a':=by simpa[bp]using e2
   subst this;rw[h]at h';simp at h';exact Pm.mark_inj _ _ (by omega) (by simp[Pm.mark,hf,hf',e1,h'.1])
  |mach a' r hf' h' hr=>
   injection ex with e1 _ e2
   have:a=a':=by simpa[bp]using e2
   subst this;rw[h]at h';simp at h'
  |self a' hf' h'=>
   injection ex with e1 _ e2
   have:a=a':=by simpa[bp]using e2
   subst this;rw[Gh.mbox,h]at h';simp[bp]at h'
 |mach a r hf h hr=>
  generalize ex:Value.func (.func p.wrapF) #[] #[bp a]=x at hq;cases hq with
  |bare a' hf' h'=>
   injection ex with e1 _ e2
   have:a=a':=by simpa[bp]using e2
   subst this;rw[h]at h';simp at h'
  |mach a' r' hf' h' hr'=>
   injection ex with e1 _ e2;injection e1 with e1
   have:a=a':=by simpa[bp]using e2
   subst this;rw[h]at h';simp at h';exact Pm.mark_inj _ _ (by omega) (by simp[Pm.mark,hf,hf',e1,h'.1])
  |self a' hf' h'=>
   injection ex with e1 _ e2
   have:a=a':=by simpa[bp]using e2
   subst this;rw[Gh.mbox,h]at h';simp[bp]at h'
 |self a hf h=>
  generalize ex:Value.func (.func p.wrapF) #[] #[bp a]=x at hq;cases hq with
  |bare a' hf' h'=>
   injection ex with e1 _ e2
   have:a=a':=by simpa[bp]using e2
   subst this;rw[Gh.mbox,h']at h;simp[bp]at h
  |mach a' r' hf' h' hr'=>
   injection ex with e1 _ e2
   have:a=a':=by simpa[bp]using e2
   subst this;rw[Gh.mbox,h']at h;simp[bp]at h
  |self a' hf' h'=>
   injection ex with e1 _ e2;injection e1 with e1
   exact Pm.mark_inj _ _ (by omega) (by simp[Pm.mark,hf,hf',e1])
theorem QRep.cells{G:Gh}{v:Vl}{b:Nat}(h:QRep G v b):∃x,G.I b=some (.cells #[x] 300 (0,0)):=by
 cases h with
 |lam _ _ _ _ _ _ _ _ _ _ _ _ _ _ hb=>exact⟨_,hb⟩
 |prim _ _ hb=>exact⟨_,hb⟩
 |cont _ _ _ _ _ _ _ _ _ _ hb=>exact⟨_,hb⟩
theorem PRep.form{G:Gh}{p:Pm}{x:Value}(h:PRep G p x):p.form<=2/\∃q,x=.func (.func p.wrapF) #[] #[bp q]:=by
 cases h <;> exact⟨by omega,_,rfl⟩
theorem QRep.same{G:Gh}{S:Sub}{m:Mc}{w:World}(i:Inv G S m w){v u:Vl}{b b':Nat}(h:QRep G v b)(h':QRep G u b'):(b==b')=eq v u:=by
 cases h with
 |lam sh id n r l env _ q1 q2 q3 xl xb pf hj hb=>
  cases h' with
  |lam sh' id' n' r' l' env' _ q1' q2' q3' xl' xb' pf' hj' hb'=>exact i.jinj hj hj'
  |prim p x hb' hp=>
   show(b==_)=false;refine beq_eq_false_iff_ne.mpr fun e=>?_
   rw[<-e,hb]at hb';obtain⟨hf,q,rfl⟩:=hp.form;simp at hb'
  |cont id' k ws _ q1' q2' q3' u wp hj' hb'=>
   refine beq_eq_false_iff_ne.mpr fun e=>?_
   rw[<-e,hb]at hb';simp at hb'
 |prim p x hb hp=>
  obtain⟨hf,q,hx⟩:=hp.form;cases h' with
  |lam sh' id' n' r' l' env' _ q1' q2' q3' xl' xb' pf' hj' hb'=>
   refine beq_eq_false_iff_ne.mpr fun e=>?_
   rw[<-e,hb,hx]at hb';simp at hb'
  |prim p' x' hb' hp'=>
   show _=(p.name==p'.name);by_cases e:p=p'
   ·subst e;simp
   ·have h1:p.name≠p'.name:=fun h=>e (Pm.name_inj _ _ h)
    have h2:G.P p≠G.P p':=fun h=>by
     rw[h,hb']at hb;simp at hb;subst hb;exact e (hp.inj hp')
    rw[beq_eq_false_iff_ne.mpr h1,beq_eq_false_iff_ne.mpr h2]
  |cont id' k ws _ q1' q2' q3' u wp hj' hb'=>
   refine beq_eq_false_iff_ne.mpr fun e=>?_
   rw[<-e,hb,hx]at hb';simp at hb'
 |cont id k ws _ q1 q2 q3 u wp hj hb=>
  cases h' with
  |lam sh' id' n' r' l' env' _ q1' q2' q3' xl' xb' pf' hj' hb'=>
   refine beq_eq_false_iff_ne.mpr fun e=>?_
   rw[<-e,hb]at hb';simp at hb'
  |prim p x hb' hp=>
   refine beq_eq_false_iff_ne.mpr fun e=>?_
   rw[<-e,hb]at hb';obtain⟨hf,q,rfl⟩:=hp.form;simp at hb'
  |cont id' k' ws' _ q1' q2' q3' u' wp' hj' hb'=>exact i.jinj hj hj'
end
section
open Sc
theorem VRep.same{G:Gh}{S:Sub}{m:Mc}{w:World}(i:Inv G S m w){v u:Vl}{x y:Value}(h:VRep G v x)(h':VRep G u y):(binOp .eql 116 x y).run prog w=.ok (.bool (eq v u)) w:=by
 cases h with
 |num n h0 h1=>
  cases h' with
  |num n' _ _=>exact qst _ _ w
  |proc v b h=>rw[qaw _ _ _ _ (by decide)];cases h <;> rfl
  |_=>exact qaw _ _ _ _ (by decide) w
 |bool b=>
  cases h' with
  |bool b'=>exact qdd _ _ w
  |proc v b h=>rw[qaw _ _ _ _ (by decide)];cases h <;> rfl
  |_=>exact qaw _ _ _ _ (by decide) w
 |str t _=>
  cases h' with
  |str t' _=>rw[qss,qe1];rfl
  |proc v b h=>rw[qaw _ _ _ _ (by decide)];cases h <;> rfl
  |_=>exact qaw _ _ _ _ (by decide) w
 |sym t _=>
  cases h' with
  |sym t' _=>rw[qsr,qe1];rfl
  |proc v b h=>rw[qaw _ _ _ _ (by decide)];cases h <;> rfl
  |_=>exact qaw _ _ _ _ (by decide) w
 |nil=>
  cases h' with
  |nil=>exact qkv w
  |proc v b h=>rw[qaw _ _ _ _ (by decide)];cases h <;> rfl
  |_=>exact qaw _ _ _ _ (by decide) w
 |none=>
  cases h' with
  |none=>exact qpe w
  |proc v b h=>rw[qaw _ _ _ _ (by decide)];cases h <;> rfl
  |_=>exact qaw _ _ _ _ (by decide) w
 |pair id b _ _ _ _ hj hb=>
  cases h' with
  |pair id' b' _ _ _ _ hj' hb'=>rw[qsw _ _ w (i.imm hb) (i.imm hb'),i.jinj hj hj'];rfl
  |proc v b h=>rw[qaw _ _ _ _ (by decide)];cases h <;> rfl
  |_=>exact qaw _ _ _ _ (by decide) w
 |proc v b hq=>
  cases h' with
  |proc u b' hq'=>
   obtain⟨z,hz⟩:=hq.cells;obtain⟨z',hz'⟩:=hq'.cells;rw[qsv _ _ w (i.imm hz) (i.imm hz'),hq.same i hq']
  |_=>rw[qaw _ _ _ _ (by decide)];cases hq <;> rfl
 |«seal» id b q v x hj hb=>
  cases h' with
  |«seal» id' b' q' v' x' hj' hb'=>rw[qd4 _ _ w (i.imm hb) (i.imm hb'),i.jinj hj hj'];rfl
  |sealD id' b' q1 q2 d e hj' hb'=>
   rw[qd4 _ _ w (i.imm hb) (i.imm hb')];have:b≠b':=fun e=>by rw[<-e,hb]at hb';simp at hb'
   rw[beq_eq_false_iff_ne.mpr this];rfl
  |proc v b h=>rw[qaw _ _ _ _ (by decide)];cases h <;> rfl
  |_=>exact qaw _ _ _ _ (by decide) w
 |sealD id b q1 q2 d e hj hb=>
  cases h' with
  |«seal» id' b' q' v' x' hj' hb'=>
   rw[qd4 _ _ w (i.imm hb) (i.imm hb')];have:b≠b':=fun e=>by rw[<-e,hb]at hb';simp at hb'
   rw[beq_eq_false_iff_ne.mpr this];rfl
  |sealD id' b' q1' q2' d' e' hj' hb'=>rw[qd4 _ _ w (i.imm hb) (i.imm hb'),i.jinj hj hj'];rfl
  |proc v b h=>rw[qaw _ _ _ _ (by decide)];cases h <;> rfl
  |_=>exact qaw _ _ _ _ (by decide) w
 |grant n hk=>
  cases h' with
  |grant n' hk'=>
   rw[qsu _ _ w (i.imm hk) (i.imm hk')];show _=Result.ok (Value.bool (n==n')) w;by_cases e:n=n'
   ·subst e;simp
   ·have:G.K n≠G.K n':=fun h=>by rw[h,hk']at hk;simp at hk;omega
    rw[beq_eq_false_iff_ne.mpr this,beq_eq_false_iff_ne.mpr e]
  |proc v b h=>rw[qaw _ _ _ _ (by decide)];cases h <;> rfl
  |_=>exact qaw _ _ _ _ (by decide) w
theorem eq_w(x y:Value)(b:Bool)(w:World)(h:∀w',Lk w w'->(binOp .eql 116 x y).run prog w'=.ok (.bool b) w')(t u:Nat)(x' y':Value)(hx:x=.iface t x')(hy:y=.iface u y'):Calls prog 196 #[x,y] w fun e w'=>e=.returned (.iface 181 (.bool b))/\w'=w:=by
 subst hx hy;have ha:=h w (by exact⟨rfl,rfl,rfl,rfl⟩);clear h;go_enter func196,ntmps196
 go_wp2;go_ret;exact⟨rfl,rfl⟩
theorem eq_work{S:Sub}(m:Mc)(H:Gh)(w:World)(v u:Vl)(x y:Value)(i:Inv H S m w)(hv:VRep H v x)(hu:VRep H u y):Calls prog 196 (#[x,y]++#[]) w (WorkOk H S (value S m .eqQ [v,u])):=by
 obtain⟨t,x',rfl⟩:=hv.form;obtain⟨s,y',rfl⟩:=hu.form;refine Calls.mono (eq_w _ _ (eq v u) w (fun w' hw=>(hv.same (Inv.lk hw i) hu)) _ _ _ _ rfl rfl) ?_;rintro e w' ⟨rfl,rfl⟩;exact WorkOk.bool rfl i
end
section
open Sc
theorem LRow.two{G:Gh}{h:Array Obj}{sa:Option Addr}{sc:Nat}{v u:Vl}(hr:LRow G h (.slice sa 2 sc) [v,u]):∃g o arr x y,sa=some ⟨g,o,none⟩/\2<=sc/\2<=1000000/\h[g]? =some (.cells arr 116 (0,0))/\g∉G.mut/\G.I g=none/\arr[o]? =some x/\VRep G v x/\arr[o+1]? =some y/\VRep G u y:=by
 rcases hr with⟨h,_⟩|⟨g,o,cap,arr,e,hne,hc1,hc2,hg,hgm,hgi,hgf,hx⟩
 ·simp at h
 ·cases e;obtain⟨x,h1,h2⟩:=hx 0 v rfl;obtain⟨y,h3,h4⟩:=hx 1 u rfl;exact⟨g,o,arr,x,y,rfl,by simpa using hc1,hc2,hg,hgm,hgi,h1,h2,h3,h4⟩
theorem qbz{S:Sub}{n:Nat}(p:Pm)(f:Nat)(cw:Array Value)(ef:Eg f)(hk0:p.kinds=[.any,.any])(hg0:p.grant=0)(hil:p.isList=false)(hc:Plain S p)
  (G:Gh)(m:Mc)(w:World)(al:List Vl)(k:List Fr)(q ku tq:Nat)(cu:Array Value)(sa:Option Addr)(sn sc:Nat)
  (hwork:∀(H:Gh) (w':World) (v u:Vl) (x y:Value),G.up H->Inv H S m w'->VRep H v x->VRep H u y->Calls prog f (#[x,y]++cw) w' (WorkOk H S (value S m p [v,u])))
  (i:Inv G S m w)(hq:G.I q=some (.cells #[.func (.func f) #[] cw] tq (0,0)))(hk:FRep G k (.func (.func ku) #[] cu))(hr:LRow G w.heap (.slice sa sn sc) al)(he:Ct.ended (go S (n+1) (.ap (.prim p) al k) m).1=true):
  Calls prog 270 (#[.slice sa sn sc,.func (.func ku) #[] cu]++#[bp q]) w (PostS G S (n+1) (.ap (.prim p) al k) m):=by
 have hsn:sn=al.length:=by
  rcases hr with⟨rfl,a,cap,h⟩|⟨g,o,cap,arr,h,_⟩
  ·cases h;rfl
  ·cases h;rfl
 by_cases hlen:sn=2
 ·subst hlen;obtain⟨v,u,rfl⟩:∃v u,al=[v,u]:=by
   match al,hsn with
   | [a,b],_=>exact⟨a,b,rfl⟩
  obtain⟨g,o,arr,x,y,rfl,hc1,hc2,hg,hgm,hgi,hx1,hv,hy1,hu⟩:=hr.two;have hcar:Sc.next S (.ap (.prim p) [v,u] k) m=(match value S m p [v,u]with
    |(.error e,m)=>(.stop e,m)
    |(.ok v,m)=>(.ret v k,m)):=by
   show carry S (.prim p) [v,u] k m=_;rw[hc];simp[hk0,hg0,hil,Kd.ok] <;> rfl
  obtain⟨t,x',rfl⟩:=hv.form;obtain⟨s,y',rfl⟩:=hu.form;obtain⟨kk,ck,hku,egu⟩:=hk.isF;cases hku;refine qnf g o sc q f ku t s x' y' cw cu w _ ef egu PostS.ends hv.vty hu.vty (by simp only[World.cell?,hg];simpa using hx1) (by simp only[World.cell?,hg];simpa using hy1) (by rw[i.cell hq];rfl) ?_;intro w' hw;refine Calls.mono (hwork _ w' v u _ _ (Gh.up.refl G) (Inv.lk hw i) hv hu) ?_;rintro e w1 (⟨H,v',m',z,e1,rfl,hu,hi,hx'⟩|⟨vd,m',e1,rfl,hcn⟩)
  ·rw[e1]at hcar;rw[qan hcar rfl]at he;obtain⟨t',z',rfl⟩:=hx'.form;refine .inl ⟨t',z',rfl,fun w2 hw2=>?_⟩;exact Calls.mono ((qav S n).2 H m' w2 v' k _ ku cu (Inv.lk hw2 hi) hx' (hk.mono hu.le) he) fun e w p=>Post.stepS hcar rfl hu p
  ·rw[e1]at hcar;exact .inr ⟨⟨_,rfl⟩,Post.stepS hcar rfl (Gh.up.refl _) (Post.now (.stop vd m' w1 hcn))⟩
 ·have hnx:Sc.next S (.ap (.prim p) al k) m=(.stop 7,m):=by
   show carry S (.prim p) al k m=_;rw[hc];have:al.length≠2:=by omega
   simp[hk0,hil,this]
  obtain⟨xs,_,hxl,_,_,_,hx6⟩:=hr.vals;refine Calls.mono (qlc sa sn sc q ku cu w (by omega) hlen) ?_;rintro e w' ⟨rfl,o',rfl⟩;exact Post.stepS hnx rfl (Gh.up.refl G) (Post.now (.stop 7 _ _ (i.cntB (Nat.le_refl _) ((Below.refl _ _).alloc (Nat.le_refl _) _))))
end
section
open Sc
theorem cons_ok(r mb cb tx ty:Nat)(t mo:Int)(x y:Value)(w:World)
  (h1:w.cell? ⟨r,0,none⟩=some (.pointer (some ⟨mb,0,none⟩)))(h2:w.cell? ⟨mb,1,none⟩=some (.pointer (some ⟨cb,0,none⟩)))(hM:Mt cb t mo 11 w)(h0:0<=t)(ht:t+1<=mo)(hm:mo<=1000000):
  Calls prog 199 #[.iface tx x,.iface ty y,.pointer (some ⟨r,0,none⟩)] w fun e w'=>e=.returned (.iface 246 (.pointer (some ⟨w.heap.size,0,none⟩)))/\Lk ((w.setCell ⟨cb,0,none⟩ (.int .i64 (t+1))).alloc (.cells #[.iface tx x,.iface ty y] 252)) w':=by
 have HT:=hZ (qba cb t mo 11 1 w hM h0 ht (by omega) hm);clear hM;go_enter func199,ntmps199
 go_wp2_with (go_at_call 200;refine HT.out.mono ?_;rintro e w2 ⟨rfl,n,rfl⟩)
 go_wp2;go_ret;exact⟨rfl,⟨rfl,rfl,rfl,rfl⟩⟩
theorem qs6(r mb cb tx ty:Nat)(t:Int)(x y:Value)(w:World)
  (h1:w.cell? ⟨r,0,none⟩=some (.pointer (some ⟨mb,0,none⟩)))(h2:w.cell? ⟨mb,1,none⟩=some (.pointer (some ⟨cb,0,none⟩)))(hM:Mt cb t t 11 w)(h0:0<=t)(hm:t<=1000000):
  Calls prog 199 #[.iface tx x,.iface ty y,.pointer (some ⟨r,0,none⟩)] w fun e w'=>e=.panicked (stopP (stopV 11))/\Below w.heap.size (w.setCell ⟨cb,0,none⟩ (.int .i64 t)) w':=by
 have HT:=hZ (qa1 cb t t 11 1 w hM h0 (by omega) (by omega) (by omega) hm);clear hM;go_enter func199,ntmps199
 go_wp2_with (go_at_call 200;refine HT.out.mono ?_;rintro e w2 ⟨rfl,hb⟩)
 exact⟨rfl,rfl,hb⟩
end
section
open Sc
theorem qp0{S:Sub}(m:Mc)(H:Gh)(w:World)(v u:Vl)(x y:Value)(r:Nat)(hr:H.mbox r)(i:Inv H S m w)(hv:VRep H v x)(hu:VRep H u y):Calls prog 199 (#[x,y]++#[bp r]) w (WorkOk H S (value S m .cons [v,u])):=by
 have c1:w.cell? ⟨r,0,none⟩=some (.pointer (some ⟨H.mb,0,none⟩)):=by rw[i.cell hr];rfl
 obtain⟨t,x',rfl⟩:=hv.form;obtain⟨s,y',rfl⟩:=hu.form;by_cases hce:(m.cells:Int)<S.quota
 ·have ic:=i.cells (m.cells+1) (by push_cast;omega);have ic:Inv H S {m with cells:=m.cells+1} (w.setCell ⟨H.cb,0,none⟩ (.int .i64 ((m.cells:Int)+1))):=by simpa using ic
  refine Calls.mono (cons_ok r H.mb H.cb t s m.cells S.quota x' y' w c1 i.mb1 i.ce (by omega) (by omega) (by have:=i.cl.2;omega)) ?_;rintro e w' ⟨rfl,hw⟩;have io:=ic.newObj (.cells #[.iface t x',.iface s y'] 252);have xo:=ic.ext_newObj (.cells #[.iface t x',.iface s y'] 252);have ao:=ic.at_newObj (.cells #[.iface t x',.iface s y'] 252);have hz0:(w.setCell ⟨H.cb,0,none⟩ (.int .i64 ((m.cells:Int)+1))).heap.size=w.heap.size:=qaf;rw[hz0]at io xo ao;exact .inl ⟨_,_,_,_,by simp[value,new,Sc.cell,hce],rfl,xo.up,Inv.lk hw io,.pair m.ids w.heap.size v u _ _ ao (Gh.add_at _ _ _) (hv.mono xo.le) (hu.mono xo.le)⟩
 ·have hm:(m.cells:Int)=S.quota:=by have:(m.cells:Int)<=S.quota:=i.cl.1;omega
  have hM:Mt H.cb m.cells S.quota 11 w:=i.ce;rw[<-hm]at hM;refine Calls.mono (qs6 r H.mb H.cb t s m.cells x' y' w c1 i.mb1 hM (by omega) (by have:=i.cl.2;omega)) ?_;rintro e w' ⟨rfl,hb⟩;have i1:=i.cells m.cells (by omega);exact .inr ⟨11,m,by simp[value,new,Sc.cell,hce],rfl,i1.cntB (by rw[qaf];exact Nat.le_refl _) hb⟩
end
section
open Sc
theorem VRep.as271{G:Gh}{v:Vl}{t:Nat}{y:Value}(h:VRep G v (.iface t y)):(t=246/\∃b:Nat,y=bp b/\∃id v0 v1,v=.pair id v0 v1)\/(t≠246/\Kd.ok .pair v=false):=by
 cases h with
 |pair id b v0 v1 x0 x1 hj hb h1 h2=>exact .inl ⟨rfl,b,rfl,id,v0,v1,rfl⟩
 |proc v b h=>right;refine⟨by decide,?_⟩;cases h <;> rfl
 |_=>exact .inr ⟨by decide,rfl⟩
theorem qdz{S:Sub}{n:Nat}(p:Pm)(f:Nat)(cw:Array Value)(ef:Eg f)(hk0:p.kinds=[.pair])(hg0:p.grant=0)(hil:p.isList=false)(hc:Plain S p)
  (G:Gh)(m:Mc)(w:World)(al:List Vl)(k:List Fr)(q ku tq:Nat)(cu:Array Value)(sa:Option Addr)(sn sc:Nat)
  (hwork:∀(H:Gh) (w':World) (v:Vl) (b:Nat),G.up H->Inv H S m w'->VRep H v (.iface 246 (bp b))->Calls prog f (#[bp b]++cw) w' (WorkOk H S (value S m p [v])))
  (i:Inv G S m w)(hq:G.I q=some (.cells #[.func (.func f) #[] cw] tq (0,0)))(hk:FRep G k (.func (.func ku) #[] cu))(hr:LRow G w.heap (.slice sa sn sc) al)(he:Ct.ended (go S (n+1) (.ap (.prim p) al k) m).1=true):
  Calls prog 271 (#[.slice sa sn sc,.func (.func ku) #[] cu]++#[bp q]) w (PostS G S (n+1) (.ap (.prim p) al k) m):=by
 have hsn:sn=al.length:=by
  rcases hr with⟨rfl,a,cap,h⟩|⟨g,o,cap,arr,h,_⟩
  ·cases h;rfl
  ·cases h;rfl
 by_cases hlen:sn=1
 ·subst hlen;obtain⟨v,rfl⟩:∃v,al=[v]:=by
   match al,hsn with
   | [a],_=>exact⟨a,rfl⟩
  obtain⟨g,o,arr,x,rfl,hc1,hc2,hg,hgm,hgi,hx1,hv⟩:=hr.one;have i1:=i.fix hgm hgi hg;have U1:G.up (G.add g (.cells arr 116)):=⟨Gh.le_add hgi,rfl,rfl⟩;obtain⟨t,y,rfl⟩:=hv.form;obtain⟨kk,ck,hku,egu⟩:=hk.isF;cases hku;have qap:∀(w':World),(∀{b:Nat} {ob:Obj},(G.add g (.cells arr 116)).I b=some ob->w'.heap[b]? =some ob)->w'.cell? ⟨g,o,none⟩=some (.iface t y)/\w'.cell? ⟨q,0,none⟩=some (.func (.func f) #[] cw):=fun w' hw'=>by
   refine⟨?_,?_⟩
   ·simp only[World.cell?,hw' (Gh.add_at G g (.cells arr 116))];simpa using hx1
   ·simp[World.cell?,hw' (U1.le.I hq)]
  rcases hv.as271 with⟨rfl,b,rfl,hsh⟩|⟨ht,hko⟩
  ·have hko:Kd.ok .pair v=true:=by
    cases hv with
    |_=>rfl
   have hcar:Sc.next S (.ap (.prim p) [v] k) m=(match value S m p [v]with
     |(.error e,m)=>(.stop e,m)
     |(.ok v,m)=>(.ret v k,m)):=by
    show carry S (.prim p) [v] k m=_;rw[hc];simp[hk0,hg0,hil,hko] <;> rfl
   refine Calls.mono (R:=PostS (G.add g (.cells arr 116)) S (n+1) (.ap (.prim p) [v] k) m) ?_ (fun e w h=>h.up U1);refine qoj g o sc q f ku b cw cu w _ ef egu PostS.ends (fun v w' p=>qap w' fun hb=>p.keeps hb) (qap w fun hb=>i1.imm hb).1 (qap w fun hb=>i1.imm hb).2 ?_;intro w' hw;refine Calls.mono (hwork _ w' v b U1 (Inv.lk hw i1) (hv.mono U1.le)) ?_;rintro e w1 (⟨H,v',m',x',e1,rfl,hu,hi,hx'⟩|⟨vd,m',e1,rfl,hcn⟩)
   ·rw[e1]at hcar;rw[qan hcar rfl]at he;obtain⟨t',y',rfl⟩:=hx'.form;refine .inl ⟨t',y',rfl,qap w1 fun hb=>hi.imm (hu.le.I hb),fun w2 hw2=>?_⟩;exact Calls.mono ((qav S n).2 H m' w2 v' k _ ku cu (Inv.lk hw2 hi) hx' ((hk.mono U1.le).mono hu.le) he) fun e w p=>Post.stepS hcar rfl hu p
   ·rw[e1]at hcar;exact .inr ⟨⟨_,rfl⟩,Post.stepS hcar rfl (Gh.up.refl _) (Post.now (.stop vd m' w1 hcn))⟩
  ·have hnx:Sc.next S (.ap (.prim p) [v] k) m=(.stop 6,m):=by
    show carry S (.prim p) [v] k m=_;rw[hc];simp[hk0,hg0,hil,hko]
   refine Calls.mono (ql1 g o sc q f ku t y cw cu w ef egu ht (qap w fun hb=>i1.imm hb).1 (qap w fun hb=>i1.imm hb).2) ?_;rintro e w' ⟨rfl,hb⟩;exact Post.stepS hnx rfl (Gh.up.refl G) (Post.now (.stop 6 _ _ (i.cntB (Nat.le_refl _) hb)))
 ·have hnx:Sc.next S (.ap (.prim p) al k) m=(.stop 7,m):=by
   show carry S (.prim p) al k m=_;rw[hc];have:al.length≠1:=by omega
   simp[hk0,hil,this]
  obtain⟨xs,_,hxl,_,_,_,hx6⟩:=hr.vals;refine Calls.mono (ql2 sa sn sc q ku cu w (by omega) hlen) ?_;rintro e w' ⟨rfl,o',rfl⟩;exact Post.stepS hnx rfl (Gh.up.refl G) (Post.now (.stop 7 _ _ (i.cntB (Nat.le_refl _) ((Below.refl _ _).alloc (Nat.le_refl _) _))))
theorem VRep.as276{G:Gh}{v:Vl}{t:Nat}{y:Value}(h:VRep G v (.iface t y)):(t=182/\∃b:ByteArray,y=.string b/\v=.str b.data.toList)\/(t≠182/\Kd.ok .str v=false):=by
 cases h with
 |str s _=>exact .inl ⟨rfl,s,rfl,rfl⟩
 |proc v b h=>right;refine⟨by decide,?_⟩;cases h <;> rfl
 |_=>exact .inr ⟨by decide,rfl⟩
theorem qh7{S:Sub}{n:Nat}(p:Pm)(f:Nat)(cw:Array Value)(ef:Eg f)(hk0:p.kinds=[.str])(hg0:p.grant=0)(hil:p.isList=false)(hc:Plain S p)
  (G:Gh)(m:Mc)(w:World)(al:List Vl)(k:List Fr)(q ku tq:Nat)(cu:Array Value)(sa:Option Addr)(sn sc:Nat)
  (hwork:∀(H:Gh) (w':World) (v:Vl) (b:ByteArray),G.up H->Inv H S m w'->VRep H v (.iface 182 (.string b))->Calls prog f (#[.string b]++cw) w' (WorkOk H S (value S m p [v])))
  (i:Inv G S m w)(hq:G.I q=some (.cells #[.func (.func f) #[] cw] tq (0,0)))(hk:FRep G k (.func (.func ku) #[] cu))(hr:LRow G w.heap (.slice sa sn sc) al)(he:Ct.ended (go S (n+1) (.ap (.prim p) al k) m).1=true):
  Calls prog 276 (#[.slice sa sn sc,.func (.func ku) #[] cu]++#[bp q]) w (PostS G S (n+1) (.ap (.prim p) al k) m):=by
 have hsn:sn=al.length:=by
  rcases hr with⟨rfl,a,cap,h⟩|⟨g,o,cap,arr,h,_⟩
  ·cases h;rfl
  ·cases h;rfl
 by_cases hlen:sn=1
 ·subst hlen;obtain⟨v,rfl⟩:∃v,al=[v]:=by
   match al,hsn with
   | [a],_=>exact⟨a,rfl⟩
  obtain⟨g,o,arr,x,rfl,hc1,hc2,hg,hgm,hgi,hx1,hv⟩:=hr.one;have i1:=i.fix hgm hgi hg;have U1:G.up (G.add g (.cells arr 116)):=⟨Gh.le_add hgi,rfl,rfl⟩;obtain⟨t,y,rfl⟩:=hv.form;obtain⟨kk,ck,hku,egu⟩:=hk.isF;cases hku;have qap:∀(w':World),(∀{b:Nat} {ob:Obj},(G.add g (.cells arr 116)).I b=some ob->w'.heap[b]? =some ob)->w'.cell? ⟨g,o,none⟩=some (.iface t y)/\w'.cell? ⟨q,0,none⟩=some (.func (.func f) #[] cw):=fun w' hw'=>by
   refine⟨?_,?_⟩
   ·simp only[World.cell?,hw' (Gh.add_at G g (.cells arr 116))];simpa using hx1
   ·simp[World.cell?,hw' (U1.le.I hq)]
  rcases hv.as276 with⟨rfl,b,rfl,hsh⟩|⟨ht,hko⟩
  ·have hko:Kd.ok .str v=true:=by
    cases hv with
    |_=>rfl
   have hcar:Sc.next S (.ap (.prim p) [v] k) m=(match value S m p [v]with
     |(.error e,m)=>(.stop e,m)
     |(.ok v,m)=>(.ret v k,m)):=by
    show carry S (.prim p) [v] k m=_;rw[hc];simp[hk0,hg0,hil,hko] <;> rfl
   refine Calls.mono (R:=PostS (G.add g (.cells arr 116)) S (n+1) (.ap (.prim p) [v] k) m) ?_ (fun e w h=>h.up U1);refine qoi g o sc q f ku b cw cu w _ ef egu PostS.ends (fun v w' p=>qap w' fun hb=>p.keeps hb) (qap w fun hb=>i1.imm hb).1 (qap w fun hb=>i1.imm hb).2 ?_;intro w' hw;refine Calls.mono (hwork _ w' v b U1 (Inv.lk hw i1) (hv.mono U1.le)) ?_;rintro e w1 (⟨H,v',m',x',e1,rfl,hu,hi,hx'⟩|⟨vd,m',e1,rfl,hcn⟩)
   ·rw[e1]at hcar;rw[qan hcar rfl]at he;obtain⟨t',y',rfl⟩:=hx'.form;refine .inl ⟨t',y',rfl,qap w1 fun hb=>hi.imm (hu.le.I hb),fun w2 hw2=>?_⟩;exact Calls.mono ((qav S n).2 H m' w2 v' k _ ku cu (Inv.lk hw2 hi) hx' ((hk.mono U1.le).mono hu.le) he) fun e w p=>Post.stepS hcar rfl hu p
   ·rw[e1]at hcar;exact .inr ⟨⟨_,rfl⟩,Post.stepS hcar rfl (Gh.up.refl _) (Post.now (.stop vd m' w1 hcn))⟩
  ·have hnx:Sc.next S (.ap (.prim p) [v] k) m=(.stop 6,m):=by
    show carry S (.prim p) [v] k m=_;rw[hc];simp[hk0,hg0,hil,hko]
   refine Calls.mono (qlz g o sc q f ku t y cw cu w ef egu ht (qap w fun hb=>i1.imm hb).1 (qap w fun hb=>i1.imm hb).2) ?_;rintro e w' ⟨rfl,hb⟩;exact Post.stepS hnx rfl (Gh.up.refl G) (Post.now (.stop 6 _ _ (i.cntB (Nat.le_refl _) hb)))
 ·have hnx:Sc.next S (.ap (.prim p) al k) m=(.stop 7,m):=by
   show carry S (.prim p) al k m=_;rw[hc];have:al.length≠1:=by omega
   simp[hk0,hil,this]
  obtain⟨xs,_,hxl,_,_,_,hx6⟩:=hr.vals;refine Calls.mono (ql0 sa sn sc q ku cu w (by omega) hlen) ?_;rintro e w' ⟨rfl,o',rfl⟩;exact Post.stepS hnx rfl (Gh.up.refl G) (Post.now (.stop 7 _ _ (i.cntB (Nat.le_refl _) ((Below.refl _ _).alloc (Nat.le_refl _) _))))
theorem VRep.as277{G:Gh}{v:Vl}{t:Nat}{y:Value}(h:VRep G v (.iface t y)):(t=180/\∃b:Int,y=.int .i64 b/\v=.num b/\-9223372036854775808<=b/\b<=9223372036854775807)\/(t≠180/\Kd.ok .num v=false):=by
 cases h with
 |num n h0 h1=>exact .inl ⟨rfl,n,rfl,rfl,h0,h1⟩
 |proc v b h=>right;refine⟨by decide,?_⟩;cases h <;> rfl
 |_=>exact .inr ⟨by decide,rfl⟩
theorem qh6{S:Sub}{n:Nat}(p:Pm)(f:Nat)(cw:Array Value)(ef:Eg f)(hk0:p.kinds=[.num])(hg0:p.grant=0)(hil:p.isList=false)(hc:Plain S p)
  (G:Gh)(m:Mc)(w:World)(al:List Vl)(k:List Fr)(q ku tq:Nat)(cu:Array Value)(sa:Option Addr)(sn sc:Nat)
  (hwork:∀(H:Gh) (w':World) (v:Vl) (b:Int),G.up H->Inv H S m w'->VRep H v (.iface 180 (.int .i64 b))->Calls prog f (#[.int .i64 b]++cw) w' (WorkOk H S (value S m p [v])))
  (i:Inv G S m w)(hq:G.I q=some (.cells #[.func (.func f) #[] cw] tq (0,0)))(hk:FRep G k (.func (.func ku) #[] cu))(hr:LRow G w.heap (.slice sa sn sc) al)(he:Ct.ended (go S (n+1) (.ap (.prim p) al k) m).1=true):
  Calls prog 277 (#[.slice sa sn sc,.func (.func ku) #[] cu]++#[bp q]) w (PostS G S (n+1) (.ap (.prim p) al k) m):=by
 have hsn:sn=al.length:=by
  rcases hr with⟨rfl,a,cap,h⟩|⟨g,o,cap,arr,h,_⟩
  ·cases h;rfl
  ·cases h;rfl
 by_cases hlen:sn=1
 ·subst hlen;obtain⟨v,rfl⟩:∃v,al=[v]:=by
   match al,hsn with
   | [a],_=>exact⟨a,rfl⟩
  obtain⟨g,o,arr,x,rfl,hc1,hc2,hg,hgm,hgi,hx1,hv⟩:=hr.one;have i1:=i.fix hgm hgi hg;have U1:G.up (G.add g (.cells arr 116)):=⟨Gh.le_add hgi,rfl,rfl⟩;obtain⟨t,y,rfl⟩:=hv.form;obtain⟨kk,ck,hku,egu⟩:=hk.isF;cases hku;have qap:∀(w':World),(∀{b:Nat} {ob:Obj},(G.add g (.cells arr 116)).I b=some ob->w'.heap[b]? =some ob)->w'.cell? ⟨g,o,none⟩=some (.iface t y)/\w'.cell? ⟨q,0,none⟩=some (.func (.func f) #[] cw):=fun w' hw'=>by
   refine⟨?_,?_⟩
   ·simp only[World.cell?,hw' (Gh.add_at G g (.cells arr 116))];simpa using hx1
   ·simp[World.cell?,hw' (U1.le.I hq)]
  rcases hv.as277 with⟨rfl,b,rfl,hsh⟩|⟨ht,hko⟩
  ·have hko:Kd.ok .num v=true:=by
    cases hv with
    |_=>rfl
   have hcar:Sc.next S (.ap (.prim p) [v] k) m=(match value S m p [v]with
     |(.error e,m)=>(.stop e,m)
     |(.ok v,m)=>(.ret v k,m)):=by
    show carry S (.prim p) [v] k m=_;rw[hc];simp[hk0,hg0,hil,hko] <;> rfl
   refine Calls.mono (R:=PostS (G.add g (.cells arr 116)) S (n+1) (.ap (.prim p) [v] k) m) ?_ (fun e w h=>h.up U1);refine qoh g o sc q f ku b cw cu w _ ef egu PostS.ends (fun v w' p=>qap w' fun hb=>p.keeps hb) (qap w fun hb=>i1.imm hb).1 (qap w fun hb=>i1.imm hb).2 ?_;intro w' hw;refine Calls.mono (hwork _ w' v b U1 (Inv.lk hw i1) (hv.mono U1.le)) ?_;rintro e w1 (⟨H,v',m',x',e1,rfl,hu,hi,hx'⟩|⟨vd,m',e1,rfl,hcn⟩)
   ·rw[e1]at hcar;rw[qan hcar rfl]at he;obtain⟨t',y',rfl⟩:=hx'.form;refine .inl ⟨t',y',rfl,qap w1 fun hb=>hi.imm (hu.le.I hb),fun w2 hw2=>?_⟩;exact Calls.mono ((qav S n).2 H m' w2 v' k _ ku cu (Inv.lk hw2 hi) hx' ((hk.mono U1.le).mono hu.le) he) fun e w p=>Post.stepS hcar rfl hu p
   ·rw[e1]at hcar;exact .inr ⟨⟨_,rfl⟩,Post.stepS hcar rfl (Gh.up.refl _) (Post.now (.stop vd m' w1 hcn))⟩
  ·have hnx:Sc.next S (.ap (.prim p) [v] k) m=(.stop 6,m):=by
    show carry S (.prim p) [v] k m=_;rw[hc];simp[hk0,hg0,hil,hko]
   refine Calls.mono (qlx g o sc q f ku t y cw cu w ef egu ht (qap w fun hb=>i1.imm hb).1 (qap w fun hb=>i1.imm hb).2) ?_;rintro e w' ⟨rfl,hb⟩;exact Post.stepS hnx rfl (Gh.up.refl G) (Post.now (.stop 6 _ _ (i.cntB (Nat.le_refl _) hb)))
 ·have hnx:Sc.next S (.ap (.prim p) al k) m=(.stop 7,m):=by
   show carry S (.prim p) al k m=_;rw[hc];have:al.length≠1:=by omega
   simp[hk0,hil,this]
  obtain⟨xs,_,hxl,_,_,_,hx6⟩:=hr.vals;refine Calls.mono (qly sa sn sc q ku cu w (by omega) hlen) ?_;rintro e w' ⟨rfl,o',rfl⟩;exact Post.stepS hnx rfl (Gh.up.refl G) (Post.now (.stop 7 _ _ (i.cntB (Nat.le_refl _) ((Below.refl _ _).alloc (Nat.le_refl _) _))))
theorem VRep.as278{G:Gh}{v:Vl}{t:Nat}{y:Value}(h:VRep G v (.iface t y)):(t=183/\∃b:ByteArray,y=.string b/\v=.sym b.data.toList)\/(t≠183/\Kd.ok .sym v=false):=by
 cases h with
 |sym s _=>exact .inl ⟨rfl,s,rfl,rfl⟩
 |proc v b h=>right;refine⟨by decide,?_⟩;cases h <;> rfl
 |_=>exact .inr ⟨by decide,rfl⟩
theorem qh5{S:Sub}{n:Nat}(p:Pm)(f:Nat)(cw:Array Value)(ef:Eg f)(hk0:p.kinds=[.sym])(hg0:p.grant=0)(hil:p.isList=false)(hc:Plain S p)
  (G:Gh)(m:Mc)(w:World)(al:List Vl)(k:List Fr)(q ku tq:Nat)(cu:Array Value)(sa:Option Addr)(sn sc:Nat)
  (hwork:∀(H:Gh) (w':World) (v:Vl) (b:ByteArray),G.up H->Inv H S m w'->VRep H v (.iface 183 (.string b))->Calls prog f (#[.string b]++cw) w' (WorkOk H S (value S m p [v])))
  (i:Inv G S m w)(hq:G.I q=some (.cells #[.func (.func f) #[] cw] tq (0,0)))(hk:FRep G k (.func (.func ku) #[] cu))(hr:LRow G w.heap (.slice sa sn sc) al)(he:Ct.ended (go S (n+1) (.ap (.prim p) al k) m).1=true):
  Calls prog 278 (#[.slice sa sn sc,.func (.func ku) #[] cu]++#[bp q]) w (PostS G S (n+1) (.ap (.prim p) al k) m):=by
 have hsn:sn=al.length:=by
  rcases hr with⟨rfl,a,cap,h⟩|⟨g,o,cap,arr,h,_⟩
  ·cases h;rfl
  ·cases h;rfl
 by_cases hlen:sn=1
 ·subst hlen;obtain⟨v,rfl⟩:∃v,al=[v]:=by
   match al,hsn with
   | [a],_=>exact⟨a,rfl⟩
  obtain⟨g,o,arr,x,rfl,hc1,hc2,hg,hgm,hgi,hx1,hv⟩:=hr.one;have i1:=i.fix hgm hgi hg;have U1:G.up (G.add g (.cells arr 116)):=⟨Gh.le_add hgi,rfl,rfl⟩;obtain⟨t,y,rfl⟩:=hv.form;obtain⟨kk,ck,hku,egu⟩:=hk.isF;cases hku;have qap:∀(w':World),(∀{b:Nat} {ob:Obj},(G.add g (.cells arr 116)).I b=some ob->w'.heap[b]? =some ob)->w'.cell? ⟨g,o,none⟩=some (.iface t y)/\w'.cell? ⟨q,0,none⟩=some (.func (.func f) #[] cw):=fun w' hw'=>by
   refine⟨?_,?_⟩
   ·simp only[World.cell?,hw' (Gh.add_at G g (.cells arr 116))];simpa using hx1
   ·simp[World.cell?,hw' (U1.le.I hq)]
  rcases hv.as278 with⟨rfl,b,rfl,hsh⟩|⟨ht,hko⟩
  ·have hko:Kd.ok .sym v=true:=by
    cases hv with
    |_=>rfl
   have hcar:Sc.next S (.ap (.prim p) [v] k) m=(match value S m p [v]with
     |(.error e,m)=>(.stop e,m)
     |(.ok v,m)=>(.ret v k,m)):=by
    show carry S (.prim p) [v] k m=_;rw[hc];simp[hk0,hg0,hil,hko] <;> rfl
   refine Calls.mono (R:=PostS (G.add g (.cells arr 116)) S (n+1) (.ap (.prim p) [v] k) m) ?_ (fun e w h=>h.up U1);refine qog g o sc q f ku b cw cu w _ ef egu PostS.ends (fun v w' p=>qap w' fun hb=>p.keeps hb) (qap w fun hb=>i1.imm hb).1 (qap w fun hb=>i1.imm hb).2 ?_;intro w' hw;refine Calls.mono (hwork _ w' v b U1 (Inv.lk hw i1) (hv.mono U1.le)) ?_;rintro e w1 (⟨H,v',m',x',e1,rfl,hu,hi,hx'⟩|⟨vd,m',e1,rfl,hcn⟩)
   ·rw[e1]at hcar;rw[qan hcar rfl]at he;obtain⟨t',y',rfl⟩:=hx'.form;refine .inl ⟨t',y',rfl,qap w1 fun hb=>hi.imm (hu.le.I hb),fun w2 hw2=>?_⟩;exact Calls.mono ((qav S n).2 H m' w2 v' k _ ku cu (Inv.lk hw2 hi) hx' ((hk.mono U1.le).mono hu.le) he) fun e w p=>Post.stepS hcar rfl hu p
   ·rw[e1]at hcar;exact .inr ⟨⟨_,rfl⟩,Post.stepS hcar rfl (Gh.up.refl _) (Post.now (.stop vd m' w1 hcn))⟩
  ·have hnx:Sc.next S (.ap (.prim p) [v] k) m=(.stop 6,m):=by
    show carry S (.prim p) [v] k m=_;rw[hc];simp[hk0,hg0,hil,hko]
   refine Calls.mono (qlv g o sc q f ku t y cw cu w ef egu ht (qap w fun hb=>i1.imm hb).1 (qap w fun hb=>i1.imm hb).2) ?_;rintro e w' ⟨rfl,hb⟩;exact Post.stepS hnx rfl (Gh.up.refl G) (Post.now (.stop 6 _ _ (i.cntB (Nat.le_refl _) hb)))
 ·have hnx:Sc.next S (.ap (.prim p) al k) m=(.stop 7,m):=by
   show carry S (.prim p) al k m=_;rw[hc];have:al.length≠1:=by omega
   simp[hk0,hil,this]
  obtain⟨xs,_,hxl,_,_,_,hx6⟩:=hr.vals;refine Calls.mono (qlw sa sn sc q ku cu w (by omega) hlen) ?_;rintro e w' ⟨rfl,o',rfl⟩;exact Post.stepS hnx rfl (Gh.up.refl G) (Post.now (.stop 7 _ _ (i.cntB (Nat.le_refl _) ((Below.refl _ _).alloc (Nat.le_refl _) _))))
end
section
open Sc
theorem car_w(b t:Nat)(x:Value)(w:World)(h:w.cell? ⟨b,0,none⟩=some (.iface t x)):Calls prog 202 #[.pointer (some ⟨b,0,none⟩)] w fun e w'=>e=.returned (.iface t x)/\w'=w:=by
 go_enter func202,ntmps202
 go_wp2;go_ret;exact⟨rfl,rfl⟩
theorem cdr_w(b t:Nat)(x:Value)(w:World)(h:w.cell? ⟨b,1,none⟩=some (.iface t x)):Calls prog 203 #[.pointer (some ⟨b,0,none⟩)] w fun e w'=>e=.returned (.iface t x)/\w'=w:=by
 go_enter func203,ntmps203
 go_wp2;go_ret;exact⟨rfl,rfl⟩
theorem qs9{S:Sub}(m:Mc)(H:Gh)(w:World)(v:Vl)(b:Nat)(i:Inv H S m w)(hv:VRep H v (.iface 246 (bp b))):Calls prog 202 (#[bp b]++#[]) w (WorkOk H S (value S m .car [v])):=by
 cases hv with
 |pair id b v u x y hj hb h1 h2=>
  obtain⟨t,x',rfl⟩:=h1.form;refine Calls.mono (car_w b t x' w (by rw[i.cell hb];rfl)) ?_;rintro e w' ⟨rfl,rfl⟩;exact .inl ⟨H,v,m,_,rfl,rfl,Gh.up.refl H,i,h1⟩
theorem qs7{S:Sub}(m:Mc)(H:Gh)(w:World)(v:Vl)(b:Nat)(i:Inv H S m w)(hv:VRep H v (.iface 246 (bp b))):Calls prog 203 (#[bp b]++#[]) w (WorkOk H S (value S m .cdr [v])):=by
 cases hv with
 |pair id b v u x y hj hb h1 h2=>
  obtain⟨t,x',rfl⟩:=h2.form;refine Calls.mono (cdr_w b t x' w (by rw[i.cell hb];rfl)) ?_;rintro e w' ⟨rfl,rfl⟩;exact .inl ⟨H,u,m,_,rfl,rfl,Gh.up.refl H,i,h2⟩
theorem qqw(s:ByteArray)(w:World):Calls prog 215 #[.string s] w fun e w'=>e=.returned (.iface 180 (.int .i64 (s.size:Int)))/\w'=w:=by
 go_enter func215,ntmps215
 go_wp2;go_ret;exact⟨rfl,rfl⟩
theorem text_ok(mb cb:Nat)(s:ByteArray)(t mo:Int)(w:World)
  (h2:w.cell? ⟨mb,1,none⟩=some (.pointer (some ⟨cb,0,none⟩)))(hM:Mt cb t mo 11 w)(h0:0<=t)(ht:t+1<=mo)(hm:mo<=1000000):
  Calls prog 213 #[.pointer (some ⟨mb,0,none⟩),.string s] w fun e w'=>e=.returned (.iface 182 (.string s))/\Lk (w.setCell ⟨cb,0,none⟩ (.int .i64 (t+1))) w':=by
 have HT:=hZ (qba cb t mo 11 1 w hM h0 ht (by omega) hm);clear hM;go_enter func213,ntmps213
 go_wp2_with (go_at_call 200;refine HT.out.mono ?_;rintro e w2 ⟨rfl,n,rfl⟩)
 go_ret;exact⟨rfl,⟨rfl,rfl,rfl,rfl⟩⟩
theorem qqs(mb cb:Nat)(s:ByteArray)(t:Int)(w:World)
  (h2:w.cell? ⟨mb,1,none⟩=some (.pointer (some ⟨cb,0,none⟩)))(hM:Mt cb t t 11 w)(h0:0<=t)(hm:t<=1000000):
  Calls prog 213 #[.pointer (some ⟨mb,0,none⟩),.string s] w fun e w'=>e=.panicked (stopP (stopV 11))/\Below w.heap.size (w.setCell ⟨cb,0,none⟩ (.int .i64 t)) w':=by
 have HT:=hZ (qa1 cb t t 11 1 w hM h0 (by omega) (by omega) (by omega) hm);clear hM;go_enter func213,ntmps213
 go_wp2_with (go_at_call 200;refine HT.out.mono ?_;rintro e w2 ⟨rfl,hb⟩)
 exact⟨rfl,rfl,hb⟩
end
section
open Sc
theorem qf1{S:Sub}(m:Mc)(H:Gh)(w:World)(s:ByteArray)(hz:s.size<=1000000000)(i:Inv H S m w):Calls prog 213 #[bp H.mb,.string s] w (WorkOk H S (new S m fun m=>(.str s.data.toList,m))):=by
 by_cases hce:(m.cells:Int)<S.quota
 ·have ic:=i.cells (m.cells+1) (by push_cast;omega);have ic:Inv H S {m with cells:=m.cells+1} (w.setCell ⟨H.cb,0,none⟩ (.int .i64 ((m.cells:Int)+1))):=by simpa using ic
  refine Calls.mono (text_ok H.mb H.cb s m.cells S.quota w i.mb1 i.ce (by omega) (by omega) (by have:=i.cl.2;omega)) ?_;rintro e w' ⟨rfl,hw⟩;exact .inl ⟨H,_,_,_,by simp[new,Sc.cell,hce],rfl,Gh.up.refl H,Inv.lk hw ic,.str s hz⟩
 ·have hm:(m.cells:Int)=S.quota:=by have:(m.cells:Int)<=S.quota:=i.cl.1;omega
  have hM:Mt H.cb m.cells S.quota 11 w:=i.ce;rw[<-hm]at hM;refine Calls.mono (qqs H.mb H.cb s m.cells w i.mb1 hM (by omega) (by have:=i.cl.2;omega)) ?_;rintro e w' ⟨rfl,hb⟩;have i1:=i.cells m.cells (by omega);exact .inr ⟨11,m,by simp[new,Sc.cell,hce],rfl,i1.cntB (by rw[qaf];exact Nat.le_refl _) hb⟩
theorem WorkOk.ends{G:Gh}{S:Sub}{rv:Except Nat Vl×Mc}{e:Ending}{w:World}(h:WorkOk G S rv e w):(∃t y,e=.returned (.iface t y))\/∃ps,e=.panicked ps:=by
 rcases h with⟨H,v',m',x',_,rfl,_,_,hx⟩|⟨vd,m',_,rfl,_⟩
 ·obtain⟨t,y,rfl⟩:=hx.form;exact .inl ⟨t,y,rfl⟩
 ·exact .inr ⟨_,rfl⟩
theorem qqt(r mb:Nat)(s:ByteArray)(w:World)(Q:Ending->World->Prop)(hQ:∀e w,Q e w->(∃t y,e=.returned (.iface t y))\/∃ps,e=.panicked ps)
  (h1:w.cell? ⟨r,0,none⟩=some (.pointer (some ⟨mb,0,none⟩)))(hT:∀w',Lk w w'->Calls prog 213 #[.pointer (some ⟨mb,0,none⟩),.string s] w' Q):
  Calls prog 220 #[.string s,.pointer (some ⟨r,0,none⟩)] w Q:=by
 have HT:=hZ hT;have HQ:=hZ hQ;clear hT hQ;go_enter func220,ntmps220
 go_wp2_with (go_at_call 213;refine(HT.out _ (by exact⟨rfl,rfl,rfl,rfl⟩)).mono ?_;intro e w2 hq;rcases HQ.out _ _ hq with⟨t,y,rfl⟩|⟨ps,rfl⟩)
 ·go_wp2;exact hq
 ·exact⟨rfl,hq⟩
end
section
open Sc
theorem qih{S:Sub}(m:Mc)(H:Gh)(w:World)(v:Vl)(s:ByteArray)(r:Nat)(hr:H.mbox r)(i:Inv H S m w)(hv:VRep H v (.iface 183 (.string s))):Calls prog 220 (#[.string s]++#[bp r]) w (WorkOk H S (value S m .symStr [v])):=by
 cases hv with
 |sym s hz=>exact qqt r H.mb s w _ (fun e w h=>h.ends) (by rw[i.cell hr];rfl) fun w' hw=>qf1 m H w' s hz (Inv.lk hw i)
theorem seal_ok(r mb cb tx:Nat)(t mo:Int)(x:Value)(w:World)
  (h1:w.cell? ⟨r,0,none⟩=some (.pointer (some ⟨mb,0,none⟩)))(h2:w.cell? ⟨mb,1,none⟩=some (.pointer (some ⟨cb,0,none⟩)))(hM:Mt cb t mo 11 w)(h0:0<=t)(ht:t+1<=mo)(hm:mo<=1000000):
  Calls prog 225 #[.iface tx x,.pointer (some ⟨r,0,none⟩)] w fun e w'=>e=.returned (.iface 285 (.pointer (some ⟨w.heap.size+1,0,none⟩)))/\Lk (((w.setCell ⟨cb,0,none⟩ (.int .i64 (t+1))).alloc (.cells #[.iface tx x] 116)).alloc (.cells #[.func (.func 226) #[] #[.pointer (some ⟨w.heap.size,0,none⟩)]] 316)) w':=by
 have k1:∀x,(w.alloc x).cell? ⟨r,0,none⟩=some (.pointer (some ⟨mb,0,none⟩)):=fun x=>(qad (qac h1) x).trans h1
 have k2:∀x,(w.alloc x).cell? ⟨mb,1,none⟩=some (.pointer (some ⟨cb,0,none⟩)):=fun x=>(qad (qac h2) x).trans h2
 have hsl:=hM.lt;have HT:Hid (∀x,Calls prog 200 #[.pointer (some ⟨cb,0,none⟩),.int .i64 1] (w.alloc x) fun e w'=>e=.returned (.tuple #[])/\∃k,w'=((w.alloc x).setCell ⟨cb,0,none⟩ (.int .i64 (t+1))).drewN k):=fun x=>
  qba cb t mo 11 1 _ (by unfold Mt at*;rw[Below.heap_alloc _ _ _ hsl];exact hM) h0 ht (by omega) hm
 clear hM;go_enter func225,ntmps225
 go_wp2_with (go_at_call 200;refine(HT.out _).mono ?_;rintro e w2 ⟨rfl,n,rfl⟩)
 go_wp2;go_ret;exact⟨rfl,⟨rfl,rfl,rfl,rfl⟩⟩
theorem qre(r mb cb tx:Nat)(t:Int)(x:Value)(w:World)
  (h1:w.cell? ⟨r,0,none⟩=some (.pointer (some ⟨mb,0,none⟩)))(h2:w.cell? ⟨mb,1,none⟩=some (.pointer (some ⟨cb,0,none⟩)))(hM:Mt cb t t 11 w)(h0:0<=t)(hm:t<=1000000):
  Calls prog 225 #[.iface tx x,.pointer (some ⟨r,0,none⟩)] w fun e w'=>e=.panicked (stopP (stopV 11))/\Below w.heap.size (w.setCell ⟨cb,0,none⟩ (.int .i64 t)) w':=by
 have k1:∀x,(w.alloc x).cell? ⟨r,0,none⟩=some (.pointer (some ⟨mb,0,none⟩)):=fun x=>(qad (qac h1) x).trans h1
 have k2:∀x,(w.alloc x).cell? ⟨mb,1,none⟩=some (.pointer (some ⟨cb,0,none⟩)):=fun x=>(qad (qac h2) x).trans h2
 have hsl:=hM.lt;have HT:Hid (∀x,Calls prog 200 #[.pointer (some ⟨cb,0,none⟩),.int .i64 1] (w.alloc x) fun e w'=>e=.panicked (stopP (stopV 11))/\Below (w.alloc x).heap.size ((w.alloc x).setCell ⟨cb,0,none⟩ (.int .i64 t)) w'):=fun x=>
  qa1 cb t t 11 1 _ (by unfold Mt at*;rw[Below.heap_alloc _ _ _ hsl];exact hM) h0 (by omega) (by omega) (by omega) hm
 clear hM;go_enter func225,ntmps225
 go_wp2_with (go_at_call 200;refine(HT.out _).mono ?_;rintro e w2 ⟨rfl,hb⟩)
 refine⟨rfl,rfl,?_⟩;refine⟨hb.os,hb.tape,hb.output,by have:=hb.size;simp only[qaf]at this|-;simp at this;omega,fun c hc=>?_⟩;rw[hb.block c (by simp;omega),qbk _ _ _ (by omega),Below.heap_alloc _ _ _ (by simp only[qaf];omega)]
theorem qnz{S:Sub}(m:Mc)(H:Gh)(w:World)(v:Vl)(x:Value)(r:Nat)(hr:H.mbox r)(i:Inv H S m w)(hv:VRep H v x):Calls prog 225 (#[x]++#[bp r]) w (WorkOk H S (value S m .seal [v])):=by
 have c1:w.cell? ⟨r,0,none⟩=some (.pointer (some ⟨H.mb,0,none⟩)):=by rw[i.cell hr];rfl
 obtain⟨t,x',rfl⟩:=hv.form;by_cases hce:(m.cells:Int)<S.quota
 ·have ic:=i.cells (m.cells+1) (by push_cast;omega);have ic:Inv H S {m with cells:=m.cells+1} (w.setCell ⟨H.cb,0,none⟩ (.int .i64 ((m.cells:Int)+1))):=by simpa using ic
  refine Calls.mono (seal_ok r H.mb H.cb t m.cells S.quota x' w c1 i.mb1 i.ce (by omega) (by omega) (by have:=i.cl.2;omega)) ?_;rintro e w' ⟨rfl,hw⟩;have ia:=ic.alloc (.cells #[.iface t x'] 116);have xa:=ic.x1 (.cells #[.iface t x'] 116);have io:=ia.newObj (.cells #[.func (.func 226) #[] #[bp w.heap.size]] 316);have xo:=ia.ext_newObj (.cells #[.func (.func 226) #[] #[bp w.heap.size]] 316);have ao:=ia.at_newObj (.cells #[.func (.func 226) #[] #[bp w.heap.size]] 316);have hz:((w.setCell ⟨H.cb,0,none⟩ (.int .i64 ((m.cells:Int)+1))).alloc (.cells #[.iface t x'] 116)).heap.size=w.heap.size+1:=by simp
  have hz0:(w.setCell ⟨H.cb,0,none⟩ (.int .i64 ((m.cells:Int)+1))).heap.size=w.heap.size:=qaf;rw[hz]at io xo ao;rw[hz0]at io xo ao xa;have L:=xa.le.trans xo.le;exact .inl ⟨_,_,_,_,by simp[value,new,Sc.cell,hce],rfl,xa.up.trans xo.up,Inv.lk hw io,.seal m.ids (w.heap.size+1) w.heap.size v _ ao (Gh.add_at _ _ _) (xo.le.I (Gh.add_at _ _ _)) (hv.mono L)⟩
 ·have hm:(m.cells:Int)=S.quota:=by have:(m.cells:Int)<=S.quota:=i.cl.1;omega
  have hM:Mt H.cb m.cells S.quota 11 w:=i.ce;rw[<-hm]at hM;refine Calls.mono (qre r H.mb H.cb t m.cells x' w c1 i.mb1 hM (by omega) (by have:=i.cl.2;omega)) ?_;rintro e w' ⟨rfl,hb⟩;have i1:=i.cells m.cells (by omega);exact .inr ⟨11,m,by simp[value,new,Sc.cell,hce],rfl,i1.cntB (by rw[qaf];exact Nat.le_refl _) hb⟩
end
section
open Sc
theorem ql7(q1 mb cb k N sc:Nat)(sa:Option Addr)(t mo:Int)(cp:Array Value)(w:World)(Q:Ending->World->Prop)
  (eg:∀args w,(callFunc k args).run prog w=.ok (.enter k args) w)
  (hQ:∀e w,Q e w->(∃v,e=.returned v)\/(∃ps,e=.panicked ps))
  (h1:w.cell? ⟨q1,0,none⟩=some (.pointer (some ⟨mb,0,none⟩)))(h3:w.cell? ⟨mb,1,none⟩=some (.pointer (some ⟨cb,0,none⟩)))
  (hM:Mt cb t mo 11 w)(h0:0<=t)(ht:t+N<=mo)(hm:mo<=1000000)
  (hO:∀w',Lk (w.setCell ⟨cb,0,none⟩ (.int .i64 (t+N))) w'->Calls prog 91 #[.slice sa N sc,.iface 186 (.agg #[])] w' fun e' w2=>∃ty y,e'=.returned (.iface ty y)/\∀w3,Lk w2 w3->Calls prog k (#[.iface ty y]++cp) w3 Q):
  Calls prog 204 #[.slice sa N sc,.func (.func k) #[] cp,.pointer (some ⟨q1,0,none⟩)] w Q:=by
 have HO:=hZ hO;have HQ:=hZ hQ;have HT:Hid (∀w',Lk w w'->Calls prog 200 #[.pointer (some ⟨cb,0,none⟩),.int .i64 (N:Int)] w' fun e w2=>e=.returned (.tuple #[])/\∃k,w2=(w'.setCell ⟨cb,0,none⟩ (.int .i64 (t+N))).drewN k):=fun w' hl=>
  qba cb t mo 11 N w' (by unfold Mt at*;rw[hl.heap];exact hM) h0 ht (by omega) hm
 clear hO hQ hM;go_enter func204,ntmps204
 go_wp2_with (go_at_call 200;refine(HT.out _ (by exact⟨rfl,rfl,rfl,rfl⟩)).mono ?_;rintro e w2 ⟨rfl,kd,rfl⟩)
 go_wp2_with (go_at_call 91;refine(HO.out _ (by exact⟨rfl,rfl,rfl,rfl⟩)).mono ?_;rintro e w2 ⟨ty,y,rfl,hk⟩;have HK:=hZ hk;clear hk)
 go_wp2_with (go_at_fn k;refine(HK.out _ (by exact⟨rfl,rfl,rfl,rfl⟩)).mono ?_;intro e w3 hq)
 all_goals first|exact hq|exact⟨rfl,hq⟩|(rcases HQ.out _ _ hq with⟨v,h⟩|⟨ps,h⟩ <;> cases h)
theorem qje(q1 mb cb k N sc:Nat)(sa:Option Addr)(t mo:Int)(cp:Array Value)(w:World)
  (h1:w.cell? ⟨q1,0,none⟩=some (.pointer (some ⟨mb,0,none⟩)))(h3:w.cell? ⟨mb,1,none⟩=some (.pointer (some ⟨cb,0,none⟩)))
  (hM:Mt cb t mo 11 w)(h0:0<=t)(ht:mo<t+N)(htm:t<=mo)(hm:mo<=1000000)(hN:N<=1000000):
  Calls prog 204 #[.slice sa N sc,.func (.func k) #[] cp,.pointer (some ⟨q1,0,none⟩)] w fun e w'=>e=.panicked (stopP (stopV 11))/\Below w.heap.size (w.setCell ⟨cb,0,none⟩ (.int .i64 mo)) w':=by
 have HT:Hid (∀w',Lk w w'->Calls prog 200 #[.pointer (some ⟨cb,0,none⟩),.int .i64 (N:Int)] w' fun e w2=>e=.panicked (stopP (stopV 11))/\Below w'.heap.size (w'.setCell ⟨cb,0,none⟩ (.int .i64 mo)) w2):=fun w' hl=>
  qa1 cb t mo 11 N w' (by unfold Mt at*;rw[hl.heap];exact hM) h0 ht (by omega) htm hm
 clear hM;go_enter func204,ntmps204
 go_wp2_with (go_at_call 200;refine(HT.out _ (by exact⟨rfl,rfl,rfl,rfl⟩)).mono ?_;rintro e w2 ⟨rfl,hb⟩)
 exact⟨rfl,rfl,hb⟩
end
section
open Sc
theorem carry_list{S:Sub}{n:Nat}(G:Gh)(m:Mc)(w:World)(al:List Vl)(k:List Fr)(q ku:Nat)(cu:Array Value)(sa:Option Addr)(sn sc:Nat)
  (i:Inv G S m w)(hq:G.mbox q)(hk:FRep G k (.func (.func ku) #[] cu))(hr:LRow G w.heap (.slice sa sn sc) al)(he:Ct.ended (go S (n+1) (.ap (.prim .list) al k) m).1=true):
  Calls prog 204 (#[.slice sa sn sc,.func (.func ku) #[] cu]++#[bp q]) w (PostS G S (n+1) (.ap (.prim .list) al k) m):=by
 obtain⟨xs,hv,hxl,hal,hrow,hgm,hx6⟩:=hr.vals;have c1:w.cell? ⟨q,0,none⟩=some (.pointer (some ⟨G.mb,0,none⟩)):=by rw[i.cell hq];rfl
 have hcl:(m.cells:Int)<=S.quota:=i.cl.1;subst hxl;by_cases hce:(m.cells:Int)+al.length<=S.quota
 ·have hnx:Sc.next S (.ap (.prim .list) al k) m=(.ret (mkList {m with cells:=m.cells+al.length} al .nil).1 k,(mkList {m with cells:=m.cells+al.length} al .nil).2):=by
   show carry S (.prim .list) al k m=_;simp only[carry,Pm.isList,Pm.grant,value];rw[cellsN_ok _ hce];rfl
  rw[qan hnx rfl]at he;obtain⟨kk,ck,hku,egu⟩:=hk.isF;cases hku;have ic:=i.cells (m.cells+al.length) (by push_cast;exact hce);have ic:Inv G S {m with cells:=m.cells+al.length} (w.setCell ⟨G.cb,0,none⟩ (.int .i64 ((m.cells:Int)+xs.length))):=by rw[hal];simpa using ic
  refine ql7 q G.mb G.cb ku xs.length sc sa m.cells S.quota cu w _ egu PostS.ends c1 i.mb1 i.ce (by omega) (by omega) (by have:=i.cl.2;omega) ?_;intro w' hw;have:=qc9 G S {m with cells:=m.cells+al.length} w' sa sc al xs .nil (.iface 186 (.agg #[])) (Inv.lk hw ic) hv .nil ?_ hx6
  ·refine Calls.mono this ?_;rintro e w2 ⟨H,x,rfl,hx,hi,hxv,_⟩;obtain⟨tx,px,rfl⟩:=hxv.form;refine⟨tx,px,rfl,fun w3 hw3=>?_⟩;exact Calls.mono ((qav S n).2 H _ w3 _ k _ ku cu (Inv.lk hw3 hi) hxv (hk.mono hx.le) he) fun e w p=>Post.stepS hnx rfl hx.up p
  ·rcases hrow with h|⟨g,o,rfl,h⟩
   ·exact .inl h
   ·by_cases hx:xs=[]
    ·exact .inl hx
    ·refine .inr ⟨g,o,rfl,fun j hj=>?_⟩;have hgc:g≠G.cb:=fun e=>hgm g o rfl hx (e▸i.m3)
     have:w'.cell? ⟨g,o+j,none⟩=(w.setCell ⟨G.cb,0,none⟩ (.int .i64 ((m.cells:Int)+xs.length))).cell? ⟨g,o+j,none⟩:=by simp only[World.cell?,hw.heap]
     rw[this,qag hgc];exact h j hj
 ·have hnx:Sc.next S (.ap (.prim .list) al k) m=(.stop 11,{m with cells:=S.quota.toNat}):=by
   show carry S (.prim .list) al k m=_;simp only[carry,Pm.isList,Pm.grant,value];rw[qb7 _ hcl (by omega)];rfl
  refine Calls.mono (qje q G.mb G.cb ku xs.length sc sa m.cells S.quota cu w c1 i.mb1 i.ce (by omega) (by omega) hcl (by have:=i.cl.2;omega) hx6) ?_;rintro e w1 ⟨rfl,hb⟩;have hq:((S.quota.toNat:Nat):Int)=S.quota:=Int.toNat_of_nonneg (by have:(0:Int)<=(m.cells:Int):=Int.natCast_nonneg _;omega);have i1:=i.cells S.quota.toNat (by omega);rw[hq]at i1;exact Post.stepS hnx rfl (Gh.up.refl G) (Post.now (.stop 11 _ _ (i1.cntB (by rw[qaf];exact Nat.le_refl _) hb)))
end
section
open Sc
theorem qpk(f:Nat)(cv:Array Value)(ef:∀args w,(callFunc f args).run prog w=.ok (.enter f args) w)(R:Nat->Value->World->Prop)(Q:Ending->World->Prop)(N:Nat)(x:Value)(w:World)(hx:R N x w)
  (hR:∀k x w,R k x w->(∃b t0 y0 t1 y1 k',k'<k/\x=.iface 246 (.pointer (some ⟨b,0,none⟩))/\w.cell? ⟨b,0,none⟩=some (.iface t0 y0)/\Calls prog f (#[.iface t0 y0]++cv) w (fun e w2=>(e=.returned (.tuple #[])/\w2.cell? ⟨b,1,none⟩=some (.iface t1 y1)/\R k' (.iface t1 y1) w2)\/(∃ps,e=.panicked ps/\Q e w2)))\/
   (x=.iface 186 (.agg #[])/\Q (.returned (.tuple #[])) w)\/(∃t y,t≠246/\t≠186/\x=.iface t y/\∀o,Q (.panicked (stopP (stopV 6))) (w.alloc o))):
  Calls prog 206 #[x,.func (.func f) #[] cv] w Q:=by
 have HX:=hZ hx;have HR:=hZ hR;clear hx hR;go_enter func206,ntmps206
 go_wp2;go_loopg [0] N (fun k x wr=>R k x wr)
 case atStart=>exact HX.out
 case round=>
  rcases HR.out _ _ _ hrel with⟨b,t0,y0,t1,y1,k',hk,rfl,h0,hc⟩|⟨rfl,hq⟩|⟨t,y,ht,ht',rfl,hq⟩
  ·have ha:∀w,(Instr.typeAssert (.iface 246 (.pointer (some ⟨b,0,none⟩))) 116 246 true).run prog w=.ok (.tuple #[.pointer (some ⟨b,0,none⟩),.bool true]) w:=fun w=>qgj _ w
   have HC:=hZ hc;clear hc hrel;go_wp2_with (go_at_fn f;refine HC.out.mono ?_;rintro e w2 (⟨rfl,h1,hr⟩|⟨ps,rfl,hq⟩))
   ·have HR1:=hZ hr;clear hr;go_wp2;go_roundg k'
    case measure=>exact hk
    case rel=>exact HR1.out
   ·exact⟨rfl,hq⟩
  ·have ha:∀w,(Instr.typeAssert (.iface 186 (.agg #[])) 116 246 true).run prog w=.ok (.tuple #[.pointer none,.bool false]) w:=fun w=>qcd _ _ (by decide) w
   have hb:∀w,(binOp .eql 116 (.iface 186 (.agg #[])) (.iface 186 (.agg #[]))).run prog w=.ok (.bool true) w:=fun w=>qkv w
   have HQ:=hZ hq;clear hq hrel;go_wp2_with (go_at_call 273;refine(qbi _ _).mono ?_;rintro e w2 ⟨rfl,hww⟩;obtain rfl:=hww.symm)
   go_end0;exact HQ.out
  ·have ha:∀w,(Instr.typeAssert (.iface t y) 116 246 true).run prog w=.ok (.tuple #[.pointer none,.bool false]) w:=fun w=>qcd _ _ ht w
   have hb:∀w,(binOp .eql 116 (.iface t y) (.iface 186 (.agg #[]))).run prog w=.ok (.bool false) w:=fun w=>qaw _ _ _ _ ht' w
   have HQ:=hZ hq;clear hq hrel ht ht';go_wp2_with (go_at_call 273;refine(qbh _ _).mono ?_;rintro e w2 ⟨rfl,o,rfl⟩)
   exact⟨rfl,HQ.out o⟩
end
section
open Sc
theorem qov(q c mb sb tx:Nat)(x:Value)(t mo n:Int)(w:World)
  (h1:w.cell? ⟨q,0,none⟩=some (.pointer (some ⟨mb,0,none⟩)))(h2:w.cell? ⟨mb,0,none⟩=some (.pointer (some ⟨sb,0,none⟩)))(hM:Mt sb t mo 10 w)(h0:0<=t)(ht:t+1<=mo)(hm:mo<=1000000)
  (hc:w.heap[c]? =some (.cells #[.int .i64 n] 180 (0,0)))(hcs:c≠sb)(hn0:0<=n)(hn1:n<=1000000):
  Calls prog 207 #[.iface tx x,.pointer (some ⟨q,0,none⟩),.pointer (some ⟨c,0,none⟩)] w fun e w'=>e=.returned (.tuple #[])/\Lk ((w.setCell ⟨sb,0,none⟩ (.int .i64 (t+1))).setCell ⟨c,0,none⟩ (.int .i64 (n+1))) w':=by
 have HT:=hZ (qba sb t mo 10 1 w hM h0 ht (by omega) hm);have hcc:∀k,((w.setCell ⟨sb,0,none⟩ (.int .i64 (t+1))).drewN k).cell? ⟨c,0,none⟩=some (.int .i64 n):=fun k=>by
  rw[qa6,qag hcs];simp[World.cell?,hc]
 have hfz:w.frozen? ⟨c,0,none⟩=false:=by simp[World.frozen?,hc]
 clear hM hc;go_enter func207,ntmps207
 go_wp2_with (go_at_call 200;refine HT.out.mono ?_;rintro e w2 ⟨rfl,k,rfl⟩)
 go_end0;exact⟨rfl,⟨rfl,rfl,rfl,rfl⟩⟩
theorem ql8(q c mb sb tx:Nat)(x:Value)(t:Int)(w:World)
  (h1:w.cell? ⟨q,0,none⟩=some (.pointer (some ⟨mb,0,none⟩)))(h2:w.cell? ⟨mb,0,none⟩=some (.pointer (some ⟨sb,0,none⟩)))(hM:Mt sb t t 10 w)(h0:0<=t)(hm:t<=1000000):
  Calls prog 207 #[.iface tx x,.pointer (some ⟨q,0,none⟩),.pointer (some ⟨c,0,none⟩)] w fun e w'=>e=.panicked (stopP (stopV 10))/\Below w.heap.size (w.setCell ⟨sb,0,none⟩ (.int .i64 t)) w':=by
 have HT:=hZ (qa1 sb t t 10 1 w hM h0 (by omega) (by omega) (by omega) hm);clear hM;go_enter func207,ntmps207
 go_wp2_with (go_at_call 200;refine HT.out.mono ?_;rintro e w2 ⟨rfl,hb⟩)
 exact⟨rfl,rfl,hb⟩
end
section
open Sc
theorem qr7(r tx:Nat)(x:Value)(w:World)(Q:Ending->World->Prop)
  (hE:∀w',Lk (w.alloc (.cells #[.int .i64 0] 180)) w'->Calls prog 206 #[.iface tx x,.func (.func 207) #[] #[.pointer (some ⟨r,0,none⟩),.pointer (some ⟨w.heap.size,0,none⟩)]] w' fun e w2=>(∃n,e=.returned (.tuple #[])/\w2.cell? ⟨w.heap.size,0,none⟩=some (.int .i64 n)/\Q (.returned (.iface 180 (.int .i64 n))) w2)\/(∃ps,e=.panicked ps/\Q e w2)):
  Calls prog 205 #[.iface tx x,.pointer (some ⟨r,0,none⟩)] w Q:=by
 have HE:=hZ hE;clear hE;go_enter func205,ntmps205
 go_wp2_with (go_at_call 206;refine(HE.out _ (by exact⟨rfl,rfl,rfl,rfl⟩)).mono ?_;rintro e w2 (⟨n,rfl,hc,hq⟩|⟨ps,rfl,hq⟩))
 ·have HQ:=hZ hq;clear hq;go_wp2;exact HQ.out
 ·exact⟨rfl,hq⟩
def lenOf(cnt:Nat):Except Nat (List Vl)×Mc->Except Nat Vl×Mc
 |(.error e,m)=>(.error e,m)
 |(.ok l,m)=>(.ok (.num ((cnt:Int)+l.length)),m)
theorem qr6{S:Sub}{cnt id:Nat}{a d:Vl}{m:Mc}(h:(m.steps:Int)<S.fuel):lenOf cnt (membersOf S false (.pair id a d) m)=lenOf (cnt+1) (membersOf S false d {m with steps:=m.steps+1}):=by
 simp only[membersOf,Sc.step,if_pos h,Bool.false_eq_true,if_false];rcases membersOf S false d {m with steps:=m.steps+1}with⟨e|l,m'⟩
 ·rfl
 ·simp[lenOf];omega
theorem qou{S:Sub}{cnt id:Nat}{a d:Vl}{m:Mc}(h:¬(m.steps:Int)<S.fuel):lenOf cnt (membersOf S false (.pair id a d) m)=(.error 10,m):=by
 simp only[membersOf,Sc.step,if_neg h,lenOf]
end
section
open Sc
theorem eg207:Eg 207:=qak func207 (by kernel_rfl) (by kernel_rfl)
theorem qbc{w:World}{c t:Nat}{x v:Value}(h:w.heap[c]? =some (.cells #[x] t (0,0))):(w.setCell ⟨c,0,none⟩ v).heap[c]? =some (.cells #[v] t (0,0)):=by
 simp[World.setCell,Array.getElem?_modify,h]
theorem Inv.new_loose{G:Gh}{S:Sub}{m:Mc}{w:World}(i:Inv G S m w):G.I w.heap.size=none/\w.heap.size∉G.mut/\¬G.F w.heap.size:=
 ⟨i.fresh (Nat.le_refl _),fun h=>Nat.lt_irrefl _ (i.ml h),fun h=>Nat.lt_irrefl _ (i.ff h).2⟩
def LenR(H:Gh)(S:Sub)(c:Nat)(rv:Except Nat Vl×Mc)(k:Nat)(x:Value)(w:World):Prop:=
 ∃(v:Vl) (m:Mc) (cnt:Nat),SizeOf.sizeOf v<=k/\cnt<=m.steps/\Inv H S m w/\VRep H v x/\w.heap[c]? =some (.cells #[.int .i64 (cnt:Int)] 180 (0,0))/\rv=lenOf cnt (membersOf S false v m)
theorem qjg{S:Sub}(m:Mc)(H:Gh)(w:World)(v:Vl)(x:Value)(r:Nat)(hr:H.mbox r)(i:Inv H S m w)(hv:VRep H v x):Calls prog 205 (#[x]++#[bp r]) w (WorkOk H S (value S m .length [v])):=by
 obtain⟨hI,hmut,hF⟩:=i.new_loose;have hsb:w.heap.size≠H.sb:=fun e=>hmut (e▸i.m2)
 have hval:value S m .length [v]=lenOf 0 (membersOf S false v m):=by
  simp only[value];rcases membersOf S false v m with⟨e|l,m'⟩
  ·rfl
  ·simp[lenOf]
 rw[hval];generalize hrv:lenOf 0 (membersOf S false v m)=rv;obtain⟨t,x',rfl⟩:=hv.form;refine qr7 r t x' w _ fun w' hw=>?_
 refine qpk 207 #[bp r,bp w.heap.size] eg207 (LenR H S w.heap.size rv) _ (SizeOf.sizeOf v) _ w' ⟨v,m,0,Nat.le_refl _,Nat.zero_le _,Inv.lk hw (i.below ((Below.refl _ _).alloc (Nat.le_refl _) _)),hv,by rw[hw.heap];exact heap_alloc_new _ _,hrv.symm⟩ ?_;rintro k x w1 ⟨v,m,cnt,hk,hcm,i,hv,hc,hrv⟩;have hfu:(m.steps:Int)<=S.fuel:=i.sl.1;have hf2:S.fuel<=20000:=i.sl.2;have other:∀t y,x=.iface t y->t≠246->t≠186->membersOf S false v m=(.error 6,m)->(∃t y,t≠246/\t≠186/\x=.iface t y/\∀o,(∃n,Ending.panicked (stopP (stopV 6))=.returned (.tuple #[])/\(w1.alloc o).cell? ⟨w.heap.size,0,none⟩=some (.int .i64 n)/\WorkOk H S rv (.returned (.iface 180 (.int .i64 n))) (w1.alloc o))\/(∃ps,Ending.panicked (stopP (stopV 6))=.panicked ps/\WorkOk H S rv (.panicked (stopP (stopV 6))) (w1.alloc o))):=fun t y e h1 h2 h3=>by
  rw[h3]at hrv;exact⟨t,y,h1,h2,e,fun o=>.inr ⟨_,rfl,.inr ⟨6,m,hrv,rfl,i.cntB (Nat.le_refl _) ((Below.refl _ _).alloc (Nat.le_refl _) _)⟩⟩⟩
 cases hv with
 |pair id b v u x y hj hb h1 h2=>
  left;obtain⟨t0,y0,rfl⟩:=h1.form;obtain⟨t1,y1,rfl⟩:=h2.form;refine⟨b,t0,y0,t1,y1,SizeOf.sizeOf u,by simp at hk;omega,rfl,by rw[i.cell hb];rfl,?_⟩;have c1:w1.cell? ⟨r,0,none⟩=some (.pointer (some ⟨H.mb,0,none⟩)):=by rw[i.cell hr];rfl
  by_cases hst:(m.steps:Int)<S.fuel
  ·rw[qr6 hst]at hrv;refine Calls.mono (qov r w.heap.size H.mb H.sb t0 y0 m.steps S.fuel cnt w1 c1 i.mb0 i.st (by omega) (by omega) (by omega) hc hsb (by omega) (by omega)) ?_;rintro e w2 ⟨rfl,hw2⟩;have is:=i.steps (m.steps+1) (by push_cast;omega);have is:Inv H S {m with steps:=m.steps+1} (w1.setCell ⟨H.sb,0,none⟩ (.int .i64 ((m.steps:Int)+1))):=by simpa using is
   have i2:=Inv.lk hw2 (is.loose hI hmut hF);refine .inl ⟨rfl,by rw[i2.cell hb];rfl,u,_,cnt+1,Nat.le_refl _,by simp;omega,i2,h2,?_,hrv⟩;rw[hw2.heap];have:=qbc (v:=.int .i64 ((cnt:Int)+1)) (w:=w1.setCell ⟨H.sb,0,none⟩ (.int .i64 ((m.steps:Int)+1))) (by rw[qaa (a:=⟨H.sb,0,none⟩) _ hsb];exact hc);rw[this];push_cast;rfl
  ·rw[qou hst]at hrv;have hm:(m.steps:Int)=S.fuel:=by omega
   have hM:Mt H.sb m.steps S.fuel 10 w1:=i.st;rw[<-hm]at hM;refine Calls.mono (ql8 r w.heap.size H.mb H.sb t0 y0 m.steps w1 c1 i.mb0 hM (by omega) (by omega)) ?_;rintro e w2 ⟨rfl,hb2⟩;have i1:=i.steps m.steps (by omega);exact .inr ⟨_,rfl,.inr ⟨_,rfl,.inr ⟨10,m,hrv,rfl,i1.cntB (by rw[qaf];exact Nat.le_refl _) hb2⟩⟩⟩
 |nil=>
  right;left;refine⟨rfl,.inl ⟨cnt,rfl,by simp[World.cell?,hc],.inl ⟨H,.num cnt,m,_,?_,rfl,Gh.up.refl H,i,.num _ (by omega) (by omega)⟩⟩⟩;rw[hrv];simp[membersOf,lenOf]
 |proc v b h=>right;right;exact other _ _ rfl (by decide) (by decide) (by cases h <;> rfl)
 |_=>right;right;exact other _ _ rfl (by decide) (by decide) rfl
end
section
open Sc
def EqOk(G:Gh)(S:Sub)(rv:Except Nat Bool×Mc)(e:Ending)(w1:World):Prop:=
 (∃b m',rv=(.ok b,m')/\e=.returned (.bool b)/\Inv G S m' w1)\/(∃vd m',rv=(.error vd,m')/\e=.panicked (stopP (stopW vd m'))/\Cnt G S m' w1)
def EqR(H:Gh)(S:Sub)(N:Nat)(rv:Except Nat Bool×Mc)(k:Nat)(x y:Value)(w:World):Prop:=
 ∃(v u:Vl) (m:Mc),SizeOf.sizeOf v<=k/\k<=N/\Inv H S m w/\VRep H v x/\VRep H u y/\rv=equal S v u m
theorem EqR.lk{H:Gh}{S:Sub}{N k:Nat}{rv:Except Nat Bool×Mc}{x y:Value}{w w':World}(h:EqR H S N rv k x y w)(hl:Lk w w'):EqR H S N rv k x y w':=by
 obtain⟨v,u,m,h1,h2,h3,h4⟩:=h;exact⟨v,u,m,h1,h2,Inv.lk hl h3,h4⟩
def EqStep(H:Gh)(S:Sub)(N:Nat)(rv:Except Nat Bool×Mc)(k _b _b':Nat)(x1 y1:Value)(e:Ending)(w3:World):Prop:=
 (∃bb,e=.returned (.bool bb)/\(bb=false->EqOk H S rv (.returned (.bool false)) w3)/\(bb=true->∃k',k'<k/\EqR H S N rv k' x1 y1 w3))\/(∃ps,e=.panicked ps/\EqOk H S rv e w3)
theorem EqR.round{H:Gh}{S:Sub}{N k:Nat}{rv:Except Nat Bool×Mc}{x y:Value}{w:World}(h:EqR H S N rv k x y w)
  (ih:∀(v u:Vl) (m:Mc) (x y:Value) (w:World),SizeOf.sizeOf v<N->Inv H S m w->VRep H v x->VRep H u y->Calls prog 198 #[bp H.mb,x,y] w (EqOk H S (equal S v u m))):
  ((∃bb t t' z z',x=.iface t z/\y=.iface t' z'/\(t≠246\/t'≠246)/\(t=246->∃b,z=bp b)/\(t'=246->∃b,z'=bp b)/\(∀w',Lk w w'->(binOp .eql 116 x y).run prog w'=.ok (.bool bb) w')/\∀w',Lk w w'->EqOk H S rv (.returned (.bool bb)) w'))\/
  (∃(b b':Nat) (x0 y0 x1 y1:Value) (t:Int),x=.iface 246 (bp b)/\y=.iface 246 (bp b')/\(∃c,w.heap[b]? =some (.cells c 252 (0,0))/\c[0]? =some x0/\c[1]? =some x1)/\(∃c,w.heap[b']? =some (.cells c 252 (0,0))/\c[0]? =some y0/\c[1]? =some y1)/\b≠H.sb/\b'≠H.sb/\(∃t z,x0=.iface t z)/\(∃t z,y0=.iface t z)/\(∃t z,x1=.iface t z)/\(∃t z,y1=.iface t z)/\
   w.cell? ⟨H.mb,0,none⟩=some (.pointer (some ⟨H.sb,0,none⟩))/\Mt H.sb t S.fuel 10 w/\0<=t/\S.fuel<=20000/\t<=S.fuel/\
   ((t+1<=S.fuel/\∀w',Lk (w.setCell ⟨H.sb,0,none⟩ (.int .i64 (t+1))) w'->Calls prog 198 #[bp H.mb,x0,y0] w' fun e w3=>EqStep H S N rv k b b' x1 y1 e w3/\(∀v,e=.returned v->w3.heap[b]? =w.heap[b]?/\w3.heap[b']? =w.heap[b']?))\/
    (t=S.fuel/\∀w',Below w.heap.size (w.setCell ⟨H.sb,0,none⟩ (.int .i64 t)) w'->EqOk H S rv (.panicked (stopP (stopV 10))) w'))):=by
 obtain⟨v,u,m,hk,hN,i,hv,hu,hrv⟩:=h;by_cases hp:(∃id a d,v=.pair id a d)/\∃id a d,u=.pair id a d
 ·right;obtain⟨⟨id,a,d,rfl⟩,id',a',d',rfl⟩:=hp;cases hv with
  |proc _ b h=>cases h
  |pair id b v u x y hj hb h1 h2=>
   cases hu with
   |proc _ b h=>cases h
   |pair id' b' v' u' x' y' hj' hb' h1' h2'=>
    have hsb:∀{b:Nat} {o:Obj},H.I b=some o->b≠H.sb:=fun {b o} h e=>by rw[e,i.mi i.m2]at h;cases h
    refine⟨b,b',x,x',y,y',m.steps,rfl,rfl,⟨_,i.imm hb,rfl,rfl⟩,⟨_,i.imm hb',rfl,rfl⟩,hsb hb,hsb hb',h1.form,h1'.form,h2.form,h2'.form,i.mb0,i.st,by omega,i.sl.2,i.sl.1,?_⟩;by_cases hst:(m.steps:Int)<S.fuel
    ·left;refine⟨by omega,fun w' hw=>?_⟩;have is:=i.steps (m.steps+1) (by push_cast;omega);have is:Inv H S {m with steps:=m.steps+1} w':=Inv.lk hw (by simpa using is);refine Calls.mono (ih a a' _ x x' w' (by simp at hk;omega) is h1 h1') ?_;have heq:equal S (.pair id a d) (.pair id' a' d') m=(match equal S a a' {m with steps:=m.steps+1}with
       |(.error e,m)=>(.error e,m)
       |(.ok false,m)=>(.ok false,m)
       |(.ok true,m)=>equal S d d' m):=by
      simp only[equal,Sc.step,if_pos hst];rcases equal S a a' {m with steps:=m.steps+1}with⟨e|(_|_),m'⟩ <;> rfl
     rw[heq]at hrv;rintro e w3 (⟨bb,m',e1,rfl,hi⟩|⟨vd,m',e1,rfl,hc⟩)
     ·refine⟨.inl ⟨bb,rfl,fun hbb=>?_,fun hbb=>?_⟩,fun _ _=>⟨by rw[hi.imm hb,i.imm hb],by rw[hi.imm hb',i.imm hb']⟩⟩
      ·subst hbb;rw[e1]at hrv;exact .inl ⟨false,m',hrv,rfl,hi⟩
      ·subst hbb;rw[e1]at hrv;exact⟨SizeOf.sizeOf d,by simp at hk;omega,d,d',m',Nat.le_refl _,by simp at hk;omega,hi,h2,h2',hrv⟩
     ·rw[e1]at hrv;exact⟨.inr ⟨_,rfl,.inr ⟨vd,m',hrv,rfl,hc⟩⟩,fun _ h=>by cases h⟩
    ·right;have hs:=i.sl.1;refine⟨by omega,fun w' hb=>?_⟩;have heq:equal S (.pair id a d) (.pair id' a' d') m=(.error 10,m):=by
      simp only[equal,Sc.step,if_neg hst]
     have i1:=i.steps m.steps (by omega);exact .inr ⟨10,m,hrv.trans heq,rfl,i1.cntB (by rw[qaf];exact Nat.le_refl _) hb⟩
 ·left;have heq:equal S v u m=(.ok (eq v u),m):=by
   cases v <;> cases u <;> first|(exfalso;exact hp ⟨⟨_,_,_,rfl⟩,_,_,_,rfl⟩)|simp[equal]
  obtain⟨t,z,rfl⟩:=hv.form;obtain⟨t',z',rfl⟩:=hu.form;refine⟨eq v u,t,t',z,z',rfl,rfl,?_,?_,?_,fun w' hw=>hv.same (Inv.lk hw i) hu,fun w' hw=>.inl ⟨_,m,hrv.trans heq,rfl,Inv.lk hw i⟩⟩
  ·by_cases ht:t=246
   ·right;intro ht';subst ht ht';cases hv with
    |pair id b v u x y=>cases hu with
     |pair id' b' v' u' x' y'=>exact hp ⟨⟨_,_,_,rfl⟩,_,_,_,rfl⟩
   ·exact .inl ht
  ·rintro rfl;cases hv with
   |pair id b=>exact⟨b,rfl⟩
  ·rintro rfl;cases hu with
   |pair id b=>exact⟨b,rfl⟩
end
end Go.Proofs.YtldaocpojcfljaaGreatDoor
