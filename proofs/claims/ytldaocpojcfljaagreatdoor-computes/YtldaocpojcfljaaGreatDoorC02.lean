import Derived.Test.YtldaocpojcfljaaGreatDoorC01
import Derived.KernelRfl
set_option maxRecDepth 100000
set_option maxHeartbeats 4000000
namespace Go.Proofs.YtldaocpojcfljaaGreatDoor
section
namespace Sc
open Go
inductive Kw where
 |quote
 |ite
 |define
 |set
 |lambda
 |let'
 |begin
 |synx'
def Kw.of (s:Bs):Option Kw:=
 if s=[113,117,111,116,101]then some .quote
 else if s=[105,102]then some .ite
 else if s=[100,101,102,105,110,101]then some .define
 else if s=[115,101,116,33]then some .set
 else if s=[108,97,109,98,100,97]then some .lambda
 else if s=[108,101,116]then some .let'
 else if s=[98,101,103,105,110]then some .begin
 else if s=[100,101,102,105,110,101,45,115,121,110,116,97,120]then some .synx'
 else Option.none
abbrev Id:=Bs×Int
abbrev Scope:=List (List Id)
def findIn (i:Id):List Id→Option Nat
 | []=>Option.none
 |j::r=>if j=i then some 0 else(findIn i r).map (·+1)
def find (i:Id):Scope→Option (Nat×Nat)
 | []=>Option.none
 |l::r=>match findIn i l with
  |some n=>some (0,n)
  |Option.none=>(find i r).map (fun p=>(p.1+1,p.2))
inductive Tr where
 |one (d:Dt)
 |row (l:List Tr)
structure Macro where
 name:Bs
 lits:List Bs
 rules:List (List Dt×Dt)
structure Xs where
 count:Nat:=0
 macros:List Macro:=[]
def Xs.mcr (x:Xs) (s:Bs):Option Macro:=x.macros.find? (fun m=>m.name==s)
def Xs.drop (x:Xs) (s:Bs):Xs:={x with macros:=x.macros.filter (fun m=>!(m.name==s))}
inductive Mn where
 |var
 |kw (k:Kw)
 |mac (m:Macro)
def Xs.means (x:Xs) (i:Id) (sc:Scope):Mn:=match find i sc with
 |some _=>.var
 |Option.none=>match Kw.of i.1 with
  |some k=>.kw k
  |Option.none=>match x.mcr i.1 with
   |some m=>.mac m
   |Option.none=>.var
def dotsT:Bs:=[46,46,46]
def isDots:Dt→Bool
 | .sym t _=>t==dotsT
 |_=>false
def addBound (i:Id) (deep:Nat) (had:List (Id×Nat)):Option (List (Id×Nat)):=if had.any (fun b=>b.1==i)then Option.none else some (had++[(i,deep)])
mutual
def bound1 (lits:List Bs) (deep:Nat) (had:List (Id×Nat)):Dt→Option (List (Id×Nat))
 | .list l=>bounds lits deep had l
 | .sym t m=>if lits.contains t||t== [95]then some had else addBound (t,m) deep had
 |_=>some had
def bounds (lits:List Bs) (deep:Nat) (had:List (Id×Nat)):List Dt→Option (List (Id×Nat))
 | []=>some had
 | [p]=>if isDots p then Option.none else bound1 lits deep had p
 |p::q::r=>
  if isDots p then Option.none
  else if r.isEmpty&&isDots q then bound1 lits (deep+1) had p
  else match bound1 lits deep had p with
   |Option.none=>Option.none
   |some had=>bounds lits deep had (q::r)
end
def deepOf (i:Id) (b:List (Id×Nat)):Option Nat:=(b.find? (fun p=>p.1==i)).map (·.2)
mutual
def fitsT (b:List (Id×Nat)) (deep:Nat):Dt→Option Bool
 | .sym t m=>if t==dotsT then Option.none else match deepOf (t,m) b with
  |Option.none=>some false
  |some n=>if n==0 then some false else if n==deep then some true else Option.none
 | .list l=>fitsL b deep l
 |_=>some false
def fitsL (b:List (Id×Nat)) (deep:Nat):List Dt→Option Bool
 | []=>some false
 | [t]=>fitsT b deep t
 |t::q::r=>
  if isDots q then
   match fitsT b (deep+1) t with
   |some true=>(fitsL b deep r).map (fun _=>true)
   |_=>Option.none
  else match fitsT b deep t with
   |Option.none=>Option.none
   |some a=>(fitsL b deep (q::r)).map (fun c=>a||c)
end
def ruleOk (lits:List Bs):Dt→Option (List Dt×Dt)
 | .list [.list (.sym t _::p),tm]=>
  if t==dotsT then Option.none
  else match bounds lits 0 [] p with
   |Option.none=>Option.none
   |some b=>match fitsT b 0 tm with
    |Option.none=>Option.none
    |some _=>some (p,tm)
 |_=>Option.none
def litsOf:List Dt→Option (List Bs)
 | []=>some []
 | .sym t _::r=>if t==dotsT then Option.none else(litsOf r).map (t::·)
 |_=>Option.none
def rulesOf (lits:List Bs):List Dt→Option (List (List Dt×Dt))
 | []=>some []
 |d::r=>match ruleOk lits d with
  |Option.none=>Option.none
  |some x=>(rulesOf lits r).map (x::·)
abbrev Bind:=List (Id×Tr)
mutual
def match1 (lits:List Bs) (sc:Scope):Dt→Dt→Option Bind
 | .list p,.list l=>matchL lits sc p l
 | .list _,_=>Option.none
 | .num a,.num b=>if a==b then some []else Option.none
 | .bool a,.bool b=>if a==b then some []else Option.none
 | .str a,.str b=>if a==b then some []else Option.none
 | .sym t m,d=>
  if lits.contains t then
   match d with
   | .sym u k=>if u==t&&(find (u,k) sc).isNone then some []else Option.none
   |_=>Option.none
  else if t== [95]then some []
  else some [((t,m),.one d)]
 |_,_=>Option.none
def matchL (lits:List Bs) (sc:Scope):List Dt→List Dt→Option Bind
 | [],[]=>some []
 | [],_::_=>Option.none
 | [p],[d]=>match1 lits sc p d
 | [_],_=>Option.none
 |p::q::r,l=>
  if r.isEmpty&&isDots q then
   match l.mapM (fun d=>match1 lits sc p d)with
   |Option.none=>Option.none
   |some rows=>some ((((bound1 lits 0 [] p).getD []).zipIdx).map (fun b=>(b.1.1,.row (rows.map (fun t=>(t[b.2]?.map (·.2)).getD (.row []))))))
  else match l with
   | []=>Option.none
   |d::l=>match match1 lits sc p d with
    |Option.none=>Option.none
    |some a=>(matchL lits sc (q::r) l).map (a++·)
end
mutual
def stands (i:Id):Dt→Bool
 | .sym t m=>(t,m)==i
 | .list l=>standsL i l
 |_=>false
def standsL (i:Id):List Dt→Bool
 | []=>false
 |d::r=>stands i d||standsL i r
end
def rowLen (t:Dt):Bind→Option (Option Nat)
 | []=>some Option.none
 |(i,.row l)::r=>match rowLen t r with
  |Option.none=>Option.none
  |some n=>if stands i t then(match n with
    |Option.none=>some (some l.length)
    |some k=>if k==l.length then some (some k)else Option.none)
   else some n
 |(_,.one _)::r=>rowLen t r
def eachOf (t:Dt) (k:Nat):Bind→Bind
 | []=>[]
 |(i,.row l)::r=>(if stands i t then(i,l[k]?.getD (.row []))else(i,.row l))::eachOf t k r
 |(i,.one d)::r=>(i,.one d)::eachOf t k r
mutual
def putT (mark:Int) (b:Bind):Dt→Option Dt
 | .sym t m=>match b.find? (fun x=>x.1==(t,m))with
  |Option.none=>some (.sym t mark)
  |some (_,.one d)=>some d
  |some (_,.row _)=>Option.none
 | .list l=>(putL mark b l).map .list
 |d=>some d
def putL (mark:Int) (b:Bind):List Dt→Option (List Dt)
 | []=>some []
 | [t]=>(putT mark b t).map ([·])
 |t::q::r=>
  if isDots q then
   match rowLen t b with
   |Option.none=>Option.none
   |some n=>match (List.range (n.getD 0)).mapM (fun k=>putT mark (eachOf t k b) t)with
    |Option.none=>Option.none
    |some a=>(putL mark b r).map (a++·)
  else match putT mark b t with
   |Option.none=>Option.none
   |some a=>(putL mark b (q::r)).map (a::·)
end
mutual
def parts:Dt→Nat
 | .list l=>1+partsL l
 |_=>1
def partsL:List Dt→Nat
 | []=>0
 |d::r=>parts d+partsL r
end
def use (S:Sub) (x:Xs) (mc:Macro) (args:List Dt) (sc:Scope):Except Nat (Dt×Xs)×Xs:=
 if S.rewrites≤(x.count:Int)then(.error 12,x)
 else
  let x:={x with count:=x.count+1}
  match mc.rules.findSome? (fun r=>(matchL mc.lits sc r.1 args).map (fun b=>(b,r.2)))with
  |Option.none=>(.error 4,x)
  |some (b,t)=>match putT x.count b t with
   |Option.none=>(.error 4,x)
   |some d=>if parts d≤600 then(.ok (d,x),x)else(.error 4,x)
def idOf:Dt→Option Id
 | .sym t m=>some (t,m)
 |_=>Option.none
def distinct:List Id→Bool
 | []=>true
 |i::r=>!r.contains i&&distinct r
def idsOf:List Dt→Option (List Id)
 | []=>some []
 | .sym t m::r=>(idsOf r).map ((t,m)::·)
 |_=>Option.none
def bindings:List Dt→Option (List Dt×List Dt)
 | []=>some ([],[])
 | .list [n,v]::r=>(bindings r).map (fun p=>(n::p.1,v::p.2))
 |_=>Option.none
def varEx (x:Xs) (i:Id) (sc:Scope):Option Ex:=match x.means i sc with
 | .var=>some (match find i sc with|some (u,n)=>.loc u n|Option.none=>.glo i.1)
 |_=>Option.none
mutual
def form (S:Sub):Nat→Xs→Scope→Dt→Except Nat Ex×Xs
 |0,x,_,_=>(.error 0,x)
 |f+1,x,sc,d=>match d with
  | .sym t m=>(match varEx x (t,m) sc with|some e=>.ok e|Option.none=>.error 4,x)
  | .list []=>(.error 4,x)
  | .list (.sym t m::r)=>match x.means (t,m) sc with
   | .var=>app S f x sc (.sym t m::r)
   | .mac mc=>match use S x mc r sc with
    |(.error e,x)=>(.error e,x)
    |(.ok (d,x),_)=>form S f x sc d
   | .kw k=>keyword S f x sc k r
  | .list l=>app S f x sc l
  |d=>(.ok (.quo d),x)
def app (S:Sub):Nat→Xs→Scope→List Dt→Except Nat Ex×Xs
 |0,x,_,_=>(.error 0,x)
 |f+1,x,sc,l=>match forms S f x sc l with
  |(.ok (e::r),x)=>(.ok (.app e r),x)
  |(.ok [],x)=>(.error 4,x)
  |(.error e,x)=>(.error e,x)
def forms (S:Sub):Nat→Xs→Scope→List Dt→Except Nat (List Ex)×Xs
 |0,x,_,_=>(.error 0,x)
 |_+1,x,_,[]=>(.ok [],x)
 |f+1,x,sc,d::r=>match form S f x sc d with
  |(.error e,x)=>(.error e,x)
  |(.ok a,x)=>match forms S f x sc r with
   |(.error e,x)=>(.error e,x)
   |(.ok l,x)=>(.ok (a::l),x)
def lambda (S:Sub):Nat→Xs→Scope→Dt→List Dt→Except Nat Ex×Xs
 |0,x,_,_,_=>(.error 0,x)
 |f+1,x,sc,p,body=>
  let ps:Option (List Id×Bool):=match p with
   | .sym t m=>some ([(t,m)],true)
   | .list l=>(idsOf l).bind (fun is=>if distinct is then some (is,false)else Option.none)
   |_=>Option.none
  match ps with
  |Option.none=>(.error 4,x)
  |some (is,rest)=>match forms S f x (is::sc) body with
   |(.error e,x)=>(.error e,x)
   |(.ok b,x)=>(.ok (.lam is.length rest b),x)
def keyword (S:Sub):Nat→Xs→Scope→Kw→List Dt→Except Nat Ex×Xs
 |0,x,_,_,_=>(.error 0,x)
 |f+1,x,sc,k,l=>match k,l with
  | .quote,[d]=>(.ok (.quo d),x)
  | .ite,[a,b]=>match forms S f x sc [a,b]with
   |(.ok [a,b],x)=>(.ok (.ite a b Option.none),x)
   |(.ok _,x)=>(.error 4,x)
   |(.error e,x)=>(.error e,x)
  | .ite,[a,b,c]=>match forms S f x sc [a,b,c]with
   |(.ok [a,b,c],x)=>(.ok (.ite a b (some c)),x)
   |(.ok _,x)=>(.error 4,x)
   |(.error e,x)=>(.error e,x)
  | .begin,b::r=>match forms S f x sc (b::r)with
   |(.ok (b::r),x)=>(.ok (.seq b r),x)
   |(.ok [],x)=>(.error 4,x)
   |(.error e,x)=>(.error e,x)
  | .set,[v,a]=>match (idOf v).bind (fun i=>varEx x i sc)with
   |Option.none=>(.error 4,x)
   |some t=>match form S f x sc a with
    |(.error e,x)=>(.error e,x)
    |(.ok a,x)=>(match t with| .loc u n=>.ok (.setL u n a)| .glo s=>.ok (.setG s a)|_=>.error 4,x)
  | .lambda,p::b::r=>lambda S f x sc p (b::r)
  | .let',.list bs::b::r=>match bindings bs with
   |Option.none=>(.error 4,x)
   |some (ns,vs)=>match lambda S f x sc (.list ns) (b::r)with
    |(.error e,x)=>(.error e,x)
    |(.ok g,x)=>match forms S f x sc vs with
     |(.error e,x)=>(.error e,x)
     |(.ok vs,x)=>(.ok (.app g vs),x)
  |_,_=>(.error 4,x)
end
def define (S:Sub) (f:Nat) (x:Xs) (l:List Dt):Except Nat Ex×Xs:=match l with
 | [.sym t _,a]=>match Kw.of t with
  |some _=>(.error 4,x)
  |Option.none=>match form S f (x.drop t) [] a with
   |(.error e,x)=>(.error e,x)
   |(.ok a,x)=>(.ok (.defG t a),x)
 | .list (.sym t _::ps)::b::r=>match Kw.of t with
  |some _=>(.error 4,x)
  |Option.none=>match lambda S f (x.drop t) [] (.list ps) (b::r)with
   |(.error e,x)=>(.error e,x)
   |(.ok a,x)=>(.ok (.defG t a),x)
 |_=>(.error 4,x)
def syntaxRules:Bs:=[115,121,110,116,97,120,45,114,117,108,101,115]
def syntaxF (x:Xs) (l:List Dt):Except Nat Ex×Xs:=match l with
 | [.sym t _,.list (.sym u _::.list ls::rs)]=>
  if(Kw.of t).isSome||!(u==syntaxRules)then(.error 4,x)
  else match litsOf ls with
   |Option.none=>(.error 4,x)
   |some lits=>match rulesOf lits rs with
    |Option.none=>(.error 4,x)
    |some rules=>let x:=x.drop t;(.ok .skip,{x with macros:=x.macros++[⟨t,lits,rules⟩]})
 |_=>(.error 4,x)
def top (S:Sub):Nat→Xs→Dt→Except Nat Ex×Xs
 |0,x,_=>(.error 0,x)
 |f+1,x,d=>match d with
  | .list (.sym t m::r)=>match x.means (t,m) []with
   | .kw .define=>define S f x r
   | .kw .synx'=>syntaxF x r
   | .mac mc=>match use S x mc r []with
    |(.error e,x)=>(.error e,x)
    |(.ok (d,x),_)=>top S f x d
   |_=>form S (f+1) x [] d
  |d=>form S (f+1) x [] d
def plentyN:Nat:=1000000000
def deal (S:Sub):List (Dt×Nat)→Option Vl→Xs→Mc→(Option Nat×Nat)×Option Vl×Xs×Mc
 | [],v,x,m=>((Option.none,0),v,x,m)
 |(d,p)::r,v,x,m=>match top S plentyN x d with
  |(.error e,x)=>((some e,p),v,x,m)
  |(.ok e,x)=>match go S plentyN (.ev e Option.none []) m with
   |(.done v,m)=>deal S r (some v) x m
   |(.stop e,m)=>((some e,p),v,x,m)
   |(_,m)=>((some 0,p),v,x,m)
end Sc
end
section
namespace Sc
open Go
theorem qjn (S:Sub) (n:Nat) (v:Vl) (m:Mc):go S n (.done v) m=(.done v,m):=by
 cases n <;> rfl
theorem qjm (S:Sub) (n:Nat) (e:Nat) (m:Mc):go S n (.stop e) m=(.stop e,m):=by
 cases n <;> rfl
theorem qjl (S:Sub) (n:Nat) (c:Ct) (m:Mc):go S (n+1) c m=go S n (next S c m).1 (next S c m).2:=by
 cases c with
 |done v=>rw [qjn];show _=go S n (.done v) m;rw [qjn]
 |stop e=>rw [qjm];show _=go S n (.stop e) m;rw [qjm]
 |_=>rfl
theorem qkt (S:Sub):∀(a b:Nat) (c:Ct) (m:Mc),go S (a+b) c m=go S b (go S a c m).1 (go S a c m).2
 |0,b,c,m=>by rw [Nat.zero_add];rfl
 |a+1,b,c,m=>by
  rw [show a+1+b=(a+b)+1 from by omega,qjl,qkt S a b,qjl S a]
def ToN (S:Sub) (j:Nat) (c:Ct) (m:Mc) (c':Ct) (m':Mc):Prop:=go S j c m=(c',m')
theorem ToN.trans {S:Sub} {i j:Nat} {a b c:Ct} {x y z:Mc} (h:ToN S i a x b y) (k:ToN S j b y c z):ToN S (i+j) a x c z:=by
 unfold ToN at*;rw [qkt,h];exact k
theorem ToN.one {S:Sub} {c c':Ct} {m m':Mc} (h:next S c m=(c',m')):ToN S 1 c m c' m':=by
 unfold ToN;rw [show(1:Nat)=0+1 from rfl,qjl,h];rfl
theorem ToN.head {S:Sub} {j:Nat} {c c' c'':Ct} {m m' m'':Mc} (h:next S c m=(c',m')) (k:ToN S j c' m' c'' m''):ToN S (j+1) c m c'' m'':=by
 rw [Nat.add_comm];exact(ToN.one h).trans k
theorem ToN.done {S:Sub} {j n:Nat} {c:Ct} {m m':Mc} {v:Vl} (h:ToN S j c m (.done v) m') (hn:j≤n):go S n c m=(.done v,m'):=by
 obtain⟨b,rfl⟩:∃b,n=j+b:=⟨n-j,by omega⟩
 rw [qkt,show go S j c m=(.done v,m')from h];exact qjn _ _ _ _
theorem ToN.stop {S:Sub} {j n:Nat} {c:Ct} {m m':Mc} {e:Nat} (h:ToN S j c m (.stop e) m') (hn:j≤n):go S n c m=(.stop e,m'):=by
 obtain⟨b,rfl⟩:∃b,n=j+b:=⟨n-j,by omega⟩
 rw [qkt,show go S j c m=(.stop e,m')from h];exact qjm _ _ _ _
theorem step_ok {S:Sub} {m:Mc} (h:(m.steps:Int)<S.fuel):step S m=(.ok (),{m with steps:=m.steps+1}):=by unfold step;rw [if_pos h]
def plenty (t:Bs):Sub:=⟨t,[],[],[],[],0,20000,500,5000,2000⟩
def mostP:List Pm:=[.add,.sub,.mul,.quot,.rem,.eql,.lss,.nullQ,.pairQ,.intQ,.symQ,.strQ,.boolQ,.procQ,.sealQ,.not,.eqQ,.equalQ,.cons,.car,.cdr,.list,.length,.append,.strAppend,.strLength,.numStr,.symStr,.apply,.callcc,.wind,.error,.seal]
def m0:Mc:={({}:Mc)with glob:=([([115,101,99,114,101,116,115],.nil),([111,117,116],.bool false),([105,110],.bool false),([99,108,111,99,107],.bool false),([100,105,99,101],.bool false),([107,101,121],.bool false)]:List (Bs×Vl)).foldl (fun g p=>put p.1 p.2 g) (mostP.foldl (fun g p=>put p.name (.prim p) g) [])}
end Sc
end
section
namespace Py
open Go
open Px (digB wordB endB strB skip unsign numB quoteT skip_idem skip_suf Free Starts qa3 qd7 qg3 qf2 qdb qhl qkp qfq)
def Reads (d:Nat) (u:List UInt8) (t:Dt):Prop:=∀F rest,2*(u.length+rest.length)+1≤F→Free rest→rd F false d (u++rest)=.inr ([t],rest)
theorem qcg (t:Dt) (rest:List UInt8) (h:Free rest):closed t rest=.inr ([t],rest):=by
 cases rest with
 |nil=>rfl
 |cons c r=>simp [closed,h c r rfl]
theorem qff (d:Nat) (w:List UInt8) (t:Dt) (hw:w.all wordB=true) (hne:w≠[]) (h:∀rest,Free rest→wordOf w rest=.inr ([t],rest)):Reads d w t∧Starts w:=by
 cases w with
 |nil=>exact absurd rfl hne
 |cons c r=>
  have h1:wordB c=true∧r.all wordB=true:=by simpa using hw
  have hc:=qd7 c h1.1
  refine⟨?_,c,r,rfl,hc.1,hc.2.1,hc.2.2.1,hc.2.2.2.1⟩
  intro F rest hF hr
  obtain⟨f,rfl⟩:∃f,F=f+1:=⟨F-1,by omega⟩
  rw [List.cons_append,rd,qa3 c _ hc.1 hc.2.1 hc.2.2.1]
  simp only
  rw [if_neg hc.2.2.2.2.1,if_neg hc.2.2.2.2.2.1,if_neg hc.2.2.2.2.2.2.1,if_neg hc.2.2.2.2.2.2.2,if_pos h1.1]
  have ht:=qg3 (c::r) rest hw hr
  rw [←List.cons_append]
  unfold word
  rw [ht.1,ht.2];exact h rest hr
theorem num_reads (d:Nat) (v:Int) (h0:-9223372036854775808≤v) (h1:v≤9223372036854775807):Reads d (Lib.itoa v) (.num v)∧Starts (Lib.itoa v):=by
 have hw:=qhl v
 refine qff d _ _ hw.1 hw.2 (fun rest hr=>?_)
 unfold wordOf
 rw [if_pos (qkp v),qfq v h0 h1];exact qcg _ _ hr
theorem sym_reads (d:Nat) (w:List UInt8) (hw:w.all wordB=true) (hne:w≠[]) (hn:numB w=false) (hl:¬24<w.length):Reads d w (.sym w 0)∧Starts w:=by
 refine qff d _ _ hw hne (fun rest hr=>?_)
 unfold wordOf
 rw [if_neg (by simp [hn]),if_neg hl];exact qcg _ _ hr
theorem qrl (F:Nat) (b:Bool) (d:Nat) (l:List UInt8):rd F b d (32::l)=rd F b d l:=by
 rw [←rd_skip F b d (32::l),←rd_skip F b d l];rfl
inductive Rows (d:Nat):List (List UInt8)→List Dt→Prop
 |nil:Rows d [] []
 |cons {u:List UInt8} {t:Dt} {us:List (List UInt8)} {ts:List Dt}:Reads d u t→Starts u→Rows d us ts→Rows d (u::us) (t::ts)
theorem qfp (d:Nat):∀(us:List (List UInt8)) (ts:List Dt),Rows d us ts→∀F rest,2*((Px.join us).length+1+rest.length)+2≤F→rd F true d (Px.join us++41::rest)=.inr (ts,rest)
 | [],_,.nil,F,rest,hF=>by
  obtain⟨f,rfl⟩:∃f,F=f+1:=⟨F-1,by omega⟩
  exact rd_true_close f d 41 rest rfl
 | [u],_,.cons (t:=t) hr ⟨c,r,hc,h1,h2,h3,h4⟩ .nil,F,rest,hF=>by
  obtain⟨f,rfl⟩:∃f,F=f+1:=⟨F-1,by omega⟩
  have hj:Px.join [u]=u:=by simp [Px.join]
  rw [hj]at hF⊢
  have hk:skip false (u++41::rest)=u++41::rest:=by rw [hc,List.cons_append];exact qa3 c _ h1 h2 h3
  have hx:=hr f (41::rest) (by simp;omega) (qdb _ _ (by decide))
  rw [rd_true_more f d _ hk (by rw [hc];intro c' r' e;simp at e;rw [←e.1];exact h4) _ _ hx,rd_skip]
  obtain⟨g,rfl⟩:∃g,f=g+1:=⟨f-1,by omega⟩
  rw [rd_true_close g d 41 rest rfl];rfl
 |u::u2::v,_,.cons (t:=t) hr ⟨c,r,hc,h1,h2,h3,h4⟩ hrest,F,rest,hF=>by
  obtain⟨f,rfl⟩:∃f,F=f+1:=⟨F-1,by omega⟩
  have hj:Px.join (u::u2::v)=u++32::Px.join (u2::v):=rfl
  rw [hj]at hF⊢
  have e:(u++32::Px.join (u2::v))++41::rest=u++(32::(Px.join (u2::v)++41::rest)):=by simp
  rw [e]
  have hk:skip false (u++(32::(Px.join (u2::v)++41::rest)))=u++(32::(Px.join (u2::v)++41::rest)):=by rw [hc,List.cons_append];exact qa3 c _ h1 h2 h3
  have hx:=hr f (32::(Px.join (u2::v)++41::rest)) (by simp at hF⊢;omega) (qdb _ _ (by decide))
  have ht:1≤u.length:=by rw [hc];simp
  rw [rd_true_more f d _ hk (by rw [hc];intro c' r' e;simp at e;rw [←e.1];exact h4) _ _ hx,rd_skip,qrl,qfp d (u2::v) _ hrest f rest (by simp at hF⊢;omega)]
  rfl
theorem list_reads (d:Nat) (hd:d≠30) (us:List (List UInt8)) (ts:List Dt) (hy:Rows (d+1) us ts):Reads d (Px.paren us) (.list ts)∧Starts (Px.paren us):=by
 refine⟨?_,40,_,rfl,by decide,by decide,by decide,by decide⟩
 intro F rest hF hr
 obtain⟨f,rfl⟩:∃f,F=f+1:=⟨F-1,by omega⟩
 have e:Px.paren us++rest=40::(Px.join us++41::rest):=by simp [Px.paren]
 have hl:(Px.paren us).length=(Px.join us).length+2:=by simp [Px.paren]
 rw [e,rd,qa3 40 _ (by decide) (by decide) (by decide)]
 simp only
 rw [if_pos (by decide),if_neg hd,qfp (d+1) us ts hy f rest (by omega)]
theorem qee (d:Nat) (hd:d≠30) (u:List UInt8) (t:Dt) (h:Reads (d+1) u t):Reads d (39::u) (.list [.sym quoteT 0,t])∧Starts (39::u):=by
 refine⟨?_,39,_,rfl,by decide,by decide,by decide,by decide⟩
 intro F rest hF hr
 obtain⟨f,rfl⟩:∃f,F=f+1:=⟨F-1,by omega⟩
 rw [List.cons_append,rd,qa3 39 _ (by decide) (by decide) (by decide)]
 simp only
 rw [if_neg (by decide),if_pos (by decide),if_neg hd,h f rest (by simp at hF;omega) hr]
theorem qnj (f:Nat) (u rest:List UInt8) (t:Dt) (h:Reads 0 u t) (hs:Starts u) (hr:Free rest) (hf:2*(u.length+rest.length)+2≤f):
  topP f (u++rest)=preP [(t,u.length+rest.length)] (topP (f-1) rest):=by
 obtain⟨g,rfl⟩:∃g,f=g+1:=⟨f-1,by omega⟩
 obtain⟨c,r,hc,h1,h2,h3,_⟩:=hs
 have hk:skip false (u++rest)=u++rest:=by rw [hc,List.cons_append];exact qa3 c _ h1 h2 h3
 have hx:=h g rest (by omega) hr
 have hl:(u++rest).length=u.length+rest.length:=List.length_append
 rw [topP,hk,←hl]
 rw [hc,List.cons_append]at hx⊢
 simp only
 rw [hx]
 simp only [Nat.add_sub_cancel]
 rcases topP g rest with e|⟨xs,rr⟩
 ·rfl
 ·simp [preP]
end Py
end
section
namespace Py
open Go
open Px (digB wordB endB strB skip numB quoteT Free Starts qa3 qf2 qdb)
theorem qd8 (d:Nat) (b:Bool):Reads d (Dt.wr (.bool b)) (.bool b)∧Starts (Dt.wr (.bool b)):=by
 cases b
 ·refine⟨?_,35,[102],rfl,by decide,by decide,by decide,by decide⟩
  intro F rest hF hr
  obtain⟨f,rfl⟩:∃f,F=f+1:=⟨F-1,by omega⟩
  show rd (f+1) false d (35::102::rest)=_
  rw [rd,qa3 35 _ (by decide) (by decide) (by decide)]
  show truth (102::rest)=_
  exact qcg _ _ hr
 ·refine⟨?_,35,[116],rfl,by decide,by decide,by decide,by decide⟩
  intro F rest hF hr
  obtain⟨f,rfl⟩:∃f,F=f+1:=⟨F-1,by omega⟩
  show rd (f+1) false d (35::116::rest)=_
  rw [rd,qa3 35 _ (by decide) (by decide) (by decide)]
  show truth (116::rest)=_
  exact qcg _ _ hr
theorem qg5 (d:Nat) (u:List UInt8) (hu:u.all strB=true):Reads d (34::(u++[34])) (.str u)∧Starts (34::(u++[34])):=by
 refine⟨?_,34,_,rfl,by decide,by decide,by decide,by decide⟩
 intro F rest hF hr
 obtain⟨f,rfl⟩:∃f,F=f+1:=⟨F-1,by omega⟩
 have e:(34::(u++[34]))++rest=34::(u++34::rest):=by simp
 rw [e,rd,qa3 34 _ (by decide) (by decide) (by decide)]
 show str (u++34::rest)=_
 have ht:=qf2 u rest hu
 unfold str
 rw [ht.2,ht.1];rfl
mutual
def wf (d:Nat):Dt→Bool
 | .num _=>true
 | .bool _=>true
 | .str s=>s.all strB
 | .sym s m=>m==0&&s.all wordB&&!s.isEmpty&&!numB s&&decide (s.length≤24)
 | .list l=>!(d==30)&&wfL (d+1) l
def wfL (d:Nat):List Dt→Bool
 | []=>true
 |t::r=>wf d t&&wfL d r
end
mutual
def nums:Dt→List Int
 | .num v=>[v]
 | .list l=>numsL l
 |_=>[]
def numsL:List Dt→List Int
 | []=>[]
 |t::r=>nums t++numsL r
end
def inR (v:Int):Prop:=-9223372036854775808≤v∧v≤9223372036854775807
mutual
theorem qf0:∀(t:Dt) (d:Nat),wf d t=true→(∀v,v∈nums t→inR v)→Reads d t.wr t∧Starts t.wr
 | .num v,d,_,hn=>num_reads d v (hn v (by simp [nums])).1 (hn v (by simp [nums])).2
 | .bool b,d,_,_=>qd8 d b
 | .str s,d,h,_=>qg5 d s h
 | .sym s m,d,h,_=>by
  simp only [wf,Bool.and_eq_true,beq_iff_eq,Bool.not_eq_true',decide_eq_true_eq]at h
  obtain⟨⟨⟨⟨h1,h2⟩,h3⟩,h4⟩,h5⟩:=h
  subst h1
  exact sym_reads d s h2 (by intro e;subst e;simp at h3) h4 (by omega)
 | .list l,d,h,hn=>by
  simp only [wf,Bool.and_eq_true,Bool.not_eq_true',beq_eq_false_iff_ne]at h
  have hr:=qg1 l (d+1) h.2 hn
  have:=list_reads d h.1 (Dt.wrs l) l hr
  exact this
theorem qg1:∀(l:List Dt) (d:Nat),wfL d l=true→(∀v,v∈numsL l→inR v)→Rows d (Dt.wrs l) l
 | [],_,_,_=>.nil
 |t::r,d,h,hn=>by
  simp only [wfL,Bool.and_eq_true]at h
  have h1:=qf0 t d h.1 (fun v hv=>hn v (by simp [numsL,hv]))
  exact .cons h1.1 h1.2 (qg1 r d h.2 (fun v hv=>hn v (by simp [numsL,hv])))
end
mutual
def wq:Dt→List UInt8
 | .num v=>Lib.itoa v
 | .bool b=>if b then [35,116]else [35,102]
 | .str t=>34::(t++[34])
 | .sym t _=>t
 | .list []=>Px.paren []
 | .list [.sym s m,x]=>if s==quoteT&&m==0 then 39::wq x else Px.paren [s,wq x]
 | .list (x::l)=>Px.paren (wq x::wqs l)
def wqs:List Dt→List (List UInt8)
 | []=>[]
 |d::r=>wq d::wqs r
end
mutual
theorem wq_reads:∀(t:Dt) (d:Nat),wf d t=true→(∀v,v∈nums t→inR v)→Reads d (wq t) t∧Starts (wq t)
 | .num v,d,_,hn=>num_reads d v (hn v (by simp [nums])).1 (hn v (by simp [nums])).2
 | .bool b,d,_,_=>qd8 d b
 | .str s,d,h,_=>qg5 d s h
 | .sym s m,d,h,hn=>qf0 (.sym s m) d h hn
 | .list [],d,h,hn=>by
  simp only [wf,Bool.and_eq_true,Bool.not_eq_true',beq_eq_false_iff_ne]at h
  exact list_reads d h.1 [] [] .nil
 | .list [.sym s m,x],d,h,hn=>by
  simp only [wf,wfL,Bool.and_eq_true,Bool.not_eq_true',beq_eq_false_iff_ne]at h
  have hx:=wq_reads x (d+1) h.2.2.1 (fun v hv=>hn v (by simp [nums,numsL,hv]))
  have hs:=qf0 (.sym s m) (d+1) (by simp only [wf,Bool.and_eq_true,Bool.not_eq_true'];exact h.2.1) (fun v hv=>by simp [nums]at hv)
  rw [wq]
  by_cases hq:(s==quoteT&&m==0)=true
  ·rw [if_pos hq]
   simp only [Bool.and_eq_true,beq_iff_eq]at hq
   obtain⟨rfl,rfl⟩:=hq
   exact qee d h.1 _ _ hx.1
  ·rw [if_neg hq]
   exact list_reads d h.1 _ _ (.cons hs.1 hs.2 (.cons hx.1 hx.2 .nil))
 | .list (x::l),d,h,hn=>by
  simp only [wf,wfL,Bool.and_eq_true,Bool.not_eq_true',beq_eq_false_iff_ne]at h
  have hx:=wq_reads x (d+1) h.2.1 (fun v hv=>hn v (by simp [nums,numsL,hv]))
  have hl:=qg0 l (d+1) h.2.2 (fun v hv=>hn v (by simp [nums,numsL,hv]))
  have hr:=list_reads d h.1 _ _ (.cons hx.1 hx.2 hl)
  cases x with
  |sym s m=>
   cases l with
   |nil=>exact hr
   |cons y l=>
    cases l with
    |nil=>
     have hy:=wq_reads y (d+1) (by simp only [wfL,Bool.and_eq_true]at h;exact h.2.2.1) (fun v hv=>hn v (by simp [nums,numsL,hv]))
     rw [wq]
     by_cases hq:(s==quoteT&&m==0)=true
     ·rw [if_pos hq]
      simp only [Bool.and_eq_true,beq_iff_eq]at hq
      obtain⟨rfl,rfl⟩:=hq
      exact qee d h.1 _ _ hy.1
     ·rw [if_neg hq];exact hr
    |cons z l=>exact hr
  |_=>exact hr
theorem qg0:∀(l:List Dt) (d:Nat),wfL d l=true→(∀v,v∈numsL l→inR v)→Rows d (wqs l) l
 | [],_,_,_=>.nil
 |t::r,d,h,hn=>by
  simp only [wfL,Bool.and_eq_true]at h
  have h1:=wq_reads t d h.1 (fun v hv=>hn v (by simp [numsL,hv]))
  exact .cons h1.1 h1.2 (qg0 r d h.2 (fun v hv=>hn v (by simp [numsL,hv])))
end
inductive Forms:List UInt8→List (Dt×Nat)→Prop
 |nil:Forms [] []
 |cons {u rest:List UInt8} {t:Dt} {fs:List (Dt×Nat)}:Reads 0 u t→Starts u→Free rest→Forms rest fs→Forms (u++rest) ((t,u.length+rest.length)::fs)
theorem forms_top:∀{l:List UInt8} {fs:List (Dt×Nat)},Forms l fs→∀f,2*l.length+2≤f→topP f l=.inr (fs,[])
 |_,_,.nil,f,hf=>by
  obtain⟨g,rfl⟩:∃g,f=g+1:=⟨f-1,by omega⟩
  rfl
 |_,_,.cons (u:=u) (rest:=rest) (t:=t) (fs:=fs) h1 h2 h3 h4,f,hf=>by
  have hl:(u++rest).length=u.length+rest.length:=List.length_append
  have hu:1≤u.length:=by obtain⟨c,r,e,_⟩:=h2;rw [e];simp
  rw [qnj f u rest t h1 h2 h3 (by omega),forms_top h4 (f-1) (by omega)]
  rfl
end Py
namespace Sc
open Go
def noSyn (d:Dt):Bool:=match d with
 | .list (.sym s _::_)=>!(s== [100,101,102,105,110,101,45,115,121,110,116,97,120])
 |_=>true
def Does (t:Bs) (r:(Option Nat×Nat)×Option Vl×Xs×Mc):Prop:=∃fs,Py.Forms t fs∧t.length≤1200∧(∀f,f∈fs→noSyn f.1=true)∧deal (plenty t) (fs.map (fun f=>(f.1,t.length-f.2))) Option.none {} m0=r
def EndsW (r:(Option Nat×Nat)×Option Vl×Xs×Mc) (v:Bs):Prop:=r.1.1=Option.none∧r.2.1.map wr=some v∧r.2.2.2.out=[]∧r.2.2.2.evs=[]
def textOf (ds:List Dt):Bs:=(ds.map Py.wq).flatten
def formOk (d:Dt):Bool:=Py.wf 0 d&&(match Py.wq d with|40::_=>true|_=>false)
theorem forms_of:∀ds:List Dt,(∀d,d∈ds→formOk d=true∧∀v,v∈Py.nums d→Py.inR v)→∃fs,Py.Forms (textOf ds) fs∧fs.map (·.1)=ds
 | [],_=>⟨[],.nil,rfl⟩
 |d::r,h=>by
  obtain⟨fs,hf,hm⟩:=forms_of r (fun x hx=>h x (List.mem_cons_of_mem _ hx))
  obtain⟨h1,h2⟩:=h d (List.mem_cons_self ..)
  simp only [formOk,Bool.and_eq_true]at h1
  have hr:=Py.wq_reads d 0 h1.1 h2
  refine⟨_,.cons hr.1 hr.2 ?_ hf,by simp [hm]⟩
  intro c l e
  cases r with
  |nil=>simp at e
  |cons d2 r2=>
   change textOf (d2::r2)=c::l at e
   have h3:=(h d2 (by simp)).1
   simp only [formOk,Bool.and_eq_true]at h3
   have e2:textOf (d2::r2)=Py.wq d2++textOf r2:=by simp [textOf]
   rw [e2]at e
   cases hw:Py.wq d2 with
   |nil=>rw [hw]at h3;simp at h3
   |cons c2 l2=>
    rw [hw]at h3 e
    simp only [List.cons_append,List.cons.injEq]at e
    rw [←e.1]
    split at h3
    ·rename_i hx;cases hx;decide
    ·simp at h3
def Gives (t v:Bs):Prop:=v.length≤1200∧∃r,Does t r∧EndsW r v
theorem gives_trees (ds:List Dt) (v:Bs) (hd:∀d,d∈ds→formOk d=true∧∀v,v∈Py.nums d→Py.inR v) (hl:(textOf ds).length≤1200) (hv:v.length≤1200) (hn:∀d,d∈ds→noSyn d=true)
  (hE:∀ps:List Nat,ps.length=ds.length→EndsW (deal (plenty (textOf ds)) (ds.zip ps) Option.none {} m0) v):Gives (textOf ds) v:=by
 obtain⟨fs,hf,hm⟩:=forms_of ds hd
 have e:fs.map (fun f=>(f.1,(textOf ds).length-f.2))=ds.zip (fs.map (fun f=>(textOf ds).length-f.2)):=by
  generalize (textOf ds).length=k
  rw [←hm];clear hf hm
  induction fs with
  |nil=>rfl
  |cons a r ih=>simp [ih]
 have h:=hE (fs.map (fun f=>(textOf ds).length-f.2)) (by rw [←hm];simp)
 rw [←e]at h
 exact⟨hv,_,⟨fs,hf,hl,fun f hf2=>hn f.1 (by rw [←hm];exact List.mem_map_of_mem hf2),rfl⟩,h⟩
end Sc
end
end Go.Proofs.YtldaocpojcfljaaGreatDoor
