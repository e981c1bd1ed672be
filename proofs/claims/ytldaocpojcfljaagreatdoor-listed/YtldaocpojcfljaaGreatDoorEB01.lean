import Derived.Test.YtldaocpojcfljaaGreatDoorD22
set_option maxRecDepth 100000
set_option maxHeartbeats 4000000
namespace Go.Proofs.YtldaocpojcfljaaGreatDoor
open Tryz hiding parts
section
namespace Sc
open Go
def EvTo(S:Sub)(j:Nat)(x:Ex)(env:Option Nat)(m:Mc)(v:Vl)(m':Mc):Prop:=∀K,ToN S j (.ev x env K) m (.ret v K) m'
def ApTo(S:Sub)(j:Nat)(f:Vl)(l:List Vl)(m:Mc)(v:Vl)(m':Mc):Prop:=∀K,ToN S j (.ap f l K) m (.ret v K) m'
abbrev Mc.st(m:Mc)(k:Nat):Mc:={m with steps:=m.steps+k}
theorem step_ok'{S:Sub}{m:Mc}(h:(m.steps:Int)<S.fuel):step S m=(.ok (),m.st 1):=step_ok h
theorem ev_glo{S:Sub}{s:Bs}{env:Option Nat}{m:Mc}{v:Vl}(hl:lookup s m.glob=some v)(h:(m.steps:Int)<S.fuel):EvTo S 1 (.glo s) env m v (m.st 1):=by
 intro K;refine ToN.one ?_;simp only[next,step_ok' h,hl]
theorem ev_loc{S:Sub}{i n:Nat}{m:Mc}{l:List Vl}{u:Option Nat}{v:Vl}(he:m.envs[i]? =some (l,u))(hv:l[n]? =some v)(h:(m.steps:Int)<S.fuel):EvTo S 1 (.loc 0 n) (some i) m v (m.st 1):=by
 intro K;refine ToN.one ?_;have:local' (m.st 1) (some i) 0 n=v:=by simp[local',outward,he,hv]
 simp only[next,step_ok' h,this]
theorem ev_num{S:Sub}{n:Int}{env:Option Nat}{m:Mc}(h:(m.steps:Int)<S.fuel):EvTo S 1 (.quo (.num n)) env m (.num n) (m.st 1):=by
 intro K;refine ToN.one ?_;simp only[next,step_ok' h,members,cellsN,ofDt]
theorem ev_app1{S:Sub}{j:Nat}{s:Bs}{x:Ex}{env:Option Nat}{m m':Mc}{f v:Vl}(hl:lookup s m.glob=some f)(hf:isProc f=true)(hx:EvTo S j x env (m.st 2) v m')
  (h0:((m.steps+1:Nat):Int)<S.fuel)(h1:(m'.steps:Int)<S.fuel)(K:List Fr):ToN S (j+4) (.ev (.app (.glo s) [x]) env K) m (.ap f [v] K) (m'.st 1):=by
 have a1:next S (.ev (.app (.glo s) [x]) env K) m=(.ev (.glo s) env (.app [] [x] env::K),m.st 1):=by
  simp only[next,step_ok' (show(m.steps:Int)<S.fuel from by omega)]
 have a2:=ev_glo (S:=S) (s:=s) (env:=env) (m:=m.st 1) (v:=f) hl h0 (.app [] [x] env::K);have a3:next S (.ret f (.app [] [x] env::K)) ((m.st 1).st 1)=(.ev x env (.app [f] [] env::K),m.st 2):=rfl;have a4:next S (.ret v (.app [f] [] env::K)) m'=(.ap f [v] K,m'.st 1):=by
  simp only[next,List.cons_append,List.nil_append,applyTo,step_ok' h1,hf,if_true]
 have:=(ToN.head a1 (a2.trans (ToN.head a3 (hx _)))).trans (ToN.one a4)
 rwa [show 1+(j+1)+1+1=j+4 from by omega]at this
theorem ev_app2{S:Sub}{j i:Nat}{s:Bs}{x y:Ex}{env:Option Nat}{m m' m'':Mc}{f v u:Vl}(hl:lookup s m.glob=some f)(hf:isProc f=true)(hx:EvTo S j x env (m.st 2) v m')(hy:EvTo S i y env m' u m'')
  (h0:((m.steps+1:Nat):Int)<S.fuel)(h1:(m''.steps:Int)<S.fuel)(K:List Fr):ToN S (j+i+5) (.ev (.app (.glo s) [x,y]) env K) m (.ap f [v,u] K) (m''.st 1):=by
 have a1:next S (.ev (.app (.glo s) [x,y]) env K) m=(.ev (.glo s) env (.app [] [x,y] env::K),m.st 1):=by
  simp only[next,step_ok' (show(m.steps:Int)<S.fuel from by omega)]
 have a2:=ev_glo (S:=S) (s:=s) (env:=env) (m:=m.st 1) (v:=f) hl h0 (.app [] [x,y] env::K);have a3:next S (.ret f (.app [] [x,y] env::K)) ((m.st 1).st 1)=(.ev x env (.app [f] [y] env::K),m.st 2):=rfl;have a4:next S (.ret v (.app [f] [y] env::K)) m'=(.ev y env (.app [f,v] [] env::K),m'):=rfl;have a5:next S (.ret u (.app [f,v] [] env::K)) m''=(.ap f [v,u] K,m''.st 1):=by
  simp only[next,List.cons_append,List.nil_append,applyTo,step_ok' h1,hf,if_true]
 have:=(ToN.head a1 (a2.trans (ToN.head a3 (hx _)))).trans ((ToN.head a4 (hy _)).trans (ToN.one a5))
 rwa [show 1+(j+1)+1+(i+1+1)=j+i+5 from by omega]at this
theorem ev_ite{S:Sub}{j:Nat}{c a:Ex}{e:Ex}{env:Option Nat}{m m':Mc}{b:Bool}(hc:EvTo S j c env (m.st 1) (.bool b) m')(h0:(m.steps:Int)<S.fuel)(K:List Fr):
  ToN S (j+2) (.ev (.ite c a (some e)) env K) m (.ev (if b then a else e) env K) m':=by
 have a1:next S (.ev (.ite c a (some e)) env K) m=(.ev c env (.ite a (some e) env::K),m.st 1):=by
  simp only[next,step_ok' h0]
 have a2:next S (.ret (.bool b) (.ite a (some e) env::K)) m'=(.ev (if b then a else e) env K,m'):=by cases b <;> rfl
 have:=(ToN.head a1 (hc _)).trans (ToN.one a2)
 rwa [show j+1+1=j+2 from by omega]at this
def IsL:List Int->Vl->Prop
 | [],v=>v=.nil
 |n::r,v=>∃id w,v=.pair id (.num n) w/\IsL r w
theorem isL_wr:∀(l:List Int) (v:Vl),IsL l v->wr v=Px.paren (l.map Lib.itoa)/\tl v=(match l with| []=>[41]|_::_=>32::(Px.join (l.map Lib.itoa)++[41]))
 | [],v,h=>by obtain rfl:v=.nil:=h;exact⟨rfl,rfl⟩
 |n::r,v,⟨id,w,e,hw⟩=>by
  subst e;obtain⟨h1,h2⟩:=isL_wr r w hw;have hn:wr (.num n)=Lib.itoa n:=rfl;cases r with
  |nil=>
   rw[wr,hn,h2,tl,hn,h2];simp[Px.paren,Px.join]
  |cons k s=>
   rw[wr,hn,h2,tl,hn,h2];simp[Px.paren,Px.join]
theorem ofDts_nums:∀(l:List Int) (m:Mc),ofDts m (l.map .num)=(l.map .num,m)
 | [],m=>rfl
 |n::r,m=>by simp only[List.map_cons,ofDts,ofDt,ofDts_nums r]
theorem mkList_nums:∀(l:List Int) (m:Mc) (rest:Vl) (ls:List Int),IsL ls rest->∃v,mkList m (l.map .num) rest=(v,{m with ids:=m.ids+l.length})/\IsL (l++ls) v
 | [],m,rest,ls,h=>⟨rest,rfl,h⟩
 |n::r,m,rest,ls,h=>by
  obtain⟨w,h1,h2⟩:=mkList_nums r m rest ls h;refine⟨.pair (m.ids+r.length) (.num n) w,?_,_,w,rfl,h2⟩;unfold mkList at h1|-;rw[List.map_cons,List.foldr_cons,h1];rfl
theorem membersL_nums:∀l:List Int,membersL (l.map .num)=l.length
 | []=>rfl
 |n::r=>by simp only[List.map_cons,membersL,members,membersL_nums r,List.length_cons];omega
theorem cellsN_ok(S:Sub):∀(n:Nat) (m:Mc),((m.cells+n:Nat):Int)<=S.quota->cellsN S n m=(.ok (),{m with cells:=m.cells+n})
 |0,m,_=>rfl
 |n+1,m,h=>by
  have hc:cell S m=(.ok (),{m with cells:=m.cells+1}):=by unfold cell;rw[if_pos (by omega)]
  rw[cellsN,hc];simp only;rw[cellsN_ok S n _ (by show((m.cells+1+n:Nat):Int)<=S.quota;omega)];simp only[Nat.add_assoc,Nat.add_comm 1 n]
structure Same (m m':Mc) (k c:Nat):Prop where
 glob:m'.glob=m.glob
 out:m'.out=m.out
 evs:m'.evs=m.evs
 wnd:m'.wnd=m.wnd
 steps:m'.steps<=m.steps+k
 cells:m'.cells<=m.cells+c
theorem Same.trans{a b c:Mc}{k l x y:Nat}(h:Same a b k x)(g:Same b c l y):Same a c (k+l) (x+y):=
 ⟨g.glob.trans h.glob,g.out.trans h.out,g.evs.trans h.evs,g.wnd.trans h.wnd,by have:=h.steps;have:=g.steps;omega,by have:=h.cells;have:=g.cells;omega⟩
theorem Same.refl(m:Mc):Same m m 0 0:=⟨rfl,rfl,rfl,rfl,Nat.le_refl _,Nat.le_refl _⟩
theorem Same.le{m m':Mc}{k c k' c':Nat}(h:Same m m' k c)(hk:k<=k')(hc:c<=c'):Same m m' k' c':=⟨h.glob,h.out,h.evs,h.wnd,by have:=h.steps;omega,by have:=h.cells;omega⟩
theorem ev_list{S:Sub}(l:List Int){env:Option Nat}{m:Mc}(h:(m.steps:Int)<S.fuel)(hc:((m.cells+l.length:Nat):Int)<=S.quota):∃v m',EvTo S 1 (.quo (.list (l.map .num))) env m v m'/\IsL l v/\Same m m' 1 l.length/\m'.envs=m.envs:=by
 obtain⟨v,h1,h2⟩:=mkList_nums l {m with steps:=m.steps+1,cells:=m.cells+l.length} .nil [] rfl;refine⟨v,{m with steps:=m.steps+1,cells:=m.cells+l.length,ids:=m.ids+l.length},fun K=>ToN.one ?_,by simpa using h2,⟨rfl,rfl,rfl,rfl,Nat.le_refl _,Nat.le_refl _⟩,rfl⟩;have e:=cellsN_ok S l.length (m.st 1) (by show((m.cells+l.length:Nat):Int)<=S.quota;exact hc);simp only[next,step_ok' h,members,membersL_nums,e,ofDt,ofDts_nums,h1]
end Sc
end
section
namespace Sc
open Go
theorem itoa_len(v:Int)(h0:-9223372036854775808<=v)(h1:v<=9223372036854775807):(Lib.itoa v).length<=21:=Lib.itoa_length_le v h0 h1
end Sc
end
section
namespace Sc
open Go
def turnD:Dt:=.list [.sym [100,101,102,105,110,101] 0,.list [.sym [116,117,114,110] 0,.sym [108] 0,.sym [97] 0],.list [.sym [105,102] 0,.list [.sym [110,117,108,108,63] 0,.sym [108] 0],.sym [97] 0,.list [.sym [116,117,114,110] 0,.list [.sym [99,100,114] 0,.sym [108] 0],.list [.sym [99,111,110,115] 0,.list [.sym [99,97,114] 0,.sym [108] 0],.sym [97] 0]]]]
def sizeD:Dt:=.list [.sym [100,101,102,105,110,101] 0,.list [.sym [115,105,122,101] 0,.sym [108] 0],.list [.sym [105,102] 0,.list [.sym [112,97,105,114,63] 0,.sym [108] 0],.list [.sym [43] 0,.num (1),.list [.sym [115,105,122,101] 0,.list [.sym [99,100,114] 0,.sym [108] 0]]],.num (0)]]
def lisX(A B:Dt):Dt:=.list [.sym [97,112,112,101,110,100] 0,.list [.sym [116,117,114,110] 0,.list [.sym [113,117,111,116,101] 0,A],.list [.sym [113,117,111,116,101] 0,.list []]],.list [.sym [113,117,111,116,101] 0,B]]
def lisY(A:Dt):Dt:=.list [.sym [115,105,122,101] 0,.list [.sym [113,117,111,116,101] 0,A]]
def lisZ(l:List Dt):Dt:=.list [.sym [108,101,110,103,116,104] 0,.list (.sym [108,105,115,116] 0::l)]
def lisW(A:Dt):Dt:=.list [.list [.sym [108,97,109,98,100,97] 0,.list [.sym [120] 0],.list [.sym [101,113,117,97,108,63] 0,.sym [120] 0,.list [.sym [113,117,111,116,101] 0,A]]],.list [.sym [113,117,111,116,101] 0,A]]
def turnT:Bs:=[116,117,114,110]
def sizeT:Bs:=[115,105,122,101]
def turnRec:Ex:=.app (.glo turnT) [.app (.glo [99,100,114]) [.loc 0 0],.app (.glo [99,111,110,115]) [.app (.glo [99,97,114]) [.loc 0 0],.loc 0 1]]
def turnB:Ex:=.ite (.app (.glo [110,117,108,108,63]) [.loc 0 0]) (.loc 0 1) (some turnRec)
def sizeRec:Ex:=.app (.glo [43]) [.quo (.num 1),.app (.glo sizeT) [.app (.glo [99,100,114]) [.loc 0 0]]]
def sizeB:Ex:=.ite (.app (.glo [112,97,105,114,63]) [.loc 0 0]) sizeRec (some (.quo (.num 0)))
def turnV:Vl:=.lam 0 2 false [turnB] Option.none
def sizeV:Vl:=.lam 1 1 false [sizeB] Option.none
def m1:Mc:={m0 with steps:=4,cells:=2,ids:=2,glob:=m0.glob++[(turnT,turnV),(sizeT,sizeV)]}
theorem deal_defs(t:Bs)(p q:Nat)(r:List (Dt×Nat)):deal (plenty t) ((turnD,p)::(sizeD,q)::r) Option.none {} m0=deal (plenty t) r (some .none) {} m1:=by kernel_rfl
theorem l_turn:lookup turnT m1.glob=some turnV:=by kernel_rfl
theorem l_size:lookup sizeT m1.glob=some sizeV:=by kernel_rfl
theorem l_cdr:lookup [99,100,114] m1.glob=some (.prim .cdr):=by kernel_rfl
theorem l_car:lookup [99,97,114] m1.glob=some (.prim .car):=by kernel_rfl
theorem l_cons:lookup [99,111,110,115] m1.glob=some (.prim .cons):=by kernel_rfl
theorem l_null:lookup [110,117,108,108,63] m1.glob=some (.prim .nullQ):=by kernel_rfl
theorem l_pair:lookup [112,97,105,114,63] m1.glob=some (.prim .pairQ):=by kernel_rfl
theorem l_add:lookup [43] m1.glob=some (.prim .add):=by kernel_rfl
theorem l_append:lookup [97,112,112,101,110,100] m1.glob=some (.prim .append):=by kernel_rfl
theorem ev_prim_loc{S:Sub}{s:Bs}{p:Pm}{i:Nat}{m:Mc}{l:List Vl}{u:Option Nat}{v r:Vl}(hl:lookup s m.glob=some (.prim p))(he:m.envs[i]? =some (l,u))(hv:l[0]? =some v)(h:((m.steps+3:Nat):Int)<S.fuel)
  (hp:∀K m,carry S (.prim p) [v] K m=(.ret r K,m)):EvTo S 6 (.app (.glo s) [.loc 0 0]) (some i) m r (m.st 4):=by
 intro K;have h1:=ev_app1 (S:=S) (j:=1) (s:=s) (x:=.loc 0 0) (env:=some i) (m:=m) (m':=m.st 3) (f:=.prim p) (v:=v) hl rfl (ev_loc (m:=m.st 2) he hv (by show((m.steps+2:Nat):Int)<S.fuel;omega)) (by omega) (by show((m.steps+3:Nat):Int)<S.fuel;exact h) K;exact h1.trans (ToN.one (by show carry S (.prim p) [v] K _=_;rw[hp]))
theorem carry_cdr(S:Sub)(id:Nat)(a b:Vl)(K:List Fr)(m:Mc):carry S (.prim .cdr) [.pair id a b] K m=(.ret b K,m):=rfl
theorem carry_car(S:Sub)(id:Nat)(a b:Vl)(K:List Fr)(m:Mc):carry S (.prim .car) [.pair id a b] K m=(.ret a K,m):=rfl
theorem carry_null0(S:Sub)(K:List Fr)(m:Mc):carry S (.prim .nullQ) [.nil] K m=(.ret (.bool true) K,m):=rfl
theorem carry_null1(S:Sub)(id:Nat)(a b:Vl)(K:List Fr)(m:Mc):carry S (.prim .nullQ) [.pair id a b] K m=(.ret (.bool false) K,m):=rfl
theorem carry_pair0(S:Sub)(K:List Fr)(m:Mc):carry S (.prim .pairQ) [.nil] K m=(.ret (.bool false) K,m):=rfl
theorem carry_pair1(S:Sub)(id:Nat)(a b:Vl)(K:List Fr)(m:Mc):carry S (.prim .pairQ) [.pair id a b] K m=(.ret (.bool true) K,m):=rfl
theorem carry_cons(S:Sub)(a b:Vl)(K:List Fr)(m:Mc)(h:(m.cells:Int)<S.quota):carry S (.prim .cons) [a,b] K m=(.ret (.pair m.ids a b) K,{m with cells:=m.cells+1,ids:=m.ids+1}):=by
 have hc:cell S m=(.ok (),{m with cells:=m.cells+1}):=by unfold cell;rw[if_pos h]
 simp only[carry,Pm.isList,Pm.kinds,Pm.grant,value,new,hc];rfl
theorem carry_lam(S:Sub)(id n:Nat)(x:Ex)(env:Option Nat)(l:List Vl)(K:List Fr)(m:Mc)(hn:l.length=n)(h:((m.cells+n:Nat):Int)<=S.quota):carry S (.lam id n false [x] env) l K m=(.ev x (some m.envs.length) K,{m with cells:=m.cells+n,envs:=m.envs++[(l,env)]}):=by
 simp only[carry,hn,ne_eq,not_true_eq_false,if_false,cellsN_ok S n m h,bodyOf];rfl
theorem turn_runs(t:Bs)(ns:List Int):∀(v acc:Vl) (aZ:List Int) (m:Mc),IsL ns v->IsL aZ acc->m.glob=m1.glob->m.steps+25*ns.length+25<=20000->m.cells+3*ns.length+3<=5000->
  ∃j r m',j<=40*ns.length+40/\ApTo (plenty t) j turnV [v,acc] m r m'/\IsL (ns.reverse++aZ) r/\Same m m' (25*ns.length+25) (3*ns.length+3):=by
 induction ns with
 |nil=>
  intro v acc aZ m hv ha hg hs hc;obtain rfl:v=.nil:=hv;simp only[List.length_nil,Nat.mul_zero,Nat.add_zero]at hs hc;obtain⟨ma,hma⟩:∃ma:Mc,ma={m with cells:=m.cells+2,envs:=m.envs++[([.nil,acc],Option.none)]}:=⟨_,rfl⟩;have he:∀k,(ma.st k).envs[m.envs.length]? =some ([.nil,acc],Option.none):=fun k=>by rw[hma];simp
  have hst:ma.steps=m.steps:=by rw[hma]
  have hgl:ma.glob=m1.glob:=by rw[hma];exact hg
  have b1:=ev_prim_loc (S:=plenty t) (m:=ma.st 1) (by show lookup _ ma.glob=_;rw[hgl];exact l_null) (he 1) rfl (by show((ma.steps+1+3:Nat):Int)<20000;omega) (carry_null0 _);have b2:=fun K=>ev_ite (S:=plenty t) (a:=.loc 0 1) (e:=turnRec) (m:=ma) b1 (by show(ma.steps:Int)<20000;omega) K
  have b3:=ev_loc (S:=plenty t) (n:=1) (m:=(ma.st 1).st 4) (by exact he 5) rfl (by show((ma.steps+1+4:Nat):Int)<20000;omega);refine⟨_,acc,((ma.st 1).st 4).st 1,?_,fun K=>ToN.head (show next (plenty t) (.ap turnV [.nil,acc] K) m=(.ev turnB (some m.envs.length) K,ma)from by rw[hma];exact carry_lam (plenty t) 0 2 turnB Option.none [_,acc] K m rfl (by show((m.cells+2:Nat):Int)<=5000;omega)) ((b2 K).trans (b3 K)),by simpa using ha,?_⟩
  ·simp
  ·rw[hma];exact⟨rfl,rfl,rfl,rfl,by show m.steps+1+4+1<=_;omega,by show m.cells+2<=_;omega⟩
 |cons n ns ih=>
  intro v acc aZ m hv ha hg hs hc;obtain⟨id,w,rfl,hw⟩:=hv;simp only[List.length_cons]at hs hc;obtain⟨ma,hma⟩:∃ma:Mc,ma={m with cells:=m.cells+2,envs:=m.envs++[([.pair id (.num n) w,acc],Option.none)]}:=⟨_,rfl⟩;have he:∀k,(ma.st k).envs[m.envs.length]? =some ([.pair id (.num n) w,acc],Option.none):=fun k=>by rw[hma];simp
  have hst:ma.steps=m.steps:=by rw[hma]
  have hce:ma.cells=m.cells+2:=by rw[hma]
  have hgl:ma.glob=m1.glob:=by rw[hma];exact hg
  have b1:=ev_prim_loc (S:=plenty t) (m:=ma.st 1) (by show lookup _ ma.glob=_;rw[hgl];exact l_null) (he 1) rfl (by show((ma.steps+1+3:Nat):Int)<20000;omega) (carry_null1 _ id (.num n) w);have b2:=fun K=>ev_ite (S:=plenty t) (a:=.loc 0 1) (e:=turnRec) (m:=ma) b1 (by show(ma.steps:Int)<20000;omega) K
  have c1:=ev_prim_loc (S:=plenty t) (m:=((ma.st 1).st 4).st 2) (by show lookup _ ma.glob=_;rw[hgl];exact l_cdr) (by exact he 7) rfl (by show((ma.steps+1+4+2+3:Nat):Int)<20000;omega) (carry_cdr _ id (.num n) w);have d1:=ev_prim_loc (S:=plenty t) (m:=((((ma.st 1).st 4).st 2).st 4).st 2) (by show lookup _ ma.glob=_;rw[hgl];exact l_car) (by exact he 13) rfl (by show((ma.steps+1+4+2+4+2+3:Nat):Int)<20000;omega) (carry_car _ id (.num n) w);have d2:=ev_loc (S:=plenty t) (n:=1) (m:=(((((ma.st 1).st 4).st 2).st 4).st 2).st 4) (by exact he 17) rfl (by show((ma.steps+1+4+2+4+2+4:Nat):Int)<20000;omega);obtain⟨mb,hmb⟩:∃mb:Mc,mb=(((((((ma.st 1).st 4).st 2).st 4).st 2).st 4).st 1).st 1:=⟨_,rfl⟩;have hbs:mb.steps=m.steps+19:=by rw[hmb];show ma.steps+1+4+2+4+2+4+1+1=_;omega
  have hbc:mb.cells=m.cells+2:=by rw[hmb];exact hce
  obtain⟨mc,hmc⟩:∃mc:Mc,mc={mb with cells:=mb.cells+1,ids:=mb.ids+1}:=⟨_,rfl⟩;have d3:EvTo (plenty t) 13 (.app (.glo [99,111,110,115]) [.app (.glo [99,97,114]) [.loc 0 0],.loc 0 1]) (some m.envs.length) ((((ma.st 1).st 4).st 2).st 4) (.pair mb.ids (.num n) acc) mc:=fun K=>by
   have:=ev_app2 (S:=plenty t) (by show lookup _ ma.glob=_;rw[hgl];exact l_cons) rfl d1 d2 (by show((ma.steps+1+4+2+4+1:Nat):Int)<20000;omega) (by show((ma.steps+1+4+2+4+2+4+1:Nat):Int)<20000;omega) K;rw[<-hmb]at this;exact this.trans (ToN.one (by show carry (plenty t) (.prim .cons) [.num n,acc] K mb=_;rw[carry_cons _ _ _ _ _ (by show(mb.cells:Int)<5000;omega),hmc]))
  have e1:=fun K=>ev_app2 (S:=plenty t) (s:=turnT) (f:=turnV) (m:=(ma.st 1).st 4) (by show lookup _ ma.glob=_;rw[hgl];exact l_turn) rfl c1 d3 (by show((ma.steps+1+4+1:Nat):Int)<20000;omega) (by rw[hmc];show(mb.steps:Int)<20000;omega) K
  have hmcs:(mc.st 1).steps=m.steps+20:=by rw[hmc];show mb.steps+1=_;omega
  have hmcc:(mc.st 1).cells=m.cells+3:=by rw[hmc];show mb.cells+1=_;omega
  have hmcg:(mc.st 1).glob=m1.glob:=by rw[hmc];show mb.glob=_;rw[hmb];exact hgl
  obtain⟨j,r,m',hj,hA,hL,hS⟩:=ih w (.pair mb.ids (.num n) acc) (n::aZ) (mc.st 1) hw ⟨_,_,rfl,ha⟩ hmcg (by omega) (by omega);refine⟨_,r,m',?_,fun K=>ToN.head (show next (plenty t) (.ap turnV [.pair id (.num n) w,acc] K) m=(.ev turnB (some m.envs.length) K,ma)from by rw[hma];exact carry_lam (plenty t) 0 2 turnB Option.none [_,acc] K m rfl (by show((m.cells+2:Nat):Int)<=5000;omega)) ((b2 K).trans ((e1 K).trans (hA K))),by simpa using hL,?_⟩
  ·simp only[List.length_cons];omega
  ·have h0:Same m (mc.st 1) 20 3:=⟨by rw[hmcg,hg],by rw[hmc,hmb,hma],by rw[hmc,hmb,hma],by rw[hmc,hmb,hma],by omega,by omega⟩;exact(h0.trans hS).le (by simp only[List.length_cons];omega) (by simp only[List.length_cons];omega)
theorem carry_add(S:Sub)(a b:Int)(K:List Fr)(m:Mc)(h:fits (a+b)=true):carry S (.prim .add) [.num a,.num b] K m=(.ret (.num (a+b)) K,m):=by
 simp[carry,Pm.isList,Pm.kinds,Pm.grant,Kd.ok,value,num,h]
theorem size_runs(t:Bs)(ns:List Int):∀(v:Vl) (m:Mc),IsL ns v->m.glob=m1.glob->ns.length<=100->m.steps+25*ns.length+25<=20000->m.cells+ns.length+1<=5000->
  ∃j m',j<=40*ns.length+40/\ApTo (plenty t) j sizeV [v] m (.num ns.length) m'/\Same m m' (25*ns.length+25) (ns.length+1):=by
 induction ns with
 |nil=>
  intro v m hv hg hn hs hc;obtain rfl:v=.nil:=hv;simp only[List.length_nil,Nat.mul_zero,Nat.add_zero]at hs hc;obtain⟨ma,hma⟩:∃ma:Mc,ma={m with cells:=m.cells+1,envs:=m.envs++[([.nil],Option.none)]}:=⟨_,rfl⟩;have he:∀k,(ma.st k).envs[m.envs.length]? =some ([.nil],Option.none):=fun k=>by rw[hma];simp
  have hst:ma.steps=m.steps:=by rw[hma]
  have hgl:ma.glob=m1.glob:=by rw[hma];exact hg
  have b1:=ev_prim_loc (S:=plenty t) (m:=ma.st 1) (by show lookup _ ma.glob=_;rw[hgl];exact l_pair) (he 1) rfl (by show((ma.steps+1+3:Nat):Int)<20000;omega) (carry_pair0 _);have b2:=fun K=>ev_ite (S:=plenty t) (a:=sizeRec) (e:=.quo (.num 0)) (m:=ma) b1 (by show(ma.steps:Int)<20000;omega) K
  have b3:=ev_num (S:=plenty t) (n:=0) (env:=some m.envs.length) (m:=(ma.st 1).st 4) (by show((ma.steps+1+4:Nat):Int)<20000;omega);refine⟨_,((ma.st 1).st 4).st 1,?_,fun K=>ToN.head (show next (plenty t) (.ap sizeV [.nil] K) m=(.ev sizeB (some m.envs.length) K,ma)from by rw[hma];exact carry_lam (plenty t) 1 1 sizeB Option.none [_] K m rfl (by show((m.cells+1:Nat):Int)<=5000;omega)) ((b2 K).trans (b3 K)),?_⟩
  ·simp
  ·rw[hma];exact⟨rfl,rfl,rfl,rfl,by show m.steps+1+4+1<=_;omega,by show m.cells+1<=_;omega⟩
 |cons n ns ih=>
  intro v m hv hg hn hs hc;obtain⟨id,w,rfl,hw⟩:=hv;simp only[List.length_cons]at hs hc hn;obtain⟨ma,hma⟩:∃ma:Mc,ma={m with cells:=m.cells+1,envs:=m.envs++[([.pair id (.num n) w],Option.none)]}:=⟨_,rfl⟩;have he:∀k,(ma.st k).envs[m.envs.length]? =some ([.pair id (.num n) w],Option.none):=fun k=>by rw[hma];simp
  have hst:ma.steps=m.steps:=by rw[hma]
  have hce:ma.cells=m.cells+1:=by rw[hma]
  have hgl:ma.glob=m1.glob:=by rw[hma];exact hg
  have b1:=ev_prim_loc (S:=plenty t) (m:=ma.st 1) (by show lookup _ ma.glob=_;rw[hgl];exact l_pair) (he 1) rfl (by show((ma.steps+1+3:Nat):Int)<20000;omega) (carry_pair1 _ id (.num n) w);have b2:=fun K=>ev_ite (S:=plenty t) (a:=sizeRec) (e:=.quo (.num 0)) (m:=ma) b1 (by show(ma.steps:Int)<20000;omega) K
  have c1:=ev_num (S:=plenty t) (n:=1) (env:=some m.envs.length) (m:=((ma.st 1).st 4).st 2) (by show((ma.steps+1+4+2:Nat):Int)<20000;omega);have d1:=ev_prim_loc (S:=plenty t) (m:=((((ma.st 1).st 4).st 2).st 1).st 2) (by show lookup _ ma.glob=_;rw[hgl];exact l_cdr) (by exact he 10) rfl (by show((ma.steps+1+4+2+1+2+3:Nat):Int)<20000;omega) (carry_cdr _ id (.num n) w);have d2:=fun K=>ev_app1 (S:=plenty t) (s:=sizeT) (f:=sizeV) (m:=(((ma.st 1).st 4).st 2).st 1) (by show lookup _ ma.glob=_;rw[hgl];exact l_size) rfl d1 (by show((ma.steps+1+4+2+1+1:Nat):Int)<20000;omega) (by show((ma.steps+1+4+2+1+2+4:Nat):Int)<20000;omega) K
  obtain⟨mb,hmb⟩:∃mb:Mc,mb=((((((ma.st 1).st 4).st 2).st 1).st 2).st 4).st 1:=⟨_,rfl⟩;rw[<-hmb]at d2;have hbs:mb.steps=m.steps+15:=by rw[hmb];show ma.steps+1+4+2+1+2+4+1=_;omega
  have hbc:mb.cells=m.cells+1:=by rw[hmb];exact hce
  have hbg:mb.glob=m1.glob:=by rw[hmb];exact hgl
  obtain⟨j,m',hj,hA,hS⟩:=ih w mb hw hbg (by omega) (by omega) (by omega);have hs':=hS.steps;have hc':=hS.cells;have d3:EvTo (plenty t) (6+4+j) (.app (.glo sizeT) [.app (.glo [99,100,114]) [.loc 0 0]]) (some m.envs.length) ((((ma.st 1).st 4).st 2).st 1) (.num ns.length) m':=fun K=>(d2 K).trans (hA K)
  have e1:=fun K=>ev_app2 (S:=plenty t) (f:=.prim .add) (m:=(ma.st 1).st 4) (by show lookup _ ma.glob=_;rw[hgl];exact l_add) rfl c1 d3 (by show((ma.steps+1+4+1:Nat):Int)<20000;omega) (by show(m'.steps:Int)<20000;omega) K
  have hfit:fits (1+(ns.length:Int))=true:=by unfold fits;rw[decide_eq_true_eq];omega
  refine⟨_,m'.st 1,?_,fun K=>ToN.head (show next (plenty t) (.ap sizeV [.pair id (.num n) w] K) m=(.ev sizeB (some m.envs.length) K,ma)from by rw[hma];exact carry_lam (plenty t) 1 1 sizeB Option.none [_] K m rfl (by show((m.cells+1:Nat):Int)<=5000;omega)) ((b2 K).trans ((e1 K).trans (ToN.one (show next (plenty t) (.ap (.prim .add) [.num 1,.num ns.length] K) (m'.st 1)=(.ret (.num ((ns.length+1:Nat):Int)) K,m'.st 1)from by show carry (plenty t) (.prim .add) [.num 1,.num (ns.length:Int)] K (m'.st 1)=_;rw[carry_add _ _ _ _ _ hfit,show(1+(ns.length:Int))=((ns.length+1:Nat):Int)from by omega])))),?_⟩
  ·simp only[List.length_cons];omega
  ·have h0:Same m mb 15 1:=⟨by rw[hbg,hg],by rw[hmb,hma],by rw[hmb,hma],by rw[hmb,hma],by omega,by omega⟩;have h1:Same m' (m'.st 1) 1 0:=⟨rfl,rfl,rfl,rfl,Nat.le_refl _,Nat.le_refl _⟩;exact((h0.trans hS).trans h1).le (by simp only[List.length_cons];omega) (by simp only[List.length_cons];omega)
theorem members_of(S:Sub)(b:Bool):∀(ns:List Int) (v:Vl) (m:Mc),IsL ns v->((m.steps+ns.length:Nat):Int)<=S.fuel->((m.cells+ns.length:Nat):Int)<=S.quota->
  membersOf S b v m=(.ok (ns.map .num),{m with steps:=m.steps+ns.length,cells:=m.cells+(if b then ns.length else 0)})
 | [],v,m,h,_,_=>by obtain rfl:v=.nil:=h;cases b <;> rfl
 |n::r,v,m,⟨id,w,e,hw⟩,h1,h2=>by
  subst e;simp only[List.length_cons]at h1 h2;have hc:cell S (m.st 1)=(.ok (),{m.st 1 with cells:=m.cells+1}):=by unfold cell;rw[if_pos (by show(m.cells:Int)<S.quota;omega)]
  cases b with
  |false=>
   rw[membersOf,step_ok' (by omega)];simp only[Bool.false_eq_true,if_false];rw[members_of S false r w (m.st 1) hw (by show((m.steps+1+r.length:Nat):Int)<=S.fuel;omega) (by show((m.cells+r.length:Nat):Int)<=S.quota;omega)];simp;omega
  |true=>
   rw[membersOf,step_ok' (by omega)];simp only[if_true,hc];rw[members_of S true r w {m.st 1 with cells:=m.cells+1} hw (by show((m.steps+1+r.length:Nat):Int)<=S.fuel;omega) (by show((m.cells+1+r.length:Nat):Int)<=S.quota;omega)];simp;omega
theorem carry_append(S:Sub)(aZ bs:List Int)(a b:Vl)(K:List Fr)(m:Mc)(ha:IsL aZ a)(hb:IsL bs b)(h1:((m.steps+aZ.length:Nat):Int)<=S.fuel)(h2:((m.cells+aZ.length:Nat):Int)<=S.quota):
  ∃v m',carry S (.prim .append) [a,b] K m=(.ret v K,m')/\IsL (aZ++bs) v/\Same m m' aZ.length aZ.length:=by
 obtain⟨v,h3,h4⟩:=mkList_nums aZ {m with steps:=m.steps+aZ.length,cells:=m.cells+aZ.length} b bs hb;refine⟨v,{m with steps:=m.steps+aZ.length,cells:=m.cells+aZ.length,ids:=m.ids+aZ.length},?_,h4,⟨rfl,rfl,rfl,rfl,Nat.le_refl _,Nat.le_refl _⟩⟩;have hm:=members_of S true aZ a m ha h1 h2;simp only[if_true]at hm;simp only[carry,Pm.isList,Pm.kinds,Pm.grant,value,hm,h3];rfl
theorem carry_length(S:Sub)(aZ:List Int)(a:Vl)(K:List Fr)(m:Mc)(ha:IsL aZ a)(h1:((m.steps+aZ.length:Nat):Int)<=S.fuel)(h2:((m.cells+aZ.length:Nat):Int)<=S.quota):
  ∃m',carry S (.prim .length) [a] K m=(.ret (.num aZ.length) K,m')/\Same m m' aZ.length 0:=by
 refine⟨{m with steps:=m.steps+aZ.length},?_,⟨rfl,rfl,rfl,rfl,Nat.le_refl _,Nat.le_refl _⟩⟩;have hm:=members_of S false aZ a m ha h1 h2;simp only[Bool.false_eq_true,if_false,Nat.add_zero]at hm;simp only[carry,Pm.isList,Pm.kinds,Pm.grant,value,hm,List.length_map];rfl
theorem equal_nums(S:Sub):∀(ns:List Int) (v w:Vl) (m:Mc),IsL ns v->IsL ns w->((m.steps+ns.length:Nat):Int)<=S.fuel->equal S v w m=(.ok true,{m with steps:=m.steps+ns.length})
 | [],v,w,m,hv,hw,_=>by obtain rfl:v=.nil:=hv;obtain rfl:w=.nil:=hw;rfl
 |n::r,v,w,m,⟨i,a,e1,ha⟩,⟨k,b,e2,hb⟩,h=>by
  subst e1;subst e2;simp only[List.length_cons]at h;rw[equal,step_ok' (by omega)];have h1:equal S (.num n) (.num n) (m.st 1)=(.ok true,m.st 1):=by simp[equal,eq]
  simp only[h1];rw[equal_nums S r a b (m.st 1) ha hb (by show((m.steps+1+r.length:Nat):Int)<=S.fuel;omega)];simp;omega
theorem nums_args(S:Sub)(env:Option Nat)(K:List Fr):∀(ns:List Int) (vs:List Vl) (v f:Vl) (l:List Vl) (m:Mc),vs++[v]=f::l->isProc f=true->((m.steps+ns.length:Nat):Int)<S.fuel->
  ToN S (2*ns.length+1) (.ret v (.app vs (ns.map (fun n=>.quo (.num n))) env::K)) m (.ap f (l++ns.map .num) K) (m.st (ns.length+1))
 | [],vs,v,f,l,m,he,hf,h=>by
  refine ToN.one ?_;simp only[List.map_nil,next,he,applyTo,step_ok' (show(m.steps:Int)<S.fuel from by simpa using h),hf,if_true,List.append_nil];rfl
 |n::r,vs,v,f,l,m,he,hf,h=>by
  simp only[List.length_cons]at h;have a1:next S (.ret v (.app vs ((n::r).map (fun n=>.quo (.num n))) env::K)) m=(.ev (.quo (.num n)) env (.app (vs++[v]) (r.map (fun n=>.quo (.num n))) env::K),m):=rfl;have a2:=ev_num (S:=S) (n:=n) (env:=env) (m:=m) (by omega) (.app (vs++[v]) (r.map (fun n=>.quo (.num n))) env::K);have a3:=nums_args S env K r (vs++[v]) (.num n) f (l++[.num n]) (m.st 1) (by rw[he];rfl) hf (by show((m.steps+1+r.length:Nat):Int)<S.fuel;omega);have:=(ToN.head a1 a2).trans a3;have e1:1+1+(2*r.length+1)=2*(n::r).length+1:=by simp only[List.length_cons];omega
  rw[e1]at this;have e2:((m.st 1).st (r.length+1))=m.st ((n::r).length+1):=by
   show {m with steps:=m.steps+1+(r.length+1)}={m with steps:=m.steps+((n::r).length+1)};simp only[List.length_cons];congr 1;omega
  rw[e2]at this;simpa using this
end Sc
end
section
namespace Sc
open Go
def nums'(l:List Int):Dt:=.list (l.map .num)
def exX(A B:Dt):Ex:=.app (.glo [97,112,112,101,110,100]) [.app (.glo turnT) [.quo A,.quo (.list [])],.quo B]
def exY(A:Dt):Ex:=.app (.glo sizeT) [.quo A]
def exZ(l:List Int):Ex:=.app (.glo [108,101,110,103,116,104]) [.app (.glo [108,105,115,116]) (l.map (fun n=>.quo (.num n)))]
def exW(A:Dt):Ex:=.app (.lam 1 false [.app (.glo [101,113,117,97,108,63]) [.loc 0 0,.quo A]]) [.quo A]
theorem top_X(t:Bs)(A B:Dt):top (plenty t) plentyN {} (lisX A B)=(.ok (exX A B),{}):=by kernel_rfl
theorem top_Y(t:Bs)(A:Dt):top (plenty t) plentyN {} (lisY A)=(.ok (exY A),{}):=by kernel_rfl
theorem top_W(t:Bs)(A:Dt):top (plenty t) plentyN {} (lisW A)=(.ok (exW A),{}):=by kernel_rfl
theorem deal_last(S:Sub)(d:Dt)(p j:Nat)(ov:Option Vl)(e:Ex)(m m':Mc)(v:Vl)(ht:top S plentyN {} d=(.ok e,{}))(hg:ToN S j (.ev e Option.none []) m (.ret v []) m')(hj:j+1<=plentyN):deal S [(d,p)] ov {} m=((Option.none,0),some v,{},m'):=by
 have h:=(hg.trans (ToN.one (show next S (.ret v []) m'=(.done v,m')from rfl))).done hj;simp only[deal,ht,h]
theorem x_ends(t:Bs)(p q r:Nat)(aZ bs:List Int)(ha:aZ.length<=40)(hb:bs.length<=40):EndsW (deal (plenty t) [(turnD,p),(sizeD,q),(lisX (nums' aZ) (nums' bs),r)] Option.none {} m0) (Px.paren ((aZ.reverse++bs).map Lib.itoa)):=by
 rw[deal_defs];obtain⟨v1,m2,e1,i1,s1,_⟩:=ev_list (S:=plenty t) aZ (env:=Option.none) (m:=(m1.st 2).st 2) (by show((4+2+2:Nat):Int)<20000;omega) (by show((2+aZ.length:Nat):Int)<=5000;omega);have s1s:=s1.steps;have s1c:=s1.cells;have hs2:m2.steps<=9:=by show m2.steps<=4+2+2+1;exact s1s
 have hc2:m2.cells<=2+aZ.length:=s1c;obtain⟨v2,m3,e2,i2,s2,_⟩:=ev_list (S:=plenty t) [] (env:=Option.none) (m:=m2) (by show(m2.steps:Int)<20000;omega) (by show((m2.cells+0:Nat):Int)<=5000;omega);have s2s:=s2.steps;have s2c:=s2.cells;simp only[List.length_nil]at s2c;have g3:m3.glob=m1.glob:=s2.glob.trans s1.glob;have f1:=fun K=>ev_app2 (S:=plenty t) (s:=turnT) (f:=turnV) (m:=m1.st 2) (by show lookup _ m1.glob=_;exact l_turn) rfl e1 e2 (by show((4+2+1:Nat):Int)<20000;omega) (by show(m3.steps:Int)<20000;omega) K
 have q3:(m3.st 1).steps=m3.steps+1:=rfl;have q3c:(m3.st 1).cells=m3.cells:=rfl;obtain⟨j,rv,m4,hj,hA,hL,s4⟩:=turn_runs t aZ v1 v2 [] (m3.st 1) i1 i2 g3 (by omega) (by omega);have s4s:=s4.steps;have s4c:=s4.cells;have x1:EvTo (plenty t) (1+1+5+j) (.app (.glo turnT) [.quo (nums' aZ),.quo (nums' [])]) Option.none (m1.st 2) rv m4:=fun K=>(f1 K).trans (hA K)
 obtain⟨v5,m5,e5,i5,s5,_⟩:=ev_list (S:=plenty t) bs (env:=Option.none) (m:=m4) (by show(m4.steps:Int)<20000;omega) (by show((m4.cells+bs.length:Nat):Int)<=5000;omega);have s5s:=s5.steps;have s5c:=s5.cells;have f2:=ev_app2 (S:=plenty t) (f:=.prim .append) (m:=m1) (by exact l_append) rfl x1 e5 (by show((4+1:Nat):Int)<20000;omega) (by show(m5.steps:Int)<20000;omega) [];simp only[List.append_nil]at hL;have q5:(m5.st 1).steps=m5.steps+1:=rfl;have q5c:(m5.st 1).cells=m5.cells:=rfl;have hrl:aZ.reverse.length=aZ.length:=List.length_reverse;obtain⟨v6,m6,h6,i6,s6⟩:=carry_append (plenty t) aZ.reverse bs rv v5 [] (m5.st 1) hL i5 (by show(((m5.st 1).steps+aZ.reverse.length:Nat):Int)<=20000;omega) (by show(((m5.st 1).cells+aZ.reverse.length:Nat):Int)<=5000;omega);have f3:=f2.trans (ToN.one (show next (plenty t) (.ap (.prim .append) [rv,v5] []) (m5.st 1)=(.ret v6 [],m6)from h6));rw[deal_last (plenty t) _ r _ _ (exX (nums' aZ) (nums' bs)) m1 m6 v6 (top_X t _ _) f3 (by show _<=1000000000;omega)];have o6:m6.out=[]:=s6.out.trans (s5.out.trans (s4.out.trans (s2.out.trans s1.out)));have v6':m6.evs=[]:=s6.evs.trans (s5.evs.trans (s4.evs.trans (s2.evs.trans s1.evs)));exact⟨rfl,congrArg some (isL_wr _ _ i6).1,o6,v6'⟩
theorem y_ends(t:Bs)(p q r:Nat)(aZ:List Int)(ha:aZ.length<=40):EndsW (deal (plenty t) [(turnD,p),(sizeD,q),(lisY (nums' aZ),r)] Option.none {} m0) (Lib.itoa aZ.length):=by
 rw[deal_defs];obtain⟨v1,m2,e1,i1,s1,_⟩:=ev_list (S:=plenty t) aZ (env:=Option.none) (m:=m1.st 2) (by show((4+2:Nat):Int)<20000;omega) (by show((2+aZ.length:Nat):Int)<=5000;omega);have s1s:=s1.steps;have s1c:=s1.cells;have hs2:m2.steps<=7:=by show m2.steps<=4+2+1;exact s1s
 have hc2:m2.cells<=2+aZ.length:=s1c;have f1:=ev_app1 (S:=plenty t) (s:=sizeT) (f:=sizeV) (m:=m1) l_size rfl e1 (by show((4+1:Nat):Int)<20000;omega) (by show(m2.steps:Int)<20000;omega) [];have q3:(m2.st 1).steps=m2.steps+1:=rfl;have q3c:(m2.st 1).cells=m2.cells:=rfl;obtain⟨j,m4,hj,hA,s4⟩:=size_runs t aZ v1 (m2.st 1) i1 s1.glob (by omega) (by omega) (by omega);rw[deal_last (plenty t) _ r _ _ (exY (nums' aZ)) m1 m4 _ (top_Y t _) (f1.trans (hA [])) (by show _<=1000000000;omega)];exact⟨rfl,rfl,s4.out.trans s1.out,s4.evs.trans s1.evs⟩
theorem forms_nums(S:Sub):∀(l:List Int) (f:Nat),l.length+2<=f->forms S f {} [] (l.map .num)=(.ok (l.map (fun n=>.quo (.num n))),{})
 | [],f,h=>by
  obtain⟨g,rfl⟩:∃g,f=g+1:=⟨f-1,by simp at h;omega⟩;rfl
 |n::r,f,h=>by
  simp only[List.length_cons]at h;obtain⟨g,rfl⟩:∃g,f=g+1+1:=⟨f-2,by omega⟩;simp only[List.map_cons,forms,form,forms_nums S r (g+1) (by omega)]
theorem form_global(S:Sub)(f:Nat)(s:Bs)(hk:Kw.of s=Option.none):form S (f+1) {} [] (.sym s 0)=(.ok (.glo s),{}):=by
 simp[form,varEx,Xs.means,find,hk,Xs.mcr]
theorem means_global(s:Bs)(m:Int)(h:Kw.of s=Option.none):Xs.means {} (s,m) []=.var:=by
 simp[Xs.means,find,h,Xs.mcr]
theorem form_app'(S:Sub)(f:Nat)(x x':Xs)(sc:Scope)(t:Bs)(m:Int)(r:List Dt)(e:Ex)(es:List Ex)(hm:x.means (t,m) sc=.var)(hf:forms S f x sc (.sym t m::r)=(.ok (e::es),x')):form S (f+1+1) x sc (.list (.sym t m::r))=(.ok (.app e es),x'):=by
 simp only[form,hm,app,hf]
theorem top_Z(S:Sub)(l:List Int)(hl:l.length<=40):top S plentyN {} (lisZ (l.map .num))=(.ok (exZ l),{}):=by
 obtain⟨f,hN,hf⟩:∃f,plentyN=f+1+1+1+1+1+1+1+1/\1000<=f:=⟨999999992,rfl,by omega⟩;have k1:Kw.of [108,101,110,103,116,104]=Option.none:=by decide
 have k2:Kw.of [108,105,115,116]=Option.none:=by decide
 have h1:=forms_nums S l (f+1) (by omega);have h2:forms S (f+1+1) {} [] (.sym [108,105,115,116] 0::l.map .num)=(.ok (.glo [108,105,115,116]::l.map (fun n=>.quo (.num n))),{}):=by
  rw[forms];simp only[form_global S f _ k2,h1]
 have h3:=form_app' S (f+1+1) {} {} [] [108,105,115,116] 0 _ _ _ (means_global _ _ k2) h2;have h4:forms S (f+1+1+1+1+1+1) {} [] [.sym [108,101,110,103,116,104] 0,.list (.sym [108,105,115,116] 0::l.map .num)]=(.ok [.glo [108,101,110,103,116,104],.app (.glo [108,105,115,116]) (l.map (fun n=>.quo (.num n)))],{}):=by
  rw[forms];simp only[form_global S (f+1+1+1+1) _ k1];rw[forms];simp only[h3];rfl
 have h5:=form_app' S (f+1+1+1+1+1+1) {} {} [] [108,101,110,103,116,104] 0 _ _ _ (means_global _ _ k1) h4;rw[hN];simp only[lisZ,top,means_global _ _ k1];exact h5
theorem l_length0:lookup [108,101,110,103,116,104] m0.glob=some (.prim .length):=by kernel_rfl
theorem l_list0:lookup [108,105,115,116] m0.glob=some (.prim .list):=by kernel_rfl
theorem l_equal0:lookup [101,113,117,97,108,63] m0.glob=some (.prim .equalQ):=by kernel_rfl
theorem carry_list(S:Sub)(aZ:List Int)(K:List Fr)(m:Mc)(h2:((m.cells+aZ.length:Nat):Int)<=S.quota):∃v m',carry S (.prim .list) (aZ.map .num) K m=(.ret v K,m')/\IsL aZ v/\Same m m' 0 aZ.length:=by
 obtain⟨v,h3,h4⟩:=mkList_nums aZ {m with cells:=m.cells+aZ.length} .nil [] rfl;refine⟨v,{m with cells:=m.cells+aZ.length,ids:=m.ids+aZ.length},?_,by simpa using h4,⟨rfl,rfl,rfl,rfl,Nat.le_refl _,Nat.le_refl _⟩⟩;have hc:=cellsN_ok S aZ.length m h2;have hv:value S m .list (aZ.map .num)=(.ok v,{m with cells:=m.cells+aZ.length,ids:=m.ids+aZ.length}):=by
  cases aZ with
  |nil=>simp only[List.map_nil,value,List.length_nil]at hc h3|-;rw[hc];simp only[h3]
  |cons a r=>simp only[value,List.length_map,hc,h3]
 have hl:Pm.isList .list=true:=rfl;have hg:Pm.grant .list=0:=rfl;cases aZ with
 |nil=>simp only[List.map_nil]at hv|-;simp[carry,hl,hg,hv]
 |cons a r=>
  simp only[carry,hl,hg,Bool.not_true,Bool.false_and,Bool.false_eq_true,if_false,bne_self_eq_false];simp only[List.map_cons]at hv|-;rw[hv]
theorem z_ends(t:Bs)(p:Nat)(aZ:List Int)(ha:aZ.length<=40):EndsW (deal (plenty t) [(lisZ (aZ.map .num),p)] Option.none {} m0) (Lib.itoa aZ.length):=by
 have a1:next (plenty t) (.ev (.app (.glo [108,105,115,116]) (aZ.map (fun n=>.quo (.num n)))) Option.none [.app [.prim .length] [] Option.none]) (m0.st 2)=(.ev (.glo [108,105,115,116]) Option.none (.app [] (aZ.map (fun n=>.quo (.num n))) Option.none::[.app [.prim .length] [] Option.none]),m0.st 3):=by
  simp only[next,step_ok' (m:=m0.st 2) (show(((m0.st 2).steps:Nat):Int)<(plenty t).fuel from by show((0+2:Nat):Int)<20000;omega)]
 have a0:next (plenty t) (.ev (exZ aZ) Option.none []) m0=(.ev (.glo [108,101,110,103,116,104]) Option.none [.app [] [.app (.glo [108,105,115,116]) (aZ.map (fun n=>.quo (.num n)))] Option.none],m0.st 1):=by
  simp only[exZ,next,step_ok' (m:=m0) (show(m0.steps:Int)<(plenty t).fuel from by show((0:Nat):Int)<20000;omega)]
 have b0:=ev_glo (S:=plenty t) (env:=Option.none) (m:=m0.st 1) l_length0 (by show((0+1:Nat):Int)<20000;omega) [.app [] [.app (.glo [108,105,115,116]) (aZ.map (fun n=>.quo (.num n)))] Option.none];have c0:next (plenty t) (.ret (.prim .length) [.app [] [.app (.glo [108,105,115,116]) (aZ.map (fun n=>.quo (.num n)))] Option.none]) ((m0.st 1).st 1)=(.ev (.app (.glo [108,105,115,116]) (aZ.map (fun n=>.quo (.num n)))) Option.none [.app [.prim .length] [] Option.none],m0.st 2):=rfl;have b1:=ev_glo (S:=plenty t) (env:=Option.none) (m:=m0.st 3) l_list0 (by show((0+3:Nat):Int)<20000;omega) (.app [] (aZ.map (fun n=>.quo (.num n))) Option.none::[.app [.prim .length] [] Option.none]);have b2:=nums_args (plenty t) Option.none [.app [.prim .length] [] Option.none] aZ [] (.prim .list) (.prim .list) [] ((m0.st 3).st 1) rfl rfl (by show((0+3+1+aZ.length:Nat):Int)<20000;omega);obtain⟨v,m2,h2,i2,s2⟩:=carry_list (plenty t) aZ [.app [.prim .length] [] Option.none] (((m0.st 3).st 1).st (aZ.length+1)) (by show((0+aZ.length:Nat):Int)<=5000;omega);have s2s:=s2.steps;have s2c:=s2.cells;have hs2:m2.steps<=5+aZ.length:=by have:m2.steps<=0+3+1+(aZ.length+1)+0:=s2s;omega
 have hc2:m2.cells<=aZ.length:=by have:m2.cells<=0+aZ.length:=s2c;omega
 have c3:next (plenty t) (.ret v [.app [.prim .length] [] Option.none]) m2=(.ap (.prim .length) [v] [],m2.st 1):=by
  simp only[next,List.cons_append,List.nil_append,applyTo,step_ok' (m:=m2) (show(m2.steps:Int)<(plenty t).fuel from by show(m2.steps:Int)<20000;omega),isProc,if_true]
 have q:(m2.st 1).steps=m2.steps+1:=rfl;have qc:(m2.st 1).cells=m2.cells:=rfl;obtain⟨m3,h3,s3⟩:=carry_length (plenty t) aZ v [] (m2.st 1) i2 (by show(((m2.st 1).steps+aZ.length:Nat):Int)<=20000;omega) (by show(((m2.st 1).cells+aZ.length:Nat):Int)<=5000;omega);simp only[List.nil_append]at b2;have key:=(ToN.head a0 (b0.trans (ToN.head c0 (ToN.head a1 (b1.trans b2))))).trans (ToN.head (show next (plenty t) (.ap (.prim .list) (aZ.map .num) [.app [.prim .length] [] Option.none]) _=_ from h2) (ToN.head c3 (ToN.one (show next (plenty t) (.ap (.prim .length) [v] []) (m2.st 1)=_ from h3))));rw[deal_last (plenty t) _ p _ _ (exZ aZ) m0 m3 _ (top_Z _ _ ha) key (by show _<=1000000000;omega)];exact⟨rfl,rfl,s3.out.trans s2.out,s3.evs.trans s2.evs⟩
theorem w_ends(t:Bs)(p:Nat)(aZ:List Int)(ha:aZ.length<=40):EndsW (deal (plenty t) [(lisW (nums' aZ),p)] Option.none {} m0) [35,116]:=by
 obtain⟨lm,hlm⟩:∃lm:Vl,lm=.lam 0 1 false [.app (.glo [101,113,117,97,108,63]) [.loc 0 0,.quo (nums' aZ)]] Option.none:=⟨_,rfl⟩;have a0:next (plenty t) (.ev (exW (nums' aZ)) Option.none []) m0=(.ev (.lam 1 false [.app (.glo [101,113,117,97,108,63]) [.loc 0 0,.quo (nums' aZ)]]) Option.none [.app [] [.quo (nums' aZ)] Option.none],m0.st 1):=by
  simp only[exW,next,step_ok' (m:=m0) (show(m0.steps:Int)<(plenty t).fuel from by show((0:Nat):Int)<20000;omega)]
 obtain⟨ma,hma⟩:∃ma:Mc,ma={m0 with steps:=2,cells:=1,ids:=1}:=⟨_,rfl⟩;have a1:next (plenty t) (.ev (.lam 1 false [.app (.glo [101,113,117,97,108,63]) [.loc 0 0,.quo (nums' aZ)]]) Option.none [.app [] [.quo (nums' aZ)] Option.none]) (m0.st 1)=(.ret lm [.app [] [.quo (nums' aZ)] Option.none],ma):=by
  have hc:cell (plenty t) ((m0.st 1).st 1)=(.ok (),{m0 with steps:=2,cells:=1}):=by
   unfold cell;rw[if_pos (by show((0:Nat):Int)<5000;omega)];rfl
  simp only[next,step_ok' (m:=m0.st 1) (show(((m0.st 1).steps:Nat):Int)<(plenty t).fuel from by show((0+1:Nat):Int)<20000;omega),hc,hlm,hma];rfl
 have a2:next (plenty t) (.ret lm [.app [] [.quo (nums' aZ)] Option.none]) ma=(.ev (.quo (nums' aZ)) Option.none [.app [lm] [] Option.none],ma):=rfl;obtain⟨v1,m2,e1,i1,s1,n1⟩:=ev_list (S:=plenty t) aZ (env:=Option.none) (m:=ma) (by rw[hma];show((2:Nat):Int)<20000;omega) (by rw[hma];show((1+aZ.length:Nat):Int)<=5000;omega);have hs2:m2.steps<=3:=by have:=s1.steps;rw[hma]at this;exact this
 have hc2:m2.cells<=1+aZ.length:=by have:=s1.cells;rw[hma]at this;exact this
 have a3:next (plenty t) (.ret v1 [.app [lm] [] Option.none]) m2=(.ap lm [v1] [],m2.st 1):=by
  simp only[next,List.cons_append,List.nil_append,applyTo,step_ok' (m:=m2) (show(m2.steps:Int)<(plenty t).fuel from by show(m2.steps:Int)<20000;omega),hlm,isProc,if_true]
 obtain⟨mb,hmb⟩:∃mb:Mc,mb={m2.st 1 with cells:=m2.cells+1,envs:=m2.envs++[([v1],Option.none)]}:=⟨_,rfl⟩;have a4:next (plenty t) (.ap lm [v1] []) (m2.st 1)=(.ev (.app (.glo [101,113,117,97,108,63]) [.loc 0 0,.quo (nums' aZ)]) (some m2.envs.length) [],mb):=by
  rw[hlm,hmb];exact carry_lam (plenty t) 0 1 _ Option.none [v1] [] (m2.st 1) rfl (by show((m2.cells+1:Nat):Int)<=5000;omega)
 have he:∀k,(mb.st k).envs[m2.envs.length]? =some ([v1],Option.none):=fun k=>by rw[hmb];simp
 have hbs:mb.steps=m2.steps+1:=by rw[hmb]
 have hbc:mb.cells=m2.cells+1:=by rw[hmb]
 have hbg:mb.glob=m0.glob:=by rw[hmb];show m2.glob=_;rw[s1.glob,hma]
 have b1:=ev_loc (S:=plenty t) (n:=0) (m:=mb.st 2) (by exact he 2) rfl (by show((mb.steps+2:Nat):Int)<20000;omega);obtain⟨v3,m3,e3,i3,s3,_⟩:=ev_list (S:=plenty t) aZ (env:=some m2.envs.length) (m:=(mb.st 2).st 1) (by show((mb.steps+2+1:Nat):Int)<20000;omega) (by show((mb.cells+aZ.length:Nat):Int)<=5000;omega);have hs3:m3.steps<=mb.steps+4:=s3.steps;have f1:=ev_app2 (S:=plenty t) (f:=.prim .equalQ) (m:=mb) (by show lookup _ mb.glob=_;rw[hbg];exact l_equal0) rfl b1 e3 (by show((mb.steps+1:Nat):Int)<20000;omega) (by show(m3.steps:Int)<20000;omega) [];have q:(m3.st 1).steps=m3.steps+1:=rfl;have heq:=equal_nums (plenty t) aZ v1 v3 (m3.st 1) i1 i3 (by show(((m3.st 1).steps+aZ.length:Nat):Int)<=20000;omega);have c1:next (plenty t) (.ap (.prim .equalQ) [v1,v3] []) (m3.st 1)=(.ret (.bool true) [],{m3.st 1 with steps:=(m3.st 1).steps+aZ.length}):=by
  show carry (plenty t) (.prim .equalQ) [v1,v3] [] (m3.st 1)=_;simp only[carry,Pm.isList,Pm.kinds,Pm.grant,value,heq];rfl
 have key:=(ToN.head a0 (ToN.head a1 (ToN.head a2 (e1 _)))).trans (ToN.head a3 (ToN.head a4 (f1.trans (ToN.one c1))));rw[deal_last (plenty t) _ p _ _ (exW (nums' aZ)) m0 _ _ (top_W t _) key (by show _<=1000000000;omega)];refine⟨rfl,rfl,?_,?_⟩
 ·show m3.out=[];rw[s3.out,hmb];show m2.out=[];rw[s1.out,hma];rfl
 ·show m3.evs=[];rw[s3.evs,hmb];show m2.evs=[];rw[s1.evs,hma];rfl
end Sc
end
section
open Go.RowKit Go.Shelf
open Sc
def bs(l:List UInt8):ByteArray:=⟨l.toArray⟩
theorem bs_add(x y:List UInt8)(h:x.length+y.length<=9223372036854775807)(w:World):(Op.stringOp .add (bs x) (bs y)).run prog w=.ok (.string (bs (x++y))) w:=by
 rw[run_string_add_sum w _ _ (by simpa[bs,ByteArray.size]using h)];unfold bs;rw[ByteArray.mk_append_mk]
end
section
open Go.RowKit Go.Shelf
open Sc
theorem mStart_m0:mStart=m0:=by kernel_rfl
theorem noSyn_of{d:Dt}(h:noSyn d=true):¬isSyn d:=by
 rintro⟨k,r,rfl⟩;simp[noSyn]at h
theorem kept_does{t:Bs}{r:(Option Nat×Nat)×Option Vl×Xs×Mc}(hd:Does t r){w:World}(hT:GT w)(hV:Rd.GV w)(h6:6<=w.heap.size)(hne:r.1.1≠some 0):Calls prog 14 #[.agg (subC (bs t))] w (KeptR r w):=by
 obtain⟨fs,hF,hl,hn,rfl⟩:=hd;have hz:(bs t).size=t.length:=by simp[bs,ByteArray.size]
 have hL:Rd.L (bs t) 0=t:=by simp[Rd.L,bs]
 have htop:Py.topP (2*(bs t).size+2) (Rd.L (bs t) 0)=.inr (fs,[]):=by rw[hz,hL];exact Py.forms_top hF _ (Nat.le_refl _)
 have key:=kept_of (t:=bs t) (w:=w) (S:=plenty t) ⟨rfl,rfl,rfl⟩ hT hV h6 (by rw[hz];exact hl) fs [] htop (fun f hf=>noSyn_of (hn f hf)) (by rw[hz,mStart_m0];exact hne);rw[hz,mStart_m0]at key;exact key
theorem gl_below{w w':World}(hT:GT w)(hV:Rd.GV w)(h6:6<=w.heap.size)(hb:Below w.heap.size w w'):GT w'/\Rd.GV w'/\6<=w'.heap.size:=
 ⟨hT.keep (hb.block 0 (by omega)),GV.below hV hb h6,Nat.le_trans h6 hb.size⟩
theorem kept_gives{t v:Bs}(h:Gives t v){w:World}(hT:GT w)(hV:Rd.GV w)(h6:6<=w.heap.size):Calls prog 14 #[.agg (subC (bs t))] w fun e w2=>∃st ce rw,e=.returned (.tuple #[.agg (resC 1 0 0 (bs v) st ce rw),.bool true])/\Below w.heap.size w w2:=by
 obtain⟨hl,r,hd,h1,h2,-,-⟩:=h;refine(kept_does hd hT hV h6 (by rw[h1];simp)).mono ?_;rintro e w2 ⟨ve,pl,va,st,ce,rw,rfl,hr,hb⟩;obtain⟨⟨e0,p⟩,ov,x,m⟩:=r;simp only at h1 h2;subst h1;cases ov with
 |none=>simp at h2
 |some u=>
  simp only[Option.map_some,Option.some.injEq]at h2;obtain⟨rfl,rfl,rfl,-,-,-⟩:=hr;refine⟨st,ce,rw,?_,hb⟩;have:lastV (some u)=bs v:=by
   show(⟨((wr u).take 1200).toArray⟩:ByteArray)=⟨v.toArray⟩;rw[h2,List.take_of_length_le hl]
  rw[this]
theorem gives_of16{t v:Bs}(h:Gives t v){w:World}(hT:GT w)(hV:Rd.GV w)(h6:6<=w.heap.size):Calls prog 16 #[.string (bs t),.string (bs v)] w fun e w'=>e=.returned (.bool true)/\Below w.heap.size w w':=
 gives16 (bs t) (bs v) w fun _w' hb=>kept_gives h (gl_below hT hV h6 hb).1 (gl_below hT hV h6 hb).2.1 (gl_below hT hV h6 hb).2.2
end
section
open Go.RowKit Go.Shelf
open Sc
theorem info3:(prog.info? 3).map (fun i=>(i.zero,i.size,i.bytes))=some (some (.int .i64 0),1,8):=by kernel_rfl
def pk(c n:Int):Int:=Int.tmod (if c<0 then-(c+1)else c) n
theorem pk_in{c n:Int}(hn:0<n):0<=pk c n/\pk c n<n:=by
 unfold pk;have h0:0<=(if c<0 then-(c+1)else c):=by split <;> omega
 exact⟨Int.tmod_nonneg _ h0,Int.tmod_lt_of_pos _ hn⟩
theorem pick21(c n:Int)(w:World)(hc:-9223372036854775808<=c/\c<=9223372036854775807)(hn:0<n/\n<=1000):Calls prog 21 #[.int .i64 c,.int .i64 n] w fun e w'=>e=.returned (.int .i64 (pk c n))/\Lk w w':=by
 have hn0:(n==0)=false:=by simp;omega
 by_cases h:c<0
 ·have hp:pk c n=Int.tmod (-(c+1)) n:=by simp[pk,h]
  have HP:=hZ hp;clear hp;go_enter func21,ntmps21
  go_wp2;all_goals go_ret
  all_goals refine⟨?_,rfl,rfl,rfl,rfl⟩
  all_goals(rw[HP.out];first|rfl|(rw[Int.neg_tmod];rfl)|(rw[Int.tmod_eq_emod_of_nonneg h];rfl))
 ·have hp:pk c n=Int.tmod c n:=by simp[pk,h]
  have HP:=hZ hp;clear hp;go_enter func21,ntmps21
  go_wp2;all_goals go_ret
  all_goals refine⟨?_,rfl,rfl,rfl,rfl⟩
  all_goals(rw[HP.out];first|rfl|(rw[Int.neg_tmod];rfl)|(rw[Int.tmod_eq_emod_of_nonneg h];rfl))
def nC(l:List Int):List Value:=l.map (.int .i64 ·)
def IntsAt(w:World)(a:Option Addr)(xs:List Int):Prop:=∀i,i<xs.length->∃b o,a=some ⟨b,o,none⟩/\b<w.heap.size/\w.cell? ⟨b,o+i,none⟩=some (.int .i64 (xs.getD i 0))
theorem IntsAt.below{w w':World}{a:Option Addr}{xs:List Int}(h:IntsAt w a xs)(hb:Below w.heap.size w w'):IntsAt w' a xs:=fun i hi=>by
 obtain⟨b,o,e1,e2,e3⟩:=h i hi;exact⟨b,o,e1,Nat.lt_of_lt_of_le e2 hb.size,(hb.cell (p:=⟨b,o+i,none⟩) e2).trans e3⟩
theorem ints_own{w:World}{lo:Nat}{a:Option Addr}{c:Nat}{xs:List Int}(h:w.ownsRow lo 3 1 (.slice a xs.length c) xs.length (nC xs)):IntsAt w a xs:=by
 intro i hi;rcases h.2 with⟨h1,h2⟩|⟨g,cap,cur,h1,hb,hg,hn,hm,hsz,htk⟩
 ·omega
 ·cases h1;refine⟨g,0,rfl,(Array.getElem?_eq_some_iff.1 hg).1,?_⟩;have hk:(nC xs)[i]? =some (.int .i64 (xs.getD i 0)):=by
   simp[nC,List.getElem?_eq_getElem hi,List.getD_eq_getElem?_getD]
  rw[<-htk,List.getElem?_take]at hk;split at hk
  ·simp only[World.cell?,hg];simpa using hk
  ·cases hk
def fewL(xs:List Int):List Int:=(xs.take 40).map (pk · 1000)
theorem few_take(xs:List Int)(k:Nat)(h:k<xs.length)(h4:k<40):(fewL (xs.take k))++[pk (xs.getD k 0) 1000]=fewL (xs.take (k+1)):=by
 unfold fewL;rw[List.take_take,List.take_take,show min 40 k=k by omega,show min 40 (k+1)=k+1 by omega,List.take_add_one,List.map_append];simp[List.getElem?_eq_getElem h,List.getD_eq_getElem?_getD]
theorem fewL_len(xs:List Int):(fewL xs).length<=40:=by simp[fewL];omega
theorem few_len(xs:List Int)(k:Nat)(h:k<=xs.length)(h4:k<=40):(fewL (xs.take k)).length=k:=by simp[fewL];omega
theorem few_all(xs:List Int)(k:Nat)(h:k<=xs.length)(h4:k<=40)(hn:¬(k<xs.length/\k<40)):fewL (xs.take k)=fewL xs:=by
 unfold fewL;by_cases hk:k<xs.length
 ·have:k=40:=by omega
  subst this;rw[List.take_take];rfl
 ·rw[List.take_of_length_le (show xs.length<=k by omega)]
def FewP(w:World)(xs:List Int)(e:Ending)(w':World):Prop:=∃na nc,e=.returned (.slice na (fewL xs).length nc)/\IntsAt w' na (fewL xs)/\(fewL xs=[]->na=none/\nc=0)/\Below w.heap.size w w'
theorem few18(xa:Option Addr)(xn xc:Nat)(xs:List Int)(w:World)(hxn:xn=xs.length)(_hxm:xn<=9223372036854775807)(hx:IntsAt w xa xs)(bx:∀n,n∈xs->-9223372036854775808<=n/\n<=9223372036854775807):
  Calls prog 18 #[.slice xa xn xc,.int .i64 40] w (FewP w xs):=by
 obtain⟨i0,hi,hz0',hz1',hz2'⟩:=info_parts info3;have HX:=hZ hx;have HBx:=hZ bx;have HXn:=hZ hxn;clear hx bx hxn;go_enter func18,ntmps18
 go_wp2;go_loopw [6,5] (fun c s wr=>∃(k:Nat) (na:Option Addr) (nc:Nat),k<=xn/\k<=40/\c=.int .i64 (k:Int)/\s=.slice na k nc/\(k=0->na=none/\nc=0)/\wr.ownsRow w.heap.size 3 1 (.slice na k nc) k (nC (fewL (xs.take k)))/\Below w.heap.size w wr) (fun c _ _=>40-(intOf c).toNat)
 case atStart=>exact⟨0,none,0,Nat.zero_le _,Nat.zero_le _,rfl,rfl,fun _=>⟨rfl,rfl⟩,⟨rfl,.inl ⟨rfl,rfl⟩⟩,Below.refl _ _⟩
 case round=>
  obtain⟨k,na,nc,hk,hk4,rfl,rfl,hnil,hown,hbl⟩:=hrel;have HNil:=hZ hnil;clear hnil;have HOwn:=hZ hown;have HB:=hZ hbl;clear hown hbl;by_cases hlt:k<xn/\k<40
  ·obtain⟨xb,xo,rfl,hxw,hxc⟩:=HX.out k (by rw[<-HXn.out];exact hlt.1);have cx:wr.cell? ⟨xb,xo+k,none⟩=some (.int .i64 (xs.getD k 0)):=(HB.out.cell (p:=⟨xb,xo+k,none⟩) hxw).trans hxc;have hi1:(k:Int)<(xn:Int):=by omega
   have hi2:(k:Int)<40:=by omega
   have hvb:-9223372036854775808<=xs.getD k 0/\xs.getD k 0<=9223372036854775807:=HBx.out _ (by
    simp only[List.getD_eq_getElem?_getD,List.getElem?_eq_getElem (show k<xs.length by rw[<-HXn.out];exact hlt.1),Option.getD_some];exact List.getElem_mem _)
   have HSt:=hZ (few_take xs k (by rw[<-HXn.out];exact hlt.1) hlt.2);obtain⟨v,hv⟩:∃v,v=xs.getD k 0:=⟨_,rfl⟩;rw[<-hv]at cx hvb HSt;clear hv hxc hxw;go_wp2_with (first|(go_at_call 21;refine(pick21 v 1000 _ hvb (by omega)).mono ?_;rintro e w2 ⟨rfl,hl2⟩;refine Hid.out ?_))
   have HB2:=hZ (HB.out.trans ((bl0 hl2).mono HB.out.size));have HOwn2:=hZ (qki HOwn.out hl2);clear hl2;refine hZ ?_;go_wp2_with (first|(at_builtin;refine wpList_append_lies _ rfl _ _ 22 rfl w.heap.size 3 i0 (.int .i64 0) 1 8 underlying22 hi hz0' hz1' hz2' rfl (by decide) _ _ _ rfl (HOwn2.out.alloc _) ⟨w2.heap.size,0,none⟩ 1 1 [.int .i64 (pk v 1000)] rfl rfl ?c1 ?c2 (by decide) ?c3 ?c4 ?c5 (w2.heap.size+1) ?c6 ?_))
   case c1=>exact World.news_of_block (cs:=#[.int .i64 (pk v 1000)]) (by have:=heap_alloc_new w2 (.cells #[.int .i64 (pk v 1000)] 3);simpa using this)
   case c2=>intro u hu;simp at hu;rcases hu with rfl;rfl
   case c3=>unfold maxLen;omega
   case c4=>omega
   case c5=>have:=HB2.out.size;simp;omega
   case c6=>simp
   intro g4 cap4 w4 hown4 hgrow4 hat4 hlt4;refine Hid.out ?_;have hg3:w2.grownBy w4 (Value.slice na k nc).ownBlock:=qbf hgrow4;have hb4:Below w.heap.size w w4:=⟨hg3.os.trans HB2.out.os,hg3.tape.trans HB2.out.tape,hg3.output.trans HB2.out.output,Nat.le_trans HB2.out.size hg3.size,fun j hj=>by
    rw[hg3.block j (Nat.lt_of_lt_of_le hj HB2.out.size) (fun e=>by have:=(HOwn2.out.lt j e.symm).1;omega)];exact HB2.out.block j hj⟩
   have HB4:=hZ hb4;have HOwn4:=hZ hown4;clear hown4 hgrow4 hat4 hlt4 hg3 hb4 HB2 HOwn2;refine hZ ?_;go_wp2;refine⟨⟨k+1,some ⟨g4,0,none⟩,cap4,by omega,by omega,by go_num,rfl,fun h=>absurd h (by omega),?_,HB4.out⟩,by simp[intOf];omega⟩;have:=HOwn4.out;rw[<-HSt.out];simpa[nC]using this
  ·have h2:((k:Int)<(xn:Int)/\¬(k:Int)<40)\/¬(k:Int)<(xn:Int):=by omega
   have hall:=few_all xs k (by rw[<-HXn.out];exact hk) hk4 (by rw[<-HXn.out];exact hlt);have hlen:=few_len xs k (by rw[<-HXn.out];exact hk) hk4;rw[hall]at hlen HOwn;have HLen:=hZ hlen;clear hall hlen hlt;have key:FewP w xs (.returned (.slice na k nc)) wr:=⟨na,nc,by rw[HLen.out],ints_own (lo:=w.heap.size) (c:=nc) (by rw[HLen.out];exact HOwn.out),fun h=>HNil.out (by rw[<-HLen.out,h];rfl),HB.out⟩;have HKey:=hZ key;clear key;rcases h2 with⟨hi1,hi2⟩|hi1;all_goals(
    go_wp2;go_ret;exact HKey.out)
end
section
open Go.RowKit Go.Shelf
open Sc
def wrtN(xs:List Int):Bs:=Px.join (xs.map Lib.itoa)
theorem join_snoc(t:List UInt8):∀l:List (List UInt8),l≠[]->Px.join (l++[t])=Px.join l++32::t
 | [],h=>absurd rfl h
 | [a],_=>by simp[Px.join]
 |a::b::r,_=>by
  have:=join_snoc t (b::r) (by simp);simp only[List.cons_append,Px.join]at this|-;rw[this];simp
theorem wrtN_len:∀xs:List Int,(∀n,n∈xs->-9223372036854775808<=n/\n<=9223372036854775807)->(wrtN xs).length<=22*xs.length
 | [],_=>by simp[wrtN,Px.join]
 | [a],h=>by
  have:=itoa_len a (h a (by simp)).1 (h a (by simp)).2;simp[wrtN,Px.join];omega
 |a::b::r,h=>by
  have h1:=wrtN_len (b::r) (fun n hn=>h n (List.mem_cons_of_mem _ hn));have h2:=itoa_len a (h a (by simp)).1 (h a (by simp)).2;simp only[wrtN,List.map_cons,Px.join,List.length_append,List.length_cons]at h1|-;omega
theorem wrtN_step(xs:List Int)(k:Nat)(hk:k<xs.length):wrtN (xs.take (k+1))=if k=0 then Lib.itoa (xs.getD k 0)else wrtN (xs.take k)++32::Lib.itoa (xs.getD k 0):=by
 unfold wrtN;rw[List.take_add_one];simp only[List.getElem?_eq_getElem hk,Option.toList_some,List.map_append,List.map_cons,List.map_nil,List.getD_eq_getElem?_getD,Option.getD_some];by_cases h0:k=0
 ·subst h0;simp[Px.join]
 ·rw[if_neg h0,join_snoc];intro h;have:=congrArg List.length h;simp only[List.length_map,List.length_take,List.length_nil]at this;omega
theorem written19(xa:Option Addr)(xn xc:Nat)(xs:List Int)(w:World)(hxn:xn=xs.length)(h100:xn<=100)(h0:0<w.heap.size)(hT:GT w)(hx:IntsAt w xa xs)(bx:∀n,n∈xs->-9223372036854775808<=n/\n<=9223372036854775807):
  Calls prog 19 #[.slice xa xn xc] w fun e w'=>e=.returned (.string (bs (wrtN xs)))/\Below w.heap.size w w':=by
 have HX:=hZ hx;have HBx:=hZ bx;have HXn:=hZ hxn;have HT:=hZ hT;have H0:=hZ h0;clear hx bx hxn hT h0;go_enter func19,ntmps19
 go_wp2;go_loopw [4,3] (fun c s wr=>∃(k:Nat),k<=xn/\c=.int .i64 (k:Int)/\s=.string (bs (wrtN (xs.take k)))/\Below w.heap.size w wr) (fun c _ _=>xn-(intOf c).toNat)
 case atStart=>exact⟨0,Nat.zero_le _,rfl,rfl,Below.refl _ _⟩
 case round=>
  obtain⟨k,hk,rfl,rfl,hbl⟩:=hrel;have HB:=hZ hbl;clear hbl;by_cases hlt:k<xn
  ·obtain⟨xb,xo,rfl,hxw,hxc⟩:=HX.out k (by rw[<-HXn.out];exact hlt);have cx:wr.cell? ⟨xb,xo+k,none⟩=some (.int .i64 (xs.getD k 0)):=(HB.out.cell (p:=⟨xb,xo+k,none⟩) hxw).trans hxc;have hi1:(k:Int)<(xn:Int):=by omega
   have hvb:-9223372036854775808<=xs.getD k 0/\xs.getD k 0<=9223372036854775807:=HBx.out _ (by
    simp only[List.getD_eq_getElem?_getD,List.getElem?_eq_getElem (show k<xs.length by rw[<-HXn.out];exact hlt),Option.getD_some];exact List.getElem_mem _)
   have HSt:=hZ (wrtN_step xs k (by rw[<-HXn.out];exact hlt));have hlen:(wrtN (xs.take k)).length<=2200:=by
    have:=wrtN_len (xs.take k) (fun n hn=>HBx.out n (List.mem_of_mem_take hn));have h2:(xs.take k).length<=k:=List.length_take_le _ _;omega
   have HG:Hid (∀w',Below wr.heap.size wr w'->GT w'):=fun w' hb=>HT.out.keep (by rw[hb.block 0 (by have:=HB.out.size;have:=H0.out;omega),HB.out.block 0 H0.out])
   obtain⟨v,hv⟩:∃v,v=xs.getD k 0:=⟨_,rfl⟩;rw[<-hv]at cx hvb HSt;have hil:=itoa_len v hvb.1 hvb.2;clear hv hxc hxw;by_cases hk0:k=0
   ·have hk1:¬(0:Int)<(k:Int):=by omega
    rw[if_pos hk0]at HSt;obtain⟨T,hTx⟩:∃T,T=wrtN (xs.take k):=⟨_,rfl⟩;have hT0:T=[]:=by rw[hTx,hk0];rfl
    rw[show bs (wrtN (xs.take k))=bs T by rw[hTx]];have a1:∀w,(Op.stringOp .add (bs T) ⟨(Lib.itoa v).toArray⟩).run prog w=.ok (.string (bs (Lib.itoa v))) w:=fun w=>by rw[hT0];exact bs_add [] (Lib.itoa v) (by simp;omega) w
    clear hTx hk0 hT0 hlen;go_wp2_with (first|(go_at_call 12;refine(Tryz.strconv_Itoa v hvb.1 hvb.2 _ (HG.out _ (Below.refl _ _))).mono ?_;rintro e w2 ⟨rfl,nq,os2,hw2⟩;have HW2:=hZ (hw2▸Lib.below_grow _ _ (Nat.le_refl _) nq os2:Below wr.heap.size wr w2);clear hw2))
    refine⟨⟨k+1,by omega,by go_num,by rw[HSt.out],HB.out.trans (HW2.out.mono HB.out.size)⟩,by simp[intOf];omega⟩
   ·have hk1:(0:Int)<(k:Int):=by omega
    rw[if_neg hk0]at HSt;obtain⟨T,hTx⟩:∃T,T=wrtN (xs.take k):=⟨_,rfl⟩;rw[<-hTx]at hlen HSt;rw[show bs (wrtN (xs.take k))=bs T by rw[hTx]];clear hTx hk0;have a1:∀w,(Op.stringOp .add (bs T) ⟨#[32]⟩).run prog w=.ok (.string (bs (T++[32]))) w:=fun w=>bs_add T [32] (by simp;omega) w
    have a2:∀w,(Op.stringOp .add (bs (T++[32])) ⟨(Lib.itoa v).toArray⟩).run prog w=.ok (.string (bs (T++32::Lib.itoa v))) w:=fun w=>(bs_add (T++[32]) (Lib.itoa v) (by simp;omega) w).trans (by simp)
    go_wp2_with (first|(go_at_call 12;refine(Tryz.strconv_Itoa v hvb.1 hvb.2 _ (HG.out _ (Below.refl _ _))).mono ?_;rintro e w2 ⟨rfl,nq,os2,hw2⟩;have HW2:=hZ (hw2▸Lib.below_grow _ _ (Nat.le_refl _) nq os2:Below wr.heap.size wr w2);clear hw2))
    refine⟨⟨k+1,by omega,by go_num,by rw[HSt.out],HB.out.trans (HW2.out.mono HB.out.size)⟩,by simp[intOf];omega⟩
  ·have hi1:¬(k:Int)<(xn:Int):=by omega
   have htk:xs.take k=xs:=List.take_of_length_le (by rw[<-HXn.out];omega);rw[htk];clear htk;go_wp2;go_ret;exact⟨rfl,HB.out⟩
end
section
open Go.RowKit Go.Shelf
open Sc
theorem wfL_nums(d:Nat):∀l:List Int,Py.wfL d (l.map .num)=true
 | []=>rfl
 |n::r=>by simp only[List.map_cons,Py.wfL,Py.wf,wfL_nums d r];rfl
theorem numsL_nums:∀l:List Int,Py.numsL (l.map .num)=l
 | []=>rfl
 |n::r=>by simp only[List.map_cons,Py.numsL,Py.nums,numsL_nums r];rfl
theorem wqs_nums:∀l:List Int,Py.wqs (l.map .num)=l.map Lib.itoa
 | []=>rfl
 |n::r=>by simp only[List.map_cons,Py.wqs,Py.wq,wqs_nums r]
theorem wq_nums(l:List Int):Py.wq (nums' l)=Px.paren (l.map Lib.itoa):=by
 cases l with
 |nil=>rfl
 |cons n r=>
  show Py.wq (.list (.num n::r.map .num))=_;rw[Py.wq]
  ·rw[wqs_nums,Py.wq];rfl
  ·intro s m x h;cases h
theorem wf_nums(d:Nat)(hd:(d==30)=false)(l:List Int):Py.wf d (nums' l)=true:=by
 show(!(d==30)&&Py.wfL (d+1) (l.map .num))=true;rw[wfL_nums,hd];rfl
theorem small_itoa:∀n:Int,0<=n/\n<1000->(Lib.itoa n).length<=3:=by
 have h:(List.range 1000).all (fun n=>decide ((Lib.itoa (n:Int)).length<=3))=true:=by kernel_rfl
 intro n hn;have h2:=List.all_eq_true.1 h n.toNat (List.mem_range.2 (by omega));rw[show((n.toNat:Nat):Int)=n by omega]at h2;exact of_decide_eq_true h2
theorem wrtN_small:∀xs:List Int,(∀n,n∈xs->0<=n/\n<1000)->(wrtN xs).length<=4*xs.length
 | [],_=>by simp[wrtN,Px.join]
 | [a],h=>by
  have:=small_itoa a (h a (by simp));simp[wrtN,Px.join];omega
 |a::b::r,h=>by
  have h1:=wrtN_small (b::r) (fun n hn=>h n (List.mem_cons_of_mem _ hn));have h2:=small_itoa a (h a (by simp));simp only[wrtN,List.map_cons,Px.join,List.length_append,List.length_cons]at h1|-;omega
theorem few_small(xs:List Int):∀n,n∈fewL xs->0<=n/\n<1000:=fun n hn=>by
 simp only[fewL,List.mem_map]at hn;obtain⟨c,-,rfl⟩:=hn;exact pk_in (by omega)
def defsT:Bs:=[40,100,101,102,105,110,101,32,40,116,117,114,110,32,108,32,97,41,32,40,105,102,32,40,110,117,108,108,63,32,108,41,32,97,32,40,116,117,114,110,32,40,99,100,114,32,108,41,32,40,99,111,110,115,32,40,99,97,114,32,108,41,32,97,41,41,41,41,40,100,101,102,105,110,101,32,40,115,105,122,101,32,108,41,32,40,105,102,32,40,112,97,105,114,63,32,108,41,32,40,43,32,49,32,40,115,105,122,101,32,40,99,100,114,32,108,41,41,41,32,48,41,41]
theorem defs_wq:Py.wq turnD++Py.wq sizeD=defsT:=by kernel_rfl
theorem defs_len:defsT.length<=140:=of_decide_eq_true (by kernel_rfl)
theorem turn_ok:formOk turnD=true/\∀v,v∈Py.nums turnD->Py.inR v:=⟨by kernel_rfl,fun v hv=>by
 have h:Py.nums turnD=[]:=by kernel_rfl
 rw[h]at hv;cases hv⟩
theorem size_ok:formOk sizeD=true/\∀v,v∈Py.nums sizeD->Py.inR v:=⟨by kernel_rfl,fun v hv=>by
 have h:Py.nums sizeD=[1,0]:=by kernel_rfl
 rw[h]at hv;simp at hv;rcases hv with rfl|rfl <;> exact⟨by omega,by omega⟩⟩
def tX(xs ys:List Int):Bs:=defsT++([40,97,112,112,101,110,100,32,40,116,117,114,110,32,39,40]++(wrtN xs++([41,32,39,40,41,41,32,39,40]++(wrtN ys++[41,41]))))
def tY(xs:List Int):Bs:=defsT++([40,115,105,122,101,32,39,40]++(wrtN xs++[41,41]))
def tZ(xs:List Int):Bs:=[40,108,101,110,103,116,104,32,40,108,105,115,116,32]++(wrtN xs++[41,41])
def tW(xs:List Int):Bs:=[40,40,108,97,109,98,100,97,32,40,120,41,32,40,101,113,117,97,108,63,32,120,32,39,40]++(wrtN xs++([41,41,41,32,39,40]++(wrtN xs++[41,41])))
theorem wq_X(A B:Dt):Py.wq (lisX A B)=[40,97,112,112,101,110,100,32,40,116,117,114,110,32,39]++(Py.wq A++([32,39,40,41,41,32,39]++(Py.wq B++[41]))):=by
 simp[lisX,Py.wq,Py.wqs,Px.paren,Px.join,Px.quoteT]
theorem wq_Y(A:Dt):Py.wq (lisY A)=[40,115,105,122,101,32,39]++(Py.wq A++[41]):=by
 simp[lisY,Py.wq,Px.paren,Px.join,Px.quoteT]
theorem wq_W(A:Dt):Py.wq (lisW A)=[40,40,108,97,109,98,100,97,32,40,120,41,32,40,101,113,117,97,108,63,32,120,32,39]++(Py.wq A++([41,41,32,39]++(Py.wq A++[41]))):=by
 simp[lisW,Py.wq,Py.wqs,Px.paren,Px.join,Px.quoteT]
theorem wq_Z(l:List Int)(hl:l≠[]):Py.wq (lisZ (l.map .num))=[40,108,101,110,103,116,104,32,40,108,105,115,116,32]++(wrtN l++[41,41]):=by
 cases l with
 |nil=>exact absurd rfl hl
 |cons n r=>
  cases r with
  |nil=>simp[lisZ,Py.wq,Px.paren,Px.join,Px.quoteT,wrtN]
  |cons b r=>simp[lisZ,Py.wq,Py.wqs,wqs_nums,Px.paren,Px.join,Px.quoteT,wrtN]
theorem in_small{l:List Int}(h:∀n,n∈l->0<=n/\n<1000):∀n,n∈l->Py.inR n:=fun n hn=>⟨by have:=h n hn;omega,by have:=h n hn;omega⟩
theorem lisX_ok{xs ys:List Int}(hx:∀n,n∈xs->0<=n/\n<1000)(hy:∀n,n∈ys->0<=n/\n<1000):formOk (lisX (nums' xs) (nums' ys))=true/\∀v,v∈Py.nums (lisX (nums' xs) (nums' ys))->Py.inR v:=by
 constructor
 ·have h1:Py.wf 0 (lisX (nums' xs) (nums' ys))=true:=by
   unfold lisX;simp only[Py.wf,Py.wfL,wf_nums 3 rfl xs,wf_nums 2 rfl ys];decide
  rw[formOk,h1,wq_X];rfl
 ·intro v hv;have e:Py.nums (lisX (nums' xs) (nums' ys))=xs++ys:=by
   simp[lisX,Py.nums,Py.numsL,nums',numsL_nums]
  rw[e,List.mem_append]at hv;rcases hv with hv|hv
  ·exact in_small hx v hv
  ·exact in_small hy v hv
theorem gives_X(xs ys:List Int)(hx:∀n,n∈xs->0<=n/\n<1000)(hy:∀n,n∈ys->0<=n/\n<1000)(lx:xs.length<=40)(ly:ys.length<=40):Gives (tX xs ys) (40::(wrtN (xs.reverse++ys)++[41])):=by
 have ht:textOf [turnD,sizeD,lisX (nums' xs) (nums' ys)]=tX xs ys:=by
  have e:textOf [turnD,sizeD,lisX (nums' xs) (nums' ys)]=(Py.wq turnD++Py.wq sizeD)++Py.wq (lisX (nums' xs) (nums' ys)):=by simp[textOf]
  rw[e,defs_wq,wq_X,wq_nums,wq_nums];simp[tX,Px.paren,wrtN]
 have l1:=wrtN_small xs hx;have l2:=wrtN_small ys hy;have l3:=wrtN_small (xs.reverse++ys) (fun n hn=>by
  rw[List.mem_append,List.mem_reverse]at hn;exact hn.elim (hx n) (hy n))
 have hdl:=defs_len;rw[<-ht];refine gives_trees _ _ ?_ ?_ ?_ ?_ ?_
 ·intro d hd;simp only[List.mem_cons,List.not_mem_nil,or_false]at hd;rcases hd with rfl|rfl|rfl
  ·exact turn_ok
  ·exact size_ok
  ·exact lisX_ok hx hy
 ·rw[ht,tX];simp only[List.length_append,List.length_cons,List.length_nil];omega
 ·simp only[List.length_append,List.length_cons,List.length_nil,List.length_reverse]at l3|-;omega
 ·intro d hd;simp only[List.mem_cons,List.not_mem_nil,or_false]at hd;rcases hd with rfl|rfl|rfl <;> rfl
 ·intro ps hps
  match ps,hps with
  | [p,q,r],_=>exact x_ends _ p q r xs ys lx ly
theorem gives_Y(xs:List Int)(hx:∀n,n∈xs->0<=n/\n<1000)(lx:xs.length<=40):Gives (tY xs) (Lib.itoa xs.length):=by
 have ht:textOf [turnD,sizeD,lisY (nums' xs)]=tY xs:=by
  have e:textOf [turnD,sizeD,lisY (nums' xs)]=(Py.wq turnD++Py.wq sizeD)++Py.wq (lisY (nums' xs)):=by simp[textOf]
  rw[e,defs_wq,wq_Y,wq_nums];simp[tY,Px.paren,wrtN]
 have l1:=wrtN_small xs hx;have hdl:=defs_len;rw[<-ht];refine gives_trees _ _ ?_ ?_ ?_ ?_ ?_
 ·intro d hd;simp only[List.mem_cons,List.not_mem_nil,or_false]at hd;rcases hd with rfl|rfl|rfl
  ·exact turn_ok
  ·exact size_ok
  ·constructor
   ·have h1:Py.wf 0 (lisY (nums' xs))=true:=by
     unfold lisY;simp only[Py.wf,Py.wfL,wf_nums 2 rfl xs];decide
    rw[formOk,h1,wq_Y];rfl
   ·intro v hv;have e:Py.nums (lisY (nums' xs))=xs:=by simp[lisY,Py.nums,Py.numsL,nums',numsL_nums]
    rw[e]at hv;exact in_small hx v hv
 ·rw[ht,tY];simp only[List.length_append,List.length_cons,List.length_nil];omega
 ·have:=small_itoa xs.length (by omega);omega
 ·intro d hd;simp only[List.mem_cons,List.not_mem_nil,or_false]at hd;rcases hd with rfl|rfl|rfl <;> rfl
 ·intro ps hps
  match ps,hps with
  | [p,q,r],_=>exact y_ends _ p q r xs lx
theorem gives_W(xs:List Int)(hx:∀n,n∈xs->0<=n/\n<1000)(lx:xs.length<=40):Gives (tW xs) [35,116]:=by
 have ht:textOf [lisW (nums' xs)]=tW xs:=by
  have e:textOf [lisW (nums' xs)]=Py.wq (lisW (nums' xs)):=by simp[textOf]
  rw[e,wq_W,wq_nums];simp[tW,Px.paren,wrtN]
 have l1:=wrtN_small xs hx;rw[<-ht];refine gives_trees _ _ ?_ ?_ ?_ ?_ ?_
 ·intro d hd;simp only[List.mem_singleton]at hd;subst hd;constructor
  ·have h1:Py.wf 0 (lisW (nums' xs))=true:=by
    unfold lisW;simp only[Py.wf,Py.wfL,wf_nums 2 rfl xs,wf_nums 4 rfl xs];decide
   rw[formOk,h1,wq_W];rfl
  ·intro v hv;have e:Py.nums (lisW (nums' xs))=xs++xs:=by simp[lisW,Py.nums,Py.numsL,nums',numsL_nums]
   rw[e,List.mem_append]at hv;exact hv.elim (in_small hx v) (in_small hx v)
 ·rw[ht,tW];simp only[List.length_append,List.length_cons,List.length_nil];omega
 ·simp
 ·intro d hd;simp only[List.mem_singleton]at hd;subst hd;rfl
 ·intro ps hps
  match ps,hps with
  | [p],_=>exact w_ends _ p xs lx
theorem gives_Z(xs:List Int)(hx:∀n,n∈xs->0<=n/\n<1000)(lx:xs.length<=40)(hne:xs≠[]):Gives (tZ xs) (Lib.itoa xs.length):=by
 have ht:textOf [lisZ (xs.map .num)]=tZ xs:=by
  have e:textOf [lisZ (xs.map .num)]=Py.wq (lisZ (xs.map .num)):=by simp[textOf]
  rw[e,wq_Z xs hne];rfl
 have l1:=wrtN_small xs hx;rw[<-ht];refine gives_trees _ _ ?_ ?_ ?_ ?_ ?_
 ·intro d hd;simp only[List.mem_singleton]at hd;subst hd;constructor
  ·have h1:Py.wf 0 (lisZ (xs.map .num))=true:=by
    unfold lisZ;simp only[Py.wf,Py.wfL,wfL_nums];decide
   rw[formOk,h1,wq_Z xs hne];rfl
  ·intro v hv;have e:Py.nums (lisZ (xs.map .num))=xs:=by simp[lisZ,Py.nums,Py.numsL,numsL_nums]
   rw[e]at hv;exact in_small hx v hv
 ·rw[ht,tZ];simp only[List.length_append,List.length_cons,List.length_nil];omega
 ·have:=small_itoa xs.length (by omega);omega
 ·intro d hd;simp only[List.mem_singleton]at hd;subst hd;rfl
 ·intro ps hps
  match ps,hps with
  | [p],_=>exact z_ends _ p xs lx
def Gv(t v:Bs):Prop:=∀w:World,GT w->Rd.GV w->6<=w.heap.size->Calls prog 16 #[.string (bs t),.string (bs v)] w fun e w'=>e=.returned (.bool true)/\Below w.heap.size w w'
theorem gv_of{t v:Bs}(h:Gives t v):Gv t v:=fun _ hT hV h6=>gives_of16 h hT hV h6
theorem gv_top{t v:Bs}(fs:List (Dt×Nat))(rr:List UInt8)(htop:Py.topP (2*t.length+2) t=.inr (fs,rr))(hl:t.length<=1200)(hv:v.length<=1200)(hn:∀f,f∈fs->noSyn f.1=true)(hE:EndsW (deal (plenty t) (fs.map (fun f=>(f.1,t.length-f.2))) none {} m0) v):Gv t v:=fun w hT hV h6=>by
 refine gives16 (bs t) (bs v) w fun w' hb=>?_
 obtain⟨gT,gV,g6⟩:=gl_below hT hV h6 hb;have hz:(bs t).size=t.length:=by simp[bs,ByteArray.size]
 have hL:Rd.L (bs t) 0=t:=by simp[Rd.L,bs]
 have key:=kept_of (t:=bs t) (w:=w') (S:=plenty t) ⟨rfl,rfl,rfl⟩ gT gV g6 (by rw[hz];exact hl) fs rr (by rw[hz,hL];exact htop) (fun f hf=>noSyn_of (hn f hf)) (by rw[hz,mStart_m0,hE.1];simp);rw[hz,mStart_m0]at key;obtain⟨h1,h2,-,-⟩:=hE;generalize deal (plenty t) (fs.map (fun f=>(f.1,t.length-f.2))) none {} m0=r at key h1 h2;refine key.mono ?_;rintro e w2 ⟨ve,pl,va,st,ce,rw,rfl,hr,hb⟩;obtain⟨⟨e0,p⟩,ov,x,m⟩:=r;simp only at h1 h2;subst h1;cases ov with
 |none=>simp at h2
 |some u=>
  simp only[Option.map_some,Option.some.injEq]at h2;obtain⟨rfl,rfl,rfl,-,-,-⟩:=hr;refine⟨st,ce,rw,?_,hb⟩;have:lastV (some u)=bs v:=by
   show(⟨((wr u).take 1200).toArray⟩:ByteArray)=⟨v.toArray⟩;rw[h2,List.take_of_length_le hv]
  rw[this]
theorem gv_Z(xs:List Int)(hx:∀n,n∈xs->0<=n/\n<1000)(lx:xs.length<=40):Gv (tZ xs) (Lib.itoa xs.length):=by
 by_cases hne:xs=[]
 ·subst hne;refine gv_top [(lisZ [],16)] [] (by kernel_rfl) (by decide) (by rw[show Lib.itoa (([]:List Int).length:Int)=[48]from by kernel_rfl];decide) ?_ ?_
  ·intro f hf;simp only[List.mem_singleton]at hf;subst hf;rfl
  ·exact z_ends _ _ [] (by simp)
 ·exact gv_of (gives_Z xs hx lx hne)
end
section
open Go.RowKit Go.Shelf
open Sc
theorem take_rev(A:List Int)(k:Nat)(hk:k<A.length):A.reverse.take (k+1)=A.reverse.take k++[A.getD (A.length-1-k) 0]:=by
 rw[List.take_add_one,List.getElem?_reverse hk];simp[List.getD_eq_getElem?_getD,List.getElem?_eq_getElem (show A.length-1-k<A.length by omega)]
def Stt(w:World)(na:Option Addr)(A:List Int)(ma:Option Addr)(B:List Int)(fa:Option Addr)(F:List Int)(w':World):Prop:=Below w.heap.size w w'/\(GT w'/\Rd.GV w'/\6<=w'.heap.size)/\IntsAt w' na A/\IntsAt w' ma B/\IntsAt w' fa F
theorem Stt.below{w:World}{na:Option Addr}{A:List Int}{ma:Option Addr}{B:List Int}{fa:Option Addr}{F:List Int}{w' w'':World}(h:Stt w na A ma B fa F w')(hb:Below w'.heap.size w' w''):Stt w na A ma B fa F w'':=
 ⟨h.1.trans (hb.mono h.1.size),gl_below h.2.1.1 h.2.1.2.1 h.2.1.2.2 hb,h.2.2.1.below hb,h.2.2.2.1.below hb,h.2.2.2.2.below hb⟩
theorem Stt.pos{w:World}{na:Option Addr}{A:List Int}{ma:Option Addr}{B:List Int}{fa:Option Addr}{F:List Int}{w':World}(h:Stt w na A ma B fa F w'):0<w'.heap.size:=by have:=h.2.1.2.2;omega
theorem wide{l:List Int}(h:∀n,n∈l->0<=n/\n<1000):∀n,n∈l->-9223372036854775808<=n/\n<=9223372036854775807:=fun n hn=>by have:=h n hn;omega
theorem bs_add'{x y z:List UInt8}(hz:z=x++y)(h:z.length<=100000)(w:World):(Op.stringOp .add (bs x) (bs y)).run prog w=.ok (.string (bs z)) w:=by
 subst hz;exact bs_add x y (by simp only[List.length_append]at h;omega) w
theorem law4(xa oa:Option Addr)(xn xc on oc:Nat)(xs os:List Int)(w:World)(hxn:xn=xs.length)(hon:on=os.length)(h6:6<=w.heap.size)(hxm:xn<=9223372036854775807)(hom:on<=9223372036854775807)(hT:GT w)(hV:Rd.GV w)
  (hx:IntsAt w xa xs)(ho:IntsAt w oa os)
  (bx:∀n,n∈xs->-9223372036854775808<=n/\n<=9223372036854775807)(bo:∀n,n∈os->-9223372036854775808<=n/\n<=9223372036854775807):
  Calls prog 4 #[.slice xa xn xc,.slice oa on oc] w fun e w'=>e=.returned (.bool true)/\Below w.heap.size w w':=by
 obtain⟨i0,hi,hz0',hz1',hz2'⟩:=info_parts info3;have HX:=hZ hx;have HO:=hZ ho;have HBx:=hZ bx;have HBo:=hZ bo;have HXn:=hZ hxn;have HOn:=hZ hon;have HGl:=hZ (fun w'=>gl_below (w':=w') hT hV h6);clear hx ho bx bo hxn hon hT hV h6;go_enter func4,ntmps4
 go_wp2_with (first|(go_at_call 18;refine(few18 xa xn xc xs _ HXn.out hxm HX.out HBx.out).mono ?_;rintro e w1 ⟨na,nc,rfl,hA,-,hb1⟩;refine Hid.out ?_))
 have HA:=hZ hA;have HB1:=hZ hb1;clear hA hb1;refine hZ ?_;go_wp2_with (first|(go_at_call 18;refine(few18 oa on oc os _ HOn.out hom (HO.out.below HB1.out) HBo.out).mono ?_;rintro e w2 ⟨ma,mc,rfl,hB,hBe,hb2⟩;refine Hid.out ?_))
 have HB2:=hZ (HB1.out.trans (hb2.mono HB1.out.size));have HA2:=hZ (HA.out.below hb2);have HBB:=hZ hB;have HBe:=hZ hBe;have HsA:=hZ (few_small xs);have HsB:=hZ (few_small os);have hAl:=fewL_len xs;have hBl:=fewL_len os;clear hb2 hB hBe HA HB1 HX HO HBx HBo;obtain⟨A,hA⟩:∃A,A=fewL xs:=⟨_,rfl⟩;obtain⟨B,hB⟩:∃B,B=fewL os:=⟨_,rfl⟩;rw[<-hA]at HA2 HsA hAl|-;rw[<-hB]at HBB HBe HsB hBl|-;clear hA hB;obtain⟨an,han⟩:∃n,n=A.length:=⟨_,rfl⟩;obtain⟨bn,hbn⟩:∃n,n=B.length:=⟨_,rfl⟩;rw[<-han]at hAl|-;rw[<-hbn]at hBl|-;have HAn:=hZ han;have HBn:=hZ hbn;clear han hbn;refine hZ ?_;go_wp2;go_loopw [8,7] (fun c s wr=>∃(k:Nat) (ka:Option Addr) (kc:Nat),k<=an/\c=.int .i64 ((an:Int)-1-(k:Int))/\s=.slice ka k kc/\wr.ownsRow w2.heap.size 3 1 (.slice ka k kc) k (nC (A.reverse.take k))/\Below w2.heap.size w2 wr) (fun c _ _=>(intOf c+1).toNat)
 case atStart=>exact⟨0,none,0,Nat.zero_le _,by simp,rfl,⟨rfl,.inl ⟨rfl,rfl⟩⟩,Below.refl _ _⟩
 case round=>
  obtain⟨k,ka,kc,hk,rfl,rfl,hown,hbl⟩:=hrel;have HOwn:=hZ hown;have HB:=hZ hbl;clear hown hbl;by_cases hlt:k<an
  ·obtain⟨j,hj⟩:∃j,j=an-1-k:=⟨_,rfl⟩;have hji:(an:Int)-1-(k:Int)=(j:Int):=by omega
   rw[hji];obtain⟨ab,ao,rfl,haw,hac⟩:=HA2.out j (by rw[<-HAn.out];omega);have ca:wr.cell? ⟨ab,ao+j,none⟩=some (.int .i64 (A.getD j 0)):=(HB.out.cell (p:=⟨ab,ao+j,none⟩) haw).trans hac;have HSt:=hZ (take_rev A k (by rw[<-HAn.out];exact hlt));rw[<-HAn.out,<-hj]at HSt;obtain⟨v,hv⟩:∃v,v=A.getD j 0:=⟨_,rfl⟩;rw[<-hv]at ca HSt;have hj0:(0:Int)<=(j:Int):=by omega
   have hjn:(j:Int)<(an:Int):=by omega
   have HJi:=hZ hji;have HJ:=hZ hj;clear hv hac haw hji hj;go_wp2_with (first|(at_builtin;refine wpList_append_lies _ rfl _ _ 22 rfl w2.heap.size 3 i0 (.int .i64 0) 1 8 underlying22 hi hz0' hz1' hz2' rfl (by decide) _ _ _ rfl (HOwn.out.alloc _) ⟨wr.heap.size,0,none⟩ 1 1 [.int .i64 v] rfl rfl ?c1 ?c2 (by decide) ?c3 ?c4 ?c5 (wr.heap.size+1) ?c6 ?_))
   case c1=>exact World.news_of_block (cs:=#[.int .i64 v]) (by have:=heap_alloc_new wr (.cells #[.int .i64 v] 3);simpa using this)
   case c2=>intro u hu;simp at hu;rcases hu with rfl;rfl
   case c3=>unfold maxLen;omega
   case c4=>omega
   case c5=>have:=HB.out.size;simp;omega
   case c6=>simp
   intro g4 cap4 w4 hown4 hgrow4 hat4 hlt4;refine Hid.out ?_;have hg3:wr.grownBy w4 (Value.slice ka k kc).ownBlock:=qbf hgrow4;have hb4:Below w2.heap.size w2 w4:=⟨hg3.os.trans HB.out.os,hg3.tape.trans HB.out.tape,hg3.output.trans HB.out.output,Nat.le_trans HB.out.size hg3.size,fun i hi=>by
    rw[hg3.block i (Nat.lt_of_lt_of_le hi HB.out.size) (fun e=>by have:=(HOwn.out.lt i e.symm).1;omega)];exact HB.out.block i hi⟩
   have HB4:=hZ hb4;have HOwn4:=hZ hown4;clear hown4 hgrow4 hat4 hlt4 hg3 hb4 HB HOwn;refine hZ ?_;go_wp2;refine⟨⟨k+1,some ⟨g4,0,none⟩,cap4,by omega,?_,rfl,?_,HB4.out⟩,?_⟩
   ·have:=HJi.out;congr 1;push_cast;omega
   ·have:=HOwn4.out;rw[HSt.out];simpa[nC]using this
   ·simp[intOf]
  ·obtain rfl:k=an:=by omega
   rw[show(k:Int)-1-(k:Int)=-1 by omega];have htk:A.reverse.take k=A.reverse:=List.take_of_length_le (by rw[List.length_reverse,<-HAn.out];omega);rw[htk]at HOwn;clear htk hlt;obtain⟨F,hFx⟩:∃F,F=A.reverse++B:=⟨_,rfl⟩;have HsF:Hid (∀n,n∈F->0<=n/\n<1000):=fun n hn=>by
    rw[hFx,List.mem_append,List.mem_reverse]at hn;exact hn.elim (HsA.out n) (HsB.out n)
   have HFl:Hid (F.length=k+bn):=by rw[hFx,List.length_append,List.length_reverse,<-HAn.out,<-HBn.out];exact hZ rfl
   have HFx:=hZ hFx;have hkc:k<=kc:=by
    rcases HOwn.out.2 with⟨h1,h2⟩|⟨g,cap,cur,h1,-,-,h2,-⟩
    ·cases h1;omega
    ·cases h1;exact h2
   obtain⟨TA,hTA⟩:∃T:Bs,T=wrtN A:=⟨_,rfl⟩;obtain⟨TB,hTB⟩:∃T:Bs,T=wrtN B:=⟨_,rfl⟩;obtain⟨TF,hTF⟩:∃T:Bs,T=wrtN F:=⟨_,rfl⟩;have lA:TA.length<=160:=by have:=wrtN_small A HsA.out;rw[<-hTA]at this;have:=HAn.out;omega
   have lB:TB.length<=160:=by have:=wrtN_small B HsB.out;rw[<-hTB]at this;have:=HBn.out;omega
   have lF:TF.length<=320:=by have:=wrtN_small F HsF.out;rw[<-hTF]at this;have:=HFl.out;omega
   have lD:=defs_len;obtain⟨X1,hX1⟩:∃T:Bs,T=defsT++[40,97,112,112,101,110,100,32,40,116,117,114,110,32,39,40]:=⟨_,rfl⟩;obtain⟨X2,hX2⟩:∃T:Bs,T=X1++TA:=⟨_,rfl⟩;obtain⟨X3,hX3⟩:∃T:Bs,T=X2++[41,32,39,40,41,41,32,39,40]:=⟨_,rfl⟩;obtain⟨X4,hX4⟩:∃T:Bs,T=X3++TB:=⟨_,rfl⟩;obtain⟨X5,hX5⟩:∃T:Bs,T=X4++[41,41]:=⟨_,rfl⟩;obtain⟨V1,hV1⟩:∃T:Bs,T=[40]++TF:=⟨_,rfl⟩;obtain⟨V2,hV2⟩:∃T:Bs,T=V1++[41]:=⟨_,rfl⟩;obtain⟨Y1,hY1⟩:∃T:Bs,T=defsT++[40,115,105,122,101,32,39,40]:=⟨_,rfl⟩;obtain⟨Y2,hY2⟩:∃T:Bs,T=Y1++TA:=⟨_,rfl⟩;obtain⟨Y3,hY3⟩:∃T:Bs,T=Y2++[41,41]:=⟨_,rfl⟩;obtain⟨Z1,hZ1⟩:∃T:Bs,T=[40,108,101,110,103,116,104,32,40,108,105,115,116,32]++TA:=⟨_,rfl⟩;obtain⟨Z2,hZ2⟩:∃T:Bs,T=Z1++[41,41]:=⟨_,rfl⟩;obtain⟨W1,hW1⟩:∃T:Bs,T=[40,40,108,97,109,98,100,97,32,40,120,41,32,40,101,113,117,97,108,63,32,120,32,39,40]++TA:=⟨_,rfl⟩;obtain⟨W2,hW2⟩:∃T:Bs,T=W1++[41,41,41,32,39,40]:=⟨_,rfl⟩;obtain⟨W3,hW3⟩:∃T:Bs,T=W2++TA:=⟨_,rfl⟩;obtain⟨W4,hW4⟩:∃T:Bs,T=W3++[41,41]:=⟨_,rfl⟩;have eX1:X1.length=(defsT:Bs).length+([40,97,112,112,101,110,100,32,40,116,117,114,110,32,39,40]:Bs).length:=by rw[hX1,List.length_append]
   have eX2:X2.length=(X1:Bs).length+(TA:Bs).length:=by rw[hX2,List.length_append]
   have eX3:X3.length=(X2:Bs).length+([41,32,39,40,41,41,32,39,40]:Bs).length:=by rw[hX3,List.length_append]
   have eX4:X4.length=(X3:Bs).length+(TB:Bs).length:=by rw[hX4,List.length_append]
   have eX5:X5.length=(X4:Bs).length+([41,41]:Bs).length:=by rw[hX5,List.length_append]
   have eV1:V1.length=([40]:Bs).length+(TF:Bs).length:=by rw[hV1,List.length_append]
   have eV2:V2.length=(V1:Bs).length+([41]:Bs).length:=by rw[hV2,List.length_append]
   have eY1:Y1.length=(defsT:Bs).length+([40,115,105,122,101,32,39,40]:Bs).length:=by rw[hY1,List.length_append]
   have eY2:Y2.length=(Y1:Bs).length+(TA:Bs).length:=by rw[hY2,List.length_append]
   have eY3:Y3.length=(Y2:Bs).length+([41,41]:Bs).length:=by rw[hY3,List.length_append]
   have eZ1:Z1.length=([40,108,101,110,103,116,104,32,40,108,105,115,116,32]:Bs).length+(TA:Bs).length:=by rw[hZ1,List.length_append]
   have eZ2:Z2.length=(Z1:Bs).length+([41,41]:Bs).length:=by rw[hZ2,List.length_append]
   have eW1:W1.length=([40,40,108,97,109,98,100,97,32,40,120,41,32,40,101,113,117,97,108,63,32,120,32,39,40]:Bs).length+(TA:Bs).length:=by rw[hW1,List.length_append]
   have eW2:W2.length=(W1:Bs).length+([41,41,41,32,39,40]:Bs).length:=by rw[hW2,List.length_append]
   have eW3:W3.length=(W2:Bs).length+(TA:Bs).length:=by rw[hW3,List.length_append]
   have eW4:W4.length=(W3:Bs).length+([41,41]:Bs).length:=by rw[hW4,List.length_append]
   simp only[List.length_cons,List.length_nil]at eX1 eX2 eX3 eX4 eX5 eV1 eV2 eY1 eY2 eY3 eZ1 eZ2 eW1 eW2 eW3 eW4;have aX1:∀w,(Op.stringOp .add ⟨#[40,100,101,102,105,110,101,32,40,116,117,114,110,32,108,32,97,41,32,40,105,102,32,40,110,117,108,108,63,32,108,41,32,97,32,40,116,117,114,110,32,40,99,100,114,32,108,41,32,40,99,111,110,115,32,40,99,97,114,32,108,41,32,97,41,41,41,41,40,100,101,102,105,110,101,32,40,115,105,122,101,32,108,41,32,40,105,102,32,40,112,97,105,114,63,32,108,41,32,40,43,32,49,32,40,115,105,122,101,32,40,99,100,114,32,108,41,41,41,32,48,41,41]⟩ ⟨#[40,97,112,112,101,110,100,32,40,116,117,114,110,32,39,40]⟩).run prog w=.ok (.string (bs X1)) w:=fun w=>bs_add' hX1 (by omega) w
   have aX2:∀w,(Op.stringOp .add (bs X1) (bs TA)).run prog w=.ok (.string (bs X2)) w:=fun w=>bs_add' hX2 (by omega) w
   have aX3:∀w,(Op.stringOp .add (bs X2) ⟨#[41,32,39,40,41,41,32,39,40]⟩).run prog w=.ok (.string (bs X3)) w:=fun w=>bs_add' hX3 (by omega) w
   have aX4:∀w,(Op.stringOp .add (bs X3) (bs TB)).run prog w=.ok (.string (bs X4)) w:=fun w=>bs_add' hX4 (by omega) w
   have aX5:∀w,(Op.stringOp .add (bs X4) ⟨#[41,41]⟩).run prog w=.ok (.string (bs X5)) w:=fun w=>bs_add' hX5 (by omega) w
   have aV1:∀w,(Op.stringOp .add ⟨#[40]⟩ (bs TF)).run prog w=.ok (.string (bs V1)) w:=fun w=>bs_add' hV1 (by omega) w
   have aV2:∀w,(Op.stringOp .add (bs V1) ⟨#[41]⟩).run prog w=.ok (.string (bs V2)) w:=fun w=>bs_add' hV2 (by omega) w
   have aY1:∀w,(Op.stringOp .add ⟨#[40,100,101,102,105,110,101,32,40,116,117,114,110,32,108,32,97,41,32,40,105,102,32,40,110,117,108,108,63,32,108,41,32,97,32,40,116,117,114,110,32,40,99,100,114,32,108,41,32,40,99,111,110,115,32,40,99,97,114,32,108,41,32,97,41,41,41,41,40,100,101,102,105,110,101,32,40,115,105,122,101,32,108,41,32,40,105,102,32,40,112,97,105,114,63,32,108,41,32,40,43,32,49,32,40,115,105,122,101,32,40,99,100,114,32,108,41,41,41,32,48,41,41]⟩ ⟨#[40,115,105,122,101,32,39,40]⟩).run prog w=.ok (.string (bs Y1)) w:=fun w=>bs_add' hY1 (by omega) w
   have aY2:∀w,(Op.stringOp .add (bs Y1) (bs TA)).run prog w=.ok (.string (bs Y2)) w:=fun w=>bs_add' hY2 (by omega) w
   have aY3:∀w,(Op.stringOp .add (bs Y2) ⟨#[41,41]⟩).run prog w=.ok (.string (bs Y3)) w:=fun w=>bs_add' hY3 (by omega) w
   have aZ1:∀w,(Op.stringOp .add ⟨#[40,108,101,110,103,116,104,32,40,108,105,115,116,32]⟩ (bs TA)).run prog w=.ok (.string (bs Z1)) w:=fun w=>bs_add' hZ1 (by omega) w
   have aZ2:∀w,(Op.stringOp .add (bs Z1) ⟨#[41,41]⟩).run prog w=.ok (.string (bs Z2)) w:=fun w=>bs_add' hZ2 (by omega) w
   have aW1:∀w,(Op.stringOp .add ⟨#[40,40,108,97,109,98,100,97,32,40,120,41,32,40,101,113,117,97,108,63,32,120,32,39,40]⟩ (bs TA)).run prog w=.ok (.string (bs W1)) w:=fun w=>bs_add' hW1 (by omega) w
   have aW2:∀w,(Op.stringOp .add (bs W1) ⟨#[41,41,41,32,39,40]⟩).run prog w=.ok (.string (bs W2)) w:=fun w=>bs_add' hW2 (by omega) w
   have aW3:∀w,(Op.stringOp .add (bs W2) (bs TA)).run prog w=.ok (.string (bs W3)) w:=fun w=>bs_add' hW3 (by omega) w
   have aW4:∀w,(Op.stringOp .add (bs W3) ⟨#[41,41]⟩).run prog w=.ok (.string (bs W4)) w:=fun w=>bs_add' hW4 (by omega) w
   have HX5:Hid (Gv X5 V2):=by
    have h:=gv_of (gives_X A B HsA.out HsB.out (by rw[<-HAn.out];omega) (by rw[<-HBn.out];omega));have e1:X5=tX A B:=by rw[hX5,hX4,hX3,hX2,hX1,hTA,hTB];simp[tX]
    have e2:V2=40::(wrtN (A.reverse++B)++[41]):=by rw[hV2,hV1,hTF,HFx.out];simp
    rw[e1,e2];exact h
   have HY3:Hid (∀w:World,GT w->Rd.GV w->6<=w.heap.size->Calls prog 16 #[.string (bs Y3),.string ⟨(Lib.itoa (k:Int)).toArray⟩] w fun e w'=>e=.returned (.bool true)/\Below w.heap.size w w'):=by
    have h:=gv_of (gives_Y A HsA.out (by rw[<-HAn.out];omega));rw[<-HAn.out]at h;have e1:Y3=tY A:=by rw[hY3,hY2,hY1,hTA];simp[tY]
    rw[e1];exact h
   have HZ2:Hid (∀w:World,GT w->Rd.GV w->6<=w.heap.size->Calls prog 16 #[.string (bs Z2),.string ⟨(Lib.itoa (k:Int)).toArray⟩] w fun e w'=>e=.returned (.bool true)/\Below w.heap.size w w'):=by
    have h:=gv_Z A HsA.out (by rw[<-HAn.out];omega);rw[<-HAn.out]at h;have e1:Z2=tZ A:=by rw[hZ2,hZ1,hTA];simp[tZ]
    rw[e1];exact h
   have HW4:Hid (∀w:World,GT w->Rd.GV w->6<=w.heap.size->Calls prog 16 #[.string (bs W4),.string ⟨#[35,116]⟩] w fun e w'=>e=.returned (.bool true)/\Below w.heap.size w w'):=by
    have h:=gv_of (gives_W A HsA.out (by rw[<-HAn.out];omega));have e1:W4=tW A:=by rw[hW4,hW3,hW2,hW1,hTA];simp[tW]
    rw[e1];exact h
   have HwA:=hZ hTA;have HwB:=hZ hTB;have HwF:=hZ hTF;clear hTA hTB hTF lA lB lF lD hX1 eX1 hX2 eX2 hX3 eX3 hX4 eX4 hX5 eX5 hV1 eV1 hV2 eV2 hY1 eY1 hY2 eY2 hY3 eY3 hZ1 eZ1 hZ2 eZ2 hW1 eW1 hW2 eW2 hW3 eW3 hW4 eW4;by_cases hb0:bn=0
   case' pos=>
    obtain⟨rfl,rfl⟩:=HBe.out (List.eq_nil_of_length_eq_zero (by rw[<-HBn.out];exact hb0));have hF0:F=A.reverse:=by rw[hFx,List.eq_nil_of_length_eq_zero (show B.length=0 by rw[<-HBn.out];exact hb0),List.append_nil]
    have HFn:Hid (k=F.length):=by rw[hF0,List.length_reverse];exact HAn
    have HS:Hid (Stt w na A none B ka F wr):=⟨HB2.out.trans (HB.out.mono HB2.out.size),HGl.out _ (HB2.out.trans (HB.out.mono HB2.out.size)),HA2.out.below HB.out,HBB.out.below HB.out,by
     rw[hF0];have h:=HOwn.out;rw[<-hF0]at h;have hl:k=F.length:=HFn.out;rw[hl]at h;rw[<-hF0];exact ints_own h⟩
    have HBn0:Hid (0=B.length):=by rw[<-hb0];exact HBn
    rw[hb0];clear hb0 hF0 hFx HBn hBl;have HBn:=HBn0;clear HBn0;go_wp2;all_goals simp only[Sem.run_pure,Result.andThen_ok,Oper.upon]
   case' neg=>
    obtain⟨mb,mo,rfl,hmw,hmc⟩:=HBB.out 0 (by rw[<-HBn.out];omega);have hnw:∀j u,(nC B)[j]? =some u->wr.cell? ((⟨mb,mo,none⟩:Addr).add j)=some u:=fun j u hu=>by
     have hjl:j<B.length:=by have:=(List.getElem?_eq_some_iff.1 hu).1;simpa[nC]using this
     obtain⟨b2,o2,e1,e2,e3⟩:=HBB.out j hjl;cases e1;rw[show(⟨mb,mo,none⟩:Addr).add j=⟨mb,mo+j,none⟩ by unfold Addr.add;split <;> simp_all,HB.out.cell (p:=⟨mb,mo+j,none⟩) hmw,e3,<-hu];simp[nC,List.getElem?_eq_getElem hjl,List.getD_eq_getElem?_getD]
    have HNw:=hZ hnw;clear hnw hmw hmc;go_wp2_with (first|(at_builtin;refine wpList_append_lies _ rfl _ _ 22 rfl w2.heap.size 3 i0 (.int .i64 0) 1 8 underlying22 hi hz0' hz1' hz2' rfl (by decide) _ _ _ rfl HOwn.out ⟨mb,mo,none⟩ bn mc (nC B) rfl ?c1 HNw.out ?c2 ?c7 ?c3 ?c4 HB.out.size wr.heap.size rfl ?_))
    case c1=>simp[nC,HBn.out]
    case c2=>intro u hu;simp only[nC,List.mem_map]at hu;obtain⟨n,-,rfl⟩:=hu;rfl
    case c7=>omega
    case c3=>unfold maxLen;omega
    case c4=>omega
    intro g4 cap4 w4 hown4 hgrow4 hat4 hlt4;refine Hid.out ?_;have hb4:Below w2.heap.size w2 w4:=⟨hgrow4.os.trans HB.out.os,hgrow4.tape.trans HB.out.tape,hgrow4.output.trans HB.out.output,Nat.le_trans HB.out.size hgrow4.size,fun i hi=>by
     rw[hgrow4.block i (Nat.lt_of_lt_of_le hi HB.out.size) (fun e=>by have:=(HOwn.out.lt i e.symm).1;omega)];exact HB.out.block i hi⟩
    have HFn:Hid (k+bn=F.length):=HFl.out.symm;have HS:Hid (Stt w na A (some ⟨mb,mo,none⟩) B (some ⟨g4,0,none⟩) F w4):=⟨HB2.out.trans (hb4.mono HB2.out.size),HGl.out _ (HB2.out.trans (hb4.mono HB2.out.size)),HA2.out.below hb4,HBB.out.below hb4,by
     have h:=hown4;rw[show nC A.reverse++nC B=nC F by rw[hFx];simp[nC],HFn.out]at h;exact ints_own h⟩
    clear hown4 hgrow4 hat4 hlt4 hb4 hFx HB HOwn hb0;refine hZ ?_
   all_goals(
    go_wp2_with (first|(go_at_call 19;refine(written19 _ _ _ A _ HAn.out (by omega) HS.out.pos HS.out.2.1.1 HS.out.2.2.1 (wide HsA.out)).mono ?_;rintro e w6 ⟨rfl,hb6⟩;refine Hid.out ?_))
    rw[<-HwA.out];have HS:=hZ (HS.out.below hb6);clear hb6;refine hZ ?_;go_wp2_with (first|(go_at_call 19;refine(written19 _ _ _ B _ HBn.out (by omega) HS.out.pos HS.out.2.1.1 HS.out.2.2.2.1 (wide HsB.out)).mono ?_;rintro e w6 ⟨rfl,hb6⟩;refine Hid.out ?_))
    rw[<-HwB.out];have HS:=hZ (HS.out.below hb6);clear hb6;refine hZ ?_;go_wp2_with (first|(go_at_call 19;refine(written19 _ _ _ F _ HFn.out (by omega) HS.out.pos HS.out.2.1.1 HS.out.2.2.2.2 (wide HsF.out)).mono ?_;rintro e w6 ⟨rfl,hb6⟩;refine Hid.out ?_))
    rw[<-HwF.out];have HS:=hZ (HS.out.below hb6);clear hb6;refine hZ ?_;go_wp2_with (first|(go_at_call 16;refine(HX5.out _ HS.out.2.1.1 HS.out.2.1.2.1 HS.out.2.1.2.2).mono ?_;rintro e w6 ⟨rfl,hb6⟩;refine Hid.out ?_))
    have HS:=hZ (HS.out.below hb6);clear hb6;refine hZ ?_;go_wp2_with (first|(go_at_call 19;refine(written19 _ _ _ A _ HAn.out (by omega) HS.out.pos HS.out.2.1.1 HS.out.2.2.1 (wide HsA.out)).mono ?_;rintro e w6 ⟨rfl,hb6⟩;refine Hid.out ?_))
    rw[<-HwA.out];have HS:=hZ (HS.out.below hb6);clear hb6;refine hZ ?_;go_wp2_with (first|(go_at_call 12;refine(Tryz.strconv_Itoa (k:Int) (by omega) (by omega) _ HS.out.2.1.1).mono ?_;rintro e w7 ⟨rfl,nq,os2,hw7⟩;have HW7:=hZ (hw7▸Lib.below_grow _ _ (Nat.le_refl _) nq os2:Below w6.heap.size w6 w7);clear hw7;refine Hid.out ?_))
    have HS:=hZ (HS.out.below HW7.out);clear HW7;refine hZ ?_;go_wp2_with (first|(go_at_call 16;refine(HY3.out _ HS.out.2.1.1 HS.out.2.1.2.1 HS.out.2.1.2.2).mono ?_;rintro e w6 ⟨rfl,hb6⟩;refine Hid.out ?_))
    have HS:=hZ (HS.out.below hb6);clear hb6;refine hZ ?_;go_wp2_with (first|(go_at_call 19;refine(written19 _ _ _ A _ HAn.out (by omega) HS.out.pos HS.out.2.1.1 HS.out.2.2.1 (wide HsA.out)).mono ?_;rintro e w6 ⟨rfl,hb6⟩;refine Hid.out ?_))
    rw[<-HwA.out];have HS:=hZ (HS.out.below hb6);clear hb6;refine hZ ?_;go_wp2_with (first|(go_at_call 12;refine(Tryz.strconv_Itoa (k:Int) (by omega) (by omega) _ HS.out.2.1.1).mono ?_;rintro e w7 ⟨rfl,nq,os2,hw7⟩;have HW7:=hZ (hw7▸Lib.below_grow _ _ (Nat.le_refl _) nq os2:Below w6.heap.size w6 w7);clear hw7;refine Hid.out ?_))
    have HS:=hZ (HS.out.below HW7.out);clear HW7;refine hZ ?_;go_wp2_with (first|(go_at_call 16;refine(HZ2.out _ HS.out.2.1.1 HS.out.2.1.2.1 HS.out.2.1.2.2).mono ?_;rintro e w6 ⟨rfl,hb6⟩;refine Hid.out ?_))
    have HS:=hZ (HS.out.below hb6);clear hb6;refine hZ ?_;go_wp2_with (first|(go_at_call 19;refine(written19 _ _ _ A _ HAn.out (by omega) HS.out.pos HS.out.2.1.1 HS.out.2.2.1 (wide HsA.out)).mono ?_;rintro e w6 ⟨rfl,hb6⟩;refine Hid.out ?_))
    rw[<-HwA.out];have HS:=hZ (HS.out.below hb6);clear hb6;refine hZ ?_;go_wp2_with (first|(go_at_call 19;refine(written19 _ _ _ A _ HAn.out (by omega) HS.out.pos HS.out.2.1.1 HS.out.2.2.1 (wide HsA.out)).mono ?_;rintro e w6 ⟨rfl,hb6⟩;refine Hid.out ?_))
    rw[<-HwA.out];have HS:=hZ (HS.out.below hb6);clear hb6;refine hZ ?_;go_wp2_with (first|(go_at_call 16;refine(HW4.out _ HS.out.2.1.1 HS.out.2.1.2.1 HS.out.2.1.2.2).mono ?_;rintro e w6 ⟨rfl,hb6⟩;refine Hid.out ?_))
    have HS:=hZ (HS.out.below hb6);clear hb6;refine hZ ?_;go_wp2;go_ret;exact⟨rfl,HS.out.1⟩)
end
end Go.Proofs.YtldaocpojcfljaaGreatDoor
