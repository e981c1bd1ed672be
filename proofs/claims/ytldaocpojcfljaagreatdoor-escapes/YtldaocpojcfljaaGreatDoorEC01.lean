import Derived.Test.YtldaocpojcfljaaGreatDoorD22
set_option maxRecDepth 100000
set_option maxHeartbeats 4000000
namespace Go.Proofs.YtldaocpojcfljaaGreatDoor
open Tryz hiding parts
section
namespace Sc
open Go
def EvTo(S:Sub)(j:Nat)(x:Ex)(env:Option Nat)(m:Mc)(v:Vl)(m':Mc):Prop:=∀K,ToN S j (.ev x env K) m (.ret v K) m'
abbrev Mc.st(m:Mc)(k:Nat):Mc:={m with steps:=m.steps+k}
theorem step_ok'{S:Sub}{m:Mc}(h:(m.steps:Int)<S.fuel):step S m=(.ok (),m.st 1):=step_ok h
theorem ev_glo{S:Sub}{s:Bs}{env:Option Nat}{m:Mc}{v:Vl}(hl:lookup s m.glob=some v)(h:(m.steps:Int)<S.fuel):EvTo S 1 (.glo s) env m v (m.st 1):=by
 intro K;refine ToN.one ?_;simp only[next,step_ok' h,hl]
theorem ev_loc{S:Sub}{i n:Nat}{m:Mc}{l:List Vl}{u:Option Nat}{v:Vl}(he:m.envs[i]? =some (l,u))(hv:l[n]? =some v)(h:(m.steps:Int)<S.fuel):EvTo S 1 (.loc 0 n) (some i) m v (m.st 1):=by
 intro K;refine ToN.one ?_;have:local' (m.st 1) (some i) 0 n=v:=by simp[local',outward,he,hv]
 simp only[next,step_ok' h,this]
theorem ev_num{S:Sub}{n:Int}{env:Option Nat}{m:Mc}(h:(m.steps:Int)<S.fuel):EvTo S 1 (.quo (.num n)) env m (.num n) (m.st 1):=by
 intro K;refine ToN.one ?_;simp only[next,step_ok' h,members,cellsN,ofDt]
theorem ev_app1{S:Sub}{j:Nat}{s:Bs}{x:Ex}{env:Option Nat}{m m':Mc}{f v:Vl}(hl:lookup s m.glob=some f)(hf:isProc f=true)(hx:EvTo S j x env (m.st 2) v m')
  (h0:((m.steps+1:Nat):Int)<S.fuel)(h1:(m'.steps:Int)<S.fuel)(K:List Fr):ToN S (j+4) (.ev (.app (.glo s) [x]) env K) m (.ap f [v] K) (m'.st 1):=by
 have a1:next S (.ev (.app (.glo s) [x]) env K) m=(.ev (.glo s) env (.app [] [x] env::K),m.st 1):=by
  simp only[next,step_ok' (show(m.steps:Int)<S.fuel from by omega)]
 have a2:=ev_glo (S:=S) (s:=s) (env:=env) (m:=m.st 1) (v:=f) hl h0 (.app [] [x] env::K);have a3:next S (.ret f (.app [] [x] env::K)) ((m.st 1).st 1)=(.ev x env (.app [f] [] env::K),m.st 2):=rfl;have a4:next S (.ret v (.app [f] [] env::K)) m'=(.ap f [v] K,m'.st 1):=by
  simp only[next,List.cons_append,List.nil_append,applyTo,step_ok' h1,hf,if_true]
 have:=(ToN.head a1 (a2.trans (ToN.head a3 (hx _)))).trans (ToN.one a4)
 rwa [show 1+(j+1)+1+1=j+4 from by omega]at this
theorem ev_app2{S:Sub}{j i:Nat}{s:Bs}{x y:Ex}{env:Option Nat}{m m' m'':Mc}{f v u:Vl}(hl:lookup s m.glob=some f)(hf:isProc f=true)(hx:EvTo S j x env (m.st 2) v m')(hy:EvTo S i y env m' u m'')
  (h0:((m.steps+1:Nat):Int)<S.fuel)(h1:(m''.steps:Int)<S.fuel)(K:List Fr):ToN S (j+i+5) (.ev (.app (.glo s) [x,y]) env K) m (.ap f [v,u] K) (m''.st 1):=by
 have a1:next S (.ev (.app (.glo s) [x,y]) env K) m=(.ev (.glo s) env (.app [] [x,y] env::K),m.st 1):=by
  simp only[next,step_ok' (show(m.steps:Int)<S.fuel from by omega)]
 have a2:=ev_glo (S:=S) (s:=s) (env:=env) (m:=m.st 1) (v:=f) hl h0 (.app [] [x,y] env::K);have a3:next S (.ret f (.app [] [x,y] env::K)) ((m.st 1).st 1)=(.ev x env (.app [f] [y] env::K),m.st 2):=rfl;have a4:next S (.ret v (.app [f] [y] env::K)) m'=(.ev y env (.app [f,v] [] env::K),m'):=rfl;have a5:next S (.ret u (.app [f,v] [] env::K)) m''=(.ap f [v,u] K,m''.st 1):=by
  simp only[next,List.cons_append,List.nil_append,applyTo,step_ok' h1,hf,if_true]
 have:=(ToN.head a1 (a2.trans (ToN.head a3 (hx _)))).trans ((ToN.head a4 (hy _)).trans (ToN.one a5))
 rwa [show 1+(j+1)+1+(i+1+1)=j+i+5 from by omega]at this
theorem ev_ite{S:Sub}{j:Nat}{c a:Ex}{e:Ex}{env:Option Nat}{m m':Mc}{b:Bool}(hc:EvTo S j c env (m.st 1) (.bool b) m')(h0:(m.steps:Int)<S.fuel)(K:List Fr):
  ToN S (j+2) (.ev (.ite c a (some e)) env K) m (.ev (if b then a else e) env K) m':=by
 have a1:next S (.ev (.ite c a (some e)) env K) m=(.ev c env (.ite a (some e) env::K),m.st 1):=by
  simp only[next,step_ok' h0]
 have a2:next S (.ret (.bool b) (.ite a (some e) env::K)) m'=(.ev (if b then a else e) env K,m'):=by cases b <;> rfl
 have:=(ToN.head a1 (hc _)).trans (ToN.one a2)
 rwa [show j+1+1=j+2 from by omega]at this
def IsL:List Int->Vl->Prop
 | [],v=>v=.nil
 |n::r,v=>∃id w,v=.pair id (.num n) w/\IsL r w
theorem ofDts_nums:∀(l:List Int) (m:Mc),ofDts m (l.map .num)=(l.map .num,m)
 | [],m=>rfl
 |n::r,m=>by simp only[List.map_cons,ofDts,ofDt,ofDts_nums r]
theorem mkList_nums:∀(l:List Int) (m:Mc) (rest:Vl) (ls:List Int),IsL ls rest->∃v,mkList m (l.map .num) rest=(v,{m with ids:=m.ids+l.length})/\IsL (l++ls) v
 | [],m,rest,ls,h=>⟨rest,rfl,h⟩
 |n::r,m,rest,ls,h=>by
  obtain⟨w,h1,h2⟩:=mkList_nums r m rest ls h;refine⟨.pair (m.ids+r.length) (.num n) w,?_,_,w,rfl,h2⟩;unfold mkList at h1|-;rw[List.map_cons,List.foldr_cons,h1];rfl
theorem membersL_nums:∀l:List Int,membersL (l.map .num)=l.length
 | []=>rfl
 |n::r=>by simp only[List.map_cons,membersL,members,membersL_nums r,List.length_cons];omega
theorem cellsN_ok(S:Sub):∀(n:Nat) (m:Mc),((m.cells+n:Nat):Int)<=S.quota->cellsN S n m=(.ok (),{m with cells:=m.cells+n})
 |0,m,_=>rfl
 |n+1,m,h=>by
  have hc:cell S m=(.ok (),{m with cells:=m.cells+1}):=by unfold cell;rw[if_pos (by omega)]
  rw[cellsN,hc];simp only;rw[cellsN_ok S n _ (by show((m.cells+1+n:Nat):Int)<=S.quota;omega)];simp only[Nat.add_assoc,Nat.add_comm 1 n]
structure Same (m m':Mc) (k c:Nat):Prop where
 glob:m'.glob=m.glob
 out:m'.out=m.out
 evs:m'.evs=m.evs
 wnd:m'.wnd=m.wnd
 steps:m'.steps<=m.steps+k
 cells:m'.cells<=m.cells+c
theorem Same.trans{a b c:Mc}{k l x y:Nat}(h:Same a b k x)(g:Same b c l y):Same a c (k+l) (x+y):=
 ⟨g.glob.trans h.glob,g.out.trans h.out,g.evs.trans h.evs,g.wnd.trans h.wnd,by have:=h.steps;have:=g.steps;omega,by have:=h.cells;have:=g.cells;omega⟩
theorem Same.refl(m:Mc):Same m m 0 0:=⟨rfl,rfl,rfl,rfl,Nat.le_refl _,Nat.le_refl _⟩
theorem ev_list{S:Sub}(l:List Int){env:Option Nat}{m:Mc}(h:(m.steps:Int)<S.fuel)(hc:((m.cells+l.length:Nat):Int)<=S.quota):∃v m',EvTo S 1 (.quo (.list (l.map .num))) env m v m'/\IsL l v/\Same m m' 1 l.length/\m'.envs=m.envs:=by
 obtain⟨v,h1,h2⟩:=mkList_nums l {m with steps:=m.steps+1,cells:=m.cells+l.length} .nil [] rfl;refine⟨v,{m with steps:=m.steps+1,cells:=m.cells+l.length,ids:=m.ids+l.length},fun K=>ToN.one ?_,by simpa using h2,⟨rfl,rfl,rfl,rfl,Nat.le_refl _,Nat.le_refl _⟩,rfl⟩;have e:=cellsN_ok S l.length (m.st 1) (by show((m.cells+l.length:Nat):Int)<=S.quota;exact hc);simp only[next,step_ok' h,members,membersL_nums,e,ofDt,ofDts_nums,h1]
end Sc
end
section
namespace Sc
open Go
theorem itoa_len(v:Int)(h0:-9223372036854775808<=v)(h1:v<=9223372036854775807):(Lib.itoa v).length<=21:=Lib.itoa_length_le v h0 h1
end Sc
end
section
namespace Sc
open Go
theorem carry_cdr(S:Sub)(id:Nat)(a b:Vl)(K:List Fr)(m:Mc):carry S (.prim .cdr) [.pair id a b] K m=(.ret b K,m):=rfl
theorem carry_car(S:Sub)(id:Nat)(a b:Vl)(K:List Fr)(m:Mc):carry S (.prim .car) [.pair id a b] K m=(.ret a K,m):=rfl
theorem carry_null0(S:Sub)(K:List Fr)(m:Mc):carry S (.prim .nullQ) [.nil] K m=(.ret (.bool true) K,m):=rfl
theorem carry_null1(S:Sub)(id:Nat)(a b:Vl)(K:List Fr)(m:Mc):carry S (.prim .nullQ) [.pair id a b] K m=(.ret (.bool false) K,m):=rfl
theorem carry_lam(S:Sub)(id n:Nat)(x:Ex)(env:Option Nat)(l:List Vl)(K:List Fr)(m:Mc)(hn:l.length=n)(h:((m.cells+n:Nat):Int)<=S.quota):carry S (.lam id n false [x] env) l K m=(.ev x (some m.envs.length) K,{m with cells:=m.cells+n,envs:=m.envs++[(l,env)]}):=by
 simp only[carry,hn,ne_eq,not_true_eq_false,if_false,cellsN_ok S n m h,bodyOf];rfl
end Sc
end
section
namespace Sc
open Go
def nums'(l:List Int):Dt:=.list (l.map .num)
theorem deal_last(S:Sub)(d:Dt)(p j:Nat)(ov:Option Vl)(e:Ex)(m m':Mc)(v:Vl)(ht:top S plentyN {} d=(.ok e,{}))(hg:ToN S j (.ev e Option.none []) m (.ret v []) m')(hj:j+1<=plentyN):deal S [(d,p)] ov {} m=((Option.none,0),some v,{},m'):=by
 have h:=(hg.trans (ToN.one (show next S (.ret v []) m'=(.done v,m')from rfl))).done hj;simp only[deal,ht,h]
end Sc
end
section
namespace Sc
open Go
def eachD:Dt:=.list [.sym [100,101,102,105,110,101] 0,.list [.sym [101,97,99,104] 0,.sym [102] 0,.sym [108] 0],.list [.sym [105,102] 0,.list [.sym [110,117,108,108,63] 0,.sym [108] 0],.bool false,.list [.sym [98,101,103,105,110] 0,.list [.sym [102] 0,.list [.sym [99,97,114] 0,.sym [108] 0]],.list [.sym [101,97,99,104] 0,.sym [102] 0,.list [.sym [99,100,114] 0,.sym [108] 0]]]]]
def escX(A:Dt)(B:Int):Dt:=.list [.sym [99,97,108,108,47,99,99] 0,.list [.sym [108,97,109,98,100,97] 0,.list [.sym [111,117,116] 0],.list [.sym [101,97,99,104] 0,.list [.sym [108,97,109,98,100,97] 0,.list [.sym [120] 0],.list [.sym [105,102] 0,.list [.sym [60] 0,.sym [120] 0,.num B],.list [.sym [111,117,116] 0,.sym [120] 0]]],.list [.sym [113,117,111,116,101] 0,A]]]]
def escY0:Dt:=.list [.sym [100,101,102,105,110,101] 0,.sym [107] 0,.bool false]
def escY1:Dt:=.list [.sym [100,101,102,105,110,101] 0,.sym [110] 0,.num (0)]
def escY2:Dt:=.list [.sym [100,101,102,105,110,101] 0,.sym [114] 0,.list [.sym [43] 0,.num (100),.list [.sym [99,97,108,108,47,99,99] 0,.list [.sym [108,97,109,98,100,97] 0,.list [.sym [99] 0],.list [.sym [98,101,103,105,110] 0,.list [.sym [115,101,116,33] 0,.sym [107] 0,.sym [99] 0],.num (0)]]]]]
def escY3:Dt:=.list [.sym [115,101,116,33] 0,.sym [110] 0,.list [.sym [43] 0,.sym [110] 0,.num (1)]]
def escY4(K:Int):Dt:=.list [.sym [105,102] 0,.list [.sym [60] 0,.sym [110] 0,.num K],.list [.sym [107] 0,.sym [110] 0],.num (0)]
def escY5:Dt:=.list [.sym [108,105,115,116] 0,.sym [110] 0,.sym [114] 0]
def eachT:Bs:=[101,97,99,104]
def eachRest:Ex:=.app (.glo eachT) [.loc 0 0,.app (.glo [99,100,114]) [.loc 0 1]]
def eachDo:Ex:=.app (.loc 0 0) [.app (.glo [99,97,114]) [.loc 0 1]]
def eachB:Ex:=.ite (.app (.glo [110,117,108,108,63]) [.loc 0 1]) (.quo (.bool false)) (some (.seq eachDo [eachRest]))
def eachV:Vl:=.lam 0 2 false [eachB] Option.none
def askB(B:Int):Ex:=.ite (.app (.glo [60]) [.loc 0 0,.quo (.num B)]) (.app (.loc 1 0) [.loc 0 0]) Option.none
def exE(A:Dt)(B:Int):Ex:=.app (.glo [99,97,108,108,47,99,99]) [.lam 1 false [.app (.glo eachT) [.lam 1 false [askB B],.quo A]]]
def m2:Mc:={m0 with steps:=2,cells:=1,ids:=1,glob:=m0.glob++[(eachT,eachV)]}
theorem deal_each(t:Bs)(p:Nat)(r:List (Dt×Nat)):deal (plenty t) ((eachD,p)::r) Option.none {} m0=deal (plenty t) r (some .none) {} m2:=by kernel_rfl
theorem top_E(t:Bs)(A:Dt)(B:Int):top (plenty t) plentyN {} (escX A B)=(.ok (exE A B),{}):=by kernel_rfl
theorem g_each:lookup eachT m2.glob=some eachV:=by kernel_rfl
theorem g_cdr:lookup [99,100,114] m2.glob=some (.prim .cdr):=by kernel_rfl
theorem g_car:lookup [99,97,114] m2.glob=some (.prim .car):=by kernel_rfl
theorem g_null:lookup [110,117,108,108,63] m2.glob=some (.prim .nullQ):=by kernel_rfl
theorem g_lss:lookup [60] m2.glob=some (.prim .lss):=by kernel_rfl
theorem g_cc:lookup [99,97,108,108,47,99,99] m2.glob=some (.prim .callcc):=by kernel_rfl
theorem escY_2(t:Bs)(p0 p1 p2 p3 p4 p5:Nat):EndsW (deal (plenty t) [(escY0,p0),(escY1,p1),(escY2,p2),(escY3,p3),(escY4 2,p4),(escY5,p5)] Option.none {} m0) [40,49,32,49,48,49,41]:=⟨by kernel_rfl,by kernel_rfl,by kernel_rfl,by kernel_rfl⟩
theorem escY_3(t:Bs)(p0 p1 p2 p3 p4 p5:Nat):EndsW (deal (plenty t) [(escY0,p0),(escY1,p1),(escY2,p2),(escY3,p3),(escY4 3,p4),(escY5,p5)] Option.none {} m0) [40,49,32,49,48,49,41]:=⟨by kernel_rfl,by kernel_rfl,by kernel_rfl,by kernel_rfl⟩
theorem escY_4(t:Bs)(p0 p1 p2 p3 p4 p5:Nat):EndsW (deal (plenty t) [(escY0,p0),(escY1,p1),(escY2,p2),(escY3,p3),(escY4 4,p4),(escY5,p5)] Option.none {} m0) [40,49,32,49,48,49,41]:=⟨by kernel_rfl,by kernel_rfl,by kernel_rfl,by kernel_rfl⟩
theorem escY_5(t:Bs)(p0 p1 p2 p3 p4 p5:Nat):EndsW (deal (plenty t) [(escY0,p0),(escY1,p1),(escY2,p2),(escY3,p3),(escY4 5,p4),(escY5,p5)] Option.none {} m0) [40,49,32,49,48,49,41]:=⟨by kernel_rfl,by kernel_rfl,by kernel_rfl,by kernel_rfl⟩
theorem escY_6(t:Bs)(p0 p1 p2 p3 p4 p5:Nat):EndsW (deal (plenty t) [(escY0,p0),(escY1,p1),(escY2,p2),(escY3,p3),(escY4 6,p4),(escY5,p5)] Option.none {} m0) [40,49,32,49,48,49,41]:=⟨by kernel_rfl,by kernel_rfl,by kernel_rfl,by kernel_rfl⟩
theorem ev_prim_n{S:Sub}{s:Bs}{p:Pm}{i n:Nat}{m:Mc}{l:List Vl}{u:Option Nat}{v r:Vl}(hl:lookup s m.glob=some (.prim p))(he:m.envs[i]? =some (l,u))(hv:l[n]? =some v)(h:((m.steps+3:Nat):Int)<S.fuel)
  (hp:∀K m,carry S (.prim p) [v] K m=(.ret r K,m)):EvTo S 6 (.app (.glo s) [.loc 0 n]) (some i) m r (m.st 4):=by
 intro K;have h1:=ev_app1 (S:=S) (j:=1) (s:=s) (x:=.loc 0 n) (env:=some i) (m:=m) (m':=m.st 3) (f:=.prim p) (v:=v) hl rfl (ev_loc (m:=m.st 2) he hv (by show((m.steps+2:Nat):Int)<S.fuel;omega)) (by omega) (by show((m.steps+3:Nat):Int)<S.fuel;exact h) K;exact h1.trans (ToN.one (by show carry S (.prim p) [v] K _=_;rw[hp]))
theorem ev_false{S:Sub}{env:Option Nat}{m:Mc}(h:(m.steps:Int)<S.fuel):EvTo S 1 (.quo (.bool false)) env m (.bool false) (m.st 1):=by
 intro K;refine ToN.one ?_;simp only[next,step_ok' h,members,cellsN,ofDt]
theorem ev_appL{S:Sub}{j:Nat}{fx x:Ex}{env:Option Nat}{m m':Mc}{f v:Vl}(hl:EvTo S 1 fx env (m.st 1) f (m.st 2))(hf:isProc f=true)(hx:EvTo S j x env (m.st 2) v m')
  (h0:(m.steps:Int)<S.fuel)(h1:(m'.steps:Int)<S.fuel)(K:List Fr):ToN S (j+4) (.ev (.app fx [x]) env K) m (.ap f [v] K) (m'.st 1):=by
 have a1:next S (.ev (.app fx [x]) env K) m=(.ev fx env (.app [] [x] env::K),m.st 1):=by
  simp only[next,step_ok' h0]
 have a3:next S (.ret f (.app [] [x] env::K)) (m.st 2)=(.ev x env (.app [f] [] env::K),m.st 2):=rfl;have a4:next S (.ret v (.app [f] [] env::K)) m'=(.ap f [v] K,m'.st 1):=by
  simp only[next,List.cons_append,List.nil_append,applyTo,step_ok' h1,hf,if_true]
 have:=(ToN.head a1 ((hl _).trans (ToN.head a3 (hx _)))).trans (ToN.one a4)
 rwa [show 1+(j+1)+1+1=j+4 from by omega]at this
theorem carry_lss(S:Sub)(a b:Int)(K:List Fr)(m:Mc):carry S (.prim .lss) [.num a,.num b] K m=(.ret (.bool (decide (a<b))) K,m):=rfl
theorem ev_loc1{S:Sub}{i i0 n:Nat}{m:Mc}{l l0:List Vl}{u0:Option Nat}{v:Vl}(he:m.envs[i]? =some (l,some i0))(he0:m.envs[i0]? =some (l0,u0))(hv:l0[n]? =some v)(h:(m.steps:Int)<S.fuel):EvTo S 1 (.loc 1 n) (some i) m v (m.st 1):=by
 intro K;refine ToN.one ?_;have:local' (m.st 1) (some i) 1 n=v:=by simp[local',outward,he,he0,hv]
 simp only[next,step_ok' h,this]
theorem ev_iteN{S:Sub}{j:Nat}{c a:Ex}{env:Option Nat}{m m':Mc}{b:Bool}(hc:EvTo S j c env (m.st 1) (.bool b) m')(h0:(m.steps:Int)<S.fuel)(K:List Fr):
  ToN S (j+2) (.ev (.ite c a Option.none) env K) m (if b then .ev a env K else .ret .none K) m':=by
 have a1:next S (.ev (.ite c a Option.none) env K) m=(.ev c env (.ite a Option.none env::K),m.st 1):=by
  simp only[next,step_ok' h0]
 have a2:next S (.ret (.bool b) (.ite a Option.none env::K)) m'=(if b then .ev a env K else .ret .none K,m'):=by cases b <;> rfl
 have:=(ToN.head a1 (hc _)).trans (ToN.one a2)
 rwa [show j+1+1=j+2 from by omega]at this
theorem get_app{α:Type}(l:List α)(x y:α)(i:Nat)(h:l[i]? =some y):(l++[x])[i]? =some y:=by
 rw[List.getElem?_append_left (List.getElem?_eq_some_iff.1 h).1];exact h
theorem rewind_nil(S:Sub)(v:Vl)(k:List Fr)(m:Mc)(h:m.wnd=[]):rewind S [] v k m=(.ret v k,m):=by
 simp[rewind,h,rewind.enter]
def eachTo(ns:List Int)(B:Int)(K:List Fr):Ct:=match ns.find? (fun n=>decide (n<B))with
 |some n=>.ret (.num n) []
 |Option.none=>.ret (.bool false) K
theorem each_runs(t:Bs)(B:Int)(fid cid i0:Nat)(ns:List Int):∀(v:Vl) (m:Mc) (K:List Fr),IsL ns v->m.glob=m2.glob->m.wnd=[]->m.envs[i0]? =some ([.cont cid [] []],Option.none)->m.steps+40*ns.length+40<=20000->m.cells+3*ns.length+3<=5000->
  ∃j m',j<=80*ns.length+80/\ToN (plenty t) j (.ap eachV [.lam fid 1 false [askB B] (some i0),v] K) m (eachTo ns B K) m'/\m'.out=m.out/\m'.evs=m.evs:=by
 induction ns with
 |nil=>
  intro v m K hv hg hwd he0 hs hc;obtain rfl:v=.nil:=hv;simp only[List.length_nil,Nat.mul_zero,Nat.add_zero]at hs hc;obtain⟨ma,hma⟩:∃ma:Mc,ma={m with cells:=m.cells+2,envs:=m.envs++[([.lam fid 1 false [askB B] (some i0),.nil],Option.none)]}:=⟨_,rfl⟩;have he:∀k,(ma.st k).envs[m.envs.length]? =some ([.lam fid 1 false [askB B] (some i0),.nil],Option.none):=fun k=>by rw[hma];simp
  have hst:ma.steps=m.steps:=by rw[hma]
  have hgl:ma.glob=m2.glob:=by rw[hma];exact hg
  have b1:=ev_prim_n (S:=plenty t) (n:=1) (m:=ma.st 1) (by show lookup _ ma.glob=_;rw[hgl];exact g_null) (he 1) rfl (by show((ma.steps+1+3:Nat):Int)<20000;omega) (carry_null0 _);have b2:=ev_ite (S:=plenty t) (a:=.quo (.bool false)) (e:=.seq eachDo [eachRest]) (m:=ma) b1 (by show(ma.steps:Int)<20000;omega) K;have b3:=ev_false (S:=plenty t) (env:=some m.envs.length) (m:=(ma.st 1).st 4) (by show((ma.steps+1+4:Nat):Int)<20000;omega);refine⟨_,((ma.st 1).st 4).st 1,?_,ToN.head (show next (plenty t) (.ap eachV [.lam fid 1 false [askB B] (some i0),.nil] K) m=(.ev eachB (some m.envs.length) K,ma)from by rw[hma];exact carry_lam (plenty t) 0 2 eachB Option.none [_,_] K m rfl (by show((m.cells+2:Nat):Int)<=5000;omega)) (b2.trans (b3 K)),by rw[hma],by rw[hma]⟩;simp
 |cons n ns ih=>
  intro v m K hv hg hwd he0 hs hc;obtain⟨id,w,rfl,hw⟩:=hv;simp only[List.length_cons]at hs hc;obtain⟨fV,hfV⟩:∃fV:Vl,fV=.lam fid 1 false [askB B] (some i0):=⟨_,rfl⟩;rw[<-hfV];obtain⟨ma,hma⟩:∃ma:Mc,ma={m with cells:=m.cells+2,envs:=m.envs++[([fV,.pair id (.num n) w],Option.none)]}:=⟨_,rfl⟩;have he:∀k,(ma.st k).envs[m.envs.length]? =some ([fV,.pair id (.num n) w],Option.none):=fun k=>by rw[hma];simp
  have hst:ma.steps=m.steps:=by rw[hma]
  have hce:ma.cells=m.cells+2:=by rw[hma]
  have hgl:ma.glob=m2.glob:=by rw[hma];exact hg
  have b1:=ev_prim_n (S:=plenty t) (n:=1) (m:=ma.st 1) (by show lookup _ ma.glob=_;rw[hgl];exact g_null) (he 1) rfl (by show((ma.steps+1+3:Nat):Int)<20000;omega) (carry_null1 _ id (.num n) w);have b2:=ev_ite (S:=plenty t) (a:=.quo (.bool false)) (e:=.seq eachDo [eachRest]) (m:=ma) b1 (by show(ma.steps:Int)<20000;omega) K;have b3:next (plenty t) (.ev (.seq eachDo [eachRest]) (some m.envs.length) K) ((ma.st 1).st 4)=(.ev eachDo (some m.envs.length) (.body [eachRest] (some m.envs.length)::K),ma.st 6):=by
   simp only[next,step_ok' (m:=(ma.st 1).st 4) (show((((ma.st 1).st 4).steps:Nat):Int)<(plenty t).fuel from by show((ma.steps+1+4:Nat):Int)<20000;omega),bodyOf]
  have c1:=ev_loc (S:=plenty t) (n:=0) (m:=(ma.st 6).st 1) (by exact he 7) rfl (by show((ma.steps+6+1:Nat):Int)<20000;omega);have c2:=ev_prim_n (S:=plenty t) (n:=1) (m:=(ma.st 6).st 2) (by show lookup _ ma.glob=_;rw[hgl];exact g_car) (by exact he 8) rfl (by show((ma.steps+6+2+3:Nat):Int)<20000;omega) (carry_car _ id (.num n) w);have c3:=ev_appL (S:=plenty t) (m:=ma.st 6) c1 (by rw[hfV];rfl) c2 (by show((ma.steps+6:Nat):Int)<20000;omega) (by show((ma.steps+6+2+4:Nat):Int)<20000;omega) (.body [eachRest] (some m.envs.length)::K);obtain⟨mb,hmb⟩:∃mb:Mc,mb={ma with steps:=m.steps+13,cells:=m.cells+3,envs:=ma.envs++[([.num n],some i0)]}:=⟨_,rfl⟩;have c4:next (plenty t) (.ap fV [.num n] (.body [eachRest] (some m.envs.length)::K)) ((((ma.st 6).st 2).st 4).st 1)=(.ev (askB B) (some ma.envs.length) (.body [eachRest] (some m.envs.length)::K),mb):=by
   have:=carry_lam (plenty t) fid 1 (askB B) (some i0) [.num n] (.body [eachRest] (some m.envs.length)::K) ((((ma.st 6).st 2).st 4).st 1) rfl (by show((ma.cells+1:Nat):Int)<=5000;omega);rw[hfV];show carry (plenty t) (.lam fid 1 false [askB B] (some i0)) [.num n] (.body [eachRest] (some m.envs.length)::K) ((((ma.st 6).st 2).st 4).st 1)=_;rw[this,hmb];have e1:ma.steps+6+2+4+1=m.steps+13:=by omega
   have e2:ma.cells+1=m.cells+3:=by omega
   simp only[e1,e2]
  have hbe:∀k,(mb.st k).envs[ma.envs.length]? =some ([.num n],some i0):=fun k=>by rw[hmb];simp
  have hal:ma.envs.length=m.envs.length+1:=by rw[hma];simp
  have hb0:∀k,(mb.st k).envs[i0]? =some ([.cont cid [] []],Option.none):=fun k=>by
   rw[hmb];show(ma.envs++_)[i0]? =_;refine get_app _ _ _ _ ?_;rw[hma];exact get_app _ _ _ _ he0
  have hbm:∀k,(mb.st k).envs[m.envs.length]? =some ([fV,.pair id (.num n) w],Option.none):=fun k=>by
   rw[hmb];show(ma.envs++_)[m.envs.length]? =_;exact get_app _ _ _ _ (he 0)
  have hbs:mb.steps=m.steps+13:=by rw[hmb]
  have hbc:mb.cells=m.cells+3:=by rw[hmb]
  have hbg:mb.glob=m2.glob:=by rw[hmb];exact hgl
  have hbw:mb.wnd=[]:=by rw[hmb];show ma.wnd=[];rw[hma];exact hwd
  have hbo:mb.out=m.out/\mb.evs=m.evs:=by rw[hmb];show ma.out=_/\ma.evs=_;rw[hma];exact⟨rfl,rfl⟩
  have d1:=ev_loc (S:=plenty t) (n:=0) (m:=(mb.st 1).st 2) (by exact hbe 3) rfl (by show((mb.steps+1+2:Nat):Int)<20000;omega);have d2:=ev_num (S:=plenty t) (n:=B) (env:=some ma.envs.length) (m:=((mb.st 1).st 2).st 1) (by show((mb.steps+1+2+1:Nat):Int)<20000;omega);have d3:EvTo (plenty t) 8 (.app (.glo [60]) [.loc 0 0,.quo (.num B)]) (some ma.envs.length) (mb.st 1) (.bool (decide (n<B))) (mb.st 6):=fun K'=>by
   have:=ev_app2 (S:=plenty t) (f:=.prim .lss) (m:=mb.st 1) (by show lookup _ mb.glob=_;rw[hbg];exact g_lss) rfl d1 d2 (by show((mb.steps+1+1:Nat):Int)<20000;omega) (by show((mb.steps+1+2+1+1:Nat):Int)<20000;omega) K';exact this.trans (ToN.one (by show carry (plenty t) (.prim .lss) [.num n,.num B] K' _=_;rw[carry_lss]))
  have d4:=ev_iteN (S:=plenty t) (a:=.app (.loc 1 0) [.loc 0 0]) (m:=mb) d3 (by show(mb.steps:Int)<20000;omega) (.body [eachRest] (some m.envs.length)::K);have a0:next (plenty t) (.ap eachV [fV,.pair id (.num n) w] K) m=(.ev eachB (some m.envs.length) K,ma):=by rw[hma];exact carry_lam (plenty t) 0 2 eachB Option.none [_,_] K m rfl (by show((m.cells+2:Nat):Int)<=5000;omega)
  have pre:=(ToN.head a0 (b2.trans (ToN.head b3 c3))).trans (ToN.head c4 d4);by_cases hlt:n<B
  ·simp only[hlt,decide_true,if_true]at pre;have f1:=ev_loc1 (S:=plenty t) (n:=0) (m:=(mb.st 6).st 1) (by exact hbe 7) (by exact hb0 7) rfl (by show((mb.steps+6+1:Nat):Int)<20000;omega);have f2:=ev_loc (S:=plenty t) (n:=0) (m:=(mb.st 6).st 2) (by exact hbe 8) rfl (by show((mb.steps+6+2:Nat):Int)<20000;omega);have f3:=ev_appL (S:=plenty t) (m:=mb.st 6) f1 rfl f2 (by show((mb.steps+6:Nat):Int)<20000;omega) (by show((mb.steps+6+2+1:Nat):Int)<20000;omega) (.body [eachRest] (some m.envs.length)::K);have f4:next (plenty t) (.ap (.cont cid [] []) [.num n] (.body [eachRest] (some m.envs.length)::K)) ((((mb.st 6).st 2).st 1).st 1)=(.ret (.num n) [],(((mb.st 6).st 2).st 1).st 1):=by
    show rewind (plenty t) [] (.num n) [] ((((mb.st 6).st 2).st 1).st 1)=_;exact rewind_nil _ _ _ _ hbw
   have hto:eachTo (n::ns) B K=.ret (.num n) []:=by simp[eachTo,hlt]
   rw[hto];exact⟨_,_,by simp only[List.length_cons];omega,pre.trans (f3.trans (ToN.one f4)),hbo.1,hbo.2⟩
  ·simp only[hlt,decide_false,Bool.false_eq_true,if_false]at pre;have f0:next (plenty t) (.ret .none (.body [eachRest] (some m.envs.length)::K)) (mb.st 6)=(.ev eachRest (some m.envs.length) K,mb.st 6):=rfl;have f1:=ev_loc (S:=plenty t) (n:=0) (m:=(mb.st 6).st 2) (by exact hbm 8) rfl (by show((mb.steps+6+2:Nat):Int)<20000;omega);have f2:=ev_prim_n (S:=plenty t) (n:=1) (m:=((mb.st 6).st 2).st 1) (by show lookup _ mb.glob=_;rw[hbg];exact g_cdr) (by exact hbm 9) rfl (by show((mb.steps+6+2+1+3:Nat):Int)<20000;omega) (carry_cdr _ id (.num n) w);have f3:=ev_app2 (S:=plenty t) (s:=eachT) (f:=eachV) (m:=mb.st 6) (by show lookup _ mb.glob=_;rw[hbg];exact g_each) rfl f1 f2 (by show((mb.steps+6+1:Nat):Int)<20000;omega) (by show((mb.steps+6+2+1+4:Nat):Int)<20000;omega) K;obtain⟨mc,hmc⟩:∃mc:Mc,mc=(((mb.st 6).st 2).st 1|>.st 4).st 1:=⟨_,rfl⟩;rw[<-hmc]at f3;have hcs:mc.steps=m.steps+27:=by rw[hmc];show mb.steps+6+2+1+4+1=_;omega
   have hcc:mc.cells=m.cells+3:=by rw[hmc];exact hbc
   obtain⟨j,m',hj,hA,ho,hv'⟩:=ih w mc K hw (by rw[hmc];exact hbg) (by rw[hmc];exact hbw) (by rw[hmc];exact hb0 14) (by omega) (by omega);have hto:eachTo (n::ns) B K=eachTo ns B K:=by simp[eachTo,hlt]
   rw[hto];rw[<-hfV]at hA;refine⟨_,m',by simp only[List.length_cons];omega,pre.trans (ToN.head f0 (f3.trans hA)),?_,?_⟩
   ·rw[ho,hmc];exact hbo.1
   ·rw[hv',hmc];exact hbo.2
def escWant(ns:List Int)(B:Int):Bs:=match ns.find? (fun n=>decide (n<B))with
 |some n=>Lib.itoa n
 |Option.none=>[35,102]
theorem escX_ends(t:Bs)(p q:Nat)(aZ:List Int)(B:Int)(ha:aZ.length<=40):EndsW (deal (plenty t) [(eachD,p),(escX (nums' aZ) B,q)] Option.none {} m0) (escWant aZ B):=by
 rw[deal_each];obtain⟨lm,hlm⟩:∃lm:Vl,lm=.lam 1 1 false [.app (.glo eachT) [.lam 1 false [askB B],.quo (nums' aZ)]] Option.none:=⟨_,rfl⟩;have fl:∀k:Nat,k<=100->((2+k:Nat):Int)<(plenty t).fuel:=fun k hk=>by show((2+k:Nat):Int)<20000;omega
 have a0:next (plenty t) (.ev (exE (nums' aZ) B) Option.none []) m2=(.ev (.glo [99,97,108,108,47,99,99]) Option.none [.app [] [.lam 1 false [.app (.glo eachT) [.lam 1 false [askB B],.quo (nums' aZ)]]] Option.none],m2.st 1):=by
  simp only[exE,next,step_ok' (m:=m2) (fl 0 (by omega))]
 have a1:=ev_glo (S:=plenty t) (env:=Option.none) (m:=m2.st 1) g_cc (fl 1 (by omega)) [.app [] [.lam 1 false [.app (.glo eachT) [.lam 1 false [askB B],.quo (nums' aZ)]]] Option.none];have a2:next (plenty t) (.ret (.prim .callcc) [.app [] [.lam 1 false [.app (.glo eachT) [.lam 1 false [askB B],.quo (nums' aZ)]]] Option.none]) ((m2.st 1).st 1)=(.ev (.lam 1 false [.app (.glo eachT) [.lam 1 false [askB B],.quo (nums' aZ)]]) Option.none [.app [.prim .callcc] [] Option.none],m2.st 2):=rfl;have a3:next (plenty t) (.ev (.lam 1 false [.app (.glo eachT) [.lam 1 false [askB B],.quo (nums' aZ)]]) Option.none [.app [.prim .callcc] [] Option.none]) (m2.st 2)=(.ret lm [.app [.prim .callcc] [] Option.none],{m2 with steps:=5,cells:=2,ids:=2}):=by
  have hc:cell (plenty t) ((m2.st 2).st 1)=(.ok (),{m2 with steps:=5,cells:=2}):=by
   unfold cell;rw[if_pos (by show((1:Nat):Int)<5000;omega)];rfl
  simp only[next,step_ok' (m:=m2.st 2) (fl 2 (by omega)),hc,hlm];rfl
 have a4:next (plenty t) (.ret lm [.app [.prim .callcc] [] Option.none]) {m2 with steps:=5,cells:=2,ids:=2}=(.ap (.prim .callcc) [lm] [],{m2 with steps:=6,cells:=2,ids:=2}):=by
  simp only[next,List.cons_append,List.nil_append,applyTo,step_ok' (m:={m2 with steps:=5,cells:=2,ids:=2}) (fl 3 (by omega)),isProc,if_true]
 have a5:next (plenty t) (.ap (.prim .callcc) [lm] []) {m2 with steps:=6,cells:=2,ids:=2}=(.ap lm [.cont 2 [] []] [],{m2 with steps:=7,cells:=3,ids:=3}):=by
  have hc:cell (plenty t) {m2 with steps:=6,cells:=2,ids:=2}=(.ok (),{m2 with steps:=6,cells:=3,ids:=2}):=by
   unfold cell;rw[if_pos (by show((2:Nat):Int)<5000;omega)]
  have hp:isProc lm=true:=by rw[hlm];rfl
  show carry (plenty t) (.prim .callcc) [lm] [] {m2 with steps:=6,cells:=2,ids:=2}=_;simp only[carry,Pm.isList,Pm.kinds,Pm.grant,hc,applyTo];simp only[step_ok' (m:={m2 with steps:=6,cells:=3,ids:=3}) (fl 4 (by omega))];simp[Kd.ok,hp,m2,m0]
 obtain⟨ma,hma⟩:∃ma:Mc,ma={m2 with steps:=7,cells:=4,ids:=3,envs:=[([.cont 2 [] []],Option.none)]}:=⟨_,rfl⟩;have a6:next (plenty t) (.ap lm [.cont 2 [] []] []) {m2 with steps:=7,cells:=3,ids:=3}=(.ev (.app (.glo eachT) [.lam 1 false [askB B],.quo (nums' aZ)]) (some 0) [],ma):=by
  rw[hlm,hma];exact carry_lam (plenty t) 1 1 _ Option.none [.cont 2 [] []] [] {m2 with steps:=7,cells:=3,ids:=3} rfl (by show((3+1:Nat):Int)<=5000;omega)
 obtain⟨mb,hmb⟩:∃mb:Mc,mb={m2 with steps:=10,cells:=5,ids:=4,envs:=[([.cont 2 [] []],Option.none)]}:=⟨_,rfl⟩;have b1:EvTo (plenty t) 1 (.lam 1 false [askB B]) (some 0) (ma.st 2) (.lam 3 1 false [askB B] (some 0)) mb:=fun K=>by
  have hc:cell (plenty t) ((ma.st 2).st 1)=(.ok (),{ma with steps:=10,cells:=5}):=by
   unfold cell;rw[if_pos (by rw[hma];show((4:Nat):Int)<5000;omega),hma]
  refine ToN.one ?_;simp only[next,step_ok' (m:=ma.st 2) (by rw[hma];exact fl 7 (by omega)),hc];rw[hmb,hma]
 obtain⟨v3,m3,e3,i3,s3,n3⟩:=ev_list (S:=plenty t) aZ (env:=some 0) (m:=mb) (by rw[hmb];exact fl 8 (by omega)) (by rw[hmb];show((5+aZ.length:Nat):Int)<=5000;omega);have hs3:m3.steps<=11:=by have:=s3.steps;rw[hmb]at this;exact this
 have hc3:m3.cells<=5+aZ.length:=by have:=s3.cells;rw[hmb]at this;exact this
 have b2:=ev_app2 (S:=plenty t) (s:=eachT) (f:=eachV) (m:=ma) (by rw[hma];exact g_each) rfl b1 e3 (by rw[hma];exact fl 6 (by omega)) (by show(m3.steps:Int)<20000;omega) [];have q1:(m3.st 1).steps=m3.steps+1:=rfl;have qc1:(m3.st 1).cells=m3.cells:=rfl;obtain⟨j,m4,hj,hA,ho,hev⟩:=each_runs t B 3 2 0 aZ v3 (m3.st 1) [] i3 (by show m3.glob=_;rw[s3.glob,hmb]) (by show m3.wnd=_;rw[s3.wnd,hmb];rfl) (by show m3.envs[0]? =_;rw[n3,hmb];rfl) (by omega) (by omega);have pre:=ToN.head a0 (a1.trans (ToN.head a2 (ToN.head a3 (ToN.head a4 (ToN.head a5 (ToN.head a6 (b2.trans hA)))))));have o4:m4.out=[]:=by rw[ho];show m3.out=[];rw[s3.out,hmb];rfl
 have v4:m4.evs=[]:=by rw[hev];show m3.evs=[];rw[s3.evs,hmb];rfl
 cases hf:aZ.find? (fun n=>decide (n<B))with
 |some n=>
  have hto:eachTo aZ B []=.ret (.num n) []:=by simp[eachTo,hf]
  have hw:escWant aZ B=Lib.itoa n:=by simp[escWant,hf]
  rw[hto]at pre;rw[deal_last (plenty t) _ q _ _ (exE (nums' aZ) B) m2 m4 _ (top_E t _ _) pre (by show _<=1000000000;omega),hw];exact⟨rfl,rfl,o4,v4⟩
 |none=>
  have hto:eachTo aZ B []=.ret (.bool false) []:=by simp[eachTo,hf]
  have hw:escWant aZ B=[35,102]:=by simp[escWant,hf]
  rw[hto]at pre;rw[deal_last (plenty t) _ q _ _ (exE (nums' aZ) B) m2 m4 _ (top_E t _ _) pre (by show _<=1000000000;omega),hw];exact⟨rfl,rfl,o4,v4⟩
end Sc
end
section
open Go.RowKit Go.Shelf
open Sc
def bs(l:List UInt8):ByteArray:=⟨l.toArray⟩
theorem bs_add(x y:List UInt8)(h:x.length+y.length<=9223372036854775807)(w:World):(Op.stringOp .add (bs x) (bs y)).run prog w=.ok (.string (bs (x++y))) w:=by
 rw[run_string_add_sum w _ _ (by simpa[bs,ByteArray.size]using h)];unfold bs;rw[ByteArray.mk_append_mk]
end
section
open Go.RowKit Go.Shelf
open Sc
theorem mStart_m0:mStart=m0:=by kernel_rfl
theorem noSyn_of{d:Dt}(h:noSyn d=true):¬isSyn d:=by
 rintro⟨k,r,rfl⟩;simp[noSyn]at h
theorem kept_does{t:Bs}{r:(Option Nat×Nat)×Option Vl×Xs×Mc}(hd:Does t r){w:World}(hT:GT w)(hV:Rd.GV w)(h6:6<=w.heap.size)(hne:r.1.1≠some 0):Calls prog 14 #[.agg (subC (bs t))] w (KeptR r w):=by
 obtain⟨fs,hF,hl,hn,rfl⟩:=hd;have hz:(bs t).size=t.length:=by simp[bs,ByteArray.size]
 have hL:Rd.L (bs t) 0=t:=by simp[Rd.L,bs]
 have htop:Py.topP (2*(bs t).size+2) (Rd.L (bs t) 0)=.inr (fs,[]):=by rw[hz,hL];exact Py.forms_top hF _ (Nat.le_refl _)
 have key:=kept_of (t:=bs t) (w:=w) (S:=plenty t) ⟨rfl,rfl,rfl⟩ hT hV h6 (by rw[hz];exact hl) fs [] htop (fun f hf=>noSyn_of (hn f hf)) (by rw[hz,mStart_m0];exact hne);rw[hz,mStart_m0]at key;exact key
theorem gl_below{w w':World}(hT:GT w)(hV:Rd.GV w)(h6:6<=w.heap.size)(hb:Below w.heap.size w w'):GT w'/\Rd.GV w'/\6<=w'.heap.size:=
 ⟨hT.keep (hb.block 0 (by omega)),GV.below hV hb h6,Nat.le_trans h6 hb.size⟩
theorem kept_gives{t v:Bs}(h:Gives t v){w:World}(hT:GT w)(hV:Rd.GV w)(h6:6<=w.heap.size):Calls prog 14 #[.agg (subC (bs t))] w fun e w2=>∃st ce rw,e=.returned (.tuple #[.agg (resC 1 0 0 (bs v) st ce rw),.bool true])/\Below w.heap.size w w2:=by
 obtain⟨hl,r,hd,h1,h2,-,-⟩:=h;refine(kept_does hd hT hV h6 (by rw[h1];simp)).mono ?_;rintro e w2 ⟨ve,pl,va,st,ce,rw,rfl,hr,hb⟩;obtain⟨⟨e0,p⟩,ov,x,m⟩:=r;simp only at h1 h2;subst h1;cases ov with
 |none=>simp at h2
 |some u=>
  simp only[Option.map_some,Option.some.injEq]at h2;obtain⟨rfl,rfl,rfl,-,-,-⟩:=hr;refine⟨st,ce,rw,?_,hb⟩;have:lastV (some u)=bs v:=by
   show(⟨((wr u).take 1200).toArray⟩:ByteArray)=⟨v.toArray⟩;rw[h2,List.take_of_length_le hl]
  rw[this]
theorem gives_of16{t v:Bs}(h:Gives t v){w:World}(hT:GT w)(hV:Rd.GV w)(h6:6<=w.heap.size):Calls prog 16 #[.string (bs t),.string (bs v)] w fun e w'=>e=.returned (.bool true)/\Below w.heap.size w w':=
 gives16 (bs t) (bs v) w fun _w' hb=>kept_gives h (gl_below hT hV h6 hb).1 (gl_below hT hV h6 hb).2.1 (gl_below hT hV h6 hb).2.2
end
section
open Go.RowKit Go.Shelf
open Sc
theorem info3:(prog.info? 3).map (fun i=>(i.zero,i.size,i.bytes))=some (some (.int .i64 0),1,8):=by kernel_rfl
def pk(c n:Int):Int:=Int.tmod (if c<0 then-(c+1)else c) n
theorem pk_in{c n:Int}(hn:0<n):0<=pk c n/\pk c n<n:=by
 unfold pk;have h0:0<=(if c<0 then-(c+1)else c):=by split <;> omega
 exact⟨Int.tmod_nonneg _ h0,Int.tmod_lt_of_pos _ hn⟩
theorem pick21(c n:Int)(w:World)(hc:-9223372036854775808<=c/\c<=9223372036854775807)(hn:0<n/\n<=1000):Calls prog 21 #[.int .i64 c,.int .i64 n] w fun e w'=>e=.returned (.int .i64 (pk c n))/\Lk w w':=by
 have hn0:(n==0)=false:=by simp;omega
 by_cases h:c<0
 ·have hp:pk c n=Int.tmod (-(c+1)) n:=by simp[pk,h]
  have HP:=hZ hp;clear hp;go_enter func21,ntmps21
  go_wp2;all_goals go_ret
  all_goals refine⟨?_,rfl,rfl,rfl,rfl⟩
  all_goals(rw[HP.out];first|rfl|(rw[Int.neg_tmod];rfl)|(rw[Int.tmod_eq_emod_of_nonneg h];rfl))
 ·have hp:pk c n=Int.tmod c n:=by simp[pk,h]
  have HP:=hZ hp;clear hp;go_enter func21,ntmps21
  go_wp2;all_goals go_ret
  all_goals refine⟨?_,rfl,rfl,rfl,rfl⟩
  all_goals(rw[HP.out];first|rfl|(rw[Int.neg_tmod];rfl)|(rw[Int.tmod_eq_emod_of_nonneg h];rfl))
def nC(l:List Int):List Value:=l.map (.int .i64 ·)
def IntsAt(w:World)(a:Option Addr)(xs:List Int):Prop:=∀i,i<xs.length->∃b o,a=some ⟨b,o,none⟩/\b<w.heap.size/\w.cell? ⟨b,o+i,none⟩=some (.int .i64 (xs.getD i 0))
theorem IntsAt.below{w w':World}{a:Option Addr}{xs:List Int}(h:IntsAt w a xs)(hb:Below w.heap.size w w'):IntsAt w' a xs:=fun i hi=>by
 obtain⟨b,o,e1,e2,e3⟩:=h i hi;exact⟨b,o,e1,Nat.lt_of_lt_of_le e2 hb.size,(hb.cell (p:=⟨b,o+i,none⟩) e2).trans e3⟩
theorem ints_own{w:World}{lo:Nat}{a:Option Addr}{c:Nat}{xs:List Int}(h:w.ownsRow lo 3 1 (.slice a xs.length c) xs.length (nC xs)):IntsAt w a xs:=by
 intro i hi;rcases h.2 with⟨h1,h2⟩|⟨g,cap,cur,h1,hb,hg,hn,hm,hsz,htk⟩
 ·omega
 ·cases h1;refine⟨g,0,rfl,(Array.getElem?_eq_some_iff.1 hg).1,?_⟩;have hk:(nC xs)[i]? =some (.int .i64 (xs.getD i 0)):=by
   simp[nC,List.getElem?_eq_getElem hi,List.getD_eq_getElem?_getD]
  rw[<-htk,List.getElem?_take]at hk;split at hk
  ·simp only[World.cell?,hg];simpa using hk
  ·cases hk
def fewL(xs:List Int):List Int:=(xs.take 40).map (pk · 1000)
theorem few_take(xs:List Int)(k:Nat)(h:k<xs.length)(h4:k<40):(fewL (xs.take k))++[pk (xs.getD k 0) 1000]=fewL (xs.take (k+1)):=by
 unfold fewL;rw[List.take_take,List.take_take,show min 40 k=k by omega,show min 40 (k+1)=k+1 by omega,List.take_add_one,List.map_append];simp[List.getElem?_eq_getElem h,List.getD_eq_getElem?_getD]
theorem fewL_len(xs:List Int):(fewL xs).length<=40:=by simp[fewL];omega
theorem few_len(xs:List Int)(k:Nat)(h:k<=xs.length)(h4:k<=40):(fewL (xs.take k)).length=k:=by simp[fewL];omega
theorem few_all(xs:List Int)(k:Nat)(h:k<=xs.length)(h4:k<=40)(hn:¬(k<xs.length/\k<40)):fewL (xs.take k)=fewL xs:=by
 unfold fewL;by_cases hk:k<xs.length
 ·have:k=40:=by omega
  subst this;rw[List.take_take];rfl
 ·rw[List.take_of_length_le (show xs.length<=k by omega)]
def FewP(w:World)(xs:List Int)(e:Ending)(w':World):Prop:=∃na nc,e=.returned (.slice na (fewL xs).length nc)/\IntsAt w' na (fewL xs)/\(fewL xs=[]->na=none/\nc=0)/\Below w.heap.size w w'
theorem few18(xa:Option Addr)(xn xc:Nat)(xs:List Int)(w:World)(hxn:xn=xs.length)(_hxm:xn<=9223372036854775807)(hx:IntsAt w xa xs)(bx:∀n,n∈xs->-9223372036854775808<=n/\n<=9223372036854775807):
  Calls prog 18 #[.slice xa xn xc,.int .i64 40] w (FewP w xs):=by
 obtain⟨i0,hi,hz0',hz1',hz2'⟩:=info_parts info3;have HX:=hZ hx;have HBx:=hZ bx;have HXn:=hZ hxn;clear hx bx hxn;go_enter func18,ntmps18
 go_wp2;go_loopw [6,5] (fun c s wr=>∃(k:Nat) (na:Option Addr) (nc:Nat),k<=xn/\k<=40/\c=.int .i64 (k:Int)/\s=.slice na k nc/\(k=0->na=none/\nc=0)/\wr.ownsRow w.heap.size 3 1 (.slice na k nc) k (nC (fewL (xs.take k)))/\Below w.heap.size w wr) (fun c _ _=>40-(intOf c).toNat)
 case atStart=>exact⟨0,none,0,Nat.zero_le _,Nat.zero_le _,rfl,rfl,fun _=>⟨rfl,rfl⟩,⟨rfl,.inl ⟨rfl,rfl⟩⟩,Below.refl _ _⟩
 case round=>
  obtain⟨k,na,nc,hk,hk4,rfl,rfl,hnil,hown,hbl⟩:=hrel;have HNil:=hZ hnil;clear hnil;have HOwn:=hZ hown;have HB:=hZ hbl;clear hown hbl;by_cases hlt:k<xn/\k<40
  ·obtain⟨xb,xo,rfl,hxw,hxc⟩:=HX.out k (by rw[<-HXn.out];exact hlt.1);have cx:wr.cell? ⟨xb,xo+k,none⟩=some (.int .i64 (xs.getD k 0)):=(HB.out.cell (p:=⟨xb,xo+k,none⟩) hxw).trans hxc;have hi1:(k:Int)<(xn:Int):=by omega
   have hi2:(k:Int)<40:=by omega
   have hvb:-9223372036854775808<=xs.getD k 0/\xs.getD k 0<=9223372036854775807:=HBx.out _ (by
    simp only[List.getD_eq_getElem?_getD,List.getElem?_eq_getElem (show k<xs.length by rw[<-HXn.out];exact hlt.1),Option.getD_some];exact List.getElem_mem _)
   have HSt:=hZ (few_take xs k (by rw[<-HXn.out];exact hlt.1) hlt.2);obtain⟨v,hv⟩:∃v,v=xs.getD k 0:=⟨_,rfl⟩;rw[<-hv]at cx hvb HSt;clear hv hxc hxw;go_wp2_with (first|(go_at_call 21;refine(pick21 v 1000 _ hvb (by omega)).mono ?_;rintro e w2 ⟨rfl,hl2⟩;refine Hid.out ?_))
   have HB2:=hZ (HB.out.trans ((bl0 hl2).mono HB.out.size));have HOwn2:=hZ (qki HOwn.out hl2);clear hl2;refine hZ ?_;go_wp2_with (first|(at_builtin;refine wpList_append_lies _ rfl _ _ 22 rfl w.heap.size 3 i0 (.int .i64 0) 1 8 underlying22 hi hz0' hz1' hz2' rfl (by decide) _ _ _ rfl (HOwn2.out.alloc _) ⟨w2.heap.size,0,none⟩ 1 1 [.int .i64 (pk v 1000)] rfl rfl ?c1 ?c2 (by decide) ?c3 ?c4 ?c5 (w2.heap.size+1) ?c6 ?_))
   case c1=>exact World.news_of_block (cs:=#[.int .i64 (pk v 1000)]) (by have:=heap_alloc_new w2 (.cells #[.int .i64 (pk v 1000)] 3);simpa using this)
   case c2=>intro u hu;simp at hu;rcases hu with rfl;rfl
   case c3=>unfold maxLen;omega
   case c4=>omega
   case c5=>have:=HB2.out.size;simp;omega
   case c6=>simp
   intro g4 cap4 w4 hown4 hgrow4 hat4 hlt4;refine Hid.out ?_;have hg3:w2.grownBy w4 (Value.slice na k nc).ownBlock:=qbf hgrow4;have hb4:Below w.heap.size w w4:=⟨hg3.os.trans HB2.out.os,hg3.tape.trans HB2.out.tape,hg3.output.trans HB2.out.output,Nat.le_trans HB2.out.size hg3.size,fun j hj=>by
    rw[hg3.block j (Nat.lt_of_lt_of_le hj HB2.out.size) (fun e=>by have:=(HOwn2.out.lt j e.symm).1;omega)];exact HB2.out.block j hj⟩
   have HB4:=hZ hb4;have HOwn4:=hZ hown4;clear hown4 hgrow4 hat4 hlt4 hg3 hb4 HB2 HOwn2;refine hZ ?_;go_wp2;refine⟨⟨k+1,some ⟨g4,0,none⟩,cap4,by omega,by omega,by go_num,rfl,fun h=>absurd h (by omega),?_,HB4.out⟩,by simp[intOf];omega⟩;have:=HOwn4.out;rw[<-HSt.out];simpa[nC]using this
  ·have h2:((k:Int)<(xn:Int)/\¬(k:Int)<40)\/¬(k:Int)<(xn:Int):=by omega
   have hall:=few_all xs k (by rw[<-HXn.out];exact hk) hk4 (by rw[<-HXn.out];exact hlt);have hlen:=few_len xs k (by rw[<-HXn.out];exact hk) hk4;rw[hall]at hlen HOwn;have HLen:=hZ hlen;clear hall hlen hlt;have key:FewP w xs (.returned (.slice na k nc)) wr:=⟨na,nc,by rw[HLen.out],ints_own (lo:=w.heap.size) (c:=nc) (by rw[HLen.out];exact HOwn.out),fun h=>HNil.out (by rw[<-HLen.out,h];rfl),HB.out⟩;have HKey:=hZ key;clear key;rcases h2 with⟨hi1,hi2⟩|hi1;all_goals(
    go_wp2;go_ret;exact HKey.out)
end
section
open Go.RowKit Go.Shelf
open Sc
def wrtN(xs:List Int):Bs:=Px.join (xs.map Lib.itoa)
theorem join_snoc(t:List UInt8):∀l:List (List UInt8),l≠[]->Px.join (l++[t])=Px.join l++32::t
 | [],h=>absurd rfl h
 | [a],_=>by simp[Px.join]
 |a::b::r,_=>by
  have:=join_snoc t (b::r) (by simp);simp only[List.cons_append,Px.join]at this|-;rw[this];simp
theorem wrtN_len:∀xs:List Int,(∀n,n∈xs->-9223372036854775808<=n/\n<=9223372036854775807)->(wrtN xs).length<=22*xs.length
 | [],_=>by simp[wrtN,Px.join]
 | [a],h=>by
  have:=itoa_len a (h a (by simp)).1 (h a (by simp)).2;simp[wrtN,Px.join];omega
 |a::b::r,h=>by
  have h1:=wrtN_len (b::r) (fun n hn=>h n (List.mem_cons_of_mem _ hn));have h2:=itoa_len a (h a (by simp)).1 (h a (by simp)).2;simp only[wrtN,List.map_cons,Px.join,List.length_append,List.length_cons]at h1|-;omega
theorem wrtN_step(xs:List Int)(k:Nat)(hk:k<xs.length):wrtN (xs.take (k+1))=if k=0 then Lib.itoa (xs.getD k 0)else wrtN (xs.take k)++32::Lib.itoa (xs.getD k 0):=by
 unfold wrtN;rw[List.take_add_one];simp only[List.getElem?_eq_getElem hk,Option.toList_some,List.map_append,List.map_cons,List.map_nil,List.getD_eq_getElem?_getD,Option.getD_some];by_cases h0:k=0
 ·subst h0;simp[Px.join]
 ·rw[if_neg h0,join_snoc];intro h;have:=congrArg List.length h;simp only[List.length_map,List.length_take,List.length_nil]at this;omega
theorem written19(xa:Option Addr)(xn xc:Nat)(xs:List Int)(w:World)(hxn:xn=xs.length)(h100:xn<=100)(h0:0<w.heap.size)(hT:GT w)(hx:IntsAt w xa xs)(bx:∀n,n∈xs->-9223372036854775808<=n/\n<=9223372036854775807):
  Calls prog 19 #[.slice xa xn xc] w fun e w'=>e=.returned (.string (bs (wrtN xs)))/\Below w.heap.size w w':=by
 have HX:=hZ hx;have HBx:=hZ bx;have HXn:=hZ hxn;have HT:=hZ hT;have H0:=hZ h0;clear hx bx hxn hT h0;go_enter func19,ntmps19
 go_wp2;go_loopw [4,3] (fun c s wr=>∃(k:Nat),k<=xn/\c=.int .i64 (k:Int)/\s=.string (bs (wrtN (xs.take k)))/\Below w.heap.size w wr) (fun c _ _=>xn-(intOf c).toNat)
 case atStart=>exact⟨0,Nat.zero_le _,rfl,rfl,Below.refl _ _⟩
 case round=>
  obtain⟨k,hk,rfl,rfl,hbl⟩:=hrel;have HB:=hZ hbl;clear hbl;by_cases hlt:k<xn
  ·obtain⟨xb,xo,rfl,hxw,hxc⟩:=HX.out k (by rw[<-HXn.out];exact hlt);have cx:wr.cell? ⟨xb,xo+k,none⟩=some (.int .i64 (xs.getD k 0)):=(HB.out.cell (p:=⟨xb,xo+k,none⟩) hxw).trans hxc;have hi1:(k:Int)<(xn:Int):=by omega
   have hvb:-9223372036854775808<=xs.getD k 0/\xs.getD k 0<=9223372036854775807:=HBx.out _ (by
    simp only[List.getD_eq_getElem?_getD,List.getElem?_eq_getElem (show k<xs.length by rw[<-HXn.out];exact hlt),Option.getD_some];exact List.getElem_mem _)
   have HSt:=hZ (wrtN_step xs k (by rw[<-HXn.out];exact hlt));have hlen:(wrtN (xs.take k)).length<=2200:=by
    have:=wrtN_len (xs.take k) (fun n hn=>HBx.out n (List.mem_of_mem_take hn));have h2:(xs.take k).length<=k:=List.length_take_le _ _;omega
   have HG:Hid (∀w',Below wr.heap.size wr w'->GT w'):=fun w' hb=>HT.out.keep (by rw[hb.block 0 (by have:=HB.out.size;have:=H0.out;omega),HB.out.block 0 H0.out])
   obtain⟨v,hv⟩:∃v,v=xs.getD k 0:=⟨_,rfl⟩;rw[<-hv]at cx hvb HSt;have hil:=itoa_len v hvb.1 hvb.2;clear hv hxc hxw;by_cases hk0:k=0
   ·have hk1:¬(0:Int)<(k:Int):=by omega
    rw[if_pos hk0]at HSt;obtain⟨T,hTx⟩:∃T,T=wrtN (xs.take k):=⟨_,rfl⟩;have hT0:T=[]:=by rw[hTx,hk0];rfl
    rw[show bs (wrtN (xs.take k))=bs T by rw[hTx]];have a1:∀w,(Op.stringOp .add (bs T) ⟨(Lib.itoa v).toArray⟩).run prog w=.ok (.string (bs (Lib.itoa v))) w:=fun w=>by rw[hT0];exact bs_add [] (Lib.itoa v) (by simp;omega) w
    clear hTx hk0 hT0 hlen;go_wp2_with (first|(go_at_call 12;refine(Tryz.strconv_Itoa v hvb.1 hvb.2 _ (HG.out _ (Below.refl _ _))).mono ?_;rintro e w2 ⟨rfl,nq,os2,hw2⟩;have HW2:=hZ (hw2▸Lib.below_grow _ _ (Nat.le_refl _) nq os2:Below wr.heap.size wr w2);clear hw2))
    refine⟨⟨k+1,by omega,by go_num,by rw[HSt.out],HB.out.trans (HW2.out.mono HB.out.size)⟩,by simp[intOf];omega⟩
   ·have hk1:(0:Int)<(k:Int):=by omega
    rw[if_neg hk0]at HSt;obtain⟨T,hTx⟩:∃T,T=wrtN (xs.take k):=⟨_,rfl⟩;rw[<-hTx]at hlen HSt;rw[show bs (wrtN (xs.take k))=bs T by rw[hTx]];clear hTx hk0;have a1:∀w,(Op.stringOp .add (bs T) ⟨#[32]⟩).run prog w=.ok (.string (bs (T++[32]))) w:=fun w=>bs_add T [32] (by simp;omega) w
    have a2:∀w,(Op.stringOp .add (bs (T++[32])) ⟨(Lib.itoa v).toArray⟩).run prog w=.ok (.string (bs (T++32::Lib.itoa v))) w:=fun w=>(bs_add (T++[32]) (Lib.itoa v) (by simp;omega) w).trans (by simp)
    go_wp2_with (first|(go_at_call 12;refine(Tryz.strconv_Itoa v hvb.1 hvb.2 _ (HG.out _ (Below.refl _ _))).mono ?_;rintro e w2 ⟨rfl,nq,os2,hw2⟩;have HW2:=hZ (hw2▸Lib.below_grow _ _ (Nat.le_refl _) nq os2:Below wr.heap.size wr w2);clear hw2))
    refine⟨⟨k+1,by omega,by go_num,by rw[HSt.out],HB.out.trans (HW2.out.mono HB.out.size)⟩,by simp[intOf];omega⟩
  ·have hi1:¬(k:Int)<(xn:Int):=by omega
   have htk:xs.take k=xs:=List.take_of_length_le (by rw[<-HXn.out];omega);rw[htk];clear htk;go_wp2;go_ret;exact⟨rfl,HB.out⟩
end
section
open Go.RowKit Go.Shelf
open Sc
theorem wfL_nums(d:Nat):∀l:List Int,Py.wfL d (l.map .num)=true
 | []=>rfl
 |n::r=>by simp only[List.map_cons,Py.wfL,Py.wf,wfL_nums d r];rfl
theorem numsL_nums:∀l:List Int,Py.numsL (l.map .num)=l
 | []=>rfl
 |n::r=>by simp only[List.map_cons,Py.numsL,Py.nums,numsL_nums r];rfl
theorem wqs_nums:∀l:List Int,Py.wqs (l.map .num)=l.map Lib.itoa
 | []=>rfl
 |n::r=>by simp only[List.map_cons,Py.wqs,Py.wq,wqs_nums r]
theorem wq_nums(l:List Int):Py.wq (nums' l)=Px.paren (l.map Lib.itoa):=by
 cases l with
 |nil=>rfl
 |cons n r=>
  show Py.wq (.list (.num n::r.map .num))=_;rw[Py.wq]
  ·rw[wqs_nums,Py.wq];rfl
  ·intro s m x h;cases h
theorem wf_nums(d:Nat)(hd:(d==30)=false)(l:List Int):Py.wf d (nums' l)=true:=by
 show(!(d==30)&&Py.wfL (d+1) (l.map .num))=true;rw[wfL_nums,hd];rfl
theorem small_itoa:∀n:Int,0<=n/\n<1000->(Lib.itoa n).length<=3:=by
 have h:(List.range 1000).all (fun n=>decide ((Lib.itoa (n:Int)).length<=3))=true:=by kernel_rfl
 intro n hn;have h2:=List.all_eq_true.1 h n.toNat (List.mem_range.2 (by omega));rw[show((n.toNat:Nat):Int)=n by omega]at h2;exact of_decide_eq_true h2
theorem wrtN_small:∀xs:List Int,(∀n,n∈xs->0<=n/\n<1000)->(wrtN xs).length<=4*xs.length
 | [],_=>by simp[wrtN,Px.join]
 | [a],h=>by
  have:=small_itoa a (h a (by simp));simp[wrtN,Px.join];omega
 |a::b::r,h=>by
  have h1:=wrtN_small (b::r) (fun n hn=>h n (List.mem_cons_of_mem _ hn));have h2:=small_itoa a (h a (by simp));simp only[wrtN,List.map_cons,Px.join,List.length_append,List.length_cons]at h1|-;omega
theorem few_small(xs:List Int):∀n,n∈fewL xs->0<=n/\n<1000:=fun n hn=>by
 simp only[fewL,List.mem_map]at hn;obtain⟨c,-,rfl⟩:=hn;exact pk_in (by omega)
theorem in_small{l:List Int}(h:∀n,n∈l->0<=n/\n<1000):∀n,n∈l->Py.inR n:=fun n hn=>⟨by have:=h n hn;omega,by have:=h n hn;omega⟩
def Gv(t v:Bs):Prop:=∀w:World,GT w->Rd.GV w->6<=w.heap.size->Calls prog 16 #[.string (bs t),.string (bs v)] w fun e w'=>e=.returned (.bool true)/\Below w.heap.size w w'
theorem gv_of{t v:Bs}(h:Gives t v):Gv t v:=fun _ hT hV h6=>gives_of16 h hT hV h6
end
section
open Go.RowKit Go.Shelf
open Sc
def Stt(w:World)(na:Option Addr)(A:List Int)(ma:Option Addr)(B:List Int)(fa:Option Addr)(F:List Int)(w':World):Prop:=Below w.heap.size w w'/\(GT w'/\Rd.GV w'/\6<=w'.heap.size)/\IntsAt w' na A/\IntsAt w' ma B/\IntsAt w' fa F
theorem Stt.below{w:World}{na:Option Addr}{A:List Int}{ma:Option Addr}{B:List Int}{fa:Option Addr}{F:List Int}{w' w'':World}(h:Stt w na A ma B fa F w')(hb:Below w'.heap.size w' w''):Stt w na A ma B fa F w'':=
 ⟨h.1.trans (hb.mono h.1.size),gl_below h.2.1.1 h.2.1.2.1 h.2.1.2.2 hb,h.2.2.1.below hb,h.2.2.2.1.below hb,h.2.2.2.2.below hb⟩
theorem Stt.pos{w:World}{na:Option Addr}{A:List Int}{ma:Option Addr}{B:List Int}{fa:Option Addr}{F:List Int}{w':World}(h:Stt w na A ma B fa F w'):0<w'.heap.size:=by have:=h.2.1.2.2;omega
theorem wide{l:List Int}(h:∀n,n∈l->0<=n/\n<1000):∀n,n∈l->-9223372036854775808<=n/\n<=9223372036854775807:=fun n hn=>by have:=h n hn;omega
theorem bs_add'{x y z:List UInt8}(hz:z=x++y)(h:z.length<=100000)(w:World):(Op.stringOp .add (bs x) (bs y)).run prog w=.ok (.string (bs z)) w:=by
 subst hz;exact bs_add x y (by simp only[List.length_append]at h;omega) w
end
section
open Go.RowKit Go.Shelf
open Sc
def eachTx:Bs:=[40,100,101,102,105,110,101,32,40,101,97,99,104,32,102,32,108,41,32,40,105,102,32,40,110,117,108,108,63,32,108,41,32,35,102,32,40,98,101,103,105,110,32,40,102,32,40,99,97,114,32,108,41,41,32,40,101,97,99,104,32,102,32,40,99,100,114,32,108,41,41,41,41,41]
def escTx:Bs:=[40,99,97,108,108,47,99,99,32,40,108,97,109,98,100,97,32,40,111,117,116,41,32,40,101,97,99,104,32,40,108,97,109,98,100,97,32,40,120,41,32,40,105,102,32,40,60,32,120,32]
def tE(xs:List Int)(B:Int):Bs:=eachTx++(escTx++(Lib.itoa B++([41,32,40,111,117,116,32,120,41,41,41,32,39,40]++(wrtN xs++[41,41,41,41]))))
def defTx:Bs:=[40,100,101,102,105,110,101,32,107,32,35,102,41,40,100,101,102,105,110,101,32,110,32,48,41,40,100,101,102,105,110,101,32,114,32,40,43,32,49,48,48,32,40,99,97,108,108,47,99,99,32,40,108,97,109,98,100,97,32,40,99,41,32,40,98,101,103,105,110,32,40,115,101,116,33,32,107,32,99,41,32,48,41,41,41,41,41,40,115,101,116,33,32,110,32,40,43,32,110,32,49,41,41,40,105,102,32,40,60,32,110,32]
def tD(K:Int):Bs:=defTx++(Lib.itoa K++([41,32,40,107,32,110,41,32,48,41]++[40,108,105,115,116,32,110,32,114,41]))
theorem each_wq:Py.wq eachD=eachTx:=by kernel_rfl
theorem each_len:eachTx.length<=80:=of_decide_eq_true (by kernel_rfl)
theorem esc_len:escTx.length<=60:=of_decide_eq_true (by kernel_rfl)
theorem def_len:defTx.length<=120:=of_decide_eq_true (by kernel_rfl)
theorem wq_E(A:Dt)(B:Int):Py.wq (escX A B)=escTx++(Lib.itoa B++([41,32,40,111,117,116,32,120,41,41,41,32,39]++(Py.wq A++[41,41,41]))):=by
 simp[escX,escTx,Py.wq,Py.wqs,Px.paren,Px.join,Px.quoteT]
theorem eachD_ok:formOk eachD=true/\∀v,v∈Py.nums eachD->Py.inR v:=⟨by kernel_rfl,fun v hv=>by
 have h:Py.nums eachD=[]:=by kernel_rfl
 rw[h]at hv;cases hv⟩
theorem escW_len(xs:List Int)(B:Int)(hx:∀n,n∈xs->0<=n/\n<1000):(escWant xs B).length<=10:=by
 unfold escWant;split
 ·rename_i n h;have:=small_itoa n (hx n (List.mem_of_find?_eq_some h));omega
 ·simp
theorem gives_E(xs:List Int)(B:Int)(hB:0<=B/\B<1000)(hx:∀n,n∈xs->0<=n/\n<1000)(lx:xs.length<=40):Gives (tE xs B) (escWant xs B):=by
 have ht:textOf [eachD,escX (nums' xs) B]=tE xs B:=by
  have e:textOf [eachD,escX (nums' xs) B]=Py.wq eachD++Py.wq (escX (nums' xs) B):=by simp[textOf]
  rw[e,each_wq,wq_E,wq_nums];simp[tE,Px.paren,wrtN]
 have l1:=wrtN_small xs hx;have l2:=small_itoa B hB;have l3:=each_len;have l4:=esc_len;rw[<-ht];refine gives_trees _ _ ?_ ?_ ?_ ?_ ?_
 ·intro d hd;simp only[List.mem_cons,List.not_mem_nil,or_false]at hd;rcases hd with rfl|rfl
  ·exact eachD_ok
  ·constructor
   ·have h1:Py.wf 0 (escX (nums' xs) B)=true:=by
     unfold escX;simp only[Py.wf,Py.wfL,wf_nums 4 rfl xs];decide
    rw[formOk,h1,wq_E];rfl
   ·intro v hv;have e:Py.nums (escX (nums' xs) B)=B::xs:=by simp[escX,Py.nums,Py.numsL,nums',numsL_nums]
    rw[e,List.mem_cons]at hv;rcases hv with rfl|hv
    ·exact⟨by omega,by omega⟩
    ·exact in_small hx v hv
 ·rw[ht,tE];simp only[List.length_append,List.length_cons,List.length_nil];omega
 ·have:=escW_len xs B hx;omega
 ·intro d hd;simp only[List.mem_cons,List.not_mem_nil,or_false]at hd;rcases hd with rfl|rfl <;> rfl
 ·intro ps hps
  match ps,hps with
  | [p,q],_=>exact escX_ends _ p q xs B lx
theorem gives_D(K:Int)(hK:K=2\/K=3\/K=4\/K=5\/K=6):Gives (tD K) [40,49,32,49,48,49,41]:=by
 have ht:textOf [escY0,escY1,escY2,escY3,escY4 K,escY5]=tD K:=by rcases hK with rfl|rfl|rfl|rfl|rfl <;> kernel_rfl
 have l1:=small_itoa K (by omega);have l2:=def_len;rw[<-ht];refine gives_trees _ _ ?_ ?_ ?_ ?_ ?_
 ·intro d hd;simp only[List.mem_cons,List.not_mem_nil,or_false]at hd;have h0:∀d:Dt,formOk d=true->(Py.nums d).all (fun v=>decide (-9223372036854775808<=v/\v<=9223372036854775807))=true->formOk d=true/\∀v,v∈Py.nums d->Py.inR v:=fun d h1 h2=>⟨h1,fun v hv=>of_decide_eq_true (p:=-9223372036854775808<=v/\v<=9223372036854775807) (List.all_eq_true.1 h2 v hv)⟩
  rcases hd with rfl|rfl|rfl|rfl|rfl|rfl
  ·exact h0 _ (by kernel_rfl) (by kernel_rfl)
  ·exact h0 _ (by kernel_rfl) (by kernel_rfl)
  ·exact h0 _ (by kernel_rfl) (by kernel_rfl)
  ·exact h0 _ (by kernel_rfl) (by kernel_rfl)
  ·rcases hK with rfl|rfl|rfl|rfl|rfl <;> exact h0 _ (by kernel_rfl) (by kernel_rfl)
  ·exact h0 _ (by kernel_rfl) (by kernel_rfl)
 ·rw[ht,tD];simp only[List.length_append,List.length_cons,List.length_nil];omega
 ·simp
 ·intro d hd;simp only[List.mem_cons,List.not_mem_nil,or_false]at hd;rcases hd with rfl|rfl|rfl|rfl|rfl|rfl <;> rfl
 ·intro ps hps
  match ps,hps with
  | [p0,p1,p2,p3,p4,p5],_=>
   rcases hK with rfl|rfl|rfl|rfl|rfl
   ·exact escY_2 _ p0 p1 p2 p3 p4 p5
   ·exact escY_3 _ p0 p1 p2 p3 p4 p5
   ·exact escY_4 _ p0 p1 p2 p3 p4 p5
   ·exact escY_5 _ p0 p1 p2 p3 p4 p5
   ·exact escY_6 _ p0 p1 p2 p3 p4 p5
theorem escW_cons(a:Int)(r:List Int)(B:Int):escWant (a::r) B=if a<B then Lib.itoa a else escWant r B:=by
 by_cases h:a<B
 ·rw[if_pos h];simp[escWant,h]
 ·rw[if_neg h];simp[escWant,h]
theorem esc_step(A:List Int)(B:Int)(an k:Nat)(han:an=A.length)(hk:k<an):escWant (A.drop (an-(k+1))) B=if A.getD (an-1-k) 0<B then Lib.itoa (A.getD (an-1-k) 0)else escWant (A.drop (an-k)) B:=by
 have hj:an-1-k<A.length:=by omega
 have e1:an-(k+1)=an-1-k:=by omega
 have e2:an-k=an-1-k+1:=by omega
 rw[e1,e2,List.drop_eq_getElem_cons hj];have e3:A.getD (an-1-k) 0=A[an-1-k]:=by simp[List.getD_eq_getElem?_getD,List.getElem?_eq_getElem hj]
 rw[e3,escW_cons]
end
section
open Go.RowKit Go.Shelf
open Sc
theorem law6(xa:Option Addr)(xn xc:Nat)(xs:List Int)(c:Int)(w:World)(hxn:xn=xs.length)(h6:6<=w.heap.size)(hxm:xn<=9223372036854775807)(hT:GT w)(hV:Rd.GV w)
  (hx:IntsAt w xa xs)(bx:∀n,n∈xs->-9223372036854775808<=n/\n<=9223372036854775807)(hc:-9223372036854775808<=c/\c<=9223372036854775807):
  Calls prog 6 #[.slice xa xn xc,.int .i64 c] w fun e w'=>e=.returned (.bool true)/\Below w.heap.size w w':=by
 have HX:=hZ hx;have HBx:=hZ bx;have HXn:=hZ hxn;have HGl:=hZ (fun w'=>gl_below (w':=w') hT hV h6);clear hx bx hxn hT hV h6;go_enter func6,ntmps6
 go_wp2_with (first|(go_at_call 18;refine(few18 xa xn xc xs _ HXn.out hxm HX.out HBx.out).mono ?_;rintro e w1 ⟨na,nc,rfl,hA,-,hb1⟩;refine Hid.out ?_))
 have HA:=hZ hA;have HB1:=hZ hb1;clear hA hb1;refine hZ ?_;have hB:=pk_in (c:=c) (n:=1000) (by omega);have hC:=pk_in (c:=c) (n:=5) (by omega);go_wp2_with (first|(go_at_call 21;refine(pick21 c 1000 _ hc (by omega)).mono ?_;rintro e w2 ⟨rfl,hl2⟩;refine Hid.out ?_))
 have HB2:=hZ (HB1.out.trans ((bl0 hl2).mono HB1.out.size));have HA2:=hZ (HA.out.below (bl0 hl2));have HsA:=hZ (few_small xs);have hAl:=fewL_len xs;clear hl2 HA HB1 HX HBx;obtain⟨A,hA⟩:∃A,A=fewL xs:=⟨_,rfl⟩;rw[<-hA]at HA2 HsA hAl|-;clear hA;obtain⟨an,han⟩:∃n,n=A.length:=⟨_,rfl⟩;rw[<-han]at hAl|-;have HAn:=hZ han;obtain⟨B,hBx⟩:∃B,B=pk c 1000:=⟨_,rfl⟩;rw[<-hBx]at hB|-;obtain⟨C,hCx⟩:∃C,C=pk c 5:=⟨_,rfl⟩;rw[<-hCx]at hC;have HC:=hZ hCx;clear hCx hBx han;refine hZ ?_;go_wp2;go_loopw [8,7] (fun i s wr=>∃(k:Nat),k<=an/\i=.int .i64 ((an:Int)-1-(k:Int))/\s=.string (bs (escWant (A.drop (an-k)) B))/\Below w2.heap.size w2 wr) (fun i _ _=>(intOf i+1).toNat)
 case atStart=>exact⟨0,Nat.zero_le _,by simp,by rw[Nat.sub_zero,HAn.out,List.drop_length];rfl,Below.refl _ _⟩
 case round=>
  obtain⟨k,hk,rfl,rfl,hbl⟩:=hrel;have HB:=hZ hbl;clear hbl;by_cases hlt:k<an
  ·have HSt:=hZ (esc_step A B an k HAn.out hlt);obtain⟨j,hj⟩:∃j,j=an-1-k:=⟨_,rfl⟩;have hji:(an:Int)-1-(k:Int)=(j:Int):=by omega
   rw[hji];obtain⟨ab,ao,rfl,haw,hac⟩:=HA2.out j (by rw[<-HAn.out];omega);have ca:wr.cell? ⟨ab,ao+j,none⟩=some (.int .i64 (A.getD j 0)):=(HB.out.cell (p:=⟨ab,ao+j,none⟩) haw).trans hac;have hvs:0<=A.getD j 0/\A.getD j 0<1000:=HsA.out _ (by
    simp only[List.getD_eq_getElem?_getD,List.getElem?_eq_getElem (show j<A.length by rw[<-HAn.out];omega),Option.getD_some];exact List.getElem_mem _)
   rw[<-hj]at HSt;obtain⟨v,hv⟩:∃v,v=A.getD j 0:=⟨_,rfl⟩;rw[<-hv]at ca HSt hvs;have hj0:(0:Int)<=(j:Int):=by omega
   have hjn:(j:Int)<(an:Int):=by omega
   have HJi:=hZ hji;have HJ:=hZ hj;have HG:Hid (GT wr):=(HGl.out _ (HB2.out.trans (HB.out.mono HB2.out.size))).1;clear hv hac haw hji hj;obtain⟨T,hTx⟩:∃T,T=escWant (A.drop (an-k)) B:=⟨_,rfl⟩;rw[<-hTx]at HSt|-;clear hTx;by_cases hvB:v<B
   ·rw[if_pos hvB]at HSt;go_wp2_with (first|(go_at_call 12;refine(Tryz.strconv_Itoa v (by omega) (by omega) _ HG.out).mono ?_;rintro e w7 ⟨rfl,nq,os2,hw7⟩;have HW7:=hZ (hw7▸Lib.below_grow _ _ (Nat.le_refl _) nq os2:Below wr.heap.size wr w7);clear hw7))
    refine⟨⟨k+1,by omega,?_,by rw[HSt.out];rfl,HB.out.trans (HW7.out.mono HB.out.size)⟩,?_⟩
    ·have:=HJi.out;congr 1;push_cast;omega
    ·simp[intOf]
   ·rw[if_neg hvB]at HSt;go_wp2;refine⟨⟨k+1,by omega,?_,by rw[HSt.out],HB.out⟩,?_⟩
    ·have:=HJi.out;congr 1;push_cast;omega
    ·simp[intOf]
  ·obtain rfl:k=an:=by omega
   rw[show(k:Int)-1-(k:Int)=-1 by omega,Nat.sub_self,List.drop_zero];clear hlt;have HS:Hid (Stt w na A none [] none [] wr):=⟨HB2.out.trans (HB.out.mono HB2.out.size),HGl.out _ (HB2.out.trans (HB.out.mono HB2.out.size)),HA2.out.below HB.out,fun i hi=>by simp at hi,fun i hi=>by simp at hi⟩;obtain⟨w6,hw6⟩:∃w6,w6=wr:=⟨_,rfl⟩;obtain rfl:=hw6;clear HB;obtain⟨TA,hTA⟩:∃T:Bs,T=wrtN A:=⟨_,rfl⟩;have lA:TA.length<=160:=by have:=wrtN_small A HsA.out;rw[<-hTA]at this;have:=HAn.out;omega
   have lB:=small_itoa B hB;have lK:=small_itoa (2+C) (by omega);have l3:=each_len;have l4:=esc_len;have l5:=def_len;obtain⟨X1,hX1⟩:∃T:Bs,T=eachTx++escTx:=⟨_,rfl⟩;obtain⟨X2,hX2⟩:∃T:Bs,T=X1++Lib.itoa B:=⟨_,rfl⟩;obtain⟨X3,hX3⟩:∃T:Bs,T=X2++[41,32,40,111,117,116,32,120,41,41,41,32,39,40]:=⟨_,rfl⟩;obtain⟨X4,hX4⟩:∃T:Bs,T=X3++TA:=⟨_,rfl⟩;obtain⟨X5,hX5⟩:∃T:Bs,T=X4++[41,41,41,41]:=⟨_,rfl⟩;obtain⟨D1,hD1⟩:∃T:Bs,T=defTx++Lib.itoa (2+C):=⟨_,rfl⟩;obtain⟨D2,hD2⟩:∃T:Bs,T=D1++[41,32,40,107,32,110,41,32,48,41]:=⟨_,rfl⟩;obtain⟨D3,hD3⟩:∃T:Bs,T=D2++[40,108,105,115,116,32,110,32,114,41]:=⟨_,rfl⟩;have eX1:X1.length=(eachTx:Bs).length+(escTx:Bs).length:=by rw[hX1,List.length_append]
   have eX2:X2.length=(X1:Bs).length+(Lib.itoa B:Bs).length:=by rw[hX2,List.length_append]
   have eX3:X3.length=(X2:Bs).length+([41,32,40,111,117,116,32,120,41,41,41,32,39,40]:Bs).length:=by rw[hX3,List.length_append]
   have eX4:X4.length=(X3:Bs).length+(TA:Bs).length:=by rw[hX4,List.length_append]
   have eX5:X5.length=(X4:Bs).length+([41,41,41,41]:Bs).length:=by rw[hX5,List.length_append]
   have eD1:D1.length=(defTx:Bs).length+(Lib.itoa (2+C):Bs).length:=by rw[hD1,List.length_append]
   have eD2:D2.length=(D1:Bs).length+([41,32,40,107,32,110,41,32,48,41]:Bs).length:=by rw[hD2,List.length_append]
   have eD3:D3.length=(D2:Bs).length+([40,108,105,115,116,32,110,32,114,41]:Bs).length:=by rw[hD3,List.length_append]
   simp only[List.length_cons,List.length_nil]at eX3 eX5 eD2 eD3;have aX1:∀w,(Op.stringOp .add ⟨#[40,100,101,102,105,110,101,32,40,101,97,99,104,32,102,32,108,41,32,40,105,102,32,40,110,117,108,108,63,32,108,41,32,35,102,32,40,98,101,103,105,110,32,40,102,32,40,99,97,114,32,108,41,41,32,40,101,97,99,104,32,102,32,40,99,100,114,32,108,41,41,41,41,41]⟩ ⟨#[40,99,97,108,108,47,99,99,32,40,108,97,109,98,100,97,32,40,111,117,116,41,32,40,101,97,99,104,32,40,108,97,109,98,100,97,32,40,120,41,32,40,105,102,32,40,60,32,120,32]⟩).run prog w=.ok (.string (bs X1)) w:=fun w=>bs_add' hX1 (by omega) w
   have aX2:∀w,(Op.stringOp .add (bs X1) ⟨(Lib.itoa B).toArray⟩).run prog w=.ok (.string (bs X2)) w:=fun w=>bs_add' hX2 (by omega) w
   have aX3:∀w,(Op.stringOp .add (bs X2) ⟨#[41,32,40,111,117,116,32,120,41,41,41,32,39,40]⟩).run prog w=.ok (.string (bs X3)) w:=fun w=>bs_add' hX3 (by omega) w
   have aX4:∀w,(Op.stringOp .add (bs X3) (bs TA)).run prog w=.ok (.string (bs X4)) w:=fun w=>bs_add' hX4 (by omega) w
   have aX5:∀w,(Op.stringOp .add (bs X4) ⟨#[41,41,41,41]⟩).run prog w=.ok (.string (bs X5)) w:=fun w=>bs_add' hX5 (by omega) w
   have aD1:∀w,(Op.stringOp .add ⟨#[40,100,101,102,105,110,101,32,107,32,35,102,41,40,100,101,102,105,110,101,32,110,32,48,41,40,100,101,102,105,110,101,32,114,32,40,43,32,49,48,48,32,40,99,97,108,108,47,99,99,32,40,108,97,109,98,100,97,32,40,99,41,32,40,98,101,103,105,110,32,40,115,101,116,33,32,107,32,99,41,32,48,41,41,41,41,41,40,115,101,116,33,32,110,32,40,43,32,110,32,49,41,41,40,105,102,32,40,60,32,110,32]⟩ ⟨(Lib.itoa (2+C)).toArray⟩).run prog w=.ok (.string (bs D1)) w:=fun w=>bs_add' hD1 (by omega) w
   have aD2:∀w,(Op.stringOp .add (bs D1) ⟨#[41,32,40,107,32,110,41,32,48,41]⟩).run prog w=.ok (.string (bs D2)) w:=fun w=>bs_add' hD2 (by omega) w
   have aD3:∀w,(Op.stringOp .add (bs D2) ⟨#[40,108,105,115,116,32,110,32,114,41]⟩).run prog w=.ok (.string (bs D3)) w:=fun w=>bs_add' hD3 (by omega) w
   have HX5:Hid (∀w:World,GT w->Rd.GV w->6<=w.heap.size->Calls prog 16 #[.string (bs X5),.string (bs (escWant A B))] w fun e w'=>e=.returned (.bool true)/\Below w.heap.size w w'):=by
    have h:=gv_of (gives_E A B hB HsA.out (by rw[<-HAn.out];omega));have e1:X5=tE A B:=by rw[hX5,hX4,hX3,hX2,hX1,hTA];simp[tE]
    rw[e1];exact h
   have HD3:Hid (∀w:World,GT w->Rd.GV w->6<=w.heap.size->Calls prog 16 #[.string (bs D3),.string ⟨#[40,49,32,49,48,49,41]⟩] w fun e w'=>e=.returned (.bool true)/\Below w.heap.size w w'):=by
    have h:=gv_of (gives_D (2+C) (by omega));have e1:D3=tD (2+C):=by rw[hD3,hD2,hD1];simp[tD]
    rw[e1];exact h
   have HwA:=hZ hTA;clear hTA lA lB lK l3 l4 l5 hX1 eX1 hX2 eX2 hX3 eX3 hX4 eX4 hX5 eX5 hD1 eD1 hD2 eD2 hD3 eD3;go_wp2_with (first|(go_at_call 12;refine(Tryz.strconv_Itoa (B) (by omega) (by omega) _ HS.out.2.1.1).mono ?_;rintro e w7 ⟨rfl,nq,os2,hw7⟩;have HW7:=hZ (hw7▸Lib.below_grow _ _ (Nat.le_refl _) nq os2:Below w6.heap.size w6 w7);clear hw7;refine Hid.out ?_))
   have HS:=hZ (HS.out.below HW7.out);clear HW7;refine hZ ?_;go_wp2_with (first|(go_at_call 19;refine(written19 _ _ _ A _ HAn.out (by omega) HS.out.pos HS.out.2.1.1 HS.out.2.2.1 (wide HsA.out)).mono ?_;rintro e w6 ⟨rfl,hb6⟩;refine Hid.out ?_))
   rw[<-HwA.out];have HS:=hZ (HS.out.below hb6);clear hb6;refine hZ ?_;go_wp2_with (first|(go_at_call 16;refine(HX5.out _ HS.out.2.1.1 HS.out.2.1.2.1 HS.out.2.1.2.2).mono ?_;rintro e w6 ⟨rfl,hb6⟩;refine Hid.out ?_))
   have HS:=hZ (HS.out.below hb6);clear hb6;refine hZ ?_;go_wp2_with (first|(go_at_call 21;refine(pick21 c 5 _ hc (by omega)).mono ?_;rintro e w8 ⟨rfl,hl8⟩;have HL8:=hZ (bl0 hl8);clear hl8;refine Hid.out ?_))
   rw[<-HC.out];have HS:=hZ (HS.out.below HL8.out);clear HL8;obtain⟨w6,hw6⟩:∃w6,w6=w8:=⟨_,rfl⟩;obtain rfl:=hw6;refine hZ ?_;go_wp2_with (first|(go_at_call 12;refine(Tryz.strconv_Itoa (2+C) (by omega) (by omega) _ HS.out.2.1.1).mono ?_;rintro e w7 ⟨rfl,nq,os2,hw7⟩;have HW7:=hZ (hw7▸Lib.below_grow _ _ (Nat.le_refl _) nq os2:Below w6.heap.size w6 w7);clear hw7;refine Hid.out ?_))
   have HS:=hZ (HS.out.below HW7.out);clear HW7;refine hZ ?_;go_wp2_with (first|(go_at_call 16;refine(HD3.out _ HS.out.2.1.1 HS.out.2.1.2.1 HS.out.2.1.2.2).mono ?_;rintro e w6 ⟨rfl,hb6⟩;refine Hid.out ?_))
   have HS:=hZ (HS.out.below hb6);clear hb6;refine hZ ?_;go_wp2;go_ret;exact⟨rfl,HS.out.1⟩
end
end Go.Proofs.YtldaocpojcfljaaGreatDoor
