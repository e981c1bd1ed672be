import Derived.Test.YtldaocpojcfljaaGreatDoorM03
import Derived.LaidEql
import Derived.Laws.EntriesVeiled
import Derived.Deep.LoopGhost
import Derived.OwnWalkIn
import Derived.RangeFuncNested
import Derived.RangeFuncBound
import Derived.RangeFuncCalls
import Derived.RangeFuncLeaves
import Derived.Shelf.RegionOpen
import Derived.TacticsInMore
import Derived.LoopNIn
import Derived.LoopIn
import Derived.Sort.LoopGhostIn
import Derived.RangeFuncFrom
set_option maxRecDepth 100000
set_option maxHeartbeats 4000000
namespace Go.Proofs.YtldaocpojcfljaaGreatDoor
open Tryz hiding parts
open Go.RowKit Go.Shelf
open Sc
variable {G H:Gh}{P:Program}{S:Sub}{W w w' w1 w2:Wd}{b hi j k k' lo n s sc sn t u:Nat}{c':Array Vu}{e:Ex}{l:List Ex}{m:Mc}{o:Obj}{p:Pm}{sh:List Nat}{x xa xl:Vu}{xs:List Vu}
section
theorem qhv{S:Sub}:∀(n:Nat) {m:Mc},(m.cells:Int)+n<=S.quota->qgb S n m=(.ok (),{m with cells:=m.cells+n})
 |0,m,_=>rfl
 |n+1,m,h=>by
  have a:(m.cells:Int)<S.quota:=by push_cast at h;omega
  simp only[qgb,Sc.cell,if_pos a];rw[qhv n (by push_cast at h|-;omega)];simp only[Nat.add_assoc,Nat.add_comm 1 n]
theorem qfx{S:Sub}:∀(n:Nat) {m:Mc},(m.cells:Int)<=S.quota->S.quota<(m.cells:Int)+n->qgb S n m=(.error 11,{m with cells:=S.quota.toNat})
 |0,m,h,h'=>by push_cast at h';omega
 |n+1,m,h,h'=>by
  by_cases a:(m.cells:Int)<S.quota
  ·simp only[qgb,Sc.cell,if_pos a];rw[qfx n (by push_cast;omega) (by push_cast at h'|-;omega)]
  ·simp only[qgb,Sc.cell,if_neg a];have:S.quota.toNat=m.cells:=by omega
   rw[this]
theorem qua(n o b mb a k N:Nat)(e:Dl)(t l:Int)(D:OA)(p:Array Vu)(w:Wd)(Q:En->Wd->Prop)
  (O:∀args w,(callFunc k args).run prog w=.ok (.enter k args) w)
  (q:∀e w,Q e w->(∃v,e=.returned v)\/(∃r,e=.panicked r))
  (P:w.cell? ⟨n,0,none⟩=some (.pointer (some ⟨mb,0,none⟩)))(R:w.cell? ⟨o,0,none⟩=some (.int .i64 (N:Int)))(S:w.cell? ⟨mb,1,none⟩=some (.pointer (some ⟨a,0,none⟩)))
  (s:∀j,w.cell? ⟨b,j,none⟩=e.cells[j]?)(hne:b≠a)(u:Mt a t l 11 w)(E:0<=t)(F:t+N<=l)(G:l<=1000000)
  (x:∀w',Lk (w.setCell ⟨a,0,none⟩ (.int .i64 (t+N))) w'->Calls prog 60 #[.agg e.cells] w' λH w2=>∃ty y,H=.returned (.iface ty y)/\∀w3,Lk w2 w3->Calls prog k (#[.iface ty y]++p) w3 Q):
  Calls prog 340 #[.pointer D,.func (.func k) #[] p,.pointer (some ⟨n,0,none⟩),.pointer (some ⟨o,0,none⟩),.pointer (some ⟨b,0,none⟩)] w Q:=by
 obtain⟨z,A,g,i,B,xa,c,d⟩:=e;have I:=hZ x;have J:=hZ q;have K:Hid (∀w',Lk w w'->Calls prog 200 #[.pointer (some ⟨a,0,none⟩),.int .i64 (N:Int)] w' λe w2=>e=.returned (.tuple #[])/\∃k,w2=(w'.setCell ⟨a,0,none⟩ (.int .i64 (t+N))).drewN k):=λw' L=>
  qcl a t l 11 N w' (by unfold Mt at*;rw[L.heap];exact u) E F (by omega) G
 have f:∀(j:Nat) (v:Vu),(w.setCell ⟨a,0,none⟩ v).cell? ⟨b,j,none⟩=(Dl.cells ⟨z,A,g,i,B,xa,c,d⟩)[j]?:=λj v=>(qbk hne).trans (s j)
 have T:∀v,(w.setCell ⟨a,0,none⟩ v).cell? ⟨b,0,none⟩=some (.int .i64 z):=λv=>f 0 v
 have U:∀v,(w.setCell ⟨a,0,none⟩ v).cell? ⟨b,1,none⟩=some (.int .i64 A):=λv=>f 1 v
 have V:∀v,(w.setCell ⟨a,0,none⟩ v).cell? ⟨b,2,none⟩=some (.bool g):=λv=>f 2 v
 have W:∀v,(w.setCell ⟨a,0,none⟩ v).cell? ⟨b,3,none⟩=some (.string i):=λv=>f 3 v
 have X:∀v,(w.setCell ⟨a,0,none⟩ v).cell? ⟨b,4,none⟩=some (.int .i64 B):=λv=>f 4 v
 have Y:∀v,(w.setCell ⟨a,0,none⟩ v).cell? ⟨b,5,none⟩=some (.slice xa c d):=λv=>f 5 v
 clear x q u f s;go_enter func340,ntmps340
 go_wp2;refine qal 5 (by kernel_rfl) (by kernel_rfl) ?_;simp only[List.take_succ_cons,List.take_zero,List.drop_succ_cons,List.drop_zero];repeat still_step
 refine wpStill_nil ?_;go_wp2_with (go_at_call 200;refine(K.out _ (by exact⟨rfl,rfl,rfl,rfl⟩)).mono ?_;rintro e w2 ⟨rfl,f,rfl⟩)
 go_wp2_with (go_at_call 60;refine(I.out _ (by exact⟨rfl,rfl,rfl,rfl⟩)).mono ?_;rintro e w2 ⟨ty,y,rfl,C⟩;have M:=hZ C;clear C)
 go_wp2_with (go_at_fn k;refine(M.out _ (by exact⟨rfl,rfl,rfl,rfl⟩)).mono ?_;intro e w3 m)
 all_goals first|exact m|exact⟨rfl,m⟩|(rcases J.out _ _ m with⟨v,h⟩|⟨r,h⟩ <;> cases h)
theorem qqy(f g i mb b k N:Nat)(t a:Int)(j:OA)(l:Array Vu)(w:Wd)
  (r:w.cell? ⟨f,0,none⟩=some (.pointer (some ⟨mb,0,none⟩)))(s:w.cell? ⟨g,0,none⟩=some (.int .i64 (N:Int)))(u:w.cell? ⟨mb,1,none⟩=some (.pointer (some ⟨b,0,none⟩)))
  (h:Mt b t a 11 w)(m:0<=t)(n:a<t+N)(d:t<=a)(o:a<=1000000):
  Calls prog 340 #[.pointer j,.func (.func k) #[] l,.pointer (some ⟨f,0,none⟩),.pointer (some ⟨g,0,none⟩),.pointer (some ⟨i,0,none⟩)] w λe w'=>e=.panicked (qan (qap 11))/\Below w.heap.size (w.setCell ⟨b,0,none⟩ (.int .i64 a)) w':=by
 have p:Hid (∀w',Lk w w'->Calls prog 200 #[.pointer (some ⟨b,0,none⟩),.int .i64 (N:Int)] w' λe w2=>e=.panicked (qan (qap 11))/\Below w'.heap.size (w'.setCell ⟨b,0,none⟩ (.int .i64 a)) w2):=λw' q=>
  qb3 b t a 11 N w' (by unfold Mt at*;rw[q.heap];exact h) m n (by omega) d o
 clear h;go_enter func340,ntmps340
 go_wp2;refine qal 5 (by kernel_rfl) (by kernel_rfl) ?_;simp only[List.take_succ_cons,List.take_zero,List.drop_succ_cons,List.drop_zero];repeat still_step
 refine wpStill_nil ?_;go_wp2_with (go_at_call 200;refine(p.out _ (by exact⟨rfl,rfl,rfl,rfl⟩)).mono ?_;rintro e w2 ⟨rfl,c⟩)
 exact⟨rfl,rfl,c.os,c.tape,c.output,c.size,c.block⟩
section
variable {S:Sub} {n:Nat} {G:Gh} {m:Mc} {k:List Fr}
theorem qy2(s:quv S n){env:Option Nat}{c:Nat}{f:Array Vu}{t:OA}(i:Inv G S {m with steps:=m.steps+1} w1)(B:FRep G k (.func (.func c) #[] f))(g:(m.steps:Int)<S.fuel){d:Dt}{h l q:Nat}{r:Dl}
  (K:G.mbox h)(L:G.I l=some (.cells #[.int .i64 (qaf d:Int)] 3 (0,0)))(C:G.I q=some (.cells r.cells 134 (0,0)))(M:DRep G d r)(D:Ct.ended (go S (n+1) (.ev (.quo d) env k) m).1=true):
  Calls prog 340 (#[.pointer t,.func (.func c) #[] f]++#[bp h,bp l,bp q]) w1 (Post G S (n+1) (.ev (.quo d) env k) m):=by
 have c1:w1.cell? ⟨h,0,none⟩=some (.pointer (some ⟨G.mb,0,none⟩)):=by rw[i.cell K];rfl
 have c2:w1.cell? ⟨l,0,none⟩=some (.int .i64 (qaf d:Int)):=by rw[i.cell L];rfl
 have o:(m.cells:Int)<=S.quota:=i.cl.1;by_cases b:(m.cells:Int)+qaf d<=S.quota
 ·have a:Sc.next S (.ev (.quo d) env k) m=(.ret (ql1 {m with steps:=m.steps+1,cells:=m.cells+qaf d} d).1 k,(ql1 {m with steps:=m.steps+1,cells:=m.cells+qaf d} d).2):=by
   simp only[Sc.next,Sc.step,if_pos g];rw[qhv (m:={m with steps:=m.steps+1}) _ b]
  rw[qbi a rfl]at D;obtain⟨Q,R,u,v⟩:=B.isF;cases u;have z:=i.cells (m.cells+qaf d) (by push_cast;exact b);have z:Inv G S {m with steps:=m.steps+1,cells:=m.cells+qaf d} (w1.setCell ⟨G.cb,0,none⟩ (.int .i64 ((m.cells:Int)+(qaf d:Int)))):=by simpa using z
  refine qua h l q G.mb G.cb c (qaf d) r m.cells S.quota t f w1 _ v Post.ends c1 c2 i.mb1 (λj=>i.cell C j) (i.ne C i.m3) i.ce (by omega) b (by have:=i.cl.2;omega) ?_;intro w' N;refine Calls.mono (q2b G S _ w' d r (Inv.lk N z) M) ?_;rintro T w2 ⟨H,x,rfl,E,hi,F,_⟩;obtain⟨ty,y,rfl⟩:=F.form;refine⟨ty,y,rfl,λw3 A=>?_⟩;exact Calls.mono (s H _ w3 _ k _ c f (Inv.lk A hi) F (B.mono E.le) D) λe w p=>Post.step a rfl E.up p
 ·have a:Sc.next S (.ev (.quo d) env k) m=(.stop 11,{m with steps:=m.steps+1,cells:=S.quota.toNat}):=by
   simp only[Sc.next,Sc.step,if_pos g];rw[qfx (m:={m with steps:=m.steps+1}) _ o (by show S.quota<(m.cells:Int)+(qaf d:Int);omega)]
  refine Calls.mono (qqy h l q G.mb G.cb c (qaf d) m.cells S.quota t f w1 c1 c2 i.mb1 i.ce (by omega) (by omega) o (by have:=i.cl.2;omega)) ?_;rintro e w' ⟨rfl,O⟩;have P:((S.quota.toNat:Nat):Int)=S.quota:=Int.toNat_of_nonneg (by have:(0:Int)<=(m.cells:Int):=Int.natCast_nonneg _;omega);have J:=i.cells S.quota.toNat (by omega);rw[P]at J;exact Post.step a rfl (Gh.up.refl G) (Post.now (.stop 11 _ _ (J.cntB (by rw[qag];exact eR _) O)))
end
end
theorem q1t{S:Sub}{n:Nat}(v:qq5 S n)(B:quv S n):qq5 S (n+1):=by
 intro G m w sh e env k T U V W X i Q C D x z;have L:e≠.skip:=by
  intro h;subst h;cases Q with
  |step sh e pm pc y o p h=>cases h
 refine qvi G m w sh e env k T U V W X i Q (λg=>?_) ?_
 ·cases e <;> first|exact absurd rfl L|simp[Sc.next,Sc.step,g]
 ·intro ky cy w1 A hi g;cases hi with
  |quo _ d H I R el o p J Y=>exact qy2 B A x g o p J Y z
  |loc sh u j N q Z hj E M=>exact qy3 B A C D x g Z hj M E.1 E.2 z
  |glo sh s q b M E=>exact qy6 B A x g M E z
  |ite sh c t e H I R xc xe xt o p J O F P=>exact qy5 v A C D x g o p J O F P z
  |setL sh u j a H I xa xs o p K F=>exact qma v A C D x (by simp[Sc.next,Sc.step,g]) o p K F z
  |setG sh s a H I xa xs o p K F=>exact qma v A C D x (by simp[Sc.next,Sc.step,g]) o p K F z
  |defG sh s a H I xa xs o p K F=>exact qma v A C D x (by simp[Sc.next,Sc.step,g]) o p K F z
  |lam sh N r l H I R xb xl o p J hl E=>exact qy4 B A C D x g o p J hl E z
  |app sh f l H I sl xs o p E hr hx=>exact qy7 v A C D x g o p E hr hx z
  |seq sh a l y h=>exact qy0 v A C D x g h z
theorem LRow.vals{sa:OA}{vs:List Vl}(h:LRow G w.heap (.slice sa sn sc) vs):
  ∃xs,VsRep G vs xs/\xs.length=sn/\sn=vs.length/\(xs=[]\/∃g o,sa=some ⟨g,o,none⟩/\∀(j:Nat) (h:j<xs.length),w.cell? ⟨g,o+j,none⟩=some xs[j])/\(∀g o,sa=some ⟨g,o,none⟩->xs≠[]->g∉G.mut)/\xs.length<=1000000:=by
 rcases h with⟨rfl,a,cap,h⟩|⟨g,o,cap,b,h,hne,t,u,q,k,_,_,n⟩
 ·cases h;exact⟨[],⟨rfl,λi v x h=>by simp at h⟩,rfl,rfl,.inl rfl,λ_ _ _ h=>absurd rfl h,by simp⟩
 ·cases h;have l:∀i,i<vs.length->((b.toList.drop o).take vs.length)[i]? =b[o+i]?:=λi hi=>by
   rw[List.getElem?_take,if_pos hi,List.getElem?_drop];simp
  have c:((b.toList.drop o).take vs.length).length=vs.length:=by
   apply Nat.le_antisymm
   ·simp;omega
   ·rcases Nat.lt_or_ge ((b.toList.drop o).take vs.length).length vs.length with d|hge
    ·obtain⟨x,m,_⟩:=n _ _ (eG d);have:=l _ d;rw[m]at this;rw[List.getElem?_eq_none (eR _)]at this;cases this
    ·exact hge
  refine⟨(b.toList.drop o).take vs.length,⟨c.symm,λi v x p f=>?_⟩,c,rfl,.inr ⟨g,o,rfl,λj r=>?_⟩,λz o' e _=>by cases e;exact k,by omega⟩
  ·obtain⟨y,m,s⟩:=n i v p;rw[l i (eL.1 p).1,m]at f;cases f;exact s
  ·have:=l j (by omega);simp only[World.cell?,q];rw[<-eG r,this];simp
section
theorem qsr(a:OA)(n cap:Nat)(w:Wd)(_:n<=1000000):Calls prog 258 #[.slice a n cap,.int .i64 (n:Int)] w λe w'=>e=.returned (.tuple #[])/\w'=w:=by
 have c:((n:Int)==(n:Int))=true:=by simp
 go_enter func258,ntmps258
 go_wp2_with (go_at_call 273;refine(qc8 _ _).mono ?_;rintro e w2 ⟨rfl,b⟩;obtain rfl:=b.symm)
 go_end0;exact⟨rfl,rfl⟩
theorem qp1(a:OA)(n N cap:Nat)(w:Wd)(_:n<=1000000)(hne:n≠N):Calls prog 258 #[.slice a n cap,.int .i64 (N:Int)] w λe w'=>e=.panicked (qan (qap 7))/\∃o,w'=w.alloc o:=by
 have b:((n:Int)==(N:Int))=false:=by simp;omega
 go_enter func258,ntmps258
 go_wp2_with (go_at_call 273;refine(qc9 _ _).mono ?_;rintro e w2 ⟨rfl,o,rfl⟩)
 exact⟨rfl,rfl,o,rfl⟩
end
section
def VTy(t:Nat):Prop:=t=180\/t=181\/t=182\/t=183\/t=186\/t=379\/t=246\/t=281\/t=285\/t=322
theorem isV(t:Nat)(y:Vu)(h:VTy t)(w:Wd):(Instr.typeAssert (.iface t y) 116 116 true).run prog w=.ok (.tuple #[.iface t y,.bool true]) w:=by
 rcases h with rfl|rfl|rfl|rfl|rfl|rfl|rfl|rfl|rfl|rfl
 ·kernel_rfl
 ·kernel_rfl
 ·kernel_rfl
 ·kernel_rfl
 ·kernel_rfl
 ·kernel_rfl
 ·kernel_rfl
 ·kernel_rfl
 ·kernel_rfl
 ·kernel_rfl
theorem VRep.vty{v:Sc.Vl}{y:Vu}(h:VRep G v (.iface t y)):VTy t:=by
 unfold VTy;cases h <;> simp
theorem qx5(t:Nat)(y:Vu)(w:Wd)(a:VTy t):Calls prog 269 #[.iface t y] w λe w'=>e=.returned (.iface t y)/\w'=w:=by
 have b:∀w,(Instr.typeAssert (.iface t y) 116 116 true).run prog w=.ok (.tuple #[.iface t y,.bool true]) w:=λw=>isV t y a w
 clear a;go_enter func269,ntmps269
 go_wp2;go_ret;exact⟨rfl,rfl⟩
end
section
theorem qrg(g o cap q c d:Nat)(k t1:Nat)(l m:Vu)(r s:Array Vu)(w:Wd)(Q:En->Wd->Prop)
  (E:∀args w,(callFunc c args).run prog w=.ok (.enter c args) w)(F:∀args w,(callFunc d args).run prog w=.ok (.enter d args) w)
  (u:∀e w,Q e w->(∃v,e=.returned v)\/(∃f,e=.panicked f))(i:VTy k)(j:VTy t1)
  (G:w.cell? ⟨g,o,none⟩=some (.iface k (l)))(H:w.cell? ⟨g,o+1,none⟩=some (.iface t1 (m)))(b:w.cell? ⟨q,0,none⟩=some (.func (.func c) #[] r))
  (x:∀w',Lk w w'->Calls prog c (#[.iface k l,.iface t1 m]++r) w' λe w1=>(∃t y,e=.returned (.iface t y)/\∀w2,Lk w1 w2->Calls prog d (#[.iface t y]++s) w2 Q)\/((∃f,e=.panicked f)/\Q e w1)):
  Calls prog 270 #[.slice (some ⟨g,o,none⟩) 2 cap,.func (.func d) #[] s,.pointer (some ⟨q,0,none⟩)] w Q:=by
 have A:=hZ x;have B:=hZ u;have C:=hZ (qsr (some ⟨g,o,none⟩) 2 cap w (by omega));have n:=hZ (λw=>qx5 k l w i);have p:=hZ (λw=>qx5 t1 m w j);clear i j;clear x u;go_enter func270,ntmps270
 go_wp2_with (go_at_call 258;refine C.out.mono ?_;rintro e w2 ⟨rfl,a⟩;obtain rfl:=a.symm;refine Hid.out ?_)
 refine hZ ?_;go_wp2_with (go_at_call 269;refine(n.out _).mono ?_;rintro e w2 ⟨rfl,a⟩;obtain rfl:=a.symm;refine Hid.out ?_)
 refine hZ ?_;go_wp2_with (go_at_call 269;refine(p.out _).mono ?_;rintro e w2 ⟨rfl,a⟩;obtain rfl:=a.symm;refine Hid.out ?_)
 refine hZ ?_;go_wp2_with (go_at_fn c;refine(A.out _ (by exact⟨rfl,rfl,rfl,rfl⟩)).mono ?_;rintro e w1 (⟨t,y,rfl,z⟩|⟨⟨f,rfl⟩,b⟩))
 ·have D:=hZ z;clear z;go_wp2_with (go_at_fn d;refine(D.out _ (by exact⟨rfl,rfl,rfl,rfl⟩)).mono ?_;intro e w3 b)
  all_goals first|exact b|exact⟨rfl,b⟩|(rcases B.out _ _ b with⟨v,h⟩|⟨f,h⟩ <;> cases h)
 ·exact⟨rfl,b⟩
theorem qpf(a:OA)(n cap q:Nat)(b:Nat)(c:Array Vu)(w:Wd)(d:n<=1000000)(hne:n≠2):
  Calls prog 270 #[.slice a n cap,.func (.func b) #[] c,.pointer (some ⟨q,0,none⟩)] w λe w'=>e=.panicked (qan (qap 7))/\∃o,w'=w.alloc o:=by
 have f:=hZ (qp1 a n 2 cap w d hne);go_enter func270,ntmps270
 go_wp2_with (go_at_call 258;refine f.out.mono ?_;rintro e w2 ⟨rfl,o,rfl⟩)
 exact⟨rfl,rfl,o,rfl⟩
end
theorem qy1{S:Sub}{n:Nat}(z:qq5 S n)(E:quv S n):quv S (n+1):=by
 intro G m w v k x ku cu i F d o;cases d with
 |nil q h=>exact qze i F h
 |ite sh t e env k p s A H xe xt u I f g j D J K B C d=>exact qzf z E i F f g j D J K B C d o
 |set sh t env k p s A xs u I f g j J B C d=>exact qzd E i F f g j J B C d o
 |body sh l env k p s A xl u I f g j V B C d=>exact qvs z i f g j V B C d o
 |app sh vs l env k p s A H O q6 q7 sl P u xs I pd f g j D L W X Q R Y M B C d=>exact qzg z i F f g j D L W X Q R Y M B C d o
 |wind1 a b c k p s A H O ba bb Z u f g j D L ha Q M d=>exact absurd o (qfb rfl rfl _)
 |wind2 c T k p s A H Z u wp f g j D hw M d=>exact absurd o (qfb rfl rfl _)
 |wind3 v0 k p s P u f g N d=>exact absurd o (qfb rfl rfl _)
 |back T v0 k r p s A H O sl P u wp f g j D L R N hw d=>exact absurd o (qfb rfl rfl _)
 |into now T v0 k r p s A y np f g j U hy=>exact absurd o (qfb rfl rfl _)
theorem qdt(S:Sub):∀n,qq5 S n/\quv S n
 |0=>⟨λG m w sh e env k d b f c g _ _ _ _ _ a=>by simp[go,Ct.ended]at a,λG m w v k x b c _ _ _ a=>by simp[go,Ct.ended]at a⟩
 |n+1=>⟨q1t (qdt S n).1 (qdt S n).2,qy1 (qdt S n).1 (qdt S n).2⟩
def PostS(G:Gh)(S:Sub)(n:Nat)(c:Ct)(m:Mc)(e:En)(w:Wd):Prop:=∃j c' m',j<n/\go S n c m=go S j c' m'/\Out G S c' m' e w
theorem PostS.post{c:Ct}{e:En}(p:PostS G S n c m e w):Post G S n c m e w:=by
 obtain⟨j,c',a,b,d,f⟩:=p;exact⟨j,c',a,Nat.le_of_lt b,d,f⟩
theorem PostS.ends{c:Ct}:∀e w,PostS G S n c m e w->(∃v,e=.returned v)\/(∃a,e=.panicked a):=λe w p=>Post.ends e w p.post
theorem PostS.cell{c:Ct}{v:Vu}(h:PostS G S n c m (.returned v) w)(a:G.I b=some (.cells #[x] t (0,0))):w.cell? ⟨b,0,none⟩=some x:=h.post.cell a
theorem Post.stepS{c c1:Ct}{m1:Mc}{e:En}(a:Sc.next S c m=(c1,m1))(b:Ct.ended c=false)(d:G.up H)(p:Post H S n c1 m1 e w):PostS G S (n+1) c m e w:=by
 obtain⟨j,c',f,i,g,h⟩:=p;exact⟨j,c',f,by omega,by rw[qbi a b];exact g,h.up d⟩
theorem qnq{S:Sub}{n:Nat}(J:qq5 S n)(G:Gh)(m:Mc)(w:Wd)(id N:Nat)(l:List Ex)(env:Option Nat)(al:List Vl)(k:List Fr)(sh:List Nat)(K M O D:Nat)(H:Array Vu)(xl xb:Vu)(c sa:OA)(sn sc:Nat)
  (i:Inv G S m w)(P:G.I K=some (.cells #[xl] 241 (0,0)))(Q:G.I M=some (.cells #[xb] 440 (0,0)))(R:G.I O=some (.cells #[.pointer c] 378 (0,0)))(hl:SRep G (N::sh) l xl)(hx:BRep G N false xb)(hn:NRep G env c)(hs:Sh G sh c)(hk:FRep G k (.func (.func D) #[] H))
  (hr:LRow G w.heap (.slice sa sn sc) al)(he:Ct.ended (go S (n+1) (.ap (.lam id N false l env) al k) m).1=true):
  Calls prog 383 (#[.slice sa sn sc,.func (.func D) #[] H]++#[bp K,bp M,bp O]) w (PostS G S (n+1) (.ap (.lam id N false l env) al k) m):=by
 obtain⟨k1,c1,rfl,T⟩:=hl.isF;have U:sn=al.length:=by
  rcases hr with⟨rfl,a,cap,h⟩|⟨g,o,cap,t,h,_⟩
  ·cases h;rfl
  ·cases h;rfl
 subst U;cases hx with
 |num N x y V W=>
  have A:(m.cells:Int)<=S.quota:=i.cl.1;refine qwe K M O k1 363 D c1 #[bp x,bp y] H sa c al.length sc w _ T q5x PostS.ends (λv w' p=>⟨p.cell P,p.cell Q,p.cell R⟩) (by rw[i.cell P];rfl) (by rw[i.cell Q];rfl) (by rw[i.cell R];rfl) ?_;intro w0 f;have d:=Inv.lk f i;have X:w0.cell? ⟨x,0,none⟩=some (.int .i64 (N:Int)):=by rw[d.cell V];rfl
  have d2:w0.cell? ⟨y,0,none⟩=some (.pointer (some ⟨G.mb,0,none⟩)):=by rw[d.cell W];rfl
  by_cases Y:al.length=N
  ·subst Y;by_cases j:(m.cells:Int)+al.length<=S.quota
   ·have b:Sc.next S (.ap (.lam id al.length false l env) al k) m=(qge l (some m.envs.length) k,{m with cells:=m.cells+al.length,envs:=m.envs++[(al,env)]}):=by
     simp only[Sc.next,qnr,ne_eq,not_true_eq_false,if_false,Bool.false_eq_true];rw[qhv _ j]
    rw[qbi b rfl]at he;refine Calls.mono (qxf x y G.mb G.cb al.length sc sa m.cells S.quota w0 X d2 d.mb1 d.ce (by omega) j (by have:=i.cl.2;omega)) ?_;rintro e w1 ⟨rfl,r⟩;left;have s:=d.cells (m.cells+al.length) (by push_cast;exact j);have s:Inv G S {m with cells:=m.cells+al.length} w1:=Inv.lk r (by simpa using s);refine⟨sa,al.length,sc,rfl,⟨by rw[s.cell P];rfl,by rw[s.cell Q];rfl,by rw[s.cell R];rfl⟩,?_⟩;intro w2 B;have ia:=s.alloc (.cells #[.slice sa al.length sc,.pointer c] 461);have xa:=s.x1 (.cells #[.slice sa al.length sc,.pointer c] 461);have Z:=Inv.lk B ia;have C:LRow (G.add w1.heap.size (.cells #[.slice sa al.length sc,.pointer c] 461)) w2.heap (.slice sa al.length sc) al:=by
     rcases hr with⟨r1,r2⟩|⟨g,o,cap,t,r1,r2,r3,r4,r5,r6,r7,r8,r9⟩
     ·exact .inl ⟨r1,r2⟩
     ·have a2:g<w.heap.size:=(eE.1 r5).1;have a3:w1.heap.size=w.heap.size:=by rw[r.heap,qag,f.heap]
      have a0:g≠G.cb:=λe=>r6 (e▸i.m3)
      refine .inr ⟨g,o,cap,t,r1,r2,r3,r4,?_,by rw[xa.mut];exact r6,by rw[xa.I (by omega)];exact r7,by rw[xa.F];exact r8,λq u hu=>by obtain⟨z,z1,z2⟩:=r9 q u hu;exact⟨z,z1,z2.mono xa.le⟩⟩;rw[B.heap,eH _ _ _ (by omega),r.heap,qab (a:=⟨G.cb,0,none⟩) g a0,f.heap];exact r5
    have ie:=Z.pushEnv (Gh.add_at _ _ _) (hn.mono xa.le) C;have L:=xa.le.trans (Gh.le_env (G.add w1.heap.size (.cells #[.slice sa al.length sc,.pointer c] 461)) w1.heap.size (.slice sa al.length sc));have a1:NRep ((G.add w1.heap.size (.cells #[.slice sa al.length sc,.pointer c] 461)).env w1.heap.size (.slice sa al.length sc)) (some m.envs.length) (some ⟨w1.heap.size,0,none⟩):=
     .some _ _ (.slice sa al.length sc) (by show(G.E++[_])[m.envs.length]? =_;rw[show m.envs.length=G.E.length from i.el.symm];simp)
    exact Calls.mono (qi6 J _ _ w2 (al.length::sh) l (some m.envs.length) k k1 D c1 H _ ie (hl.mono L) a1 (.cons al.length sh _ sa sc c (Gh.add_at _ _ _) (hs.mono L)) (hk.mono L) he) λe w p=>Post.stepS b rfl ⟨L,rfl,rfl⟩ p
   ·have b:Sc.next S (.ap (.lam id al.length false l env) al k) m=(.stop 11,{m with cells:=S.quota.toNat}):=by
     simp only[Sc.next,qnr,ne_eq,not_true_eq_false,if_false,Bool.false_eq_true];rw[qfx _ A (by omega)]
    refine Calls.mono (quh x y G.mb G.cb al.length sc sa m.cells S.quota w0 X d2 d.mb1 d.ce (by omega) (by omega) A (by have:=i.cl.2;omega)) ?_;rintro e w1 ⟨rfl,hb⟩;have hq:((S.quota.toNat:Nat):Int)=S.quota:=Int.toNat_of_nonneg (by have:(0:Int)<=(m.cells:Int):=Int.natCast_nonneg _;omega);have i1:=d.cells S.quota.toNat (by omega);rw[hq]at i1;exact .inr ⟨⟨_,rfl⟩,Post.stepS b rfl (Gh.up.refl G) (Post.now (.stop 11 _ _ (i1.cntB (by rw[qag];exact eR _) hb)))⟩
  ·have b:Sc.next S (.ap (.lam id N false l env) al k) m=(.stop 7,m):=by
    simp[Sc.next,qnr,Y]
   refine Calls.mono (qui x y N al.length sc sa w0 X Y) ?_;rintro e w1 ⟨rfl,o,rfl⟩;exact .inr ⟨⟨_,rfl⟩,Post.stepS b rfl (Gh.up.refl G) (Post.now (.stop 7 _ _ (d.cntB (eR _) ((Below.refl _ _).alloc (eR _) _))))⟩
theorem q6h:Eg 257:=qa0 func257 (by kernel_rfl) (by kernel_rfl)
theorem q6g:Eg 268:=qa0 func268 (by kernel_rfl) (by kernel_rfl)
theorem q6f:Eg 270:=qa0 func270 (by kernel_rfl) (by kernel_rfl)
theorem q6e:Eg 271:=qa0 func271 (by kernel_rfl) (by kernel_rfl)
theorem q6i:Eg 204:=qa0 func204 (by kernel_rfl) (by kernel_rfl)
theorem q6d:Eg 274:=qa0 func274 (by kernel_rfl) (by kernel_rfl)
theorem q6c:Eg 276:=qa0 func276 (by kernel_rfl) (by kernel_rfl)
theorem q6b:Eg 277:=qa0 func277 (by kernel_rfl) (by kernel_rfl)
theorem q6a:Eg 278:=qa0 func278 (by kernel_rfl) (by kernel_rfl)
theorem q59:Eg 280:=qa0 func280 (by kernel_rfl) (by kernel_rfl)
theorem q58:Eg 284:=qa0 func284 (by kernel_rfl) (by kernel_rfl)
theorem q57:Eg 286:=qa0 func286 (by kernel_rfl) (by kernel_rfl)
theorem q5q:Eg 383:=qa0 func383 (by kernel_rfl) (by kernel_rfl)
theorem PRep.isF(h:PRep G p x):IsF x:=by
 have a:p.form≠3->Eg p.wrapF:=λb=>by
  have h:p.wrapF=257\/p.wrapF=268\/p.wrapF=270\/p.wrapF=271\/p.wrapF=204\/p.wrapF=274\/p.wrapF=276\/p.wrapF=277\/p.wrapF=278\/p.wrapF=280\/p.wrapF=284\/p.wrapF=286:=by
   cases p <;> first|exact absurd rfl b|simp[Sc.Pm.wrapF]
  rcases h with h|h|h|h|h|h|h|h|h|h|h|h
  ·rw[h];exact q6h
  ·rw[h];exact q6g
  ·rw[h];exact q6f
  ·rw[h];exact q6e
  ·rw[h];exact q6i
  ·rw[h];exact q6d
  ·rw[h];exact q6c
  ·rw[h];exact q6b
  ·rw[h];exact q6a
  ·rw[h];exact q59
  ·rw[h];exact q58
  ·rw[h];exact q57
 cases h with
 |bare q b h=>exact⟨_,_,rfl,a (by rw[b];decide)⟩
 |mach q r b h c=>exact⟨_,_,rfl,a (by rw[b];decide)⟩
 |self q b h=>exact⟨_,_,rfl,a (by rw[b];decide)⟩
def q3p(S:Sub)(n:Nat):Prop:=∀(G:Gh) (m:Mc) (w:Wd) (p:Pm) (al:List Vl) (k:List Fr) (kx ku:Nat) (cx cu:Array Vu) (sa:OA) (sn sc:Nat),TabW G->Inv G S m w->PRep G p (.func (.func kx) #[] cx)->FRep G k (.func (.func ku) #[] cu)->LRow G w.heap (.slice sa sn sc) al->
 Ct.ended (go S (n+1) (.ap (.prim p) al k) m).1=true->Calls prog kx (#[.slice sa sn sc,.func (.func ku) #[] cu]++cx) w (PostS G S (n+1) (.ap (.prim p) al k) m)
theorem q1u{S:Sub}{n:Nat}(P:q3p S n)(G:Gh)(tw:TabW G)(m:Mc)(w:Wd)(f:Vl)(al:List Vl)(k:List Fr)(x:Vu)(i:Inv G S m w)(Q:NxRep G w.heap f al k x)(s:Ct.ended (go S (n+1) (.ap f al k) m).1=true):
  ∃d,x=.func (.func 311) #[] d/\Calls prog 311 (#[]++d) w (PostS G S (n+1) (.ap f al k) m):=by
 cases Q with
 |mk t v y b R u T U V W I A=>
  refine⟨_,rfl,?_⟩;obtain⟨h,j,rfl,X⟩:=A.isF;obtain⟨sa,sn,sc,rfl⟩:∃sa sn sc,R=.slice sa sn sc:=by
   rcases I with⟨_,a,cap,e⟩|⟨g,o,cap,Y,e,_⟩
   ·exact⟨_,_,_,e⟩
   ·exact⟨_,_,_,e⟩
  have c1:w.cell? ⟨t,0,none⟩=some (.pointer (some ⟨b,0,none⟩)):=by rw[i.cell T];rfl
  have c2:w.cell? ⟨v,0,none⟩=some (.slice sa sn sc):=by rw[i.cell U];rfl
  have c3:w.cell? ⟨y,0,none⟩=some (.func (.func h) #[] j):=by rw[i.cell V];rfl
  have J:∀w',Lk w w'->LRow G w'.heap (.slice sa sn sc) al:=λw' c=>by rw[c.heap];exact I
  show Calls prog 311 #[bp t,bp v,bp y] w _;cases W with
  |lam sh id N r l env b B C D xl Z pf hj z K L M E F hn hs=>
   refine qx6 t v y b 383 #[bp B,bp C,bp D] sa sn sc h j w _ q5q PostS.ends c1 (by rw[i.cell z];rfl) c2 c3 ?_;intro w' c;cases r with
   |false=>exact qnq (qdt S n).1 G m w' id N l env al k sh B C D h j xl Z pf sa sn sc (Inv.lk c i) K L M E F hn hs A (J w' c) s
   |true=>exact absurd s (qfb rfl rfl _)
  |prim p x z q=>
   obtain⟨O,d,rfl,H⟩:=q.isF;refine qx6 t v y _ O d sa sn sc h j w _ H PostS.ends c1 (by rw[i.cell z];rfl) c2 c3 ?_;intro w' c;exact P G m w' p al k O h d j sa sn sc tw (Inv.lk c i) q A (J w' c) s
  |cont id kc ws b B C D u' wp hj z K L M a0 a1=>exact absurd s (qfb rfl rfl _)
inductive RunOut (G:Gh) (S:Sub):Ct->Mc->En->Wd->Prop where
 |done (v:Vl) (m:Mc) (w:Wd) (H:Gh) (x:Vu) (hu:G.up H) (hi:Inv H S m w) (hx:VRep H v x):RunOut G S (.done v) m (.returned x) w
 |stop (vd:Nat) (m:Mc) (w:Wd) (hc:Cnt G S m w):RunOut G S (.stop vd) m (.panicked (qan (qyx vd m))) w
def q3u(G:Gh)(S:Sub)(r:Ct×Mc)(k:Nat)(x:Vu)(wr:Wd):Prop:=∃j c m1 H,j<=k/\r=go S j c m1/\G.up H/\Inv H S m1 wr/\((∃f l kk,c=.ap f l kk/\NxRep H wr.heap f l kk x)\/(∃v y,c=.done v/\x=.nilFunc/\wr.cell? ⟨H.mb,3,none⟩=some y/\VRep H v y))
theorem qpy(w:Wd):(binOp .neq 297 .nilFunc .nilFunc).run prog w=.ok (.bool false) w:=by
 have h:∀d,(Op.equalIn (d+1) 297 .nilFunc .nilFunc).run prog w=.ok true w:=λd=>by simp[Op.equalIn,run_underlying underlying297]
 have e:(Op.equal 297 .nilFunc .nilFunc).run prog w=.ok true w:=h 9999;simp[binOp,e]
theorem qmq(f:Fn)(a c:Array Vu)(w:Wd):(binOp .neq 297 (.func f a c) .nilFunc).run prog w=.ok (.bool true) w:=by
 have h:∀d,(Op.equalIn (d+1) 297 (.func f a c) .nilFunc).run prog w=.ok false w:=λd=>by simp[Op.equalIn,run_underlying underlying297]
 have e:(Op.equal 297 (.func f a c) .nilFunc).run prog w=.ok false w:=h 9999;simp[binOp,e]
theorem q56:Eg 311:=qa0 func311 (by kernel_rfl) (by kernel_rfl)
theorem qmf{G b H:Gh}{S:Sub}{r:Ct×Mc}{n k:Nat}{c:Ct}{m:Mc}{e:En}{w:Wd}(d:b.up H)(q:G.up b)(a:r=go S n c m)(u:Ct.ended r.1=true)(j:n<=k)(o:Out H S c m e w):
  (∃x,e=.returned x/\q3u b S r k x w)\/(∃p,e=.panicked p/\RunOut G S r.1 r.2 (.panicked p) w):=by
 cases o with
 |ap f l s m w L x g hi h=>exact .inl ⟨x,rfl,n,_,m,L,j,a,d.trans g,hi,.inl ⟨f,l,s,rfl,h⟩⟩
 |done v m w L x g hi i h=>exact .inl ⟨_,rfl,n,_,m,L,j,a,d.trans g,hi,.inr ⟨v,x,rfl,rfl,i,h⟩⟩
 |stop t m w i=>
  rw[qov n rfl]at a;subst a;exact .inr ⟨_,rfl,.stop t m w (i.up (q.trans d))⟩
theorem qhd(X:∀n,q3p S n)(G:Gh)(tw:TabW G)(m:Mc)(w:Wd)(t:Nat)(M:Array Vu)(N:Nat)(r:Ct×Mc)(i:Inv G S m w)(O:Eg t)(P:Ct.ended r.1=true)
  (Q:∀w',Lk (w.alloc (.cells #[bp G.mb] 107)) w'->Calls prog t (#[.pointer none,.func (.func 230) #[] #[bp w.heap.size]]++M) w' λe w2=>(∃x,e=.returned x/\q3u (G.add w.heap.size (.cells #[bp G.mb] 107)) S r N x w2)\/(∃b,e=.panicked b/\RunOut G S r.1 r.2 (.panicked b) w2)):
  Calls prog 143 #[bp G.mb,.func (.func t) #[] M] w λe w'=>RunOut G S r.1 r.2 e w':=by
 have Y:=hZ Q;have F:=hZ P;have J:=hZ i;have K:=hZ tw;clear tw;have Z:∀args w,(callFunc 311 args).run prog w=.ok (.enter 311 args) w:=q56;have eg:∀args w,(callFunc t args).run prog w=.ok (.enter t args) w:=O;clear Q P i O;go_enter func143,ntmps143
 go_wp2_with (go_at_fn t;refine(Y.out _ (by exact⟨rfl,rfl,rfl,rfl⟩)).mono ?_;rintro e w2 (⟨x,rfl,E⟩|⟨b,rfl,E⟩))
 ·have HX:=hZ E;clear E;go_wp2;go_loopg [5] N (λk x wr=>q3u (G.add w.heap.size (.cells #[bp G.mb] 107)) S r k x wr)
  case atStart=>exact HX.out
  case round=>
   obtain⟨j,c,m1,H,R,u,T,hi,g⟩:=hrel;have d:=hZ u;have z:=hZ T;have o:=hZ hi;have HJ:=hZ R;clear u T hi R;rcases g with⟨f,l,U,rfl,A⟩|⟨v,y,rfl,rfl,hy,p⟩
   ·obtain⟨n,rfl⟩:∃n,j=n+1:=by
     cases j with
     |zero=>have h:=F.out;rw[d.out]at h;simp[go,Ct.ended]at h
     |succ n=>exact⟨n,rfl⟩
    have V:Ct.ended (go S (n+1) (.ap f l U) m1).1=true:=by rw[<-d.out];exact F.out
    obtain⟨c3,rfl,a⟩:=q1u (X n) H (((K.out).up ⟨Gh.le_add (J.out.fresh (eR _)),rfl,rfl⟩).up z.out) m1 wr f l U _ o.out A V;have q:∀w,(binOp BinOp.neq 297 (.func (.func 311) #[] c3) .nilFunc).run prog w=.ok (.bool true) w:=λw=>qmq _ _ _ w
    have W:Hid (Calls prog 311 (#[]++c3) wr λe w2=>(∃x,e=.returned x/\q3u (G.add w.heap.size (.cells #[bp G.mb] 107)) S r n x w2)\/(∃b,e=.panicked b/\RunOut G S r.1 r.2 (.panicked b) w2)):=by
     refine Calls.mono a ?_;rintro e w2 ⟨j',c',m',a0,B,C⟩;exact qmf z.out ⟨Gh.le_add (J.out.fresh (eR _)),rfl,rfl⟩ (d.out.trans B) F.out (by omega) C
    have e3:(#[]++c3:Array Vu)=c3:=by simp
    have L:Hid (Calls prog 311 c3 wr λe w2=>(∃x,e=.returned x/\q3u (G.add w.heap.size (.cells #[bp G.mb] 107)) S r n x w2)\/(∃b,e=.panicked b/\RunOut G S r.1 r.2 (.panicked b) w2)):=by
     have:=W.out;rw[e3]at this;exact this
    clear A a V e3 W;go_wp2_with (go_at_fn 311;refine L.out.mono ?_;rintro e w2 (⟨x2,rfl,s⟩|⟨b,rfl,s⟩))
    ·go_wp2;go_roundg n
     case measure=>have:=HJ.out;omega
     case rel=>exact s
    ·exact⟨rfl,s⟩
   ·have q:∀w,(binOp BinOp.neq 297 .nilFunc .nilFunc).run prog w=.ok (.bool false) w:=λw=>qpy w
    obtain⟨ty,yy,rfl⟩:=p.form;have c1:wr.cell? ⟨w.heap.size,0,none⟩=some (.pointer (some ⟨G.mb,0,none⟩)):=by
     rw[o.out.cell (z.out.le.I (Gh.add_at _ _ _))];rfl
    have D:H.mb=G.mb:=z.out.le.mb;rw[D]at hy;have HV:=hZ p;clear p D;go_wp2;go_ret;have e:=d.out;rw[qov j rfl]at e;subst e;exact .done v m1 wr H _ (Gh.up.trans ⟨Gh.le_add (J.out.fresh (eR _)),rfl,rfl⟩ z.out) o.out HV.out
 ·exact⟨rfl,E⟩
theorem qwu(h:∀n,q3p S n)(G:Gh)(tw:TabW G)(m:Mc)(w:Wd)(e:Ex)(a:Nat)(b:Array Vu)(N:Nat)(i:Inv G S m w)(f:CRep G [] e (.func (.func a) #[] b))(c:Ct.ended (go S N (.ev e none []) m).1=true):
  Calls prog 143 #[bp G.mb,.func (.func a) #[] b] w λg w'=>RunOut G S (go S N (.ev e none []) m).1 (go S N (.ev e none []) m).2 g w':=by
 obtain⟨s,t,d,k⟩:=f.isF;cases d;have l:=i.alloc (.cells #[bp G.mb] 107);have x1:=i.x1 (.cells #[bp G.mb] 107);refine qhd h G tw m w a b N _ i k c λw' o=>?_
 refine Calls.mono ((qdt S N).1 _ m w' [] e none [] a 230 b _ none (Inv.lk o l) (f.mono x1.le) .none (.nil none) (.nil w.heap.size (Gh.add_at _ _ _)) c) ?_;rintro g w2 ⟨j,c',u,p,q,r⟩;exact qmf (Gh.up.refl _) x1.up q c p r
theorem qve(g:∀n,q3p S n)(G:Gh)(tw:TabW G)(m:Mc)(w:Wd)(N:Nat)(i:Inv G S m w)(a:Ct.ended (go S N (.ev .skip none []) m).1=true):
  Calls prog 143 #[bp G.mb,.func (.func 235) #[] #[]] w λf w'=>RunOut G S (go S N (.ev .skip none []) m).1 (go S N (.ev .skip none []) m).2 f w':=by
 have k:=i.alloc (.cells #[bp G.mb] 107);have x1:=i.x1 (.cells #[bp G.mb] 107);obtain⟨n,rfl⟩:∃n,N=n+1:=by
  cases N with
  |zero=>simp[go,Ct.ended]at a
  |succ n=>exact⟨n,rfl⟩
 have b:Sc.next S (.ev .skip none []) m=(.ret .none [],m):=rfl;refine qhd g G tw m w 235 #[] (n+1) _ i q26 a λw' l=>?_
 rw[qbi b rfl]at a|-;refine qog 230 none #[bp w.heap.size] w' _ q27 (λe w h=>?_) ?_
 ·rcases h with⟨x,rfl,_⟩|⟨q,rfl,_⟩
  ·exact .inl ⟨_,rfl⟩
  ·exact .inr ⟨_,rfl⟩
 ·intro c d;refine Calls.mono ((qdt S n).2 _ m c .none [] _ 230 _ (Inv.lk d (Inv.lk l k)) .none (.nil w.heap.size (Gh.add_at _ _ _)) a) ?_;rintro f w2 ⟨j,c',r,s,o,p⟩;exact qmf (Gh.up.refl _) x1.up o a (by omega) p
def WorkOk(G:Gh)(S:Sub)(rv:Except Nat Vl×Mc)(e:En)(w1:Wd):Prop:=
 (∃H v' m' x',rv=(.ok v',m')/\e=.returned x'/\G.up H/\Inv H S m' w1/\VRep H v' x')\/(∃vd m',rv=(.error vd,m')/\e=.panicked (qan (qyx vd m'))/\Cnt G S m' w1)
def q6q(S:Sub)(p:Pm):Prop:=∀m k l,qnr S (.prim p) l k m=(if !p.isList&&l.length !=p.kinds.length then(.stop 7,m)else if p.grant !=0&&!qth p l then(.stop 9,m)else if !p.isList&&(List.zip p.kinds l).any (λq=>!q.1.ok q.2)then(.stop 6,m)else match qfa S m p l with
    |(.error e,m)=>(.stop e,m)
    |(.ok v,m)=>(.ret v k,m))
theorem WorkOk.bool{b:Bool}{rv:Except Nat Vl×Mc}(h:rv=(.ok (.bool b),m))(i:Inv G S m w):WorkOk G S rv (.returned (.iface 181 (.bool b))) w:=
 .inl ⟨G,_,_,_,h,rfl,Gh.up.refl G,i,.bool b⟩
theorem qtv(d:Nat)(b f:Nat)(w:Wd){c:Array Vu}(i:w.heap[b]? =some (.cells c k (0,0)))(g:w.heap[f]? =some (.cells c' k' (0,0))):(Op.equalIn (d+1) 246 (.pointer (some ⟨b,0,none⟩)) (.pointer (some ⟨f,0,none⟩))).run prog w=.ok (b==f) w:=by
 by_cases e:b=f
 ·subst e;simp[Op.equalIn,run_underlying underlying246,run_sameAddr_same,go_sem]
 ·have j:=run_sameAddr_other (P:=prog) (w:=w) (a:=⟨b,0,none⟩) (b:=⟨f,0,none⟩) (by intro h;cases h;exact e rfl) i g;simp[Op.equalIn,run_underlying underlying246,j,go_sem,e]
theorem qw3(b a:Nat)(w:Wd){c:Array Vu}(f:w.heap[b]? =some (.cells c k (0,0)))(e:w.heap[a]? =some (.cells c' k' (0,0))):(binOp .eql 116 (.iface 246 (bp b)) (.iface 246 (bp a))).run prog w=.ok (.bool (b==a)) w:=
 qc4 246 _ _ _ w w λd=>by
  have h:=qtv d b a w f e;have g:=run_underlying (w:=w) underlying116;rw[Op.equalIn];simp[run_underlying underlying116,q3c,h]
theorem qtu(d:Nat)(b f:Nat)(w:Wd){c:Array Vu}(i:w.heap[b]? =some (.cells c k (0,0)))(g:w.heap[f]? =some (.cells c' k' (0,0))):(Op.equalIn (d+1) 281 (.pointer (some ⟨b,0,none⟩)) (.pointer (some ⟨f,0,none⟩))).run prog w=.ok (b==f) w:=by
 by_cases e:b=f
 ·subst e;simp[Op.equalIn,run_underlying underlying281,run_sameAddr_same,go_sem]
 ·have j:=run_sameAddr_other (P:=prog) (w:=w) (a:=⟨b,0,none⟩) (b:=⟨f,0,none⟩) (by intro h;cases h;exact e rfl) i g;simp[Op.equalIn,run_underlying underlying281,j,go_sem,e]
theorem qw2(b a:Nat)(w:Wd){c:Array Vu}(f:w.heap[b]? =some (.cells c k (0,0)))(e:w.heap[a]? =some (.cells c' k' (0,0))):(binOp .eql 116 (.iface 281 (bp b)) (.iface 281 (bp a))).run prog w=.ok (.bool (b==a)) w:=
 qc4 281 _ _ _ w w λd=>by
  have h:=qtu d b a w f e;have g:=run_underlying (w:=w) underlying116;rw[Op.equalIn];simp[run_underlying underlying116,q3b,h]
theorem qtt(d:Nat)(b f:Nat)(w:Wd){c:Array Vu}(i:w.heap[b]? =some (.cells c k (0,0)))(g:w.heap[f]? =some (.cells c' k' (0,0))):(Op.equalIn (d+1) 285 (.pointer (some ⟨b,0,none⟩)) (.pointer (some ⟨f,0,none⟩))).run prog w=.ok (b==f) w:=by
 by_cases e:b=f
 ·subst e;simp[Op.equalIn,run_underlying underlying285,run_sameAddr_same,go_sem]
 ·have j:=run_sameAddr_other (P:=prog) (w:=w) (a:=⟨b,0,none⟩) (b:=⟨f,0,none⟩) (by intro h;cases h;exact e rfl) i g;simp[Op.equalIn,run_underlying underlying285,j,go_sem,e]
theorem qgo(b a:Nat)(w:Wd){c:Array Vu}(f:w.heap[b]? =some (.cells c k (0,0)))(e:w.heap[a]? =some (.cells c' k' (0,0))):(binOp .eql 116 (.iface 285 (bp b)) (.iface 285 (bp a))).run prog w=.ok (.bool (b==a)) w:=
 qc4 285 _ _ _ w w λd=>by
  have h:=qtt d b a w f e;have g:=run_underlying (w:=w) underlying116;rw[Op.equalIn];simp[run_underlying underlying116,q3a,h]
theorem qts(d:Nat)(b f:Nat)(w:Wd){c:Array Vu}(i:w.heap[b]? =some (.cells c k (0,0)))(g:w.heap[f]? =some (.cells c' k' (0,0))):(Op.equalIn (d+1) 322 (.pointer (some ⟨b,0,none⟩)) (.pointer (some ⟨f,0,none⟩))).run prog w=.ok (b==f) w:=by
 by_cases e:b=f
 ·subst e;simp[Op.equalIn,run_underlying underlying322,run_sameAddr_same,go_sem]
 ·have j:=run_sameAddr_other (P:=prog) (w:=w) (a:=⟨b,0,none⟩) (b:=⟨f,0,none⟩) (by intro h;cases h;exact e rfl) i g;simp[Op.equalIn,run_underlying underlying322,j,go_sem,e]
theorem qw1(b a:Nat)(w:Wd){c:Array Vu}(f:w.heap[b]? =some (.cells c k (0,0)))(e:w.heap[a]? =some (.cells c' k' (0,0))):(binOp .eql 116 (.iface 322 (bp b)) (.iface 322 (bp a))).run prog w=.ok (.bool (b==a)) w:=
 qc4 322 _ _ _ w w λd=>by
  have h:=qts d b a w f e;have g:=run_underlying (w:=w) underlying116;rw[Op.equalIn];simp[run_underlying underlying116,q29,h]
theorem qso{l:List Nat}(h:l.Nodup){a c:Nat}(b:a<l.length)(d:c<l.length)(e:l[a]=l[c]):a=c:=by
 have:=List.pairwise_iff_getElem.mp h;rcases Nat.lt_trichotomy a c with q|q|q
 ·exact absurd e (this a c b d q)
 ·exact q
 ·exact absurd e.symm (this c a d b q)
theorem Inv.jinj(i:Inv G S m w){a c b':Nat}(h:G.J[a]? =some b)(d:G.J[c]? =some b'):(b==b')=(a==c):=by
 by_cases e:a=c
 ·subst e;rw[h]at d;cases d;simp
 ·have:b≠b':=λf=>by
   subst f;obtain⟨g,e1⟩:=eL.mp h;obtain⟨j,e2⟩:=eL.mp d;exact e (qso i.jn g j (e1.trans e2.symm))
  rw[beq_eq_false_iff_ne.mpr this,beq_eq_false_iff_ne.mpr e]
theorem qhw(a b:BA):(a==b)=(a.data.toList==b.data.toList):=by
 have e1:(a==b)=decide (a=b):=by
  rcases a with⟨a⟩;rcases b with⟨b⟩;have:((⟨a⟩:BA)==⟨b⟩)=(a==b):=rfl;rw[this];by_cases e:a=b
  ·subst e;simp
  ·simp[e]
 rw[e1];by_cases e:a=b
 ·subst e;simp
 ·have h:a.data.toList≠b.data.toList:=λh=>e (by
   rcases a with⟨a⟩;rcases b with⟨b⟩;exact congrArg ByteArray.mk (Array.toList_inj.mp h))
  rw[beq_eq_false_iff_ne.mpr h];simp[e]
def Pm.mark(p:Pm):Nat×Nat×Nat:=(p.form,p.wrapF,if p.form=2 then 0 else p.workF)
theorem Pm.mark_inj(p q:Pm)(a:p.form<=2)(b:Pm.mark p=Pm.mark q):p=q:=by
 revert a b
 cases p <;> cases q <;> first|(intro _ _;rfl)|(intro a b;exfalso;revert a b;decide)
theorem Pm.name_inj(p q:Pm)(h:p.name=q.name):p=q:=by
 revert h
 cases p <;> cases q <;> first|(intro _;rfl)|(intro h;exfalso;revert h;decide)
theorem PRep.inj{G:Gh}{p q:Pm}{x:Vu}(i:PRep G p x)(e:PRep G q x):p=q:=by
 cases i with
 |bare a f h=>
  generalize d:Value.func (.func p.wrapF) #[] #[bp a]=x at e;cases e with
  |bare a' c b=>
   injection d with e1 _ e2;injection e1 with e1
   have:a=a':=by simpa[bp]using e2
   subst this;rw[h]at b;simp at b;exact Pm.mark_inj _ _ (by omega) (by simp[Pm.mark,f,c,e1,b.1])
  |mach a' r c b j=>
   injection d with e1 _ e2
   have:a=a':=by simpa[bp]using e2
   subst this;rw[h]at b;simp at b
  |self a' c b=>
   injection d with e1 _ e2
   have:a=a':=by simpa[bp]using e2
   subst this;rw[Gh.mbox,h]at b;simp[bp]at b
 |mach a r f h j=>
  generalize d:Value.func (.func p.wrapF) #[] #[bp a]=x at e;cases e with
  |bare a' c b=>
   injection d with e1 _ e2
   have:a=a':=by simpa[bp]using e2
   subst this;rw[h]at b;simp at b
  |mach a' k c b g=>
   injection d with e1 _ e2;injection e1 with e1
   have:a=a':=by simpa[bp]using e2
   subst this;rw[h]at b;simp at b;exact Pm.mark_inj _ _ (by omega) (by simp[Pm.mark,f,c,e1,b.1])
  |self a' c b=>
   injection d with e1 _ e2
   have:a=a':=by simpa[bp]using e2
   subst this;rw[Gh.mbox,h]at b;simp[bp]at b
 |self a f h=>
  generalize d:Value.func (.func p.wrapF) #[] #[bp a]=x at e;cases e with
  |bare a' c b=>
   injection d with e1 _ e2
   have:a=a':=by simpa[bp]using e2
   subst this;rw[Gh.mbox,b]at h;simp[bp]at h
  |mach a' k c b g=>
   injection d with e1 _ e2
   have:a=a':=by simpa[bp]using e2
   subst this;rw[Gh.mbox,b]at h;simp[bp]at h
  |self a' c b=>
   injection d with e1 _ e2;injection e1 with e1
   exact Pm.mark_inj _ _ (by omega) (by simp[Pm.mark,f,c,e1])
theorem QRep.cells{G:Gh}{v:Vl}{b:Nat}(h:QRep G v b):∃x,G.I b=some (.cells #[x] 300 (0,0)):=by
 cases h with
 |lam _ _ _ _ _ _ _ _ _ _ _ _ _ _ a=>exact⟨_,a⟩
 |prim _ _ a=>exact⟨_,a⟩
 |cont _ _ _ _ _ _ _ _ _ _ a=>exact⟨_,a⟩
theorem PRep.form(h:PRep G p x):p.form<=2/\∃q,x=.func (.func p.wrapF) #[] #[bp q]:=by
 cases h <;> exact⟨by omega,_,rfl⟩
theorem QRep.same{G:Gh}{S:Sub}{m:Mc}{w:Wd}(i:Inv G S m w){v u:Vl}{b F:Nat}(h:QRep G v b)(C:QRep G u F):(b==F)=eq v u:=by
 cases h with
 |lam sh id n r l env _ O Q R xl X Y D d=>
  cases C with
  |lam y f H I J s _ g j o z A B c a=>exact i.jinj D c
  |prim p x a t=>
   show(b==_)=false;refine beq_eq_false_iff_ne.mpr λe=>?_
   rw[<-e,d]at a;obtain⟨K,q,rfl⟩:=t.form;simp at a
  |cont f k L _ g j o u M c a=>
   refine beq_eq_false_iff_ne.mpr λe=>?_
   rw[<-e,d]at a;simp at a
 |prim p x d t=>
  obtain⟨K,q,N⟩:=t.form;cases C with
  |lam y f H I J s _ g j o z A B c a=>
   refine beq_eq_false_iff_ne.mpr λe=>?_
   rw[<-e,d,N]at a;simp at a
  |prim p' x' a E=>
   show _=(p.name==p'.name);by_cases e:p=p'
   ·subst e;simp
   ·have T:p.name≠p'.name:=λh=>e (Pm.name_inj _ _ h)
    have U:G.P p≠G.P p':=λh=>by
     rw[h,a]at d;simp at d;subst d;exact e (t.inj E)
    rw[beq_eq_false_iff_ne.mpr T,beq_eq_false_iff_ne.mpr U]
  |cont f k L _ g j o u M c a=>
   refine beq_eq_false_iff_ne.mpr λe=>?_
   rw[<-e,d,N]at a;simp at a
 |cont id k L _ O Q R u M D d=>
  cases C with
  |lam y f H I J s _ g j o z A B c a=>
   refine beq_eq_false_iff_ne.mpr λe=>?_
   rw[<-e,d]at a;simp at a
  |prim p x a t=>
   refine beq_eq_false_iff_ne.mpr λe=>?_
   rw[<-e,d]at a;obtain⟨K,q,rfl⟩:=t.form;simp at a
  |cont f k' V _ g j o Z W c a=>exact i.jinj D c
theorem VRep.same{G:Gh}{S:Sub}{m:Mc}{w:Wd}(i:Inv G S m w){v u:Vl}{x y:Vu}(h:VRep G v x)(f:VRep G u y):(binOp .eql 116 x y).run prog w=.ok (.bool (eq v u)) w:=by
 cases h with
 |num n H I=>
  cases f with
  |num n' _ _=>exact qwz _ _ w
  |proc v b h=>rw[qa6 _ _ _ _ (by decide)];cases h <;> rfl
  |_=>exact qa6 _ _ _ _ (by decide) w
 |bool b=>
  cases f with
  |bool b'=>exact qho _ _ w
  |proc v b h=>rw[qa6 _ _ _ _ (by decide)];cases h <;> rfl
  |_=>exact qa6 _ _ _ _ (by decide) w
 |str t _=>
  cases f with
  |str A _=>rw[qwy,qhw];rfl
  |proc v b h=>rw[qa6 _ _ _ _ (by decide)];cases h <;> rfl
  |_=>exact qa6 _ _ _ _ (by decide) w
 |sym t _=>
  cases f with
  |sym A _=>rw[qwx,qhw];rfl
  |proc v b h=>rw[qa6 _ _ _ _ (by decide)];cases h <;> rfl
  |_=>exact qa6 _ _ _ _ (by decide) w
 |nil=>
  cases f with
  |nil=>exact qw0 w
  |proc v b h=>rw[qa6 _ _ _ _ (by decide)];cases h <;> rfl
  |_=>exact qa6 _ _ _ _ (by decide) w
 |none=>
  cases f with
  |none=>exact qtq w
  |proc v b h=>rw[qa6 _ _ _ _ (by decide)];cases h <;> rfl
  |_=>exact qa6 _ _ _ _ (by decide) w
 |pair id b _ _ _ _ k g=>
  cases f with
  |pair j b' _ _ _ _ c a=>rw[qw3 _ _ w (i.imm g) (i.imm a),i.jinj k c];rfl
  |proc v b h=>rw[qa6 _ _ _ _ (by decide)];cases h <;> rfl
  |_=>exact qa6 _ _ _ _ (by decide) w
 |proc v b p=>
  cases f with
  |proc u b' l=>
   obtain⟨z,B⟩:=p.cells;obtain⟨J,r⟩:=l.cells;rw[qw2 _ _ w (i.imm B) (i.imm r),p.same i l]
  |_=>rw[qa6 _ _ _ _ (by decide)];cases p <;> rfl
 |«seal» id b q v x k g=>
  cases f with
  |«seal» j b' q' v' x' c a=>rw[qgo _ _ w (i.imm g) (i.imm a),i.jinj k c];rfl
  |sealD j b' C D d e c a=>
   rw[qgo _ _ w (i.imm g) (i.imm a)];have:b≠b':=λe=>by rw[<-e,g]at a;simp at a
   rw[beq_eq_false_iff_ne.mpr this];rfl
  |proc v b h=>rw[qa6 _ _ _ _ (by decide)];cases h <;> rfl
  |_=>exact qa6 _ _ _ _ (by decide) w
 |sealD id b C D d e k g=>
  cases f with
  |«seal» j b' q' v' x' c a=>
   rw[qgo _ _ w (i.imm g) (i.imm a)];have:b≠b':=λe=>by rw[<-e,g]at a;simp at a
   rw[beq_eq_false_iff_ne.mpr this];rfl
  |sealD j b' E F L M c a=>rw[qgo _ _ w (i.imm g) (i.imm a),i.jinj k c];rfl
  |proc v b h=>rw[qa6 _ _ _ _ (by decide)];cases h <;> rfl
  |_=>exact qa6 _ _ _ _ (by decide) w
 |grant n s=>
  cases f with
  |grant n' o=>
   rw[qw1 _ _ w (i.imm s) (i.imm o)];show _=Result.ok (Value.bool (n==n')) w;by_cases e:n=n'
   ·subst e;simp
   ·have:G.K n≠G.K n':=λh=>by rw[h,o]at s;simp at s;omega
    rw[beq_eq_false_iff_ne.mpr this,beq_eq_false_iff_ne.mpr e]
  |proc v b h=>rw[qa6 _ _ _ _ (by decide)];cases h <;> rfl
  |_=>exact qa6 _ _ _ _ (by decide) w
theorem q7g(x y:Vu)(b:Bool)(w:Wd)(h:∀w',Lk w w'->(binOp .eql 116 x y).run prog w'=.ok (.bool b) w')(t u:Nat)(x' a:Vu)(c:x=.iface t x')(d:y=.iface u a):Calls prog 196 #[x,y] w λe w'=>e=.returned (.iface 181 (.bool b))/\w'=w:=by
 subst c d;have f:=h w (by exact⟨rfl,rfl,rfl,rfl⟩);clear h;go_enter func196,ntmps196
 go_wp2;go_ret;exact⟨rfl,rfl⟩
theorem q0w(m:Mc)(H:Gh)(w:Wd)(v u:Vl)(x y:Vu)(i:Inv H S m w)(a:VRep H v x)(b:VRep H u y):Calls prog 196 (#[x,y]++#[]) w (WorkOk H S (qfa S m .eqQ [v,u])):=by
 obtain⟨t,x',rfl⟩:=a.form;obtain⟨s,d,rfl⟩:=b.form;refine Calls.mono (q7g _ _ (eq v u) w (λw' c=>(a.same (Inv.lk c i) b)) _ _ _ _ rfl rfl) ?_;rintro e w' ⟨rfl,rfl⟩;exact WorkOk.bool rfl i
theorem LRow.two{h:Array Obj}{sa:OA}{v u:Vl}(j:LRow G h (.slice sa 2 sc) [v,u]):∃g o a x y,sa=some ⟨g,o,none⟩/\2<=sc/\2<=1000000/\h[g]? =some (.cells a 116 (0,0))/\g∉G.mut/\G.I g=none/\a[o]? =some x/\VRep G v x/\a[o+1]? =some y/\VRep G u y:=by
 rcases j with⟨h,_⟩|⟨g,o,cap,a,e,hne,b,c,k,d,f,l,i⟩
 ·simp at h
 ·cases e;obtain⟨x,m,n⟩:=i 0 v rfl;obtain⟨y,p,q⟩:=i 1 u rfl;exact⟨g,o,a,x,y,rfl,by simpa using b,c,k,d,f,m,n,p,q⟩
theorem qgc{S:Sub}{n:Nat}(p:Pm)(f:Nat)(E:Array Vu)(ef:Eg f)(r:p.kinds=[.any,.any])(F:p.grant=0)(A:p.isList=false)(W:q6q S p)
  (G:Gh)(m:Mc)(w:Wd)(al:List Vl)(k:List Fr)(q B tq:Nat)(C:Array Vu)(sa:OA)(sn sc:Nat)
  (j:∀(H:Gh) (w':Wd) (v u:Vl) (x y:Vu),G.up H->Inv H S m w'->VRep H v x->VRep H u y->Calls prog f (#[x,y]++E) w' (WorkOk H S (qfa S m p [v,u])))
  (i:Inv G S m w)(hq:G.I q=some (.cells #[.func (.func f) #[] E] tq (0,0)))(X:FRep G k (.func (.func B) #[] C))(J:LRow G w.heap (.slice sa sn sc) al)(Y:Ct.ended (go S (n+1) (.ap (.prim p) al k) m).1=true):
  Calls prog 270 (#[.slice sa sn sc,.func (.func B) #[] C]++#[bp q]) w (PostS G S (n+1) (.ap (.prim p) al k) m):=by
 have K:sn=al.length:=by
  rcases J with⟨rfl,a,cap,h⟩|⟨g,o,cap,L,h,_⟩
  ·cases h;rfl
  ·cases h;rfl
 by_cases d:sn=2
 ·subst d;obtain⟨v,u,rfl⟩:∃v u,al=[v,u]:=by
   match al,K with
   | [a,b],_=>exact⟨a,b,rfl⟩
  obtain⟨g,o,L,x,y,rfl,a0,a1,Z,a2,a3,M,N,O,l⟩:=J.two;have c:Sc.next S (.ap (.prim p) [v,u] k) m=(match qfa S m p [v,u]with
    |(.error e,m)=>(.stop e,m)
    |(.ok v,m)=>(.ret v k,m)):=by
   show qnr S (.prim p) [v,u] k m=_;rw[W];simp[r,F,A,Kd.ok] <;> rfl
  obtain⟨t,x',rfl⟩:=N.form;obtain⟨s,y',rfl⟩:=l.form;obtain⟨kk,ck,P,Q⟩:=X.isF;cases P;refine qrg g o sc q f B t s x' y' E C w _ ef Q PostS.ends N.vty l.vty (by simp only[World.cell?,Z];simpa using M) (by simp only[World.cell?,Z];simpa using O) (by rw[i.cell hq];rfl) ?_;intro w' hw;refine Calls.mono (j _ w' v u _ _ (Gh.up.refl G) (Inv.lk hw i) N l) ?_;rintro e w1 (⟨H,v',R,z,e1,rfl,l,hi,D⟩|⟨vd,R,e1,rfl,T⟩)
  ·rw[e1]at c;rw[qbi c rfl]at Y;obtain⟨t',z',rfl⟩:=D.form;refine .inl ⟨t',z',rfl,λw2 U=>?_⟩;exact Calls.mono ((qdt S n).2 H R w2 v' k _ B C (Inv.lk U hi) D (X.mono l.le) Y) λe w p=>Post.stepS c rfl l p
  ·rw[e1]at c;exact .inr ⟨⟨_,rfl⟩,Post.stepS c rfl (Gh.up.refl _) (Post.now (.stop vd R w1 T))⟩
 ·have V:Sc.next S (.ap (.prim p) al k) m=(.stop 7,m):=by
   show qnr S (.prim p) al k m=_;rw[W];have:al.length≠2:=by omega
   simp[r,A,this]
  obtain⟨xs,_,a4,_,_,_,a5⟩:=J.vals;refine Calls.mono (qpf sa sn sc q B C w (by omega) d) ?_;rintro e w' ⟨rfl,o',rfl⟩;exact Post.stepS V rfl (Gh.up.refl G) (Post.now (.stop 7 _ _ (i.cntB (eR _) ((Below.refl _ _).alloc (eR _) _))))
theorem q06(r mb a c ty:Nat)(t b:Int)(x y:Vu)(w:Wd)
  (j:w.cell? ⟨r,0,none⟩=some (.pointer (some ⟨mb,0,none⟩)))(k:w.cell? ⟨mb,1,none⟩=some (.pointer (some ⟨a,0,none⟩)))(d:Mt a t b 11 w)(f:0<=t)(g:t+1<=b)(h:b<=1000000):
  Calls prog 199 #[.iface c x,.iface ty y,.pointer (some ⟨r,0,none⟩)] w λe w'=>e=.returned (.iface 246 (.pointer (some ⟨w.heap.size,0,none⟩)))/\Lk ((w.setCell ⟨a,0,none⟩ (.int .i64 (t+1))).alloc (.cells #[.iface c x,.iface ty y] 252)) w':=by
 have i:=hZ (qcl a t b 11 1 w d f g (by omega) h);clear d;go_enter func199,ntmps199
 go_wp2_with (go_at_call 200;refine i.out.mono ?_;rintro e w2 ⟨rfl,n,rfl⟩)
 go_wp2;go_ret;exact⟨rfl,⟨rfl,rfl,rfl,rfl⟩⟩
theorem qxc(r mb a c ty:Nat)(t:Int)(x y:Vu)(w:Wd)
  (i:w.cell? ⟨r,0,none⟩=some (.pointer (some ⟨mb,0,none⟩)))(j:w.cell? ⟨mb,1,none⟩=some (.pointer (some ⟨a,0,none⟩)))(b:Mt a t t 11 w)(d:0<=t)(f:t<=1000000):
  Calls prog 199 #[.iface c x,.iface ty y,.pointer (some ⟨r,0,none⟩)] w λe w'=>e=.panicked (qan (qap 11))/\Below w.heap.size (w.setCell ⟨a,0,none⟩ (.int .i64 t)) w':=by
 have g:=hZ (qb3 a t t 11 1 w b d (by omega) (by omega) (by omega) f);clear b;go_enter func199,ntmps199
 go_wp2_with (go_at_call 200;refine g.out.mono ?_;rintro e w2 ⟨rfl,h⟩)
 exact⟨rfl,rfl,h⟩
theorem quc(m:Mc)(H:Gh)(w:Wd)(v u:Vl)(x y:Vu)(r:Nat)(n:H.mbox r)(i:Inv H S m w)(g:VRep H v x)(h:VRep H u y):Calls prog 199 (#[x,y]++#[bp r]) w (WorkOk H S (qfa S m .cons [v,u])):=by
 have c1:w.cell? ⟨r,0,none⟩=some (.pointer (some ⟨H.mb,0,none⟩)):=by rw[i.cell n];rfl
 obtain⟨t,x',rfl⟩:=g.form;obtain⟨s,a,rfl⟩:=h.form;by_cases b:(m.cells:Int)<S.quota
 ·have c:=i.cells (m.cells+1) (by push_cast;omega);have c:Inv H S {m with cells:=m.cells+1} (w.setCell ⟨H.cb,0,none⟩ (.int .i64 ((m.cells:Int)+1))):=by simpa using c
  refine Calls.mono (q06 r H.mb H.cb t s m.cells S.quota x' a w c1 i.mb1 i.ce (by omega) (by omega) (by have:=i.cl.2;omega)) ?_;rintro e w' ⟨rfl,o⟩;have j:=c.newObj (.cells #[.iface t x',.iface s a] 252);have d:=c.ext_newObj (.cells #[.iface t x',.iface s a] 252);have k:=c.at_newObj (.cells #[.iface t x',.iface s a] 252);have f:(w.setCell ⟨H.cb,0,none⟩ (.int .i64 ((m.cells:Int)+1))).heap.size=w.heap.size:=qag;rw[f]at j d k;exact .inl ⟨_,_,_,_,by simp[qfa,new,Sc.cell,b],rfl,d.up,Inv.lk o j,.pair m.ids w.heap.size v u _ _ k (Gh.add_at _ _ _) (g.mono d.le) (h.mono d.le)⟩
 ·have p:(m.cells:Int)=S.quota:=by have:(m.cells:Int)<=S.quota:=i.cl.1;omega
  have l:Mt H.cb m.cells S.quota 11 w:=i.ce;rw[<-p]at l;refine Calls.mono (qxc r H.mb H.cb t s m.cells x' a w c1 i.mb1 l (by omega) (by have:=i.cl.2;omega)) ?_;rintro e w' ⟨rfl,q⟩;have z:=i.cells m.cells (by omega);exact .inr ⟨11,m,by simp[qfa,new,Sc.cell,b],rfl,z.cntB (by rw[qag];exact eR _) q⟩
theorem qck{c:Nat}{v:Vu}(h:w.heap[c]? =some (.cells #[x] t (0,0))):(w.setCell ⟨c,0,none⟩ v).heap[c]? =some (.cells #[v] t (0,0)):=by
 simp[World.setCell,Array.getElem?_modify,h]
theorem Inv.lt(i:Inv G S m w)(h:G.I b=some o):b<w.heap.size:=by
 have:=i.imm h;rcases Nat.lt_or_ge b w.heap.size with h|h
 ·exact h
 ·rw[Array.getElem?_eq_none h]at this;cases this
theorem Inv.grown(i:Inv G S m w){row:Option Nat}(d:w.grownBy w' row)(t:∀b,row=some b->G.I b=Option.none/\b∉G.mut/\¬G.F b):Inv G S m w':=by
 have k:∀c,c<w.heap.size->(G.I c≠Option.none\/c∈G.mut\/G.F c)->w'.heap[c]? =w.heap[c]?:=λc a h=>d.block c a λe=>by
  obtain⟨l,p,q⟩:=t c e.symm;rcases h with h|h|h
  ·exact h l
  ·exact p h
  ·exact q h
 have f:∀{c:Nat},c∈G.mut->w'.heap[c]? =w.heap[c]?:=fun {c} a=>k c (i.ml a) (.inr (.inl a))
 refine⟨fun {c x} a=>by rw[k c (i.lt a) (.inl (by rw[a];exact nofun))];exact i.imm a,i.nd,i.mi,λh=>eW (i.ml h) d.size,i.st.keep (f i.m2),i.ce.keep (f i.m3),i.sl,i.cl,by rw[f i.m1];exact i.ma,by rw[f i.m4];exact i.mp,fun {s c} h=>by rw[f (i.m5 h)];exact i.gl h,i.gd,i.gk,?_,i.el,i.jl,i.jn,i.ji,⟨d.os.trans i.fo.1,d.tape.trans i.fo.2.1,d.output.trans i.fo.2.2⟩,fun {b} h=>⟨by rw[k b (i.ff h).2 (.inr (.inr h))];exact(i.ff h).1,eW (i.ff h).2 d.size⟩,i.fm,i.fi⟩;intro j vs e u;obtain⟨v,y,z,l,p,q,A⟩:=i.en u;exact⟨v,y,z,l,p,q,A.mono (Gh.le.refl _) λg o n cap r=>f (i.m6 (by rw[l,r]))⟩
theorem qsj{e:Nat}{v:Vu}{a:Addr}(h:w.ownsRow lo e s v n xs)(j:a.block<lo):(w.setCell a x).ownsRow lo e s v n xs:=by
 refine⟨h.1,?_⟩;rcases h.2 with h|⟨g,cap,b,c,d,f,i⟩
 ·exact .inl h
 ·exact .inr ⟨g,cap,b,c,d,by rw[qab _ (by omega)];exact f,i⟩
theorem qk6{e:Nat}{v:Vu}(h:w.ownsRow lo e s v n xs)(b:Lk w w'):w'.ownsRow lo e s v n xs:=by
 refine⟨h.1,?_⟩;rcases h.2 with h|⟨g,cap,a,c,d,f,i⟩
 ·exact .inl h
 ·exact .inr ⟨g,cap,a,c,d,by rw[b.heap];exact f,i⟩
theorem qcg{row:Option Nat}(h:(w.alloc o).grownBy w2 row):w.grownBy w2 row:=
 have a:=World.grownBy_alloc w o row
 ⟨h.os.trans a.os,h.tape.trans a.tape,h.output.trans a.output,eT a.size h.size,λk b c=>by rw[h.block k (eW b a.size) c,a.block k b c]⟩
def q6s(H:Gh)(c:Nat):Prop:=∀b,c<=b->H.I b=none/\b∉H.mut/\¬H.F b
theorem Inv.looses(i:Inv G S m w):q6s G w.heap.size:=λ_ a=>
 ⟨i.fresh a,λh=>Nat.lt_irrefl _ (eW (i.ml h) a),λh=>Nat.lt_irrefl _ (eW (i.ff h).2 a)⟩
theorem qju(n:Int)(a:-9223372036854775808<=n)(b:n<=9223372036854775807)(w:Wd)(h:GT w):
  Calls prog 218 #[.int .i64 n,.int .i64 10] w λe w'=>e=.returned (.string ⟨(Lib.itoa n).toArray⟩)/\Below w.heap.size w w':=by
 refine(Tryz.strconv_FormatInt_10 n a b w h).mono ?_;rintro e w' ⟨rfl,k,c,rfl⟩;exact⟨rfl,Lib.below_grow _ _ (eR _) _ _⟩
theorem qpj(b:BA):(⟨#[34]⟩++b++⟨#[34]⟩:BA)=⟨(Sc.atom (.str b.data.toList)).toArray⟩:=by
 apply ByteArray.ext;simp[Sc.atom,ByteArray.data_append]
theorem qpg{v:Vl}(w:Wd)(G:VRep H v x)(g:∀id a b,v≠.pair id a b)(B:GT w):
  Calls prog 157 #[x] w λe w'=>e=.returned (.string ⟨(Sc.atom v).toArray⟩)/\Below w.heap.size w w':=by
 have I:=hZ B;clear B;cases G with
 |pair id b v u x y s z o C=>exact absurd rfl (g _ _ _)
 |num n D o=>
  clear g;have c:∀w,(Instr.typeAssert (.iface 180 (.int .i64 n)) 116 180 true).run prog w=.ok (.tuple #[.int .i64 n,.bool true]) w:=λw=>q4x _ w
  have E:=hZ (And.intro D o);clear D o;go_enter func157,ntmps157
  go_wp2_with (go_at_call 218;refine(qju n E.out.1 E.out.2 _ I.out).mono ?_;rintro e w1 ⟨rfl,o⟩;have J:=hZ o;clear o)
  go_ret;exact⟨rfl,J.out⟩
 |bool b=>
  clear g;have c:∀w,(Instr.typeAssert (.iface 181 (.bool b)) 116 180 true).run prog w=.ok (.tuple #[.int .i64 0,.bool false]) w:=λw=>qdk _ _ (by decide) w
  have f:∀w,(Instr.typeAssert (.iface 181 (.bool b)) 116 181 true).run prog w=.ok (.tuple #[.bool b,.bool true]) w:=λw=>q4w _ w
  cases b;all_goals
   go_enter func157,ntmps157
   go_wp2;go_ret;exact⟨rfl,Below.refl _ _⟩
 |str t F=>
  clear g;have c:∀w,(Instr.typeAssert (.iface 182 (.string t)) 116 180 true).run prog w=.ok (.tuple #[.int .i64 0,.bool false]) w:=λw=>qdk _ _ (by decide) w
  have f:∀w,(Instr.typeAssert (.iface 182 (.string t)) 116 181 true).run prog w=.ok (.tuple #[.bool false,.bool false]) w:=λw=>qd0 _ _ (by decide) w
  have i:∀w,(Instr.typeAssert (.iface 182 (.string t)) 116 182 true).run prog w=.ok (.tuple #[.string t,.bool true]) w:=λw=>q4v _ w
  go_enter func157,ntmps157
  go_wp2;go_ret;refine⟨?_,Below.refl _ _⟩;simp only[Array.getD];exact congrArg (λx=>Ending.returned (Value.string x)) (qpj t)
 |sym t F=>
  clear g;have c:∀w,(Instr.typeAssert (.iface 183 (.string t)) 116 180 true).run prog w=.ok (.tuple #[.int .i64 0,.bool false]) w:=λw=>qdk _ _ (by decide) w
  have f:∀w,(Instr.typeAssert (.iface 183 (.string t)) 116 181 true).run prog w=.ok (.tuple #[.bool false,.bool false]) w:=λw=>qd0 _ _ (by decide) w
  have i:∀w,(Instr.typeAssert (.iface 183 (.string t)) 116 182 true).run prog w=.ok (.tuple #[.string ⟨#[]⟩,.bool false]) w:=λw=>qep _ _ (by decide) w
  have j:∀w,(Instr.typeAssert (.iface 183 (.string t)) 116 183 true).run prog w=.ok (.tuple #[.string t,.bool true]) w:=λw=>q4u _ w
  clear F;go_enter func157,ntmps157
  go_wp2;go_ret;exact⟨rfl,Below.refl _ _⟩
 |nil=>
  clear g;have c:∀w,(Instr.typeAssert (.iface 186 (.agg #[])) 116 180 true).run prog w=.ok (.tuple #[.int .i64 0,.bool false]) w:=λw=>qdk _ _ (by decide) w
  have f:∀w,(Instr.typeAssert (.iface 186 (.agg #[])) 116 181 true).run prog w=.ok (.tuple #[.bool false,.bool false]) w:=λw=>qd0 _ _ (by decide) w
  have i:∀w,(Instr.typeAssert (.iface 186 (.agg #[])) 116 182 true).run prog w=.ok (.tuple #[.string ⟨#[]⟩,.bool false]) w:=λw=>qep _ _ (by decide) w
  have j:∀w,(Instr.typeAssert (.iface 186 (.agg #[])) 116 183 true).run prog w=.ok (.tuple #[.string ⟨#[]⟩,.bool false]) w:=λw=>qfq _ _ (by decide) w
  have k:∀w,(Instr.typeAssert (.iface 186 (.agg #[])) 116 186 true).run prog w=.ok (.tuple #[.agg #[],.bool true]) w:=λw=>q2y _ w
  go_enter func157,ntmps157
  go_wp2;go_ret;exact⟨rfl,(Below.refl _ _).alloc (eR _) _⟩
 |none=>
  clear g;have c:∀w,(Instr.typeAssert (.iface 379 (.agg #[])) 116 180 true).run prog w=.ok (.tuple #[.int .i64 0,.bool false]) w:=λw=>qdk _ _ (by decide) w
  have f:∀w,(Instr.typeAssert (.iface 379 (.agg #[])) 116 181 true).run prog w=.ok (.tuple #[.bool false,.bool false]) w:=λw=>qd0 _ _ (by decide) w
  have i:∀w,(Instr.typeAssert (.iface 379 (.agg #[])) 116 182 true).run prog w=.ok (.tuple #[.string ⟨#[]⟩,.bool false]) w:=λw=>qep _ _ (by decide) w
  have j:∀w,(Instr.typeAssert (.iface 379 (.agg #[])) 116 183 true).run prog w=.ok (.tuple #[.string ⟨#[]⟩,.bool false]) w:=λw=>qfq _ _ (by decide) w
  have k:∀w,(Instr.typeAssert (.iface 379 (.agg #[])) 116 186 true).run prog w=.ok (.tuple #[.agg #[],.bool false]) w:=λw=>qfp _ _ (by decide) w
  have l:∀w,(Instr.typeAssert (.iface 379 (.agg #[])) 116 281 true).run prog w=.ok (.tuple #[.pointer none,.bool false]) w:=λw=>qhj _ _ (by decide) w
  have m:∀w,(Instr.typeAssert (.iface 379 (.agg #[])) 116 285 true).run prog w=.ok (.tuple #[.pointer none,.bool false]) w:=λw=>qs8 _ _ (by decide) w
  have p:∀w,(Instr.typeAssert (.iface 379 (.agg #[])) 116 322 true).run prog w=.ok (.tuple #[.pointer none,.bool false]) w:=λw=>q0d _ _ (by decide) w
  go_enter func157,ntmps157
  go_wp2;go_ret;first|exact⟨rfl,Below.refl _ _⟩|exact⟨rfl,(Below.refl _ _).alloc (eR _) _⟩
 |proc v b A=>
  clear g;have c:∀w,(Instr.typeAssert (.iface 281 (bp b)) 116 180 true).run prog w=.ok (.tuple #[.int .i64 0,.bool false]) w:=λw=>qdk _ _ (by decide) w
  have f:∀w,(Instr.typeAssert (.iface 281 (bp b)) 116 181 true).run prog w=.ok (.tuple #[.bool false,.bool false]) w:=λw=>qd0 _ _ (by decide) w
  have i:∀w,(Instr.typeAssert (.iface 281 (bp b)) 116 182 true).run prog w=.ok (.tuple #[.string ⟨#[]⟩,.bool false]) w:=λw=>qep _ _ (by decide) w
  have j:∀w,(Instr.typeAssert (.iface 281 (bp b)) 116 183 true).run prog w=.ok (.tuple #[.string ⟨#[]⟩,.bool false]) w:=λw=>qfq _ _ (by decide) w
  have k:∀w,(Instr.typeAssert (.iface 281 (bp b)) 116 186 true).run prog w=.ok (.tuple #[.agg #[],.bool false]) w:=λw=>qfp _ _ (by decide) w
  have l:∀w,(Instr.typeAssert (.iface 281 (bp b)) 116 281 true).run prog w=.ok (.tuple #[bp b,.bool true]) w:=λw=>q2w _ w
  have r:Sc.atom v=[35,60,112,114,111,99,101,100,117,114,101,62]:=by cases A <;> rfl
  rw[r];clear A r;go_enter func157,ntmps157
  go_wp2;go_ret;first|exact⟨rfl,Below.refl _ _⟩|exact⟨rfl,(Below.refl _ _).alloc (eR _) _⟩
 |«seal» id b q v x s z A h=>
  clear g;have c:∀w,(Instr.typeAssert (.iface 285 (bp b)) 116 180 true).run prog w=.ok (.tuple #[.int .i64 0,.bool false]) w:=λw=>qdk _ _ (by decide) w
  have f:∀w,(Instr.typeAssert (.iface 285 (bp b)) 116 181 true).run prog w=.ok (.tuple #[.bool false,.bool false]) w:=λw=>qd0 _ _ (by decide) w
  have i:∀w,(Instr.typeAssert (.iface 285 (bp b)) 116 182 true).run prog w=.ok (.tuple #[.string ⟨#[]⟩,.bool false]) w:=λw=>qep _ _ (by decide) w
  have j:∀w,(Instr.typeAssert (.iface 285 (bp b)) 116 183 true).run prog w=.ok (.tuple #[.string ⟨#[]⟩,.bool false]) w:=λw=>qfq _ _ (by decide) w
  have k:∀w,(Instr.typeAssert (.iface 285 (bp b)) 116 186 true).run prog w=.ok (.tuple #[.agg #[],.bool false]) w:=λw=>qfp _ _ (by decide) w
  have l:∀w,(Instr.typeAssert (.iface 285 (bp b)) 116 281 true).run prog w=.ok (.tuple #[.pointer none,.bool false]) w:=λw=>qhj _ _ (by decide) w
  have m:∀w,(Instr.typeAssert (.iface 285 (bp b)) 116 285 true).run prog w=.ok (.tuple #[bp b,.bool true]) w:=λw=>q2v _ w
  clear s z A h;go_enter func157,ntmps157
  go_wp2;go_ret;first|exact⟨rfl,Below.refl _ _⟩|exact⟨rfl,(Below.refl _ _).alloc (eR _) _⟩
 |sealD id b L M d e s z o C h=>
  clear g;have c:∀w,(Instr.typeAssert (.iface 285 (bp b)) 116 180 true).run prog w=.ok (.tuple #[.int .i64 0,.bool false]) w:=λw=>qdk _ _ (by decide) w
  have f:∀w,(Instr.typeAssert (.iface 285 (bp b)) 116 181 true).run prog w=.ok (.tuple #[.bool false,.bool false]) w:=λw=>qd0 _ _ (by decide) w
  have i:∀w,(Instr.typeAssert (.iface 285 (bp b)) 116 182 true).run prog w=.ok (.tuple #[.string ⟨#[]⟩,.bool false]) w:=λw=>qep _ _ (by decide) w
  have j:∀w,(Instr.typeAssert (.iface 285 (bp b)) 116 183 true).run prog w=.ok (.tuple #[.string ⟨#[]⟩,.bool false]) w:=λw=>qfq _ _ (by decide) w
  have k:∀w,(Instr.typeAssert (.iface 285 (bp b)) 116 186 true).run prog w=.ok (.tuple #[.agg #[],.bool false]) w:=λw=>qfp _ _ (by decide) w
  have l:∀w,(Instr.typeAssert (.iface 285 (bp b)) 116 281 true).run prog w=.ok (.tuple #[.pointer none,.bool false]) w:=λw=>qhj _ _ (by decide) w
  have m:∀w,(Instr.typeAssert (.iface 285 (bp b)) 116 285 true).run prog w=.ok (.tuple #[bp b,.bool true]) w:=λw=>q2v _ w
  clear s z o C h;go_enter func157,ntmps157
  go_wp2;go_ret;first|exact⟨rfl,Below.refl _ _⟩|exact⟨rfl,(Below.refl _ _).alloc (eR _) _⟩
 |grant n h=>
  clear g;have c:∀w,(Instr.typeAssert (.iface 322 (bp (H.K n))) 116 180 true).run prog w=.ok (.tuple #[.int .i64 0,.bool false]) w:=λw=>qdk _ _ (by decide) w
  have f:∀w,(Instr.typeAssert (.iface 322 (bp (H.K n))) 116 181 true).run prog w=.ok (.tuple #[.bool false,.bool false]) w:=λw=>qd0 _ _ (by decide) w
  have i:∀w,(Instr.typeAssert (.iface 322 (bp (H.K n))) 116 182 true).run prog w=.ok (.tuple #[.string ⟨#[]⟩,.bool false]) w:=λw=>qep _ _ (by decide) w
  have j:∀w,(Instr.typeAssert (.iface 322 (bp (H.K n))) 116 183 true).run prog w=.ok (.tuple #[.string ⟨#[]⟩,.bool false]) w:=λw=>qfq _ _ (by decide) w
  have k:∀w,(Instr.typeAssert (.iface 322 (bp (H.K n))) 116 186 true).run prog w=.ok (.tuple #[.agg #[],.bool false]) w:=λw=>qfp _ _ (by decide) w
  have l:∀w,(Instr.typeAssert (.iface 322 (bp (H.K n))) 116 281 true).run prog w=.ok (.tuple #[.pointer none,.bool false]) w:=λw=>qhj _ _ (by decide) w
  have m:∀w,(Instr.typeAssert (.iface 322 (bp (H.K n))) 116 285 true).run prog w=.ok (.tuple #[.pointer none,.bool false]) w:=λw=>qs8 _ _ (by decide) w
  have p:∀w,(Instr.typeAssert (.iface 322 (bp (H.K n))) 116 322 true).run prog w=.ok (.tuple #[bp (H.K n),.bool true]) w:=λw=>q4t _ w
  clear h;go_enter func157,ntmps157
  go_wp2;go_ret;first|exact⟨rfl,Below.refl _ _⟩|exact⟨rfl,(Below.refl _ _).alloc (eR _) _⟩
section
attribute [local go_sem] Oper.semAt_some
theorem qh7(h:Below w.heap.size w w'):w.grownBy w' none:=⟨h.os,h.tape,h.output,h.size,λi hi _=>h.block i hi⟩
theorem qku{F:Fence}(a:F.depth=none)(k:Nat):F.room k:=λd h=>by rw[a]at h;cases h
theorem RoundIn.anyDepth{F:Fence}(b:F.depth=none){m d:Nat}{l:Nat}{f:FuncId}{a:Array Vu}{assign body:Code}{R:En->Wd->Prop}
  (h:RoundIn F m P l f a assign body w R):RoundIn F d P l f a assign body w R:=⟨h.1,λc cs _=>h.2 c cs (qku b _)⟩
theorem YieldAt.anyDepth{F:Fence}(b:F.depth=none){m:Nat}(c:Nat){l:Nat}{args:Array Vu}{R:En->Wd->Prop}(h:YieldAt F m P l args W R):YieldAt F c P l args W R:=by
 obtain⟨d,a,assign,body,e,f⟩:=h;exact⟨d,a,assign,body,e,RoundIn.anyDepth b f⟩
structure Yl (l hi N:Nat) (J Jx:List UInt8->Wd->Prop):Prop where
 y:∀m pre (x:UInt8) W,J pre W->pre.length<N->YieldAt Fence.wide m prog l #[.int .u8 (x.toNat:Int)] W λe W'=>(e=.returned (.bool true)/\J (pre++[x]) W'/\Below hi W W')\/(e=.returned (.bool false)/\Jx (pre++[x]) W')
 grow:∀pre W W',J pre W->W.grownBy W' none->J pre W'
def Yd(hi:Nat)(J Jx:List UInt8->Wd->Prop)(w:Wd)(pre t:List UInt8)(e:En)(W':Wd):Prop:=
 (e=.returned (.bool true)/\J (pre++t) W'/\Below hi w W')\/(e=.returned (.bool false)/\∃q,q<+:t/\Jx (pre++q) W')
theorem qkj(s:BA)(k:Nat)(h:k<s.size):s.data.toList.take (k+1)=s.data.toList.take k++[s[k]]:=by
 rw[List.take_succ_eq_append_getElem (by simpa using h)];rfl
theorem qf3(l hi N:Nat)(J j:List UInt8->Wd->Prop)(A:Yl l hi N J j)(w:Wd)(s:BA)(pre:List UInt8)(n:Nat)(W:Wd)(B:Below hi w W)(C:J pre W)(K:pre.length+s.size<=N)(F:s.size<=2000000000):
  CallsIn Fence.wide n prog 156 #[.string s,.func (.yield l) #[] #[]] W λe W'=>Yd hi J j w pre s.data.toList e W':=by
 have m:∀k:Nat,(Fence.wide.depth.isSome=true->1<=k):=λk h=>by cases h
 have G:=hZ A;have H:=hZ B;have I:=hZ C;clear A B C;refine callsIn_of_wp func156 rfl trivial ?_ rfl;simp only[ntmps156,List.size_toArray,List.length_cons,List.length_nil,Nat.reduceAdd,Nat.reduceSub,Array.replicate_succ,Array.replicate_zero,List.push_toArray,List.append_toArray,List.nil_append,List.cons_append]
 gi_wp2
 gi_loopw [8] (λi wr=>∃k:Nat,k<=s.size/\i=.int .i64 (k:Int)/\J (pre++s.data.toList.take k) wr/\Below hi w wr) (λi _=>s.size-(intOf i).toNat)
 case atStart=>exact⟨0,Nat.zero_le _,rfl,by simpa using I.out,H.out⟩
 case round=>
  obtain⟨k,L,rfl,a,b⟩:=hrel;have c:=hZ a;have d:=hZ b;clear a b;by_cases f:k<s.size
  ·have o:(k:Int)<(s.size:Int):=by omega
   have p:=YieldAt.mono (R':=λe W'=>(e=.returned (.bool true)/\J (pre++s.data.toList.take (k+1)) W'/\Below hi w W')\/(e=.returned (.bool false)/\j (pre++s.data.toList.take (k+1)) W'))
    (G.out.y (n-1) _ s[k] wr c.out (by
     have:s.data.toList.length=s.size:=by simp
     simp;omega)) λe W' h=>h.elim
     (λ⟨q,r,t⟩=>.inl ⟨q,by rw[qkj s k f,<-List.append_assoc];exact r,d.out.trans t⟩) (λ⟨q,r⟩=>.inr ⟨q,by rw[qkj s k f,<-List.append_assoc];exact r⟩)
   obtain⟨M,D,assign,body,O,E⟩:=p
   gi_wp2_with ((try refine⟨m _,?_⟩);refine E.mono ?_;clear E;rintro e P (⟨rfl,u,v⟩|⟨rfl,x⟩))
   ·exact⟨⟨k+1,by omega,by first|rfl|go_num,u,v⟩,by simp[intOf];omega⟩
   ·go_ret;exact .inr ⟨rfl,_,List.take_prefix _ _,x⟩
  ·have g:k=s.size:=by omega
   have z:=hZ g;have o:¬((k:Int)<(s.size:Int)):=by omega
   clear g
   gi_wp2
   go_ret;have:=c.out;rw[List.take_of_length_le (by rw[z.out];simp)]at this;exact .inl ⟨rfl,this,d.out⟩
end
section
attribute [local go_sem] Oper.semAt_some
def qx8(l hi N:Nat)(J Jx:List UInt8->Wd->Prop)(H:Gh)(w:Wd)(v:Vl):Prop:=∀(n:Nat) (x:Vu) (pre:List UInt8) (W:Wd),VRep H v x->Below hi w W->J pre W->pre.length+(Sc.wr v).length<=N->
 CallsIn Fence.wide n prog 90 #[x,.func (.yield l) #[] #[]] W λe W'=>Yd hi J Jx w pre (Sc.wr v) e W'
def Im(H:Gh)(hi:Nat)(w:Wd):Prop:=∀b c t,H.I b=some (.cells c t (0,0))->w.heap[b]? =some (.cells c t (0,0))/\b<hi
theorem Im.cell(h:Im H hi w)(d:Below hi w W){c:Array Vu}(a:H.I b=some (.cells c t (0,0)))(o:Nat):W.cell? ⟨b,o,none⟩=c[o]?:=by
 obtain⟨e,f⟩:=h b c t a;simp[World.cell?,d.block b f,e]
theorem GT.below(h:GT w)(a:Below hi w W)(b:6<=hi):GT W:=h.keep (a.block 0 (by omega))
theorem VRep.wr_atom{H:Gh}{v:Vl}{t:Nat}{y:Vu}(h:VRep H v (.iface t y))(c:t≠246):Sc.wr v=Sc.atom v/\(Sc.atom v).length<=2000000000/\∀id a b,v≠.pair id a b:=by
 cases h with
 |pair=>exact absurd rfl c
 |num n d e=>exact⟨rfl,by have:=Lib.itoa_length_le n d e;simp only[Sc.atom];omega,λ_ _ _=>nofun⟩
 |bool b=>exact⟨rfl,by cases b <;> decide,λ_ _ _=>nofun⟩
 |str s f=>
  have e1:s.data.toList.length=s.size:=Array.length_toList;refine⟨rfl,?_,λ_ _ _=>nofun⟩;simp only[Sc.atom,List.length_cons,List.length_append,List.length_nil];omega
 |sym s f=>
  have e1:s.data.toList.length=s.size:=Array.length_toList;refine⟨rfl,?_,λ_ _ _=>nofun⟩;simp only[Sc.atom];omega
 |proc v b h=>cases h <;> exact⟨rfl,by simp[Sc.atom],λ_ _ _=>nofun⟩
 |_=>exact⟨rfl,by simp[Sc.atom],λ_ _ _=>nofun⟩
theorem VRep.tl_other{H:Gh}{v:Vl}{t:Nat}{y:Vu}(h:VRep H v (.iface t y))(c:t≠246)(a:t≠186):Sc.tl v=[32,46,32]++(Sc.wr v++[41]):=by
 cases h with
 |pair=>exact absurd rfl c
 |nil=>exact absurd rfl a
 |proc v b h=>cases h <;> rfl
 |_=>rfl
theorem qo8(l hi N:Nat)(J d:List UInt8->Wd->Prop)(H:Gh)(w:Wd)(r:Yl l hi N J d)(s:GT w)(D:6<=hi)(g:hi<=w.heap.size)(v:Vl)(t:Nat)(y:Vu)(i:VRep H v (.iface t y))(j:t≠246):∀(n:Nat) (pre:List UInt8) (W:Wd),Below hi w W->J pre W->pre.length+(Sc.wr v).length<=N->
 CallsIn Fence.wide n prog 90 #[.iface t y,.func (.yield l) #[] #[]] W λe W'=>Yd hi J d w pre (Sc.wr v) e W':=by
 intro n pre W f u x;obtain⟨m,o,a⟩:=i.wr_atom j;rw[m]at x|-;have b:∀k:Nat,(Fence.wide.depth.isSome=true->1<=k):=λk h=>by cases h
 have z:=hZ r;have E:=hZ f;have F:=hZ u;have G:=hZ (qpg W i a (s.below f D));have p:Hid (hi<=W.heap.size):=eT g f.size;have A:∀W1,Below W.heap.size W W1->CallsIn Fence.wide (n-1) prog 156 #[.string ⟨(Sc.atom v).toArray⟩,.func (.yield l) #[] #[]] W1 λe W'=>Yd hi J d w pre (Sc.atom v) e W':=by
  intro W1 B;have I:Below hi w W1:=E.out.trans (B.mono p.out);have:=qf3 l hi N J d z.out w ⟨(Sc.atom v).toArray⟩ pre (n-1) W1 I (z.out.grow pre W W1 F.out (qh7 B)) (by simpa[ByteArray.size]using x) (by simpa[ByteArray.size]using o);simpa using this
 have K:=hZ A;have C:∀w,(Instr.typeAssert (.iface t y) 116 246 true).run prog w=.ok (.tuple #[.pointer none,.bool false]) w:=λw=>qs9 _ _ j w
 clear r f u i s A a j;refine callsIn_of_wp func90 rfl trivial ?_ rfl;simp only[ntmps90,List.size_toArray,List.length_cons,List.length_nil,Nat.reduceAdd,Nat.reduceSub,Array.replicate_succ,Array.replicate_zero,List.push_toArray,List.append_toArray,List.nil_append,List.cons_append]
 gi_wp2_with (first
  |(refine⟨trivial,b _,?_⟩;gi_at_call 157;refine(callsIn_wide.2 G.out).mono ?_;rintro e W1 ⟨rfl,c⟩;have q:=hZ c;clear c)
  |(refine⟨trivial,b _,?_⟩;gi_at_call 156;refine(K.out _ q.out).mono ?_;rintro e P (⟨rfl,L,M⟩|⟨rfl,O⟩)))
 ·go_ret;exact .inl ⟨rfl,L,M⟩
 ·go_ret;exact .inr ⟨rfl,O⟩
def q7r(H:Gh)(hi:Nat)(J:List UInt8->Wd->Prop)(w:Wd)(pre T:List UInt8)(B gf:Nat)(p:Vu)(wr:Wd):Prop:=
 ∃(g:Nat) (x y:Vu) (b:Vl) (done:List UInt8),gf=SizeOf.sizeOf b/\p=.pointer (some ⟨g,0,none⟩)/\H.I g=some (.cells #[x,y] 252 (0,0))/\VRep H b y/\J (pre++done) wr/\Below hi w wr/\done++Sc.tl b=T/\SizeOf.sizeOf b<=B
theorem qi1(l hi N:Nat)(J z:List UInt8->Wd->Prop)(H:Gh)(w:Wd)(hY:Yl l hi N J z)(_:6<=hi)(b6:hi<=w.heap.size)(U:Im H hi w)(id:Nat)(a b:Vl)
  (IH:∀t':Vl,SizeOf.sizeOf t'<=SizeOf.sizeOf a+SizeOf.sizeOf b->qx8 l hi N J z H w t')
  (n:Nat)(g:Nat)(x y:Vu)(pre:List UInt8)(W:Wd)(hh:H.I g=some (.cells #[x,y] 252 (0,0)))(ha:VRep H a x)(hb:VRep H b y)(hK:Below hi w W)(hJ:J pre W)
  (hN:pre.length+(Sc.wr (.pair id a b)).length<=N):
  CallsIn Fence.wide n prog 155 #[.pointer (some ⟨g,0,none⟩),.func (.yield l) #[] #[]] W λe W'=>Yd hi J z w pre (Sc.wr (.pair id a b)) e W':=by
 have i:∀k:Nat,(Fence.wide.depth.isSome=true->1<=k):=λk h=>by cases h
 have hT:Sc.wr (.pair id a b)=40::(Sc.wr a++Sc.tl b):=rfl;rw[hT]at hN|-;simp only[List.length_cons,List.length_append]at hN;obtain⟨tx,px,rfl⟩:=ha.form;have V:YieldAt Fence.wide (n-1) prog l #[.int .u8 40] W λe f=>
   (e=.returned (.bool true)/\f.cell? ⟨g,0,none⟩=some (.iface tx px)/\CallsIn Fence.wide (n-1) prog 90 #[.iface tx px,.func (.yield l) #[] #[]] f λe W2=>Yd hi J z w (pre++[40]) (Sc.wr a) e W2)\/(e=.returned (.bool false)/\z (pre++[40]) f):=
  YieldAt.mono (hY.y (n-1) pre 40 W hJ (by omega)) λe f h=>h.elim
   (λ⟨M,X,O⟩=>.inl ⟨M,by rw[U.cell (hK.trans O) hh];rfl,IH a (by omega) (n-1) _ (pre++[40]) f ha (hK.trans O) X (by simp;omega)⟩) .inr
 have HY:=hZ hY;have HI:=hZ IH;have HH:=hZ hh;have HB:=hZ hb;have a7:=hZ U;clear hY IH hh ha hb hK hJ U;obtain⟨fn,A,assign,body,hy,B⟩:=V;refine callsIn_of_wp func155 rfl trivial ?_ rfl;simp only[ntmps155,List.size_toArray,List.length_cons,List.length_nil,Nat.reduceAdd,Nat.reduceSub,Array.replicate_succ,Array.replicate_zero,List.push_toArray,List.append_toArray,List.nil_append,List.cons_append]
 gi_wp2_with (first
  |((try refine⟨i _,?_⟩);refine B.mono ?_;clear B;rintro e f (⟨rfl,c1,C⟩|⟨rfl,D⟩))
  |(refine⟨trivial,i _,?_⟩;gi_at_call 90;refine C.mono ?_;clear C;rintro e W2 (⟨rfl,p,s⟩|⟨rfl,q,Y,E⟩)))
 rotate_left
 ·go_ret;obtain⟨r,m⟩:=Y;exact .inr ⟨rfl,40::q,⟨r++Sc.tl b,by rw[<-m];simp⟩,by simpa using E⟩
 ·refine⟨trivial,?_⟩
  gi_wp2
  go_ret;exact .inr ⟨rfl,[40],⟨_,rfl⟩,D⟩
 have b7:=hZ p;have b8:=hZ s;clear p s c1 hy
 gi_loopg [0] (SizeOf.sizeOf b) (q7r H hi J w pre (40::(Sc.wr a++Sc.tl b)) (SizeOf.sizeOf b))
 case atStart=>exact⟨g,_,y,b,40::Sc.wr a,rfl,rfl,HH.out,HB.out,by simpa using b7.out,b8.out,by simp,eR _⟩
 case round=>
  obtain⟨g1,x1,y1,b1,done,a8,rfl,P,t,Q,F,o,a9⟩:=hrel;have d:done.length+(Sc.tl b1).length=1+((Sc.wr a).length+(Sc.tl b).length):=by have:=congrArg List.length o;simp at this;omega
  have cy:wr.cell? ⟨g1,1,none⟩=some y1:=by rw[a7.out.cell F P];rfl
  have v:=hZ o;have Z:=hZ Q;have G:=hZ F;have b9:=hZ a8;clear o Q F a8;obtain⟨t1,p1,rfl⟩:=t.form;by_cases ht:t1=246
  ·subst ht;cases t with
   |pair a0 g2 S b' x2 y2 c0 a1 a2 b0=>
    obtain⟨t2,p2,rfl⟩:=a2.form;have c:Sc.tl (.pair a0 S b')=32::(Sc.wr S++Sc.tl b'):=rfl;have b2:SizeOf.sizeOf (Vl.pair a0 S b')=1+a0+SizeOf.sizeOf S+SizeOf.sizeOf b':=by simp
    rw[c]at d;rw[b2]at a9;simp only[List.length_cons,List.length_append]at d;have V:YieldAt Fence.wide (n-1) prog l #[.int .u8 32] wr λe f=>
      (e=.returned (.bool true)/\f.cell? ⟨g2,0,none⟩=some (.iface t2 p2)/\CallsIn Fence.wide (n-1) prog 90 #[.iface t2 p2,.func (.yield l) #[] #[]] f λe W2=>Yd hi J z w (pre++(done++[32])) (Sc.wr S) e W2)\/(e=.returned (.bool false)/\z (pre++(done++[32])) f):=
     YieldAt.mono (HY.out.y (n-1) (pre++done) 32 wr Z.out (by simp;omega)) λe f h=>h.elim
      (λ⟨M,X,O⟩=>.inl ⟨M,by rw[a7.out.cell (G.out.trans O) a1];rfl,HI.out S (by omega) (n-1) _ (pre++(done++[32])) f a2 (G.out.trans O) (by rw[<-List.append_assoc];exact X) (by simp;omega)⟩)
      (λ⟨M,hx⟩=>.inr ⟨M,by rw[<-List.append_assoc];exact hx⟩)
    obtain⟨fn,A,assign,body,hy,B⟩:=V;have c2:=hZ b0;have c3:=hZ a1;have b3:∀w,(Instr.typeAssert (.iface 246 (bp g2)) 116 246 true).run prog w=.ok (.tuple #[bp g2,.bool true]) w:=λw=>q2x _ w
    clear P a2 b0 a1 c0
    gi_wp2_with (first
     |((try refine⟨i _,?_⟩);refine B.mono ?_;clear B;rintro e f (⟨rfl,c1,C⟩|⟨rfl,D⟩))
     |(refine⟨trivial,i _,?_⟩;gi_at_call 90;refine C.mono ?_;clear C;rintro e W2 (⟨rfl,p,s⟩|⟨rfl,q,Y,E⟩)))
    ·gi_roundg (SizeOf.sizeOf b')
     case measure=>rw[b9.out,b2];omega
     case rel=>
      refine⟨g2,_,y2,b',done++(32::Sc.wr S),rfl,rfl,c3.out,c2.out,by simpa using p,s,?_,by omega⟩;rw[<-v.out,c];simp
    ·go_ret;obtain⟨r,m⟩:=Y;refine .inr ⟨rfl,done++(32::q),⟨r++Sc.tl b',?_⟩,by simpa using E⟩;rw[<-v.out,c,<-m];simp
    ·refine⟨trivial,?_⟩
     gi_wp2
     go_ret;refine .inr ⟨rfl,done++[32],⟨Sc.wr S++Sc.tl b',?_⟩,D⟩;rw[<-v.out,c];simp
  ·have b3:∀w,(Instr.typeAssert (.iface t1 p1) 116 246 true).run prog w=.ok (.tuple #[.pointer none,.bool false]) w:=λw=>qs9 _ _ ht w
   by_cases R:t1=186
   ·subst R;cases t with
    |nil=>
     have c:Sc.tl .nil=[41]:=rfl;rw[c]at d;simp only[List.length_cons,List.length_nil]at d;have K:YieldAt Fence.wide (n-1) prog l #[.int .u8 41] (wr.alloc (.cells #[] 186)) λe L=>(e=.returned (.bool true)/\J (pre++done++[41]) L/\Below hi w L)\/(e=.returned (.bool false)/\z (pre++done++[41]) L):=
      YieldAt.mono (HY.out.y (n-1) _ 41 _ (HY.out.grow _ _ _ Z.out (World.grownBy_alloc _ _ _)) (by simp;omega)) λe L h=>h.elim (λ⟨M,h1,h2⟩=>.inl ⟨M,h1,(G.out.trans ((Below.refl _ _).alloc (eT b6 G.out.size) _)).trans h2⟩) .inr
     obtain⟨fn,A,assign,body,hy,B⟩:=K;have b4:∀w,(Instr.typeAssert (.iface 186 (.agg #[])) 116 186 true).run prog w=.ok (.tuple #[.agg #[],.bool true]) w:=λw=>q2y _ w
     clear P ht
     gi_wp2_with ((try refine⟨i _,?_⟩);refine B.mono ?_;clear B;rintro e L (⟨rfl,a3,a4⟩|⟨rfl,a5⟩))
     ·go_ret;rw[<-v.out,c];exact .inl ⟨rfl,by simpa using a3,a4⟩
     ·go_ret;rw[<-v.out,c];exact .inr ⟨rfl,_,List.prefix_refl _,by simpa using a5⟩
   ·have c:=t.tl_other ht R;rw[c]at d;simp only[List.length_cons,List.length_append,List.length_nil]at d;have b5:=qf3 l hi N J z HY.out w ⟨#[32,46,32]⟩ (pre++done) (n-1) wr G.out Z.out (by simp[ByteArray.size];omega) (by decide);have a6:∀f,J (pre++done++[32,46,32]) f->Below hi w f->CallsIn Fence.wide (n-1) prog 90 #[.iface t1 p1,.func (.yield l) #[] #[]] f λe W2=>Yd hi J z w (pre++done++[32,46,32]) (Sc.wr b1) e W2:=
     λf X O=>HI.out b1 (by omega) (n-1) _ _ f t O X (by simp;omega)
    have K:∀W2,J (pre++done++[32,46,32]++Sc.wr b1) W2->Below hi w W2->YieldAt Fence.wide (n-1) prog l #[.int .u8 41] W2 λe L=>(e=.returned (.bool true)/\J (pre++done++[32,46,32]++Sc.wr b1++[41]) L/\Below hi w L)\/(e=.returned (.bool false)/\z (pre++done++[32,46,32]++Sc.wr b1++[41]) L):=
     λW2 X O=>YieldAt.mono (HY.out.y (n-1) _ 41 W2 X (by simp;omega)) λe L h=>h.elim (λ⟨M,h1,h2⟩=>.inl ⟨M,h1,O.trans h2⟩) .inr
    have T:40::(Sc.wr a++Sc.tl b)=done++([32,46,32]++(Sc.wr b1++[41])):=by rw[<-v.out,c]
    have j:=hZ T;obtain⟨u,hu⟩:∃u,u=Sc.wr b1:=⟨_,rfl⟩;rw[<-hu]at a6 K d j;have c4:=hZ a6;have c5:=hZ K;have b4:∀w,(Instr.typeAssert (.iface t1 p1) 116 186 true).run prog w=.ok (.tuple #[.agg #[],.bool false]) w:=λw=>qfp _ _ R w
    clear P t T a6 K hu c ht R
    gi_wp2_with (first
     |(refine⟨trivial,i _,?_⟩;gi_at_call 156;refine b5.mono ?_;clear b5;rintro e f (⟨rfl,Q,F⟩|⟨rfl,q,Y,D⟩))
     |(refine⟨trivial,i _,?_⟩;gi_at_call 90;refine(c4.out _ Q F).mono ?_;rintro e W2 (⟨rfl,p,s⟩|⟨rfl,q,Y,E⟩);obtain⟨fn,A,assign,body,hy,B⟩:=c5.out _ p s)
     |((try refine⟨i _,?_⟩);refine B.mono ?_;clear B;rintro e L (⟨rfl,a3,a4⟩|⟨rfl,a5⟩)))
    ·go_ret;rw[j.out];exact .inl ⟨rfl,by simpa using a3,a4⟩
    ·go_ret;rw[j.out];exact .inr ⟨rfl,_,List.prefix_refl _,by simpa using a5⟩
    ·refine⟨λ_ h=>(by cases h),?_⟩
     gi_wp2
     go_ret;rw[j.out];obtain⟨r,m⟩:=Y;exact .inr ⟨rfl,done++([32,46,32]++q),⟨r++[41],by rw[<-m];simp⟩,by simpa using E⟩
    ·refine⟨trivial,?_⟩
     gi_wp2
     refine⟨λ_ h=>(by cases h),?_⟩
     gi_wp2
     go_ret;rw[j.out];obtain⟨r,m⟩:=Y;exact .inr ⟨rfl,done++q,⟨r++(u++[41]),by rw[show([32,46,32]:List UInt8)=q++r from m.symm];simp⟩,by simpa using D⟩
theorem qra(l hi N:Nat)(J d:List UInt8->Wd->Prop)(H:Gh)(w:Wd)(i:Yl l hi N J d)(D:GT w)(s:6<=hi)(c:hi<=w.heap.size)(j:Im H hi w):
  ∀(k:Nat) (v:Vl),SizeOf.sizeOf v<=k->qx8 l hi N J d H w v:=by
 intro k;induction k with
 |zero=>
  intro t m n x pre W f o p q;have:0<SizeOf.sizeOf t:=by cases t <;> simp <;> omega
  omega
 |succ k u=>
  intro v z n x pre W f o p q;obtain⟨t,y,rfl⟩:=f.form;by_cases m:t=246
  ·subst m;cases f with
   |pair id g a b x y A E F G=>
    have z:SizeOf.sizeOf a+SizeOf.sizeOf b<=k:=by simp at z;omega
    have r:∀k:Nat,(Fence.wide.depth.isSome=true->1<=k):=λk h=>by cases h
    have B:=qi1 l hi N J d H w i s c j id a b (λI h=>u I (by omega)) (n-1) g x y pre W E F G o p q;have C:∀w,(Instr.typeAssert (.iface 246 (bp g)) 116 246 true).run prog w=.ok (.tuple #[bp g,.bool true]) w:=λw=>q2x _ w
    clear u i;refine callsIn_of_wp func90 rfl trivial ?_ rfl;simp only[ntmps90,List.size_toArray,List.length_cons,List.length_nil,Nat.reduceAdd,Nat.reduceSub,Array.replicate_succ,Array.replicate_zero,List.push_toArray,List.append_toArray,List.nil_append,List.cons_append]
    gi_wp2_with (refine⟨trivial,r _,?_⟩;gi_at_call 155;refine B.mono ?_;clear B;rintro e M (⟨rfl,A,K⟩|⟨rfl,L⟩))
    ·go_ret;exact .inl ⟨rfl,A,K⟩
    ·go_ret;exact .inr ⟨rfl,L⟩
  ·exact qo8 l hi N J d H w i D s c v t y f m n pre W o p q
end
section
attribute [local go_sem] Oper.semAt_some
theorem qi0(H:Gh)(hi c n:Nat)(v:Vl)(t:Nat)(y:Vu)(w:Wd)(j:w.heap[c]? =some (.cells #[.iface t y] 116 (0,0)))(C:VRep H v (.iface t y))(D:GT w)(E:6<=hi)(a:hi<=w.heap.size)(d:Im H hi w):
  SeqStopsK Fence.wide n prog 89 #[.pointer (some ⟨c,0,none⟩)] (λx:UInt8=>#[Value.int .u8 (x.toNat:Int)]) (Below hi) (λF=>F=Sc.wr v) (λpre=>pre<+:Sc.wr v) (Sc.wr v).length w:=by
 intro l J Jx W o p _ s G;have f:∀k:Nat,(Fence.wide.depth.isSome=true->1<=k):=λk h=>by cases h
 have b:Yl l hi (Sc.wr v).length J Jx:=⟨λm pre x W g I=>YieldAt.anyDepth rfl m (s pre x W g I),λpre A B g K=>p pre A B none g K (λr e=>by cases e)⟩;have u:Below hi w W:=o.mono a;have z:=qra l hi (Sc.wr v).length J Jx H w b D E a d (SizeOf.sizeOf v) v (eR _) (n-1) _ [] W C u G (by simp);have N:W.cell? ⟨c,0,none⟩=some (.iface t y):=by
  have:=o.block c (eE.1 j).1;simp[World.cell?,this,j]
 clear s b p u;refine callsIn_of_wp func89 rfl trivial ?_ rfl;simp only[ntmps89,List.size_toArray,List.length_cons,List.length_nil,Nat.reduceAdd,Nat.reduceSub,Array.replicate_succ,Array.replicate_zero,List.push_toArray,List.append_toArray,List.nil_append,List.cons_append]
 gi_wp2_with (refine⟨trivial,f _,?_⟩;gi_at_call 90;refine z.mono ?_;clear z;rintro e O (⟨rfl,i,_⟩|⟨rfl,q,L,M⟩))
 ·go_end0;exact⟨⟨_,rfl⟩,.inl ⟨_,rfl,by simpa using i⟩⟩
 ·go_end0;exact⟨⟨_,rfl⟩,.inr ⟨q,L,by simpa using M⟩⟩
theorem ql2(t:Nat)(y:Vu)(w:Wd):
  Calls prog 59 #[.iface t y] w λe w'=>e=.returned (.func (.func 89) #[] #[.pointer (some ⟨w.heap.size,0,none⟩)])/\w'=w.alloc (.cells #[.iface t y] 116):=by
 go_enter func59,ntmps59
 go_wp2;go_ret;exact⟨rfl,rfl⟩
def St(w:Wd)(bs:List UInt8)(W:Wd):Prop:=∃sa sc,W.heap[w.heap.size+1]? =some (.cells #[.slice sa bs.length sc] 128 (0,0))/\W.ownsRow (w.heap.size+2) 5 1 (.slice sa bs.length sc) bs.length (Lib.byteCells bs)/\W.heap[w.heap.size]? =some (.cells #[.int .i64 1200] 3 (0,0))/\Below w.heap.size w W/\bs.length<=1200
theorem q40:(prog.info? 5).map (λi=>(i.zero,i.size,i.bytes))=some (some (.int .u8 0),1,1):=by kernel_rfl
theorem St.keep{bs:List UInt8}{W':Wd}{row:Option Nat}(h:St w bs W)(b:W.grownBy W' row)(l:∀r,row=some r->w.heap.size<=r/\∃o:Obj,W.heap[r]? =some o/\o.isCells=false):St w bs W':=by
 obtain⟨sa,sc,p,m,q,d,s⟩:=h;have ne:∀(k:Nat) (c:Array Vu) (t:Nat) (z:Nat×Nat),W.heap[k]? =some (Obj.cells c t z)->W'.heap[k]? =some (Obj.cells c t z):=λk c t z f=>by
  rw[b.block k (eE.1 f).1 λe=>by
   obtain⟨_,o,n,u⟩:=l k e.symm;rw[f]at n;cases n;cases u]
  exact f
 refine⟨sa,sc,ne _ _ _ _ p,?_,ne _ _ _ _ q,⟨b.os.trans d.os,b.tape.trans d.tape,b.output.trans d.output,eT d.size b.size,λk f=>?_⟩,s⟩
 ·refine⟨m.1,?_⟩;rcases m.2 with h|⟨g,cap,i,v,x,j,a⟩
  ·exact .inl h
  ·exact .inr ⟨g,cap,i,v,x,ne _ _ _ _ j,a⟩
 ·rw[b.block k (eW f d.size) λe=>by have:=(l k e.symm).1;omega];exact d.block k f
abbrev q4l(D:Nat):Deferred:={target:=.collected D,args:=#[]}
theorem qdz{F:Fence}{n:Nat}{P:Program}{g:Func}{a:Array Vu}{R:En->Wd->Prop}{B:Nat}:∀(c:List Nat) (w:Wd),c.Nodup->(∀D,D∈c->B<=D/\w.heap[D]? =some (.deferred (some [])))->
  (∀w',Below B w w'->LeavesInM F n P g a R [] .returning w')->B<=w.heap.size->LeavesInM F n P g a R (c.map q4l) .returning w
 | [],w,_,_,h,_=>h w (Below.refl _ _)
 |D::c,w,hnd,hD,h,hB=>by
  obtain⟨o,l⟩:=hD D (List.mem_cons_self ..);have b:=grownBy_putObj' w D (.deferred none);have d:Below B w (w.putObj D (.deferred none)):=⟨b.os,b.tape,b.output,b.size,λk p=>b.block k (by omega) (by intro e;cases e;omega)⟩;refine⟨by simp,.inl ⟨D,_,rfl,run_takeDeferred l,?_⟩⟩;refine qdz c _ (List.nodup_cons.1 hnd).2 (λE i=>?_) (λw' f=>h w' (d.trans f)) (eT hB b.size);obtain⟨m,j⟩:=hD E (List.mem_cons_of_mem _ i);exact⟨m,by rw[b.block E (eE.1 j).1 (by intro e;cases e;exact(List.nodup_cons.1 hnd).1 i)];exact j⟩
theorem qub{sa:OA}{bs:List UInt8}(h:w.ownsRow lo 5 1 (.slice sa bs.length sc) bs.length (Lib.byteCells bs)):(convert 128 9 (.slice sa bs.length sc)).run prog w=.ok (.string ⟨bs.toArray⟩) w:=by
 rcases h.2 with⟨c,d⟩|⟨g,cap,a,c,m,e,n,o,p,f⟩
 ·have i:bs=[]:=List.eq_nil_of_length_eq_zero d;subst i;cases c;rw[show([]:List UInt8).length=0 from rfl,run_convert_bytes_nil w 128 5 underlying128 underlying5 0 0 9 underlying9];rfl
 ·cases c;refine run_convert_bytes_back w 128 9 5 ⟨g,0,none⟩ sc bs underlying128 underlying5 underlying9 λj k=>?_
  have b:(⟨g,0,none⟩:Addr).add j=⟨g,j,none⟩:=by unfold Addr.add;split <;> simp_all
  have l:a.toList[j]? =some (.int .u8 (bs[j].toNat:Int)):=by
   have:(a.toList.take (bs.length*1))[j]? =some (.int .u8 (bs[j].toNat:Int)):=by rw[f];simp[Lib.byteCells,k]
   rw[List.getElem?_take]at this;split at this
   ·exact this
   ·cases this
  rw[b];simp only[World.cell?,e];simpa using l
theorem qu8(n:Nat)(hn:6<=n)(H:Gh)(v:Vl)(t:Nat)(y:Vu)(w:Wd)(hv:VRep H v (.iface t y))(hG:GT w)(h6:6<=w.heap.size)(X:Im H w.heap.size w):
  CallsIn Fence.wide n prog 145 #[.iface t y,.int .i64 1200] w λe w'=>e=.returned (.string ⟨((Sc.wr v).take 1200).toArray⟩)/\Below w.heap.size w w':=by
 have a6:∀k:Nat,(Fence.wide.depth.isSome=true->1<=k):=λk h=>by cases h
 have HV:=hZ hv;have HG:=hZ hG;have Y:=hZ X;clear hv hG X;refine callsIn_of_wp_marks func145 rfl trivial ?_ rfl;simp only[ntmps145,List.size_toArray,List.length_cons,List.length_nil,Nat.reduceAdd,Nat.reduceSub,Array.replicate_succ,Array.replicate_zero,List.push_toArray,List.append_toArray,List.nil_append,List.cons_append]
 gi_wp2_with (refine⟨trivial,a6 _,?_⟩;gi_at_call 59;refine(callsIn_wide.2 (ql2 t y _)).mono ?_;rintro e w1 ⟨rfl,rfl⟩)
 have L:(((w.alloc (.cells #[.int .i64 1200] 3)).alloc (.cells #[.slice none 0 0] 128)).alloc (.cells #[.iface t y] 116)).heap.size=w.heap.size+3:=by simp
 have i:Below w.heap.size w (((w.alloc (.cells #[.int .i64 1200] 3)).alloc (.cells #[.slice none 0 0] 128)).alloc (.cells #[.iface t y] 116)):=(((Below.refl _ _).alloc (eR _) _).alloc (by simp) _).alloc (by simp;omega) _;have I:Im H w.heap.size (((w.alloc (.cells #[.int .i64 1200] 3)).alloc (.cells #[.slice none 0 0] 128)).alloc (.cells #[.iface t y] 116)):=λb c t h=>by
  obtain⟨h1,U⟩:=Y.out b c t h;exact⟨by rw[i.block b U];exact h1,U⟩
 have d:=qi0 H w.heap.size (w.heap.size+2) (n-1) v t y (((w.alloc (.cells #[.int .i64 1200] 3)).alloc (.cells #[.slice none 0 0] 128)).alloc (.cells #[.iface t y] 116)) (by have:=eN ((w.alloc (.cells #[.int .i64 1200] 3)).alloc (.cells #[.slice none 0 0] 128)) (.cells #[.iface t y] 116);simpa using this) HV.out (HG.out.below i (by omega)) h6 (by simp;omega) I;have M:St w [] (((w.alloc (.cells #[.int .i64 1200] 3)).alloc (.cells #[.slice none 0 0] 128)).alloc (.cells #[.iface t y] 116)):=by
  refine⟨none,0,?_,⟨rfl,.inl ⟨rfl,rfl⟩⟩,?_,i,by simp⟩
  ·rw[eH _ _ _ (by simp)];have:=eN (w.alloc (.cells #[.int .i64 1200] 3)) (.cells #[.slice none 0 0] 128);simpa using this
  ·rw[eH _ _ _ (by simp;omega),eH _ _ _ (by simp)];exact eN _ _
 clear I Y HG HV;generalize a7:((w.alloc (.cells #[.int .i64 1200] 3)).alloc (.cells #[.slice none 0 0] 128)).alloc (.cells #[.iface t y] 116)=W3 at d M L i|-;clear a7;have a8:=hZ M;have q:=hZ L;have b7:=hZ i;clear M L i;refine wpIn_rangeFunc_ownF rfl (by omega) (gf:=89) (lb:=#[.pointer (some ⟨w.heap.size+2,0,none⟩)]) rfl trivial (enters_of func89 (by kernel_rfl) rfl) d belowK_t (belowK_b (by have:=q.out;omega)) (Below.refl _ _) (λ_=>rfl)
  (λpre W=>St w pre W) (λc pre W=>c=.exit 0/\pre.length=1201/\St w (pre.take 1200) W) ?hI ?hIx a8.out
  (λx=>{tmps:=#[.iface t y,.int .i64 1200,undef,.pointer (some ⟨w.heap.size,0,none⟩),.string ⟨#[]⟩,.pointer (some ⟨w.heap.size+1,0,none⟩),.int .u8 (x.toNat:Int),.iface t y,.func (.func 89) #[] #[.pointer (some ⟨w.heap.size+1+1,0,none⟩)],.int .u8 (x.toNat:Int),undef,undef,undef,undef,undef,undef,undef,undef,undef,undef],defers:=[]}) ?assign ?body ?done ?stop
 case hI=>exact λpre W W' row N hg Z=>N.keep hg λr e=>by obtain⟨h1,U⟩:=Z r e;exact⟨by have:=q.out;omega,U⟩
 case hIx=>exact λc pre W W' row N hg Z=>⟨N.1,N.2.1,N.2.2.keep hg λr e=>by obtain⟨h1,U⟩:=Z r e;exact⟨by have:=q.out;omega,U⟩⟩
 case assign=>
  intro l x W K hK
  gi_wp2
  exact hK
 case body=>
  intro l pre x W N a0;obtain⟨sa,sc,s1,p,F,C,O⟩:=N;have c1:W.cell? ⟨w.heap.size+1,0,none⟩=some (.slice sa pre.length sc):=by simp[World.cell?,s1]
  have c0:W.cell? ⟨w.heap.size,0,none⟩=some (.int .i64 1200):=by simp[World.cell?,F]
  by_cases f:pre.length=1200
  ·have HS:Hid (St w pre W):=⟨sa,sc,s1,p,F,C,O⟩;have hd:(pre.length:Int)=1200:=by omega
   have HF:=hZ f;clear s1 p F C O f a0 d
   gi_wp2
   refine⟨KeepsOthers.refl _,rfl,by simp[HF.out],?_⟩;rw[List.take_append_of_le_length (by rw[HF.out];exact eR _),List.take_of_length_le (by rw[HF.out];exact eR _)];exact HS.out
  ·obtain⟨i0,hi,a1,a2,a3⟩:=info_parts q40;have hd:¬(pre.length:Int)=1200:=by omega
   have hne:some (w.heap.size+1)≠(Value.slice sa pre.length sc).ownBlock:=λe=>by have:=(p.lt _ e.symm).1;omega
   have a9:some w.heap.size≠(Value.slice sa pre.length sc).ownBlock:=λe=>by have:=(p.lt _ e.symm).1;omega
   have a4:=(eE.1 s1).1;have H1:=hZ s1;have H2:=hZ p;have H3:=hZ F;have J:=hZ C;have H5:Hid (pre.length+1<=1200):=hZ (by omega);clear s1 p F C O f a0 d
   gi_wp2_with (gi_at_builtin;refine wpListIn_append_own _ rfl _ _ 128 rfl (w.heap.size+2) 5 i0 (.int .u8 0) 1 1 underlying128 hi a1 a2 a3 rfl (by decide) _ _ _ rfl (H2.out.alloc _) ⟨W.heap.size,0,none⟩ 1 1 [.int .u8 (x.toNat:Int)] rfl rfl ?c1 ?c2 ?c3 ?c4 ?c5 ?_)
   case c1=>exact World.news_of_block (cs:=#[.int .u8 (x.toNat:Int)]) (eN _ _)
   case c2=>intro u hu;simp at hu;rcases hu with rfl;rfl
   case c3=>have:=H5.out;unfold maxLen;omega
   case c4=>have:=H5.out;omega
   case c5=>have:=J.out.size;simp;omega
   intro v' V s z _;refine Hid.out ?_;obtain⟨g,cap,rfl,b0,b1⟩:=s.form (by omega);have G:W.grownBy V (Value.slice sa pre.length sc).ownBlock:=qcg z;have k1:V.heap[w.heap.size+1]? =some (.cells #[.slice sa pre.length sc] 128 (0,0)):=by rw[G.block _ a4 hne];exact H1.out
   have k0:V.heap[w.heap.size]? =some (.cells #[.int .i64 1200] 3 (0,0)):=by rw[G.block _ (by omega) a9];exact H3.out
   have d1:V.cell? ⟨w.heap.size+1,0,none⟩=some (.slice sa pre.length sc):=by simp[World.cell?,k1]
   have b8:V.frozen? ⟨w.heap.size+1,0,none⟩=false:=by simp[World.frozen?,k1]
   have K1:=hZ k1;have K0:=hZ k0;have HO:=hZ s;have j:=hZ G;clear s z G k1 k0 b0 b1;refine hZ ?_
   gi_wp2
   have a5:∀r,(Value.slice sa pre.length sc).ownBlock=some r->w.heap.size+2<=r:=λr e=>((H2.out).lt r e).1
   have P:Below w.heap.size W (V.setCell ⟨w.heap.size+1,0,none⟩ (.slice (some ⟨g,0,none⟩) (pre.length+1) cap)):=
    ⟨j.out.os,j.out.tape,j.out.output,by rw[qag];exact j.out.size,λk Q=>by
     rw[qab (a:=⟨w.heap.size+1,0,none⟩) k (by show k≠w.heap.size+1;omega)];exact j.out.block k (by omega) λe=>by have:=a5 k e.symm;omega⟩
   refine⟨⟨P.size,λk o Q ho=>?_⟩,P,some ⟨g,0,none⟩,cap,?_,?_,?_,J.out.trans P,by have:=H5.out;simpa using this⟩
   ·have b2:k≠w.heap.size+1:=λe=>by rw[e,H1.out]at Q;cases Q;cases ho
    rw[qab (a:=⟨w.heap.size+1,0,none⟩) k b2,j.out.block k (eE.1 Q).1 ?_]
    ·exact Q
    ·intro e;rcases H2.out.2 with⟨hh,_⟩|⟨g',b5,b6,hh,_,b3,_⟩
     ·rw[hh]at e;cases e
     ·rw[hh]at e;cases e;rw[b3]at Q;cases Q;cases ho
   ·have:=qck (v:=.slice (some ⟨g,0,none⟩) (pre.length+1) cap) K1.out;simpa using this
   ·have:=qsj (a:=⟨w.heap.size+1,0,none⟩) (x:=.slice (some ⟨g,0,none⟩) (pre.length+1) cap) HO.out (show w.heap.size+1<w.heap.size+2 by omega);simpa[Lib.byteCells]using this
   ·rw[qab (a:=⟨w.heap.size+1,0,none⟩) _ (show w.heap.size≠w.heap.size+1 by omega)];exact K0.out
 case done=>
  intro D xs W hD hS hI A;have m:(Sc.wr v).take 1200=xs:=by
   obtain⟨_,_,_,_,_,_,h⟩:=hI;rw[<-hS];exact List.take_of_length_le h
  clear hS;have R:=hZ A;obtain⟨sa,sc,s1,p,F,C,O⟩:=hI;have c1:W.cell? ⟨w.heap.size+1,0,none⟩=some (.slice sa xs.length sc):=by simp[World.cell?,s1]
  have b4:=qub p;have J:=hZ C;have HE:=hZ m;have S:=hZ hD;clear s1 p F C O d A m hD
  gi_wp2
  refine qdz (B:=w.heap.size) [D] W (by simp) (λE hE=>?_) (λw' T=>?_) J.out.size
  ·simp at hE;subst hE;exact⟨by have:=q.out;have:=S.out;omega,R.out⟩
  ·exact⟨.string ⟨xs.toArray⟩,by simp[results,results145,go_sem],by rw[HE.out],J.out.trans T⟩
 case stop=>
  rintro D c pre W hD hS ⟨rfl,hl,hI⟩ A;have m:(Sc.wr v).take 1200=pre.take 1200:=by
   obtain⟨r,Z⟩:=hS;rw[<-Z,List.take_append_of_le_length (by omega)]
  generalize pre.take 1200=bs at m hI;clear hS hl;have R:=hZ A;obtain⟨sa,sc,s1,p,F,C,O⟩:=hI;have c1:W.cell? ⟨w.heap.size+1,0,none⟩=some (.slice sa bs.length sc):=by simp[World.cell?,s1]
  have b4:=qub p;have J:=hZ C;have HE:=hZ m;have S:=hZ hD;clear s1 p F C O d A m hD
  gi_wp2
  refine qdz (B:=w.heap.size) [D] W (by simp) (λE hE=>?_) (λw' T=>?_) J.out.size
  ·simp at hE;subst hE;exact⟨by have:=q.out;have:=S.out;omega,R.out⟩
  ·exact⟨.string ⟨bs.toArray⟩,by simp[results,results145,go_sem],by rw[HE.out],J.out.trans T⟩
theorem qrp(H:Gh)(v:Vl)(x:Vu)(w:Wd)(b:VRep H v x)(c:GT w)(d:6<=w.heap.size)(a:Im H w.heap.size w):
  Calls prog 145 #[x,.int .i64 1200] w λe w'=>e=.returned (.string ⟨((Sc.wr v).take 1200).toArray⟩)/\Below w.heap.size w w':=by
 obtain⟨t,y,rfl⟩:=b.form;exact callsIn_wide.1 (qu8 6 (eR _) H v t y w b c d a)
end
theorem q6j:Eg 199:=qa0 func199 (by kernel_rfl) (by kernel_rfl)
theorem q6k:Eg 196:=qa0 func196 (by kernel_rfl) (by kernel_rfl)
theorem q6y(S:Sub)(n:Nat):q3p S n:=by
 intro G m w p al k t f z g sa sn sc tw i o j l b;cases o with
 |bare q a h=>
  cases p with
  |cons=>exact absurd a (by decide)
  |eqQ=>exact qgc .eqQ 196 #[] q6k rfl rfl rfl (λ_ _ _=>rfl) G m w al k q f _ g sa sn sc (λH w v u x y _ i c d=>q0w m H w v u x y i c d) i h j l b
  |_=>exact absurd b (qfb rfl rfl _)
 |mach q r a h s=>
  cases p with
  |cons=>exact qgc .cons 199 #[bp r] q6j rfl rfl rfl (λ_ _ _=>rfl) G m w al k q f _ g sa sn sc (λH w v u x y d i c e=>quc m H w v u x y r (d.le.mbox s) i c e) i h j l b
  |eqQ=>exact absurd a (by decide)
  |_=>exact absurd b (qfb rfl rfl _)
 |self q a h=>
  cases p with
  |cons=>exact absurd a (by decide)
  |eqQ=>exact absurd a (by decide)
  |_=>exact absurd b (qfb rfl rfl _)
structure Mv (G:Gh) (w:Wd) (H:Gh) (w':Wd):Prop where
 up:G.up H
 I:∀{b:Nat},b<w.heap.size->H.I b=G.I b
 mu:∀{b:Nat},b∈H.mut->b∈G.mut\/w.heap.size<=b
 blk:∀{k:Nat},k<w.heap.size->k∉G.mut->w'.heap[k]? =w.heap[k]?
 size:w.heap.size<=w'.heap.size
theorem Mv.refl(G:Gh)(w:Wd):Mv G w G w:=⟨Gh.up.refl G,λ_=>rfl,.inl,λ_ _=>rfl,eR _⟩
theorem Mv.trans{L:Gh}(a:Mv G w H w1)(b:Mv H w1 L w2):Mv G w L w2:=
 ⟨a.up.trans b.up,λh=>(b.I (eW h a.size)).trans (a.I h),λh=>(b.mu h).elim a.mu (λh=>.inr (eT a.size h)),λc d=>(b.blk (eW c a.size) (λh=>(a.mu h).elim d (λh=>by omega))).trans (a.blk c d),eT a.size b.size⟩
theorem Mv.lk(a:Mv G w H w1)(h:Lk w1 w2):Mv G w H w2:=⟨a.up,a.I,a.mu,λb c=>by rw[h.heap];exact a.blk b c,by rw[h.heap];exact a.size⟩
theorem Mv.ext(x:G.ext H w.heap.size)(b:Below w.heap.size w w'):Mv G w H w':=⟨x.up,λh=>x.I h,λh=>.inl (by rw[<-x.mut];exact h),λa _=>b.block _ a,b.size⟩
theorem Mv.lkl(h:Lk w w1)(a:Mv G w1 H w2):Mv G w H w2:=by
 obtain⟨f,b,c,d,e⟩:=a;rw[h.heap]at b c d e;exact⟨f,b,c,d,e⟩
theorem qaa(w:Wd)(o:Obj):Below w.heap.size w (w.alloc o):=(Below.refl _ _).alloc (eR _) _
def Made(G:Gh)(S:Sub)(m:Mc)(w:Wd)(sh:List Nat)(e:Ex)(e':En)(w':Wd):Prop:=∃H x,e'=.returned x/\Mv G w H w'/\Inv H S m w'/\CRep H sh e x
theorem Made.ends:∀a w',Made G S m w sh e a w'->∃v,a=.returned v:=λ_ _ ⟨_,x,h,_⟩=>⟨x,h⟩
theorem Made.after{b:En}(a:Mv G w H w1)(h:Made H S m w1 sh e b w'):Made G S m w sh e b w':=by
 obtain⟨L,x,c,d,f,g⟩:=h;exact⟨L,x,c,a.trans d,f,g⟩
theorem qpk(mb kc:Nat)(cc:Array Vu)(w:Wd):Calls prog 339 #[.pointer (some ⟨mb,0,none⟩),.func (.func kc) #[] cc] w λe w'=>
  e=.returned (.func (.func 376) #[] #[.pointer (some ⟨w.heap.size,0,none⟩),.pointer (some ⟨w.heap.size+1,0,none⟩)])/\Lk ((w.alloc (.cells #[.pointer (some ⟨mb,0,none⟩)] 107)).alloc (.cells #[.func (.func kc) #[] cc] 241)) w':=by
 go_enter func339,ntmps339
 go_wp2;go_ret;exact⟨rfl,rfl,rfl,rfl,rfl⟩
theorem qds{kc:Nat}{cc:Array Vu}(i:Inv G S m w)(b:IRep G sh e (.func (.func kc) #[] cc)):Calls prog 339 #[bp G.mb,.func (.func kc) #[] cc] w (Made G S m w sh e):=by
 refine Calls.mono (qpk G.mb kc cc w) ?_;rintro d w' ⟨rfl,a⟩;have c:=i.alloc2 (.cells #[bp G.mb] 107) (.cells #[.func (.func kc) #[] cc] 241);have x2:=i.x2 (.cells #[bp G.mb] 107) (.cells #[.func (.func kc) #[] cc] 241);refine⟨_,_,rfl,(Mv.ext x2 ((qaa _ _).alloc (by simp) _)).lk a,Inv.lk a c,.step sh e _ _ _ ?_ (Gh.add_at _ _ _) (b.mono x2.le)⟩;show Gh.I _ _=_;rw[qah _ (by omega)];exact Gh.add_at _ _ _
theorem qp2(mb:Nat)(u i:Int)(w:Wd)(Q:En->Wd->Prop)(a:∀e w,Q e w->∃v,e=.returned v)
  (b:∀w',Lk (w.alloc (.cells #[.int .i64 u,.int .i64 i] 395)) w'->Calls prog 339 #[.pointer (some ⟨mb,0,none⟩),.func (.func 366) #[] #[.pointer (some ⟨w.heap.size,0,none⟩)]] w' Q):
  Calls prog 331 #[.pointer (some ⟨mb,0,none⟩),.agg #[.int .i64 u,.int .i64 i]] w Q:=by
 have d:=hZ b;have f:=hZ a;clear b a;go_enter func331,ntmps331
 go_wp2_with (go_at_call 339;refine(d.out _ (by exact⟨rfl,rfl,rfl,rfl⟩)).mono ?_;intro e w2 c;obtain⟨v,rfl⟩:=f.out _ _ c)
 exact c
theorem qv7(i:Inv G S m w)(c:sh[u]? =some n)(d:j<n)(f:u<=1000000000/\n<=1000000000):Calls prog 331 #[bp G.mb,.agg #[.int .i64 (u:Int),.int .i64 (j:Int)]] w (Made G S m w sh (.loc u j)):=by
 refine qp2 G.mb u j w _ Made.ends λw' b=>?_
 have g:=Inv.lk b (i.alloc (.cells #[.int .i64 (u:Int),.int .i64 (j:Int)] 395));have x1:=i.x1 (.cells #[.int .i64 (u:Int),.int .i64 (j:Int)] 395);have a:=qds (sh:=sh) (e:=.loc u j) g (.loc sh u j n w.heap.size c d f (Gh.add_at _ _ _));exact Calls.mono a λe w2 h=>h.after ((Mv.ext x1 (qaa _ _)).lk b)
theorem q0m(mb a b c:Nat)(c1 c2 c3:Array Vu)(w:Wd)(Q:En->Wd->Prop)(d:∀e w,Q e w->∃v,e=.returned v)
  (f:∀w',Lk (((w.alloc (.cells #[.func (.func a) #[] c1] 241)).alloc (.cells #[.func (.func b) #[] c2] 241)).alloc (.cells #[.func (.func c) #[] c3] 241)) w'->Calls prog 339 #[.pointer (some ⟨mb,0,none⟩),.func (.func 398) #[] #[.pointer (some ⟨w.heap.size,0,none⟩),.pointer (some ⟨w.heap.size+2,0,none⟩),.pointer (some ⟨w.heap.size+1,0,none⟩)]] w' Q):
  Calls prog 373 #[.pointer (some ⟨mb,0,none⟩),.func (.func a) #[] c1,.func (.func b) #[] c2,.func (.func c) #[] c3] w Q:=by
 have h:=hZ f;have i:=hZ d;clear f d;go_enter func373,ntmps373
 go_wp2_with (go_at_call 339;refine(h.out _ (by exact⟨rfl,rfl,rfl,rfl⟩)).mono ?_;intro e w2 g;obtain⟨v,rfl⟩:=i.out _ _ g)
 exact g
theorem q42{G:Gh}{S:Sub}{m:Mc}{w:Wd}{sh:List Nat}{c t:Ex}{o:Option Ex}{j l a:Vu}(i:Inv G S m w)(n:CRep G sh c j)(p:CRep G sh t l)(q:ORep G sh o a):Calls prog 373 #[bp G.mb,j,l,a] w (Made G S m w sh (.ite c t o)):=by
 obtain⟨b,c1,rfl,_⟩:=n.isF;obtain⟨d,c2,rfl,_⟩:=p.isF;obtain⟨f,c3,rfl⟩:∃k c,a=.func (.func k) #[] c:=by
  cases q with
  |none=>exact⟨_,_,rfl⟩
  |some _ e _ h=>obtain⟨k,c,h,_⟩:=h.isF;exact⟨k,c,h⟩
 refine q0m G.mb b d f c1 c2 c3 w _ Made.ends λw' r=>?_
 have s:=Inv.lk r (i.alloc3 (.cells #[.func (.func b) #[] c1] 241) (.cells #[.func (.func d) #[] c2] 241) (.cells #[.func (.func f) #[] c3] 241));have x3:=i.x3 (.cells #[.func (.func b) #[] c1] 241) (.cells #[.func (.func d) #[] c2] 241) (.cells #[.func (.func f) #[] c3] 241);have g:=qds (sh:=sh) (e:=.ite c t o) s (by
  refine(.ite sh c t o w.heap.size (w.heap.size+2) (w.heap.size+1) _ _ _ ?_ (Gh.add_at _ _ _) ?_ (n.mono x3.le) (p.mono x3.le) (q.mono x3.le))
  ·rw[qah _ (by omega),qah _ (by omega)];exact Gh.add_at _ _ _
  ·rw[qah _ (by omega)];exact Gh.add_at _ _ _
  )
 exact Calls.mono g λe w2 h=>h.after ((Mv.ext x3 (((qaa _ _).alloc (by simp) _).alloc (by simp;omega) _)).lk r)
theorem qxj(mb:Nat)(sa:OA)(sn sc:Nat)(w:Wd)(Q:En->Wd->Prop)(a:∀e w,Q e w->∃v,e=.returned v)
  (b:∀w',Lk ((w.alloc (.cells #[.pointer (some ⟨mb,0,none⟩)] 107)).alloc (.cells #[.slice sa sn sc] 426)) w'->Calls prog 339 #[.pointer (some ⟨mb,0,none⟩),.func (.func 370) #[] #[.pointer (some ⟨w.heap.size,0,none⟩),.pointer (some ⟨w.heap.size+1,0,none⟩)]] w' Q):
  Calls prog 333 #[.pointer (some ⟨mb,0,none⟩),.slice sa sn sc] w Q:=by
 have d:=hZ b;have f:=hZ a;clear b a;go_enter func333,ntmps333
 go_wp2_with (go_at_call 339;refine(d.out _ (by exact⟨rfl,rfl,rfl,rfl⟩)).mono ?_;intro e w2 c;obtain⟨v,rfl⟩:=f.out _ _ c)
 exact c
theorem qx7{f:Ex}{sa:OA}(i:Inv G S m w)(c:xs.length<=90000)(d:RowI G 241 (.slice sa sn sc) xs)(g:XRep G sh (f::l) xs):Calls prog 333 #[bp G.mb,.slice sa sn sc] w (Made G S m w sh (.app f l)):=by
 refine qxj G.mb sa sn sc w _ Made.ends λw' b=>?_
 have j:=Inv.lk b (i.alloc2 (.cells #[bp G.mb] 107) (.cells #[.slice sa sn sc] 426));have x2:=i.x2 (.cells #[bp G.mb] 107) (.cells #[.slice sa sn sc] 426);have a:=qds (sh:=sh) (e:=.app f l) j (by
  refine(.app sh f l w.heap.size (w.heap.size+1) _ xs ?_ (Gh.add_at _ _ _) c (d.mono x2.le) (g.mono x2.le));show Gh.I _ _=_;rw[qah _ (by omega)];exact Gh.add_at _ _ _
  )
 exact Calls.mono a λe w2 h=>h.after ((Mv.ext x2 ((qaa _ _).alloc (by simp) _)).lk b)
theorem qvm(mb a b:Nat)(c1 c2:Array Vu)(w:Wd)(Q:En->Wd->Prop)(c:∀e w,Q e w->∃v,e=.returned v)
  (d:∀w',Lk ((w.alloc (.cells #[.func (.func a) #[] c1] 241)).alloc (.cells #[.func (.func b) #[] c2] 413)) w'->Calls prog 339 #[.pointer (some ⟨mb,0,none⟩),.func (.func 355) #[] #[.pointer (some ⟨w.heap.size,0,none⟩),.pointer (some ⟨w.heap.size+1,0,none⟩)]] w' Q):
  Calls prog 321 #[.pointer (some ⟨mb,0,none⟩),.func (.func a) #[] c1,.func (.func b) #[] c2] w Q:=by
 have g:=hZ d;have h:=hZ c;clear d c;go_enter func321,ntmps321
 go_wp2_with (go_at_call 339;refine(g.out _ (by exact⟨rfl,rfl,rfl,rfl⟩)).mono ?_;intro e w2 f;obtain⟨v,rfl⟩:=h.out _ _ f)
 exact f
inductive Tg.Ex':Tg->Ex->Ex->Prop where
 |loc (u n:Nat) (a:Ex):Tg.Ex' (.loc u n) a (.setL u n a)
 |glo (s:Bs) (a:Ex):Tg.Ex' (.glo s) a (.setG s a)
 |def' (s:Bs) (a:Ex):Tg.Ex' (.def' s) a (.defG s a)
theorem qxw{t:Tg}{a:Ex}{xs:Vu}(i:Inv G S m w)(p:Tg.Ex' t a e)(d:CRep G sh a xa)(f:TRep G sh t xs):Calls prog 321 #[bp G.mb,xa,xs] w (Made G S m w sh e):=by
 obtain⟨b,c1,rfl,_⟩:=d.isF;obtain⟨g,c2,rfl⟩:∃k c,xs=.func (.func k) #[] c:=by cases f <;> exact⟨_,_,rfl⟩
 refine qvm G.mb b g c1 c2 w _ Made.ends λw' o=>?_
 have q:=Inv.lk o (i.alloc2 (.cells #[.func (.func b) #[] c1] 241) (.cells #[.func (.func g) #[] c2] 413));have x2:=i.x2 (.cells #[.func (.func b) #[] c1] 241) (.cells #[.func (.func g) #[] c2] 413);have j:((G.add w.heap.size (.cells #[.func (.func b) #[] c1] 241)).add (w.heap.size+1) (.cells #[.func (.func g) #[] c2] 413)).I w.heap.size=some (.cells #[.func (.func b) #[] c1] 241 (0,0)):=by
  rw[qah _ (by omega)];exact Gh.add_at _ _ _
 have l:=qds (sh:=sh) (e:=e) (kc:=355) (cc:=#[bp w.heap.size,bp (w.heap.size+1)]) q (by
  cases p with
  |loc u n=>exact .setL sh u n a w.heap.size (w.heap.size+1) _ _ j (Gh.add_at _ _ _) (d.mono x2.le) (f.mono x2.le)
  |glo s=>exact .setG sh s a w.heap.size (w.heap.size+1) _ _ j (Gh.add_at _ _ _) (d.mono x2.le) (f.mono x2.le)
  |def' s=>exact .defG sh s a w.heap.size (w.heap.size+1) _ _ j (Gh.add_at _ _ _) (d.mono x2.le) (f.mono x2.le))
 exact Calls.mono l λe w2 h=>h.after ((Mv.ext x2 ((qaa _ _).alloc (by simp) _)).lk o)
theorem qrx(mb a:Nat)(u i:Int)(c1:Array Vu)(w:Wd)(Q:En->Wd->Prop)(b:∀e w,Q e w->∃v,e=.returned v)
  (c:∀w',Lk (w.alloc (.cells #[.int .i64 u,.int .i64 i] 395)) w'->Calls prog 321 #[.pointer (some ⟨mb,0,none⟩),.func (.func a) #[] c1,.func (.func 400) #[] #[.pointer (some ⟨w.heap.size,0,none⟩)]] w' Q):
  Calls prog 374 #[.pointer (some ⟨mb,0,none⟩),.agg #[.int .i64 u,.int .i64 i],.func (.func a) #[] c1] w Q:=by
 have f:=hZ c;have g:=hZ b;clear c b;go_enter func374,ntmps374
 go_wp2_with (go_at_call 321;refine(f.out _ (by exact⟨rfl,rfl,rfl,rfl⟩)).mono ?_;intro e w2 d;obtain⟨v,rfl⟩:=g.out _ _ d)
 exact d
theorem qy8{a:Ex}(i:Inv G S m w)(f:sh[u]? =some n)(g:j<n)(k:u<=1000000000/\n<=1000000000)(c:CRep G sh a xa):Calls prog 374 #[bp G.mb,.agg #[.int .i64 (u:Int),.int .i64 (j:Int)],xa] w (Made G S m w sh (.setL u j a)):=by
 obtain⟨l,c1,rfl,_⟩:=c.isF;refine qrx G.mb l u j c1 w _ Made.ends λw' d=>?_
 have o:=Inv.lk d (i.alloc (.cells #[.int .i64 (u:Int),.int .i64 (j:Int)] 395));have x1:=i.x1 (.cells #[.int .i64 (u:Int),.int .i64 (j:Int)] 395);have b:=qxw (sh:=sh) o (.loc u j a) (c.mono x1.le) (.loc sh u j n w.heap.size f g k (Gh.add_at _ _ _));exact Calls.mono b λe w2 h=>h.after ((Mv.ext x1 (qaa _ _)).lk d)
theorem qwf(mb a b:Nat)(c1 c2:Array Vu)(w:Wd)(Q:En->Wd->Prop)(c:∀e w,Q e w->∃v,e=.returned v)
  (d:∀w',Lk (((w.alloc (.cells #[.pointer (some ⟨mb,0,none⟩)] 107)).alloc (.cells #[.func (.func a) #[] c1] 241)).alloc (.cells #[.func (.func b) #[] c2] 440)) w'->Calls prog 339 #[.pointer (some ⟨mb,0,none⟩),.func (.func 382) #[] #[.pointer (some ⟨w.heap.size,0,none⟩),.pointer (some ⟨w.heap.size+1,0,none⟩),.pointer (some ⟨w.heap.size+2,0,none⟩)]] w' Q):
  Calls prog 357 #[.pointer (some ⟨mb,0,none⟩),.func (.func a) #[] c1,.func (.func b) #[] c2] w Q:=by
 have g:=hZ d;have h:=hZ c;clear d c;go_enter func357,ntmps357
 go_wp2_with (go_at_call 339;refine(g.out _ (by exact⟨rfl,rfl,rfl,rfl⟩)).mono ?_;intro e w2 f;obtain⟨v,rfl⟩:=h.out _ _ f)
 exact f
theorem SRep.isFunc{G:Gh}{sh:List Nat}{l:List Ex}{x:Vu}(h:SRep G sh l x):∃k c,x=.func (.func k) #[] c:=by
 cases h with
 |one _ e _ h=>obtain⟨k,c,h,_⟩:=h.isF;exact⟨k,c,h⟩
 |cons=>exact⟨_,_,rfl⟩
theorem qxz{n:Nat}{r:Bool}{a:Vu}(i:Inv G S m w)(g:SRep G (n::sh) l xl)(j:BRep G n r a):Calls prog 357 #[bp G.mb,xl,a] w (Made G S m w sh (.lam n r l)):=by
 obtain⟨b,c1,rfl⟩:=g.isFunc;obtain⟨d,c2,rfl⟩:∃k c,a=.func (.func k) #[] c:=by cases j <;> exact⟨_,_,rfl⟩
 refine qwf G.mb b d c1 c2 w _ Made.ends λw' o=>?_
 have p:=Inv.lk o (i.alloc3 (.cells #[bp G.mb] 107) (.cells #[.func (.func b) #[] c1] 241) (.cells #[.func (.func d) #[] c2] 440));have x3:=i.x3 (.cells #[bp G.mb] 107) (.cells #[.func (.func b) #[] c1] 241) (.cells #[.func (.func d) #[] c2] 440);have f:=qds (sh:=sh) (e:=.lam n r l) p (by
  refine .lam sh n r l w.heap.size (w.heap.size+1) (w.heap.size+2) _ _ ?_ ?_ (Gh.add_at _ _ _) (g.mono x3.le) (j.mono x3.le)
  ·show Gh.I _ _=_;rw[qah _ (by omega),qah _ (by omega)];exact Gh.add_at _ _ _
  ·rw[qah _ (by omega)];exact Gh.add_at _ _ _)
 exact Calls.mono f λe w2 h=>h.after ((Mv.ext x3 (((qaa _ _).alloc (by simp) _).alloc (by simp;omega) _)).lk o)
theorem qwg(mb a:Nat)(n:Int)(c1:Array Vu)(w:Wd)(Q:En->Wd->Prop)(b:∀e w,Q e w->∃v,e=.returned v)
  (c:∀w',Lk ((w.alloc (.cells #[.pointer (some ⟨mb,0,none⟩)] 107)).alloc (.cells #[.int .i64 n] 3)) w'->Calls prog 357 #[.pointer (some ⟨mb,0,none⟩),.func (.func a) #[] c1,.func (.func 363) #[] #[.pointer (some ⟨w.heap.size+1,0,none⟩),.pointer (some ⟨w.heap.size,0,none⟩)]] w' Q):
  Calls prog 326 #[.pointer (some ⟨mb,0,none⟩),.int .i64 n,.func (.func a) #[] c1] w Q:=by
 have f:=hZ c;have g:=hZ b;clear c b;go_enter func326,ntmps326
 go_wp2_with (go_at_call 357;refine(f.out _ (by exact⟨rfl,rfl,rfl,rfl⟩)).mono ?_;intro e w2 d;obtain⟨v,rfl⟩:=g.out _ _ d)
 exact d
theorem qs0{n:Nat}(i:Inv G S m w)(b:SRep G (n::sh) l xl):Calls prog 326 #[bp G.mb,.int .i64 (n:Int),xl] w (Made G S m w sh (.lam n false l)):=by
 obtain⟨d,c1,rfl⟩:=b.isFunc;refine qwg G.mb d n c1 w _ Made.ends λw' c=>?_
 have f:=Inv.lk c (i.alloc2 (.cells #[bp G.mb] 107) (.cells #[.int .i64 (n:Int)] 3));have x2:=i.x2 (.cells #[bp G.mb] 107) (.cells #[.int .i64 (n:Int)] 3);have a:=qxz (sh:=sh) f (b.mono x2.le) (.num n (w.heap.size+1) w.heap.size (Gh.add_at _ _ _) (by
  show Gh.I _ _=_;rw[qah _ (by omega)];exact Gh.add_at _ _ _))
 exact Calls.mono a λe w2 h=>h.after ((Mv.ext x2 ((qaa _ _).alloc (by simp) _)).lk c)
theorem qwh(mb a:Nat)(c1:Array Vu)(w:Wd)(Q:En->Wd->Prop)(b:∀e w,Q e w->∃v,e=.returned v)
  (c:∀w',Lk (w.alloc (.cells #[.pointer (some ⟨mb,0,none⟩)] 107)) w'->Calls prog 357 #[.pointer (some ⟨mb,0,none⟩),.func (.func a) #[] c1,.func (.func 358) #[] #[.pointer (some ⟨w.heap.size,0,none⟩)]] w' Q):
  Calls prog 323 #[.pointer (some ⟨mb,0,none⟩),.func (.func a) #[] c1] w Q:=by
 have f:=hZ c;have g:=hZ b;clear c b;go_enter func323,ntmps323
 go_wp2_with (go_at_call 357;refine(f.out _ (by exact⟨rfl,rfl,rfl,rfl⟩)).mono ?_;intro e w2 d;obtain⟨v,rfl⟩:=g.out _ _ d)
 exact d
theorem qp8(i:Inv G S m w)(b:SRep G (1::sh) l xl):Calls prog 323 #[bp G.mb,xl] w (Made G S m w sh (.lam 1 true l)):=by
 obtain⟨d,c1,rfl⟩:=b.isFunc;refine qwh G.mb d c1 w _ Made.ends λw' c=>?_
 have f:=Inv.lk c (i.alloc (.cells #[bp G.mb] 107));have x1:=i.x1 (.cells #[bp G.mb] 107);have a:=qxz (sh:=sh) f (b.mono x1.le) (.rest w.heap.size (Gh.add_at _ _ _));exact Calls.mono a λe w2 h=>h.after ((Mv.ext x1 (qaa _ _)).lk c)
theorem qlm(G:Gh)(S:Sub)(m:Mc)(w:Wd)(t:BA)(i:Inv G S m w):
  Calls prog 227 #[bp G.mb,.string t] w λe w'=>∃H b,e=.returned (bp b)/\Mv G w H w'/\Inv H S m w'/\(t.data.toList,b)∈H.B:=by
 obtain⟨es,a,d,k⟩:=i.mp;have c2:=i.mb2;have j:=qii G.mp es a G.B t w d k;cases f:qdj t.data.toList G.B with
 |some b=>
  rw[f]at j;have j:(Instr.lookup 114 (.map (some G.mp)) (.string t) false).run prog w=.ok (.pointer (some ⟨b,0,none⟩)) w:=j;have g:=hZ i;have n:=hZ (qlf f);clear i d k f;go_enter func227,ntmps227
  go_wp2;go_ret;exact⟨G,b,rfl,Mv.refl G w,g.out,n.out⟩
 |none=>
  rw[f]at j;have j:(Instr.lookup 114 (.map (some G.mp)) (.string t) false).run prog w=.ok (.pointer none) w:=j;have l:G.mp<w.heap.size:=(eE.1 d).1;have u:=qe2 G.mp w.heap.size es a G.B t (w.alloc (.cells #[.nilIface] 318)) (by rw[eH _ _ _ l];exact d) k f;have v:(w.alloc (.cells #[.nilIface] 318)).cell? ⟨G.mb,2,none⟩=some (.map (some G.mp)):=(qac (qae c2) _).trans c2;have g:=hZ i;have n:=hZ k;have r:=hZ (qfj f);have x:=hZ d;clear i k f d;go_enter func227,ntmps227
  go_wp2;go_ret;have s:=g.out.below ((Below.refl _ _).alloc (eR _) (.cells #[.nilIface] 318));refine⟨G.glob t.data.toList w.heap.size,w.heap.size,rfl,⟨G.up_glob _ _,λ_=>rfl,fun {b} f=>?_,fun {c} o p=>?_,by simp⟩,s.newGlob r.out (eN _ _) (λh=>by have:=g.out.ml h;omega) (g.out.fresh (eR _)) (λh=>by have:=(g.out.ff h).2;omega) ?_ (by simp) ⟨rfl,rfl,rfl⟩ ⟨es.push ⟨.string t,bp w.heap.size,a⟩,a+1,?_,?_⟩,?_⟩
  ·simp only[Gh.mut,Gh.glob,Gh.rows,List.mem_cons,List.mem_append,List.map_append,List.map_cons,List.map_nil,List.not_mem_nil,or_false]at f|-;rcases f with h|h|h|h|(h|h)|h
   ·exact .inl (.inl h)
   ·exact .inl (.inr (.inl h))
   ·exact .inl (.inr (.inr (.inl h)))
   ·exact .inl (.inr (.inr (.inr (.inl h))))
   ·exact .inl (.inr (.inr (.inr (.inr (.inl h)))))
   ·exact .inr (by omega)
   ·exact .inl (.inr (.inr (.inr (.inr (.inr h)))))
  ·have q:c≠G.mp:=λe=>p (e▸g.out.m4)
   simp[Ne.symm q,eH _ _ _ o]
  ·intro c p;simp[Ne.symm p]
  ·simp[Array.getElem?_setIfInBounds];omega
  ·simp[n.out]
  ·exact List.mem_append_right _ (by simp)
theorem qws(mb:Nat)(t:BA)(w:Wd)(Q:En->Wd->Prop)(a:∀e w,Q e w->∃v,e=.returned v)
  (c:Calls prog 227 #[.pointer (some ⟨mb,0,none⟩),.string t] w λe w1=>∃b,e=.returned (.pointer (some ⟨b,0,none⟩))/\∀w',Lk (w1.alloc (.cells #[.pointer (some ⟨b,0,none⟩)] 319)) w'->Calls prog 339 #[.pointer (some ⟨mb,0,none⟩),.func (.func 368) #[] #[.pointer (some ⟨w1.heap.size,0,none⟩)]] w' Q):
  Calls prog 332 #[.pointer (some ⟨mb,0,none⟩),.string t] w Q:=by
 have g:=hZ c;have h:=hZ a;clear c a;go_enter func332,ntmps332
 go_wp2_with (go_at_call 227;refine g.out.mono ?_;rintro e w1 ⟨b,rfl,d⟩;have i:=hZ d;clear d;refine Hid.out ?_)
 refine hZ ?_;go_wp2_with (go_at_call 339;refine(i.out _ (by exact⟨rfl,rfl,rfl,rfl⟩)).mono ?_;intro e w2 f;obtain⟨v,rfl⟩:=h.out _ _ f)
 exact f
theorem q20{t:BA}(i:Inv G S m w):Calls prog 332 #[bp G.mb,.string t] w (Made G S m w sh (.glo t.data.toList)):=by
 refine qws G.mb t w _ Made.ends ?_;refine Calls.mono (qlm G S m w t i) ?_;rintro e w1 ⟨H,b,rfl,d,hi,g⟩;refine⟨b,rfl,λw' f=>?_⟩;have j:=Inv.lk f (hi.alloc (.cells #[bp b] 319));have x1:=hi.x1 (.cells #[bp b] 319);have a:=qds (sh:=sh) (e:=.glo t.data.toList) j (.glo sh _ w1.heap.size b (Gh.add_at _ _ _) (x1.le.B g));have c:H.mb=G.mb:=d.up.le.mb;have e1:(H.add w1.heap.size (.cells #[bp b] 319)).mb=G.mb:=c;rw[e1]at a;exact Calls.mono a λe w2 h=>h.after (d.trans ((Mv.ext x1 (qaa _ _)).lk f))
theorem qry(mb a:Nat)(c1:Array Vu)(t:BA)(w:Wd)(Q:En->Wd->Prop)(c:∀e w,Q e w->∃v,e=.returned v)
  (d:Calls prog 227 #[.pointer (some ⟨mb,0,none⟩),.string t] w λe w1=>∃b,e=.returned (.pointer (some ⟨b,0,none⟩))/\∀w',Lk (w1.alloc (.cells #[.pointer (some ⟨b,0,none⟩)] 319)) w'->Calls prog 321 #[.pointer (some ⟨mb,0,none⟩),.func (.func a) #[] c1,.func (.func 401) #[] #[.pointer (some ⟨w1.heap.size,0,none⟩)]] w' Q):
  Calls prog 375 #[.pointer (some ⟨mb,0,none⟩),.string t,.func (.func a) #[] c1] w Q:=by
 have h:=hZ d;have i:=hZ c;clear d c;go_enter func375,ntmps375
 go_wp2_with (go_at_call 227;refine h.out.mono ?_;rintro e w1 ⟨b,rfl,f⟩;have j:=hZ f;clear f;refine Hid.out ?_)
 refine hZ ?_;go_wp2_with (go_at_call 321;refine(j.out _ (by exact⟨rfl,rfl,rfl,rfl⟩)).mono ?_;intro e w2 g;obtain⟨v,rfl⟩:=i.out _ _ g)
 exact g
theorem qy9{t:BA}{a:Ex}(i:Inv G S m w)(g:CRep G sh a xa):Calls prog 375 #[bp G.mb,.string t,xa] w (Made G S m w sh (.setG t.data.toList a)):=by
 obtain⟨k,c1,rfl,_⟩:=g.isF;refine qry G.mb k c1 t w _ Made.ends ?_;refine Calls.mono (qlm G S m w t i) ?_;rintro e w1 ⟨H,b,rfl,d,hi,l⟩;refine⟨b,rfl,λw' j=>?_⟩;have n:=Inv.lk j (hi.alloc (.cells #[bp b] 319));have x1:=hi.x1 (.cells #[bp b] 319);have c:=qxw (sh:=sh) n (.glo t.data.toList a) ((g.mono d.up.le).mono x1.le) (.glo sh _ w1.heap.size b (Gh.add_at _ _ _) (x1.le.B l));have f:H.mb=G.mb:=d.up.le.mb;have e1:(H.add w1.heap.size (.cells #[bp b] 319)).mb=G.mb:=f;rw[e1]at c;exact Calls.mono c λe w2 h=>h.after (d.trans ((Mv.ext x1 (qaa _ _)).lk j))
theorem qq3(mb:Nat)(sa:OA)(sn sc:Nat)(w:Wd)(Q:En->Wd->Prop)(a:∀e w,Q e w->∃v,e=.returned v)
  (b:∀w',Lk w w'->Calls prog 361 #[.slice sa sn sc] w' λe w1=>∃kc cc,e=.returned (.func (.func kc) #[] cc)/\∀w2,Lk w1 w2->Calls prog 339 #[.pointer (some ⟨mb,0,none⟩),.func (.func kc) #[] cc] w2 Q):
  Calls prog 338 #[.pointer (some ⟨mb,0,none⟩),.slice sa sn sc] w Q:=by
 have f:=hZ b;have g:=hZ a;clear b a;go_enter func338,ntmps338
 go_wp2_with (go_at_call 361;refine(f.out _ (by exact⟨rfl,rfl,rfl,rfl⟩)).mono ?_;rintro e w1 ⟨kc,cc,rfl,c⟩;have h:=hZ c;clear c;refine Hid.out ?_)
 refine hZ ?_;go_wp2_with (go_at_call 339;refine(h.out _ (by exact⟨rfl,rfl,rfl,rfl⟩)).mono ?_;intro e w2 d;obtain⟨v,rfl⟩:=g.out _ _ d)
 exact d
section
theorem qpn(g o cap k:Nat)(c:Array Vu)(w:Wd)(a:w.cell? ⟨g,o,none⟩=some (.func (.func k) #[] c)):
  Calls prog 361 #[.slice (some ⟨g,o,none⟩) 1 cap] w λe w'=>e=.returned (.func (.func k) #[] c)/\Lk w w':=by
 go_enter func361,ntmps361
 go_wp2;go_ret;exact⟨rfl,rfl,rfl,rfl,rfl⟩
theorem qat(h:w.cell? ⟨b,k,none⟩=some x):(w.alloc o).cell? ⟨b,k,none⟩=some x:=(qac (qae h) _).trans h
theorem qbx{p a:Addr}{v:Vu}(h:w.cell? p=some x)(b:p.block≠a.block):(w.setCell a v).cell? p=some x:=(qbk b).trans h
theorem bl0(h:Lk w w'):Below w.heap.size w w':=⟨h.os,h.tape,h.output,by rw[h.heap];exact eR _,λk _=>by rw[h.heap]⟩
theorem bl1(h:Lk (w.alloc o) w'):Below w.heap.size w w':=(qaa w o).trans ((bl0 h).mono (by simp))
theorem bl2{o2:Obj}(h:Lk ((w.alloc o).alloc o2) w'):Below w.heap.size w w':=((qaa w o).alloc (by simp) o2).trans ((bl0 h).mono (by simp;omega))
def SeqT(x y:Vu)(w w' w1:Wd)(Q:En->Wd->Prop):Prop:=∀b3 b4 w3,b3≠b4->w.heap.size<=b3->w.heap.size<=b4->(b3<w'.heap.size\/w1.heap.size<=b3)->(b4<w'.heap.size\/w1.heap.size<=b4)->(∀j,j<w1.heap.size->j≠b3->j≠b4->w3.heap[j]? =w1.heap[j]?)->w3.heap[b3]? =some (.cells #[x] 241 (0,0))->w3.heap[b4]? =some (.cells #[y] 241 (0,0))->w1.heap.size<=w3.heap.size->w3.os=w1.os->w3.tape=w1.tape->w3.output=w1.output->Q (.returned (.func (.func 384) #[] #[.pointer (some ⟨b3,0,none⟩),.pointer (some ⟨b4,0,none⟩)])) w3
def SeqR(g o k:Nat)(c:Array Vu)(w:Wd)(Q:En->Wd->Prop)(w':Wd)(e:En)(w1:Wd):Prop:=∃k2 c2,e=.returned (.func (.func k2) #[] c2)/\w1.cell? ⟨g,o,none⟩=some (.func (.func k) #[] c)/\Below w'.heap.size w' w1/\w.heap.size<=w'.heap.size/\SeqT (.func (.func k) #[] c) (.func (.func k2) #[] c2) w w' w1 Q
theorem SeqR.below{g o:Nat}{c:Array Vu}{Q:En->Wd->Prop}{e:En}(h:SeqR g o k c w Q w' e w1):Below w'.heap.size w' w1:=by obtain⟨_,_,_,_,h,_⟩:=h;exact h
section
variable {x y:Vu} {w w' w1:Wd} {Q:En->Wd->Prop}
theorem SeqT.aa(t:SeqT x y w w' w1 Q)(a:w.heap.size<=w1.heap.size):Q (.returned (.func (.func 384) #[] #[.pointer (some ⟨w1.heap.size,0,none⟩),.pointer (some ⟨w1.heap.size+1,0,none⟩)])) ((w1.alloc (.cells #[x] 241)).alloc (.cells #[y] 241)):=by
 refine t _ _ _ (by omega) a (by omega) (.inr (eR _)) (.inr (by omega)) (λj b _ _=>?_) ?_ ?_ (by simp;omega) rfl rfl rfl
 ·rw[eH _ _ _ (by simp;omega),eH _ _ _ b]
 ·rw[eH _ _ _ (by simp)];exact eN _ _
 ·have:=eN (w1.alloc (.cells #[x] 241)) (.cells #[y] 241);simpa using this
theorem SeqT.aa'(t:SeqT x y w w' w1 Q)(a:w.heap.size<=w1.heap.size):Q (.returned (.func (.func 384) #[] #[.pointer (some ⟨w1.heap.size+1,0,none⟩),.pointer (some ⟨w1.heap.size,0,none⟩)])) ((w1.alloc (.cells #[y] 241)).alloc (.cells #[x] 241)):=by
 refine t _ _ _ (by omega) (by omega) a (.inr (by omega)) (.inr (eR _)) (λj b _ _=>?_) ?_ ?_ (by simp;omega) rfl rfl rfl
 ·rw[eH _ _ _ (by simp;omega),eH _ _ _ b]
 ·have:=eN (w1.alloc (.cells #[y] 241)) (.cells #[x] 241);simpa using this
 ·rw[eH _ _ _ (by simp)];exact eN _ _
theorem SeqT.sa(t:SeqT x y w w' w1 Q)(d:w.heap.size<=b)(e:b<w'.heap.size)(f:b<w1.heap.size)(g:w1.heap[b]? =some (.cells #[.nilFunc] 241 (0,0))):Q (.returned (.func (.func 384) #[] #[.pointer (some ⟨b,0,none⟩),.pointer (some ⟨w1.heap.size,0,none⟩)])) ((w1.setCell ⟨b,0,none⟩ x).alloc (.cells #[y] 241)):=by
 refine t _ _ _ (by omega) d (by omega) (.inl e) (.inr (eR _)) (λj h c _=>?_) ?_ ?_ (by simp) rfl rfl rfl
 ·rw[eH _ _ _ (by simpa using h),qab (a:=⟨b,0,none⟩) j c]
 ·rw[eH _ _ _ (by simpa using f)];exact qck g
 ·have:=eN (w1.setCell ⟨b,0,none⟩ x) (.cells #[y] 241);simpa using this
theorem SeqT.as(t:SeqT x y w w' w1 Q)(d:w.heap.size<=b)(e:b<w'.heap.size)(f:b<w1.heap.size)(g:w1.heap[b]? =some (.cells #[.nilFunc] 241 (0,0))):Q (.returned (.func (.func 384) #[] #[.pointer (some ⟨w1.heap.size,0,none⟩),.pointer (some ⟨b,0,none⟩)])) ((w1.setCell ⟨b,0,none⟩ y).alloc (.cells #[x] 241)):=by
 refine t _ _ _ (by omega) (by omega) d (.inr (eR _)) (.inl e) (λj h _ c=>?_) ?_ ?_ (by simp) rfl rfl rfl
 ·rw[eH _ _ _ (by simpa using h),qab (a:=⟨b,0,none⟩) j c]
 ·have:=eN (w1.setCell ⟨b,0,none⟩ y) (.cells #[x] 241);simpa using this
 ·rw[eH _ _ _ (by simpa using f)];exact qck g
theorem SeqT.ss(t:SeqT x y w w' w1 Q){d:Nat}(c:b≠d)(i:w.heap.size<=b)(e:w.heap.size<=d)(k:b<w'.heap.size)(f:d<w'.heap.size)(l:w1.heap[b]? =some (.cells #[.nilFunc] 241 (0,0)))(m:w1.heap[d]? =some (.cells #[.nilFunc] 241 (0,0))):Q (.returned (.func (.func 384) #[] #[.pointer (some ⟨b,0,none⟩),.pointer (some ⟨d,0,none⟩)])) ((w1.setCell ⟨b,0,none⟩ x).setCell ⟨d,0,none⟩ y):=by
 refine t _ _ _ c i e (.inl k) (.inl f) (λj n g h=>?_) ?_ ?_ (by simp) rfl rfl rfl
 ·rw[qab (a:=⟨d,0,none⟩) j h,qab (a:=⟨b,0,none⟩) j g]
 ·rw[qab (a:=⟨d,0,none⟩) b c];exact qck l
 ·exact qck (by rw[qab (a:=⟨b,0,none⟩) d (Ne.symm c)];exact m)
end
theorem qmc(g o n cap k:Nat)(c:Array Vu)(w:Wd)(Q:En->Wd->Prop)(l:w.cell? ⟨g,o,none⟩=some (.func (.func k) #[] c))(d:n+2<=cap)(H:n+2<=1000000)
  (v:∀w',Below w.heap.size w w'->Calls prog 361 #[.slice (tl1 g o cap) (n+1) (cap-1)] w' (SeqR g o k c w Q w')):
  Calls prog 361 #[.slice (some ⟨g,o,none⟩) (n+2) cap] w Q:=by
 have D:∀w,(Instr.slice 426 (.slice (some ⟨g,o,none⟩) (n+2) cap) (some (.int .i64 1)) none none).run prog w=.ok (.slice (tl1 g o cap) (n+1) (cap-1)) w:=λw=>qn1 g o (n+1) cap d w
 have q:=hZ v;have I:=qae l;clear v;have hne:¬((n:Int)+2=1):=by omega
 have E:(0:Int)<(n:Int)+2:=by omega
 have m:∀{w' w1:Wd} {b:Nat},w'.heap[b]? =some (.cells #[.nilFunc] 241 (0,0))->Below w'.heap.size w' w1->w1.cell? ⟨b,0,none⟩=some .nilFunc/\w1.frozen? ⟨b,0,none⟩=false/\b<w1.heap.size/\w1.heap[b]? =some (.cells #[.nilFunc] 241 (0,0))/\b<w'.heap.size:=fun {w' w1 b} x y=>by
  have r:=(eE.1 x).1;have:=(y.block b r).trans x;exact⟨by simp[World.cell?,this],by simp[World.frozen?,this],eW r y.size,this,r⟩
 have s:Hid (∀w',Lk (w.alloc (.cells #[.nilFunc] 241)) w'->Calls prog 361 #[.slice (tl1 g o cap) (n+1) (cap-1)] w' λe w1=>(w1.cell? ⟨w.heap.size,0,none⟩=some .nilFunc/\w1.frozen? ⟨w.heap.size,0,none⟩=false/\w.heap.size<w1.heap.size/\w1.heap[w.heap.size]? =some (.cells #[.nilFunc] 241 (0,0))/\w.heap.size<w'.heap.size)/\SeqR g o k c w Q w' e w1):=λw' i=>Calls.mono (q.out w' (bl1 i)) λe w1 h=>⟨m (by rw[i.heap];exact eN _ _) h.below,h⟩
 have t:Hid (∀w',Lk ((w.alloc (.cells #[.nilFunc] 241)).alloc (.cells #[.nilFunc] 241)) w'->Calls prog 361 #[.slice (tl1 g o cap) (n+1) (cap-1)] w' λe w1=>(w1.cell? ⟨w.heap.size,0,none⟩=some .nilFunc/\w1.frozen? ⟨w.heap.size,0,none⟩=false/\w.heap.size<w1.heap.size/\w1.heap[w.heap.size]? =some (.cells #[.nilFunc] 241 (0,0))/\w.heap.size<w'.heap.size)/\(w1.cell? ⟨w.heap.size+1,0,none⟩=some .nilFunc/\w1.frozen? ⟨w.heap.size+1,0,none⟩=false/\w.heap.size+1<w1.heap.size/\w1.heap[w.heap.size+1]? =some (.cells #[.nilFunc] 241 (0,0))/\w.heap.size+1<w'.heap.size)/\SeqR g o k c w Q w' e w1):=λw' i=>Calls.mono (q.out w' (bl2 i)) λe w1 h=>⟨m (by rw[i.heap,eH _ _ _ (by simp)];exact eN _ _) h.below,m (by rw[i.heap];have:=eN (w.alloc (.cells #[.nilFunc] 241)) (.cells #[.nilFunc] 241);simpa using this) h.below,h⟩
 clear m;go_enter func361,ntmps361
 go_wp2_with (fail)
 go_region_held3 (λw'=>w'.cell? ⟨g,o,none⟩=some (.func (.func k) #[] c)) (first|(exact a.out.1)|(exact l)|(exact qat l)|(exact qat (qat l))|(exact qat a.out.1)|(exact qat (qat a.out.1))|(exact qbx a.out.1 (by simp;omega))|(exact qbx (qbx a.out.1 (by simp;omega)) (by simp;omega))|(exact qbx (qat a.out.1) (by simp;omega))|(exact qat (qbx a.out.1 (by simp;omega)))|(exact qbx (qbx (qat a.out.1) (by simp;omega)) (by simp;omega))|(exact qbx (qat (qbx a.out.1 (by simp;omega))) (by simp;omega))|go_keep|(trace_state;fail))
  (first
   |(go_at_call 361;refine(q.out _ (bl0 (by exact⟨rfl,rfl,rfl,rfl⟩))).mono ?_;rintro e w1 ⟨z,c2,rfl,d⟩;have A:=qae d.1;have a:=hZ d;clear d)
   |(go_at_call 361;refine(s.out _ (by exact⟨rfl,rfl,rfl,rfl⟩)).mono ?_;rintro e w1 ⟨⟨F,G,u,e3,j⟩,z,c2,rfl,d⟩;have f:=hZ (And.intro e3 j);clear e3 j;have A:=qae d.1;have a:=hZ d;clear d)
   |(go_at_call 361;refine(t.out _ (by exact⟨rfl,rfl,rfl,rfl⟩)).mono ?_;rintro e w1 ⟨⟨F,G,u,e3,j⟩,⟨J,K,L,e4,B⟩,z,c2,rfl,d⟩;have f:=hZ (And.intro e3 j);have p:=hZ (And.intro e4 B);clear e3 j e4 B;have A:=qae d.1;have a:=hZ d;clear d))
 all_goals(try go_wp2)
 all_goals try go_ret
 all_goals have C:w.heap.size<=w1.heap.size:=eT a.out.2.2.1 a.out.2.1.size
 all_goals first
  |exact a.out.2.2.2.aa C
  |exact a.out.2.2.2.aa' C
  |exact a.out.2.2.2.sa (eR _) f.out.2 u f.out.1
  |exact a.out.2.2.2.as (eR _) f.out.2 u f.out.1
  |exact a.out.2.2.2.ss (by omega) (eR _) (by omega) f.out.2 p.out.2 f.out.1 p.out.1
  |exact a.out.2.2.2.ss (by omega) (by omega) (eR _) p.out.2 f.out.2 p.out.1 f.out.1
end
end Go.Proofs.YtldaocpojcfljaaGreatDoor
