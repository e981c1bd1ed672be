import Derived.Test.YtldaocpojcfljaaGreatDoorC14
set_option maxRecDepth 100000
set_option maxHeartbeats 4000000
namespace Go.Proofs.YtldaocpojcfljaaGreatDoor
open Tryz hiding parts
open Go.RowKit Go.Shelf
section
open Sc
theorem cellsN_ok {S:Sub}:∀(n:Nat) {m:Mc},(m.cells:Int)+n≤S.quota→cellsN S n m=(.ok (),{m with cells:=m.cells+n})
 |0,m,_=>rfl
 |n+1,m,h=>by
  have h0:(m.cells:Int)<S.quota:=by push_cast at h;omega
  simp only [cellsN,Sc.cell,if_pos h0]
  rw [cellsN_ok n (by push_cast at h⊢;omega)]
  simp only [Nat.add_assoc,Nat.add_comm 1 n]
theorem qb7 {S:Sub}:∀(n:Nat) {m:Mc},(m.cells:Int)≤S.quota→S.quota<(m.cells:Int)+n→cellsN S n m=(.error 11,{m with cells:=S.quota.toNat})
 |0,m,h,h'=>by push_cast at h';omega
 |n+1,m,h,h'=>by
  by_cases h0:(m.cells:Int)<S.quota
  ·simp only [cellsN,Sc.cell,if_pos h0]
   rw [qb7 n (by push_cast;omega) (by push_cast at h'⊢;omega)]
  ·simp only [cellsN,Sc.cell,if_neg h0]
   have:S.quota.toNat=m.cells:=by omega
   rw [this]
theorem qpx (q1 q2 q3 mb cb k N:Nat) (e:Dl) (t mo:Int) (pf:Option Addr) (cp:Array Value) (w:World) (Q:Ending→World→Prop)
  (eg:∀args w,(callFunc k args).run prog w=.ok (.enter k args) w)
  (hQ:∀e w,Q e w→(∃v,e=.returned v)∨(∃ps,e=.panicked ps))
  (h1:w.cell? ⟨q1,0,none⟩=some (.pointer (some ⟨mb,0,none⟩))) (h2:w.cell? ⟨q2,0,none⟩=some (.int .i64 (N:Int))) (h3:w.cell? ⟨mb,1,none⟩=some (.pointer (some ⟨cb,0,none⟩)))
  (hd:∀j,w.cell? ⟨q3,j,none⟩=e.cells[j]?) (hne:q3≠cb) (hM:Mt cb t mo 11 w) (h0:0≤t) (ht:t+N≤mo) (hm:mo≤1000000)
  (hO:∀w',Lk (w.setCell ⟨cb,0,none⟩ (.int .i64 (t+N))) w'→Calls prog 60 #[.agg e.cells] w' fun e' w2=>∃ty y,e'=.returned (.iface ty y)∧∀w3,Lk w2 w3→Calls prog k (#[.iface ty y]++cp) w3 Q):
  Calls prog 340 #[.pointer pf,.func (.func k) #[] cp,.pointer (some ⟨q1,0,none⟩),.pointer (some ⟨q2,0,none⟩),.pointer (some ⟨q3,0,none⟩)] w Q:=by
 obtain⟨xk,xn,xtr,xtx,xm,xa,xlen,xcap⟩:=e
 have HO:=hZ hO
 have HQ:=hZ hQ
 have HT:Hid (∀w',Lk w w'→Calls prog 200 #[.pointer (some ⟨cb,0,none⟩),.int .i64 (N:Int)] w' fun e w2=>e=.returned (.tuple #[])∧∃k,w2=(w'.setCell ⟨cb,0,none⟩ (.int .i64 (t+N))).drewN k):=fun w' hl=>
  qba cb t mo 11 N w' (by unfold Mt at*;rw [hl.heap];exact hM) h0 ht (by omega) hm
 have kd:∀(j:Nat) (v:Value),(w.setCell ⟨cb,0,none⟩ v).cell? ⟨q3,j,none⟩=(Dl.cells ⟨xk,xn,xtr,xtx,xm,xa,xlen,xcap⟩)[j]?:=fun j v=>(qag hne).trans (hd j)
 have d0:∀v,(w.setCell ⟨cb,0,none⟩ v).cell? ⟨q3,0,none⟩=some (.int .i64 xk):=fun v=>kd 0 v
 have d1:∀v,(w.setCell ⟨cb,0,none⟩ v).cell? ⟨q3,1,none⟩=some (.int .i64 xn):=fun v=>kd 1 v
 have d2:∀v,(w.setCell ⟨cb,0,none⟩ v).cell? ⟨q3,2,none⟩=some (.bool xtr):=fun v=>kd 2 v
 have d3:∀v,(w.setCell ⟨cb,0,none⟩ v).cell? ⟨q3,3,none⟩=some (.string xtx):=fun v=>kd 3 v
 have d4:∀v,(w.setCell ⟨cb,0,none⟩ v).cell? ⟨q3,4,none⟩=some (.int .i64 xm):=fun v=>kd 4 v
 have d5:∀v,(w.setCell ⟨cb,0,none⟩ v).cell? ⟨q3,5,none⟩=some (.slice xa xlen xcap):=fun v=>kd 5 v
 clear hO hQ hM kd hd
 go_enter func340,ntmps340
 go_wp2
 refine qai 5 (by kernel_rfl) (by kernel_rfl) ?_
 simp only [List.take_succ_cons,List.take_zero,List.drop_succ_cons,List.drop_zero]
 repeat still_step
 refine wpStill_nil ?_
 go_wp2_with (go_at_call 200;refine(HT.out _ (by exact⟨rfl,rfl,rfl,rfl⟩)).mono ?_;rintro e w2 ⟨rfl,kd,rfl⟩)
 go_wp2_with (go_at_call 60;refine(HO.out _ (by exact⟨rfl,rfl,rfl,rfl⟩)).mono ?_;rintro e w2 ⟨ty,y,rfl,hk⟩;have HK:=hZ hk;clear hk)
 go_wp2_with (go_at_fn k;refine(HK.out _ (by exact⟨rfl,rfl,rfl,rfl⟩)).mono ?_;intro e w3 hq)
 all_goals first|exact hq|exact⟨rfl,hq⟩|(rcases HQ.out _ _ hq with⟨v,h⟩|⟨ps,h⟩ <;> cases h)
theorem qmz (q1 q2 q3 mb cb k N:Nat) (t mo:Int) (pf:Option Addr) (cp:Array Value) (w:World)
  (h1:w.cell? ⟨q1,0,none⟩=some (.pointer (some ⟨mb,0,none⟩))) (h2:w.cell? ⟨q2,0,none⟩=some (.int .i64 (N:Int))) (h3:w.cell? ⟨mb,1,none⟩=some (.pointer (some ⟨cb,0,none⟩)))
  (hM:Mt cb t mo 11 w) (h0:0≤t) (ht:mo<t+N) (htm:t≤mo) (hm:mo≤1000000):
  Calls prog 340 #[.pointer pf,.func (.func k) #[] cp,.pointer (some ⟨q1,0,none⟩),.pointer (some ⟨q2,0,none⟩),.pointer (some ⟨q3,0,none⟩)] w fun e w'=>e=.panicked (stopP (stopV 11))∧Below w.heap.size (w.setCell ⟨cb,0,none⟩ (.int .i64 mo)) w':=by
 have HT:Hid (∀w',Lk w w'→Calls prog 200 #[.pointer (some ⟨cb,0,none⟩),.int .i64 (N:Int)] w' fun e w2=>e=.panicked (stopP (stopV 11))∧Below w'.heap.size (w'.setCell ⟨cb,0,none⟩ (.int .i64 mo)) w2):=fun w' hl=>
  qa1 cb t mo 11 N w' (by unfold Mt at*;rw [hl.heap];exact hM) h0 ht (by omega) htm hm
 clear hM
 go_enter func340,ntmps340
 go_wp2
 refine qai 5 (by kernel_rfl) (by kernel_rfl) ?_
 simp only [List.take_succ_cons,List.take_zero,List.drop_succ_cons,List.drop_zero]
 repeat still_step
 refine wpStill_nil ?_
 go_wp2_with (go_at_call 200;refine(HT.out _ (by exact⟨rfl,rfl,rfl,rfl⟩)).mono ?_;rintro e w2 ⟨rfl,hb⟩)
 exact⟨rfl,rfl,hb.os,hb.tape,hb.output,hb.size,hb.block⟩
section
variable {S:Sub} {n:Nat} {G:Gh} {m:Mc} {k:List Fr}
theorem sim_quo (ihv:SimV S n) {w1:World} {env:Option Nat} {ku:Nat} {cu:Array Value} {pf:Option Addr} (i:Inv G S {m with steps:=m.steps+1} w1) (hk:FRep G k (.func (.func ku) #[] cu)) (hst:(m.steps:Int)<S.fuel) {d:Dt} {q1 q2 q3:Nat} {el:Dl}
  (h1:G.mbox q1) (h2:G.I q2=some (.cells #[.int .i64 (members d:Int)] 3 (0,0))) (h3:G.I q3=some (.cells el.cells 134 (0,0))) (hd:DRep G d el) (he:Ct.ended (go S (n+1) (.ev (.quo d) env k) m).1=true):
  Calls prog 340 (#[.pointer pf,.func (.func ku) #[] cu]++#[bp q1,bp q2,bp q3]) w1 (Post G S (n+1) (.ev (.quo d) env k) m):=by
 have c1:w1.cell? ⟨q1,0,none⟩=some (.pointer (some ⟨G.mb,0,none⟩)):=by rw [i.cell h1];rfl
 have c2:w1.cell? ⟨q2,0,none⟩=some (.int .i64 (members d:Int)):=by rw [i.cell h2];rfl
 have hcl:(m.cells:Int)≤S.quota:=i.cl.1
 by_cases hce:(m.cells:Int)+members d≤S.quota
 ·have hnx:Sc.next S (.ev (.quo d) env k) m=(.ret (ofDt {m with steps:=m.steps+1,cells:=m.cells+members d} d).1 k,(ofDt {m with steps:=m.steps+1,cells:=m.cells+members d} d).2):=by
   simp only [Sc.next,Sc.step,if_pos hst]
   rw [cellsN_ok (m:={m with steps:=m.steps+1}) _ hce]
  rw [qan hnx rfl]at he
  obtain⟨kk,ck,hku,egu⟩:=hk.isF
  cases hku
  have ic:=i.cells (m.cells+members d) (by push_cast;exact hce)
  have ic:Inv G S {m with steps:=m.steps+1,cells:=m.cells+members d} (w1.setCell ⟨G.cb,0,none⟩ (.int .i64 ((m.cells:Int)+(members d:Int)))):=by simpa using ic
  refine qpx q1 q2 q3 G.mb G.cb ku (members d) el m.cells S.quota pf cu w1 _ egu Post.ends c1 c2 i.mb1 (fun j=>i.cell h3 j) (i.ne h3 i.m3) i.ce (by omega) hce (by have:=i.cl.2;omega) ?_
  intro w' hw
  refine Calls.mono (of_inv G S _ w' d el (Inv.lk hw ic) hd) ?_
  rintro e' w2 ⟨H,x,rfl,hH,hi,hx,_⟩
  obtain⟨ty,y,rfl⟩:=hx.form
  refine⟨ty,y,rfl,fun w3 hw3=>?_⟩
  exact Calls.mono (ihv H _ w3 _ k _ ku cu (Inv.lk hw3 hi) hx (hk.mono hH.le) he) fun e w p=>Post.step hnx rfl hH.up p
 ·have hnx:Sc.next S (.ev (.quo d) env k) m=(.stop 11,{m with steps:=m.steps+1,cells:=S.quota.toNat}):=by
   simp only [Sc.next,Sc.step,if_pos hst]
   rw [qb7 (m:={m with steps:=m.steps+1}) _ hcl (by show S.quota<(m.cells:Int)+(members d:Int);omega)]
  refine Calls.mono (qmz q1 q2 q3 G.mb G.cb ku (members d) m.cells S.quota pf cu w1 c1 c2 i.mb1 i.ce (by omega) (by omega) hcl (by have:=i.cl.2;omega)) ?_
  rintro e w' ⟨rfl,hb⟩
  have hq:((S.quota.toNat:Nat):Int)=S.quota:=Int.toNat_of_nonneg (by have:(0:Int)≤(m.cells:Int):=Int.natCast_nonneg _;omega)
  have i1:=i.cells S.quota.toNat (by omega)
  rw [hq]at i1
  exact Post.step hnx rfl (Gh.up.refl G) (Post.now (.stop 11 _ _ (i1.cntB (by rw [qaf];exact Nat.le_refl _) hb)))
end
end
section
open Sc
theorem sim_ev {S:Sub} {n:Nat} (ihe:SimE S n) (ihv:SimV S n):SimE S (n+1):=by
 intro G m w sh e env k kx ku cx cu pf i hc hn hs hk he
 have hns:e≠.skip:=by
  intro h;subst h
  cases hc with
  |step sh e pm pc y h1 h2 h=>cases h
 refine qq9 G m w sh e env k kx ku cx cu pf i hc (fun hst=>?_) ?_
 ·cases e <;> first|exact absurd rfl hns|simp [Sc.next,Sc.step,hst]
 ·intro ky cy w1 i1 hi hst
  cases hi with
  |quo _ d q1 q2 q3 el h1 h2 h3 hd=>exact sim_quo ihv i1 hk hst h1 h2 h3 hd he
  |loc sh u j N q hu hj hb hq=>exact sim_loc ihv i1 hn hs hk hst hu hj hq hb.1 hb.2 he
  |glo sh s q b hq hb=>exact sim_glo ihv i1 hk hst hq hb he
  |ite sh c t e q1 q2 q3 xc xe xt h1 h2 h3 hcc ht hel=>exact sim_ite ihe i1 hn hs hk hst h1 h2 h3 hcc ht hel he
  |setL sh u j a q1 q2 xa xs h1 h2 ha ht=>exact qim ihe i1 hn hs hk (by simp [Sc.next,Sc.step,hst]) h1 h2 ha ht he
  |setG sh s a q1 q2 xa xs h1 h2 ha ht=>exact qim ihe i1 hn hs hk (by simp [Sc.next,Sc.step,hst]) h1 h2 ha ht he
  |defG sh s a q1 q2 xa xs h1 h2 ha ht=>exact qim ihe i1 hn hs hk (by simp [Sc.next,Sc.step,hst]) h1 h2 ha ht he
  |lam sh N r l q1 q2 q3 xb xl h1 h2 h3 hl hb=>exact sim_lam ihv i1 hn hs hk hst h1 h2 h3 hl hb he
  |app sh f l q1 q2 sl xs h1 h2 hb hr hx=>exact sim_app ihe i1 hn hs hk hst h1 h2 hb hr hx he
  |seq sh a l y h=>exact sim_seq ihe i1 hn hs hk hst h he
end
section
open Sc
theorem LRow.vals {G:Gh} {w:World} {sa:Option Addr} {sn sc:Nat} {vs:List Vl} (h:LRow G w.heap (.slice sa sn sc) vs):
  ∃xs,VsRep G vs xs∧xs.length=sn∧sn=vs.length∧(xs=[]∨∃g o,sa=some ⟨g,o,none⟩∧∀(j:Nat) (h:j<xs.length),w.cell? ⟨g,o+j,none⟩=some xs[j])∧(∀g o,sa=some ⟨g,o,none⟩→xs≠[]→g∉G.mut)∧xs.length≤1000000:=by
 rcases h with⟨rfl,a,cap,h⟩|⟨g,o,cap,arr,h,hne,hc,hm,hg,hgm,_,_,hx⟩
 ·cases h
  exact⟨[],⟨rfl,fun i v x h=>by simp at h⟩,rfl,rfl,.inl rfl,fun _ _ _ h=>absurd rfl h,by simp⟩
 ·cases h
  have hl:∀i,i<vs.length→((arr.toList.drop o).take vs.length)[i]? =arr[o+i]?:=fun i hi=>by
   rw [List.getElem?_take,if_pos hi,List.getElem?_drop];simp
  have hlen:((arr.toList.drop o).take vs.length).length=vs.length:=by
   apply Nat.le_antisymm
   ·simp;omega
   ·rcases Nat.lt_or_ge ((arr.toList.drop o).take vs.length).length vs.length with hlt|hge
    ·obtain⟨x,h1,_⟩:=hx _ _ (List.getElem?_eq_getElem hlt)
     have:=hl _ hlt
     rw [h1]at this
     rw [List.getElem?_eq_none (Nat.le_refl _)]at this
     cases this
    ·exact hge
  refine⟨(arr.toList.drop o).take vs.length,⟨hlen.symm,fun i v x hv hx'=>?_⟩,hlen,rfl,.inr ⟨g,o,rfl,fun j hj=>?_⟩,fun g' o' e _=>by cases e;exact hgm,by omega⟩
  ·obtain⟨y,h1,h2⟩:=hx i v hv
   rw [hl i (List.getElem?_eq_some_iff.1 hv).1,h1]at hx'
   cases hx';exact h2
  ·have:=hl j (by omega)
   simp only [World.cell?,hg]
   rw [←List.getElem?_eq_getElem hj,this];simp
end
section
theorem qao (a:Option Addr) (n cap:Nat) (w:World) (_hn:n≤1000000):Calls prog 258 #[.slice a n cap,.int .i64 (n:Int)] w fun e w'=>e=.returned (.tuple #[])∧w'=w:=by
 have hee:((n:Int)==(n:Int))=true:=by simp
 go_enter func258,ntmps258
 go_wp2_with (go_at_call 273;refine(qbi _ _).mono ?_;rintro e w2 ⟨rfl,hww⟩;obtain rfl:=hww.symm)
 go_end0
 exact⟨rfl,rfl⟩
theorem qa4 (a:Option Addr) (n N cap:Nat) (w:World) (_hn:n≤1000000) (hne:n≠N):Calls prog 258 #[.slice a n cap,.int .i64 (N:Int)] w fun e w'=>e=.panicked (stopP (stopV 7))∧∃o,w'=w.alloc o:=by
 have hee:((n:Int)==(N:Int))=false:=by simp;omega
 go_enter func258,ntmps258
 go_wp2_with (go_at_call 273;refine(qbh _ _).mono ?_;rintro e w2 ⟨rfl,o,rfl⟩)
 exact⟨rfl,rfl,o,rfl⟩
theorem qd5 (a:Int) (w:World):Calls prog 259 #[.iface 180 (.int .i64 a)] w fun e w'=>e=.returned (.int .i64 a)∧w'=w:=by
 have ha:∀w,(Instr.typeAssert (.iface 180 (.int .i64 a)) 116 180 true).run prog w=.ok (.tuple #[.int .i64 a,.bool true]) w:=fun w=>is180 _ w
 go_enter func259,ntmps259
 go_wp2
 go_ret
 exact⟨rfl,rfl⟩
theorem qe3 (t:Nat) (y:Value) (w:World) (ht:t≠180):Calls prog 259 #[.iface t y] w fun e w'=>e=.panicked (stopP (stopV 6))∧∃o,w'=w.alloc o:=by
 have ha:∀w,(Instr.typeAssert (.iface t y) 116 180 true).run prog w=.ok (.tuple #[.int .i64 0,.bool false]) w:=fun w=>qbx _ _ ht w
 go_enter func259,ntmps259
 go_wp2_with (go_at_call 131;refine(qc6 _ _).mono ?_;rintro e w2 ⟨rfl,o,rfl⟩)
 exact⟨rfl,rfl,o,rfl⟩
theorem qng (g o cap q kw ku:Nat) (a b:Int) (cw cu:Array Value) (w:World) (Q:Ending→World→Prop)
  (ew:∀args w,(callFunc kw args).run prog w=.ok (.enter kw args) w) (eg:∀args w,(callFunc ku args).run prog w=.ok (.enter ku args) w)
  (hQ:∀e w,Q e w→(∃v,e=.returned v)∨(∃ps,e=.panicked ps))
  (h0:w.cell? ⟨g,o,none⟩=some (.iface 180 (.int .i64 a))) (h1:w.cell? ⟨g,o+1,none⟩=some (.iface 180 (.int .i64 b))) (hq:w.cell? ⟨q,0,none⟩=some (.func (.func kw) #[] cw))
  (hW:∀w',Lk w w'→Calls prog kw (#[.int .i64 a,.int .i64 b]++cw) w' fun e w1=>(∃t y,e=.returned (.iface t y)∧∀w2,Lk w1 w2→Calls prog ku (#[.iface t y]++cu) w2 Q)∨((∃ps,e=.panicked ps)∧Q e w1)):
  Calls prog 257 #[.slice (some ⟨g,o,none⟩) 2 cap,.func (.func ku) #[] cu,.pointer (some ⟨q,0,none⟩)] w Q:=by
 have HW:=hZ hW
 have HQ:=hZ hQ
 have HM:=hZ (qao (some ⟨g,o,none⟩) 2 cap w (by omega))
 clear hW hQ
 go_enter func257,ntmps257
 go_wp2_with (go_at_call 258;refine HM.out.mono ?_;rintro e w2 ⟨rfl,hww⟩;obtain rfl:=hww.symm)
 go_wp2_with (go_at_call 259;refine(qd5 _ _).mono ?_;rintro e w2 ⟨rfl,hww⟩;obtain rfl:=hww.symm)
 go_wp2_with (go_at_call 259;refine(qd5 _ _).mono ?_;rintro e w2 ⟨rfl,hww⟩;obtain rfl:=hww.symm)
 go_wp2_with (go_at_fn kw;refine(HW.out _ (by exact⟨rfl,rfl,rfl,rfl⟩)).mono ?_;rintro e w1 (⟨t,y,rfl,hk⟩|⟨⟨ps,rfl⟩,hq⟩))
 ·have HK:=hZ hk
  clear hk
  go_wp2_with (go_at_fn ku;refine(HK.out _ (by exact⟨rfl,rfl,rfl,rfl⟩)).mono ?_;intro e w3 hq)
  all_goals first|exact hq|exact⟨rfl,hq⟩|(rcases HQ.out _ _ hq with⟨v,h⟩|⟨ps,h⟩ <;> cases h)
 ·exact⟨rfl,hq⟩
theorem qle (a:Option Addr) (n cap q:Nat) (ku:Nat) (cu:Array Value) (w:World) (hn:n≤1000000) (hne:n≠2):
  Calls prog 257 #[.slice a n cap,.func (.func ku) #[] cu,.pointer (some ⟨q,0,none⟩)] w fun e w'=>e=.panicked (stopP (stopV 7))∧∃o,w'=w.alloc o:=by
 have HM:=hZ (qa4 a n 2 cap w hn hne)
 go_enter func257,ntmps257
 go_wp2_with (go_at_call 258;refine HM.out.mono ?_;rintro e w2 ⟨rfl,o,rfl⟩)
 exact⟨rfl,rfl,o,rfl⟩
theorem qld (g o cap q t0 t1:Nat) (y0 y1:Value) (ku:Nat) (cu:Array Value) (w:World)
  (h0:w.cell? ⟨g,o,none⟩=some (.iface t0 y0)) (h1:w.cell? ⟨g,o+1,none⟩=some (.iface t1 y1)) (ht:t0≠180∨((∃a,t0=180∧y0=.int .i64 a)∧t1≠180)):
  Calls prog 257 #[.slice (some ⟨g,o,none⟩) 2 cap,.func (.func ku) #[] cu,.pointer (some ⟨q,0,none⟩)] w fun e w'=>e=.panicked (stopP (stopV 6))∧∃o,w'=w.alloc o:=by
 have HM:=hZ (qao (some ⟨g,o,none⟩) 2 cap w (by omega))
 rcases ht with ht|⟨⟨a,rfl,rfl⟩,ht⟩
 ·have HA:=hZ (fun w=>qe3 t0 y0 w ht)
  clear ht
  go_enter func257,ntmps257
  go_wp2_with (go_at_call 258;refine HM.out.mono ?_;rintro e w2 ⟨rfl,hww⟩;obtain rfl:=hww.symm)
  go_wp2_with (go_at_call 259;refine(HA.out _).mono ?_;rintro e w2 ⟨rfl,o,rfl⟩)
  exact⟨rfl,rfl,o,rfl⟩
 ·have HA:=hZ (fun w=>qe3 t1 y1 w ht)
  clear ht
  go_enter func257,ntmps257
  go_wp2_with (go_at_call 258;refine HM.out.mono ?_;rintro e w2 ⟨rfl,hww⟩;obtain rfl:=hww.symm;refine Hid.out ?_)
  refine hZ ?_
  go_wp2_with (go_at_call 259;refine(qd5 _ _).mono ?_;rintro e w2 ⟨rfl,hww⟩;obtain rfl:=hww.symm;refine Hid.out ?_)
  refine hZ ?_
  go_wp2_with (go_at_call 259;refine(HA.out _).mono ?_;rintro e w2 ⟨rfl,o,rfl⟩)
  exact⟨rfl,rfl,o,rfl⟩
end
section
theorem qcm (w:World):Calls prog 212 #[.bool true] w fun e w'=>e=.returned (.tuple #[])∧w'=w:=by
 go_enter func212,ntmps212
 go_wp2_with (go_at_call 273;refine(qbi _ _).mono ?_;rintro e w2 ⟨rfl,hww⟩;obtain rfl:=hww.symm)
 go_end0
 exact⟨rfl,rfl⟩
theorem qb1 (w:World):Calls prog 212 #[.bool false] w fun e w'=>e=.panicked (stopP (stopV 8))∧∃o,w'=w.alloc o:=by
 go_enter func212,ntmps212
 go_wp2_with (go_at_call 273;refine(qbh _ _).mono ?_;rintro e w2 ⟨rfl,o,rfl⟩)
 exact⟨rfl,rfl,o,rfl⟩
def Num2 (f:Nat) (a b:Int) (r:Option Value):Prop:=∀w,Calls prog f #[.int .i64 a,.int .i64 b] w fun e w'=>match r with
 |some x=>e=.returned x∧w'=w
 |none=>e=.panicked (stopP (stopV 8))∧∃o,w'=w.alloc o
theorem qtk (a b:Int) (_ha:-9223372036854775808≤a) (_ha':a≤9223372036854775807) (hb:-9223372036854775808≤b) (hb':b≤9223372036854775807) (h1:-9223372036854775808≤a+b) (h2:a+b≤9223372036854775807):Num2 178 a b (some (.iface 180 (.int .i64 (a+b)))):=by
 intro w
 show Calls prog 178 #[.int .i64 a,.int .i64 b] w fun e w'=>e=.returned (.iface 180 (.int .i64 (a+b)))∧w'=w
 by_cases hs:0≤b
 ·have hd:a≤9223372036854775807-b:=by omega
  go_enter func178,ntmps178
  go_wp2_with (go_at_call 212;refine(qcm _).mono ?_;rintro e w2 ⟨rfl,hww⟩;obtain rfl:=hww.symm)
  go_wp2
  go_ret
  exact⟨rfl,rfl⟩
 ·have hs':b<0:=by omega
  have hd:-9223372036854775808-b≤a:=by omega
  go_enter func178,ntmps178
  go_wp2_with (go_at_call 212;refine(qcm _).mono ?_;rintro e w2 ⟨rfl,hww⟩;obtain rfl:=hww.symm)
  go_wp2
  go_ret
  exact⟨rfl,rfl⟩
theorem qtj (a b:Int) (ha:-9223372036854775808≤a) (ha':a≤9223372036854775807) (hb:-9223372036854775808≤b) (hb':b≤9223372036854775807) (h:a+b< -9223372036854775808∨9223372036854775807<a+b):Num2 178 a b none:=by
 intro w
 show Calls prog 178 #[.int .i64 a,.int .i64 b] w fun e w'=>e=.panicked (stopP (stopV 8))∧∃o,w'=w.alloc o
 by_cases hs:0≤b
 ·have hd:¬(a≤9223372036854775807-b):=by omega
  have hs':¬(b<0):=by omega
  clear h
  go_enter func178,ntmps178
  go_wp2_with (go_at_call 212;refine(qb1 _).mono ?_;rintro e w2 ⟨rfl,o,rfl⟩)
  exact⟨rfl,rfl,o,rfl⟩
 ·have hs':b<0:=by omega
  have hd:¬(-9223372036854775808-b≤a):=by omega
  clear h
  go_enter func178,ntmps178
  go_wp2_with (go_at_call 212;refine(qb1 _).mono ?_;rintro e w2 ⟨rfl,o,rfl⟩)
  exact⟨rfl,rfl,o,rfl⟩
theorem qqv (a b:Int) (_ha:-9223372036854775808≤a) (_ha':a≤9223372036854775807) (hb:-9223372036854775808≤b) (hb':b≤9223372036854775807) (h1:-9223372036854775808≤a-b) (h2:a-b≤9223372036854775807):Num2 179 a b (some (.iface 180 (.int .i64 (a-b)))):=by
 intro w
 show Calls prog 179 #[.int .i64 a,.int .i64 b] w fun e w'=>e=.returned (.iface 180 (.int .i64 (a-b)))∧w'=w
 by_cases hs:0≤b
 ·have hd:-9223372036854775808+b≤a:=by omega
  go_enter func179,ntmps179
  go_wp2_with (go_at_call 212;refine(qcm _).mono ?_;rintro e w2 ⟨rfl,hww⟩;obtain rfl:=hww.symm)
  go_wp2
  go_ret
  exact⟨rfl,rfl⟩
 ·have hs':b<0:=by omega
  have hd:a≤9223372036854775807+b:=by omega
  go_enter func179,ntmps179
  go_wp2_with (go_at_call 212;refine(qcm _).mono ?_;rintro e w2 ⟨rfl,hww⟩;obtain rfl:=hww.symm)
  go_wp2
  go_ret
  exact⟨rfl,rfl⟩
theorem qqu (a b:Int) (ha:-9223372036854775808≤a) (ha':a≤9223372036854775807) (hb:-9223372036854775808≤b) (hb':b≤9223372036854775807) (h:a-b< -9223372036854775808∨9223372036854775807<a-b):Num2 179 a b none:=by
 intro w
 show Calls prog 179 #[.int .i64 a,.int .i64 b] w fun e w'=>e=.panicked (stopP (stopV 8))∧∃o,w'=w.alloc o
 by_cases hs:0≤b
 ·have hd:¬(-9223372036854775808+b≤a):=by omega
  have hs':¬(b<0):=by omega
  clear h
  go_enter func179,ntmps179
  go_wp2_with (go_at_call 212;refine(qb1 _).mono ?_;rintro e w2 ⟨rfl,o,rfl⟩)
  exact⟨rfl,rfl,o,rfl⟩
 ·have hs':b<0:=by omega
  have hd:¬(a≤9223372036854775807+b):=by omega
  clear h
  go_enter func179,ntmps179
  go_wp2_with (go_at_call 212;refine(qb1 _).mono ?_;rintro e w2 ⟨rfl,o,rfl⟩)
  exact⟨rfl,rfl,o,rfl⟩
theorem eql_num (a b:Int):Num2 183 a b (some (.iface 181 (.bool (a==b)))):=by
 intro w
 show Calls prog 183 #[.int .i64 a,.int .i64 b] w fun e w'=>e=.returned (.iface 181 (.bool (a==b)))∧w'=w
 go_enter func183,ntmps183
 go_wp2
 go_ret
 exact⟨rfl,rfl⟩
theorem lss_num (a b:Int):Num2 184 a b (some (.iface 181 (.bool (decide (a<b))))):=by
 intro w
 show Calls prog 184 #[.int .i64 a,.int .i64 b] w fun e w'=>e=.returned (.iface 181 (.bool (decide (a<b))))∧w'=w
 go_enter func184,ntmps184
 go_wp2
 go_ret
 exact⟨rfl,rfl⟩
end
section
open Sc
theorem VRep.asNum {G:Gh} {v:Vl} {t:Nat} {y:Value} (h:VRep G v (.iface t y)):(t=180∧∃a,v=.num a∧y=.int .i64 a∧-9223372036854775808≤a∧a≤9223372036854775807)∨(t≠180∧Kd.ok .num v=false):=by
 cases h with
 |num n h0 h1=>exact .inl ⟨rfl,n,rfl,rfl,h0,h1⟩
 |proc v b h=>right;refine⟨by decide,?_⟩;cases h <;> rfl
 |_=>exact .inr ⟨by decide,rfl⟩
end
section
def VTy (t:Nat):Prop:=t=180∨t=181∨t=182∨t=183∨t=186∨t=379∨t=246∨t=281∨t=285∨t=322
theorem isV (t:Nat) (y:Value) (h:VTy t) (w:World):(Instr.typeAssert (.iface t y) 116 116 true).run prog w=.ok (.tuple #[.iface t y,.bool true]) w:=by
 rcases h with rfl|rfl|rfl|rfl|rfl|rfl|rfl|rfl|rfl|rfl
 ·kernel_rfl
 ·kernel_rfl
 ·kernel_rfl
 ·kernel_rfl
 ·kernel_rfl
 ·kernel_rfl
 ·kernel_rfl
 ·kernel_rfl
 ·kernel_rfl
 ·kernel_rfl
theorem VRep.vty {G:Gh} {v:Sc.Vl} {t:Nat} {y:Value} (h:VRep G v (.iface t y)):VTy t:=by
 unfold VTy
 cases h <;> simp
theorem qqa (t:Nat) (y:Value) (w:World) (ht:VTy t):Calls prog 269 #[.iface t y] w fun e w'=>e=.returned (.iface t y)∧w'=w:=by
 have ha:∀w,(Instr.typeAssert (.iface t y) 116 116 true).run prog w=.ok (.tuple #[.iface t y,.bool true]) w:=fun w=>isV t y ht w
 clear ht
 go_enter func269,ntmps269
 go_wp2
 go_ret
 exact⟨rfl,rfl⟩
theorem qok (g o cap q kw ku t:Nat) (y:Value) (cw cu:Array Value) (w:World) (Q:Ending→World→Prop)
  (ew:∀args w,(callFunc kw args).run prog w=.ok (.enter kw args) w) (eg:∀args w,(callFunc ku args).run prog w=.ok (.enter ku args) w)
  (hQ:∀e w,Q e w→(∃v,e=.returned v)∨(∃ps,e=.panicked ps)) (ht:VTy t)
  (hS:∀v w',Q (.returned v) w'→w'.cell? ⟨g,o,none⟩=some (.iface t y)∧w'.cell? ⟨q,0,none⟩=some (.func (.func kw) #[] cw))
  (h0:w.cell? ⟨g,o,none⟩=some (.iface t y)) (hq:w.cell? ⟨q,0,none⟩=some (.func (.func kw) #[] cw))
  (hW:∀w',Lk w w'→Calls prog kw (#[.iface t y]++cw) w' fun e w1=>(∃t' y',e=.returned (.iface t' y')∧(w1.cell? ⟨g,o,none⟩=some (.iface t y)∧w1.cell? ⟨q,0,none⟩=some (.func (.func kw) #[] cw))∧∀w2,Lk w1 w2→Calls prog ku (#[.iface t' y']++cu) w2 Q)∨((∃ps,e=.panicked ps)∧Q e w1)):
  Calls prog 268 #[.slice (some ⟨g,o,none⟩) 1 cap,.func (.func ku) #[] cu,.pointer (some ⟨q,0,none⟩)] w Q:=by
 have HW:=hZ hW
 have HQ:=hZ hQ
 have HS:=hZ hS
 have HM:=hZ (qao (some ⟨g,o,none⟩) 1 cap w (by omega))
 have HA:=hZ (fun w=>qqa t y w ht)
 clear hW hQ hS ht
 go_enter func268,ntmps268
 go_wp2_with (go_at_call 258;refine HM.out.mono ?_;rintro e w2 ⟨rfl,hww⟩;obtain rfl:=hww.symm)
 go_region_held2 (fun w'=>w'.cell? ⟨g,o,none⟩=some (.iface t y)∧w'.cell? ⟨q,0,none⟩=some (.func (.func kw) #[] cw)) (first|(exact HS.out _ _ hq)|(exact HC.out.1)|go_keep)
  (first|(go_at_call 269;refine(HA.out _).mono ?_;rintro e w2 ⟨rfl,hww⟩;obtain rfl:=hww.symm)|(go_at_fn kw;refine(HW.out _ (by exact⟨rfl,rfl,rfl,rfl⟩)).mono ?_;rintro e w1 (⟨t',y',rfl,hc⟩|⟨⟨ps,rfl⟩,hq⟩);rotate_left;(exact⟨rfl,hq⟩);have HC:=hZ hc;clear hc)|(go_at_fn ku;refine(HC.out.2 _ (by exact⟨rfl,rfl,rfl,rfl⟩)).mono ?_;intro e w3 hq;rcases HQ.out _ _ hq with⟨v,rfl⟩|⟨ps,rfl⟩;rotate_left;(exact⟨rfl,hq⟩)))
 all_goals(go_wp2;exact hq)
theorem ql3 (a:Option Addr) (n cap q:Nat) (ku:Nat) (cu:Array Value) (w:World) (hn:n≤1000000) (hne:n≠1):
  Calls prog 268 #[.slice a n cap,.func (.func ku) #[] cu,.pointer (some ⟨q,0,none⟩)] w fun e w'=>e=.panicked (stopP (stopV 7))∧∃o,w'=w.alloc o:=by
 have HM:=hZ (qa4 a n 1 cap w hn hne)
 go_enter func268,ntmps268
 go_wp2_with (go_at_call 258;refine HM.out.mono ?_;rintro e w2 ⟨rfl,o,rfl⟩)
 exact⟨rfl,rfl,o,rfl⟩
end
end Go.Proofs.YtldaocpojcfljaaGreatDoor
