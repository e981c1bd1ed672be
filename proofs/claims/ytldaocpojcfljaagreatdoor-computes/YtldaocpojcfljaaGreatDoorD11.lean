import Derived.Test.YtldaocpojcfljaaGreatDoorD10
import Derived.OwnWalkIn
set_option maxRecDepth 100000
set_option maxHeartbeats 4000000
namespace Go.Proofs.YtldaocpojcfljaaGreatDoor
open Tryz hiding parts
open Go.RowKit Go.Shelf
section
open Sc
theorem equal_w(H:Gh)(S:Sub)(N tx ty:Nat)(x y:Value)(w:World)(rv:Except Nat Bool×Mc)(h:EqR H S N rv N (.iface tx x) (.iface ty y) w)
  (ih:∀(v u:Vl) (m:Mc) (x y:Value) (w:World),SizeOf.sizeOf v<N->Inv H S m w->VRep H v x->VRep H u y->Calls prog 198 #[bp H.mb,x,y] w (EqOk H S (equal S v u m))):
  Calls prog 198 #[.pointer (some ⟨H.mb,0,none⟩),.iface tx x,.iface ty y] w (EqOk H S rv):=by
 have HE:=hZ h;have IH:=hZ ih;clear h ih;go_enter func198,ntmps198
 go_wp2;go_loopg [1,2] N (fun k x y wr=>EqR H S N rv k x y wr)
 case atStart=>exact HE.out
 case round=>
  have hr:=hrel.round IH.out;clear hrel;rcases hr with⟨bb,t,t',z,z',rfl,rfl,hne,hz,hz',hb,hq⟩|⟨b,b',x0,y0,x1,y1,t,rfl,rfl,⟨c,hc,c0,c1⟩,⟨c',hc',c0',c1'⟩,hbs,hbs',⟨t0,z0,rfl⟩,⟨s0,q0,rfl⟩,⟨t1,z1,rfl⟩,⟨s1,q1,rfl⟩,hmb,hM,ht0,hfu,htf,hcase⟩
  ·have HQ:=hZ hq;have HB:=hZ hb;have hbe:(binOp .eql 116 (.iface t z) (.iface t' z')).run prog wr=.ok (.bool bb) wr:=hb wr (by exact⟨rfl,rfl,rfl,rfl⟩);clear hb hq;by_cases ht:t=246
   ·subst ht;have ht':t'≠246:=by rcases hne with h|h;exact absurd rfl h;exact h
    obtain⟨b,rfl⟩:=hz rfl;have ha:∀w,(Instr.typeAssert (.iface 246 (.pointer (some ⟨b,0,none⟩))) 116 246 true).run prog w=.ok (.tuple #[.pointer (some ⟨b,0,none⟩),.bool true]) w:=fun w=>qgj _ w
    have ha':∀w,(Instr.typeAssert (.iface t' z') 116 246 true).run prog w=.ok (.tuple #[.pointer none,.bool false]) w:=fun w=>qcd _ _ ht' w
    clear hne hz hz' ht';go_wp2;go_ret;exact HQ.out _ (by exact⟨rfl,rfl,rfl,rfl⟩)
   ·have ha:∀w,(Instr.typeAssert (.iface t z) 116 246 true).run prog w=.ok (.tuple #[.pointer none,.bool false]) w:=fun w=>qcd _ _ ht w
    by_cases ht':t'=246
    ·subst ht';obtain⟨b,rfl⟩:=hz' rfl;have ha':∀w,(Instr.typeAssert (.iface 246 (.pointer (some ⟨b,0,none⟩))) 116 246 true).run prog w=.ok (.tuple #[.pointer (some ⟨b,0,none⟩),.bool true]) w:=fun w=>qgj _ w
     clear hne hz hz' ht;go_wp2;go_ret;exact HQ.out _ (by exact⟨rfl,rfl,rfl,rfl⟩)
    ·have ha':∀w,(Instr.typeAssert (.iface t' z') 116 246 true).run prog w=.ok (.tuple #[.pointer none,.bool false]) w:=fun w=>qcd _ _ ht' w
     clear hne hz hz' ht ht';go_wp2;go_ret;exact HQ.out _ (by exact⟨rfl,rfl,rfl,rfl⟩)
  ·have ha:∀w,(Instr.typeAssert (.iface 246 (.pointer (some ⟨b,0,none⟩))) 116 246 true).run prog w=.ok (.tuple #[.pointer (some ⟨b,0,none⟩),.bool true]) w:=fun w=>qgj _ w
   have ha':∀w,(Instr.typeAssert (.iface 246 (.pointer (some ⟨b',0,none⟩))) 116 246 true).run prog w=.ok (.tuple #[.pointer (some ⟨b',0,none⟩),.bool true]) w:=fun w=>qgj _ w
   rcases hcase with⟨hlt,hcall⟩|⟨heqf,hq⟩
   ·have HC:=hZ hcall;have HT:=hZ (qba H.sb t S.fuel 10 1 wr hM ht0 hlt (by omega) (by omega));have KC:Hid (∀(w':World),w'.heap[b]? =wr.heap[b]?->w'.heap[b']? =wr.heap[b']?->(w'.cell? ⟨b,0,none⟩=some (.iface t0 z0)/\w'.cell? ⟨b',0,none⟩=some (.iface s0 q0))/\w'.cell? ⟨b,1,none⟩=some (.iface t1 z1)/\w'.cell? ⟨b',1,none⟩=some (.iface s1 q1)):=fun w' e1 e2=>by
     simp only[World.cell?,e1,e2,hc,hc'];exact⟨⟨c0,c0'⟩,c1,c1'⟩
    have KS:Hid (∀k,((wr.setCell ⟨H.sb,0,none⟩ (.int .i64 (t+1))).drewN k).heap[b]? =wr.heap[b]?/\((wr.setCell ⟨H.sb,0,none⟩ (.int .i64 (t+1))).drewN k).heap[b']? =wr.heap[b']?):=fun k=>
     ⟨qaa (a:=⟨H.sb,0,none⟩) b hbs,qaa (a:=⟨H.sb,0,none⟩) b' hbs'⟩
    clear hcall hM hc hc' c0 c0' c1 c1' hbs hbs' ht0 hfu htf hlt;go_wp2_with (go_at_call 200;refine HT.out.mono ?_;rintro e w2 ⟨rfl,kd,rfl⟩)
    have hcell:=(KC.out _ (KS.out kd).1 (KS.out kd).2).1;obtain⟨w5,hw5⟩:∃w5,w5=(wr.setCell ⟨H.sb,0,none⟩ (.int .i64 (t+1))).drewN kd:=⟨_,rfl⟩;rw[<-hw5]at hcell|-;have HC5:Hid (∀w',Lk w5 w'->Calls prog 198 #[.pointer (some ⟨H.mb,0,none⟩),.iface t0 z0,.iface s0 q0] w' fun e w3=>EqStep H S N rv gk b b' (.iface t1 z1) (.iface s1 q1) e w3/\(∀v,e=.returned v->w3.heap[b]? =wr.heap[b]?/\w3.heap[b']? =wr.heap[b']?)):=fun w' hw'=>HC.out w' (by rw[hw5]at hw';exact⟨hw'.heap,hw'.tape,hw'.os,hw'.output⟩)
    obtain⟨hcell0,hcell0'⟩:=hcell;clear hw5 HC HT KS;refine qai 9 (by kernel_rfl) (by kernel_rfl) ?_;simp only[List.take_succ_cons,List.take_zero,List.drop_succ_cons,List.drop_zero];repeat still_step
    refine wpStill_nil ?_;go_wp2_with (go_at_call 198;refine(HC5.out _ (by exact⟨rfl,rfl,rfl,rfl⟩)).mono ?_;rintro e w3 ⟨⟨bb,rfl,hf,htr⟩|⟨ps,rfl,hq⟩,hkeep⟩;rotate_left;(exact⟨rfl,hq⟩);have HK:=hZ (KC.out w3 (hkeep _ rfl).1 (hkeep _ rfl).2).2;have HF:=hZ hf;have HTR:=hZ htr;clear hkeep hf htr hcell0 hcell0';rcases bb with _|_)
    ·go_ret;exact HF.out (by trivial)
    ·obtain⟨k1,k2⟩:=HK.out;obtain⟨k',hk',hrel'⟩:=HTR.out (by trivial);have HR:=hZ hrel';clear hrel';go_quiet (fail)
     go_wp2;go_roundg k'
     case measure=>exact hk'
     case rel=>exact HR.out.lk (by exact⟨rfl,rfl,rfl,rfl⟩)
   ·have HQ:=hZ hq;have HT:=hZ (qa1 H.sb t S.fuel 10 1 wr hM ht0 (by omega) (by omega) htf (by omega));rw[<-heqf]at HT;clear hq hM hc hc' c0 c0' c1 c1' hbs hbs' heqf;go_wp2_with (go_at_call 200;refine HT.out.mono ?_;rintro e w2 ⟨rfl,hb⟩)
    exact⟨rfl,HQ.out _ hb⟩
theorem qh1(H:Gh)(S:Sub):∀(N:Nat) (v u:Vl) (m:Mc) (x y:Value) (w:World),SizeOf.sizeOf v<N->Inv H S m w->VRep H v x->VRep H u y->Calls prog 198 #[bp H.mb,x,y] w (EqOk H S (equal S v u m))
 |0,_,_,_,_,_,_,h,_,_,_=>absurd h (Nat.not_lt_zero _)
 |N+1,v,u,m,x,y,w,h,i,hv,hu=>by
  obtain⟨t,x',rfl⟩:=hv.form;obtain⟨s,y',rfl⟩:=hu.form;exact equal_w H S N t s x' y' w _ ⟨v,u,m,by omega,Nat.le_refl _,i,hv,hu,rfl⟩ fun v u m x y w h=>qh1 H S N v u m x y w h
theorem qmq(r mb tx ty:Nat)(x y:Value)(w:World)(Q:Ending->World->Prop)(h1:w.cell? ⟨r,0,none⟩=some (.pointer (some ⟨mb,0,none⟩)))
  (hE:∀w',Lk w w'->Calls prog 198 #[.pointer (some ⟨mb,0,none⟩),.iface tx x,.iface ty y] w' fun e w2=>(∃b,e=.returned (.bool b)/\∀w3,Lk w2 w3->Q (.returned (.iface 181 (.bool b))) w3)\/(∃ps,e=.panicked ps/\Q e w2)):
  Calls prog 197 #[.iface tx x,.iface ty y,.pointer (some ⟨r,0,none⟩)] w Q:=by
 have HE:=hZ hE;clear hE;go_enter func197,ntmps197
 go_wp2_with (go_at_call 198;refine(HE.out _ (by exact⟨rfl,rfl,rfl,rfl⟩)).mono ?_;rintro e w2 (⟨b,rfl,hq⟩|⟨ps,rfl,hq⟩);rotate_left;(exact⟨rfl,hq⟩);have HQ:=hZ hq;clear hq)
 first|exact HQ.out _ (by exact⟨rfl,rfl,rfl,rfl⟩)|(go_wp2;exact HQ.out _ (by exact⟨rfl,rfl,rfl,rfl⟩))
theorem qmp{S:Sub}(m:Mc)(H:Gh)(w:World)(v u:Vl)(x y:Value)(r:Nat)(hr:H.mbox r)(i:Inv H S m w)(hv:VRep H v x)(hu:VRep H u y):Calls prog 197 (#[x,y]++#[bp r]) w (WorkOk H S (value S m .equalQ [v,u])):=by
 obtain⟨t,x',rfl⟩:=hv.form;obtain⟨s,y',rfl⟩:=hu.form;refine qmq r H.mb t s x' y' w _ (by rw[i.cell hr];rfl) fun w' hw=>?_
 refine Calls.mono (qh1 H S _ v u m _ _ w' (Nat.lt_succ_self _) (Inv.lk hw i) hv hu) ?_;rintro e w2 (⟨b,m',e1,rfl,hi⟩|⟨vd,m',e1,rfl,hc⟩)
 ·exact .inl ⟨b,rfl,fun w3 hw3=>.inl ⟨H,.bool b,m',_,by simp only[value,e1],rfl,Gh.up.refl H,Inv.lk hw3 hi,.bool b⟩⟩
 ·exact .inr ⟨_,rfl,.inr ⟨vd,m',by simp only[value,e1],rfl,hc⟩⟩
end
section
open Sc
theorem qrj(a:Int):Num2 182 a 0 none:=by
 intro w;show Calls prog 182 #[.int .i64 a,.int .i64 0] w fun e w'=>e=.panicked (stopP (stopV 8))/\∃o,w'=w.alloc o
 go_enter func182,ntmps182
 go_wp2_with (go_at_call 212;refine(qb1 _).mono ?_;rintro e w2 ⟨rfl,o,rfl⟩)
 exact⟨rfl,rfl,o,rfl⟩
theorem qrk(a b:Int)(_ha:-9223372036854775808<=a)(_ha':a<=9223372036854775807)(_hb:-9223372036854775808<=b)(_hb':b<=9223372036854775807)(h:b≠0):Num2 182 a b (some (.iface 180 (.int .i64 (a.tmod b)))):=by
 intro w;show Calls prog 182 #[.int .i64 a,.int .i64 b] w fun e w'=>e=.returned (.iface 180 (.int .i64 (a.tmod b)))/\w'=w
 have hd:(b==0)=false:=by simp[h]
 have hd2:(b !=0)=true:=by simp[h]
 have hd3:(!b==0)=true:=by simp[h]
 go_enter func182,ntmps182
 go_wp2_with (go_at_call 212;refine(qcm _).mono ?_;rintro e w2 ⟨rfl,hww⟩;obtain rfl:=hww.symm)
 go_wp2;go_ret;exact⟨rfl,rfl⟩
theorem qoa(a:Int):Num2 181 a 0 none:=by
 intro w;show Calls prog 181 #[.int .i64 a,.int .i64 0] w fun e w'=>e=.panicked (stopP (stopV 8))/\∃o,w'=w.alloc o
 go_enter func181,ntmps181
 go_wp2_with (go_at_call 212;refine(qb1 _).mono ?_;rintro e w2 ⟨rfl,o,rfl⟩)
 exact⟨rfl,rfl,o,rfl⟩
theorem qlp:Num2 181 (-9223372036854775808) (-1) none:=by
 intro w;show Calls prog 181 #[.int .i64 (-9223372036854775808),.int .i64 (-1)] w fun e w'=>e=.panicked (stopP (stopV 8))/\∃o,w'=w.alloc o
 go_enter func181,ntmps181
 go_wp2_with (go_at_call 212;refine(qb1 _).mono ?_;rintro e w2 ⟨rfl,o,rfl⟩)
 exact⟨rfl,rfl,o,rfl⟩
end
section
open Sc
theorem qob(a b:Int)(_ha:-9223372036854775808<=a)(_ha':a<=9223372036854775807)(_hb:-9223372036854775808<=b)(_hb':b<=9223372036854775807)(h:b≠0)(hl:¬(a=-9223372036854775808/\b=-1))(h1:-9223372036854775808<=a.tdiv b)(h2:a.tdiv b<=9223372036854775807):Num2 181 a b (some (.iface 180 (.int .i64 (a.tdiv b)))):=by
 intro w;show Calls prog 181 #[.int .i64 a,.int .i64 b] w fun e w'=>e=.returned (.iface 180 (.int .i64 (a.tdiv b)))/\w'=w
 have hd:(b==0)=false:=by simp[h]
 have hd2:(b !=0)=true:=by simp[h]
 have hd3:(!b==0)=true:=by simp[h]
 by_cases hm:a=-9223372036854775808
 ·have hm1:(a== -9223372036854775808)=true:=by simp[hm]
  have hb1:(b== -1)=false:=by
   have:b≠-1:=fun e=>hl ⟨hm,e⟩
   simp[this]
  clear hm hl;go_enter func181,ntmps181
  go_wp2_with (go_at_call 212;refine(qcm _).mono ?_;rintro e w2 ⟨rfl,hww⟩;obtain rfl:=hww.symm)
  go_wp2;go_ret;exact⟨rfl,rfl⟩
 ·have hm1:(a== -9223372036854775808)=false:=by simp[hm]
  clear hm hl;go_enter func181,ntmps181
  go_wp2_with (go_at_call 212;refine(qcm _).mono ?_;rintro e w2 ⟨rfl,hww⟩;obtain rfl:=hww.symm)
  go_wp2;go_ret;exact⟨rfl,rfl⟩
end
section
open Sc
theorem mul_zero(a:Int)(_ha:-9223372036854775808<=a)(_ha':a<=9223372036854775807):Num2 180 a 0 (some (.iface 180 (.int .i64 0))):=by
 intro w;show Calls prog 180 #[.int .i64 a,.int .i64 0] w fun e w'=>e=.returned (.iface 180 (.int .i64 0))/\w'=w
 have h0:a*0=0:=Int.mul_zero a;go_enter func180,ntmps180
 go_wp2_with (go_at_call 212;refine(qcm _).mono ?_;rintro e w2 ⟨rfl,hww⟩;obtain rfl:=hww.symm)
 go_wp2;go_ret;exact⟨rfl,rfl⟩
theorem qrx(a b:Int)(ha:-9223372036854775808<=a)(ha':a<=9223372036854775807)(hb:-9223372036854775808<=b)(hb':b<=9223372036854775807)(h:b≠0)(h1:-9223372036854775808<=a*b)(h2:a*b<=9223372036854775807):Num2 180 a b (some (.iface 180 (.int .i64 (a*b)))):=by
 intro w;show Calls prog 180 #[.int .i64 a,.int .i64 b] w fun e w'=>e=.returned (.iface 180 (.int .i64 (a*b)))/\w'=w
 have hl:¬(a=-9223372036854775808/\b=-1):=by rintro⟨rfl,rfl⟩;omega
 obtain⟨p,hp⟩:∃p,p=a*b:=⟨_,rfl⟩;have hq:p.tdiv b=a:=by rw[hp];exact Int.mul_tdiv_cancel a h
 have hw:IntKind.i64.wrap (a*b)=p:=by rw[hp,IntKind.wrap_i64];omega
 rw[<-hp]at h1 h2|-;have hd:(b==0)=false:=by simp[h]
 have hqe:(p.tdiv b==a)=true:=by simp[hq]
 by_cases hm:a=-9223372036854775808
 ·have hm1:(a== -9223372036854775808)=true:=by simp[hm]
  have hb1:(b== -1)=false:=by
   have:b≠-1:=fun e=>hl ⟨hm,e⟩
   simp[this]
  clear hm hl hp;go_enter func180,ntmps180
  go_wp2_with (go_at_call 212;refine(qcm _).mono ?_;rintro e w2 ⟨rfl,hww⟩;obtain rfl:=hww.symm)
  go_wp2;go_ret;exact⟨rfl,rfl⟩
 ·have hm1:(a== -9223372036854775808)=false:=by simp[hm]
  clear hm hl hp;go_enter func180,ntmps180
  go_wp2_with (go_at_call 212;refine(qcm _).mono ?_;rintro e w2 ⟨rfl,hww⟩;obtain rfl:=hww.symm)
  go_wp2;go_ret;exact⟨rfl,rfl⟩
end
section
open Sc
theorem mul_ne(a b p:Int)(hb:-9223372036854775808<=b)(hb':b<=9223372036854775807)(h:b≠0)(hp:p=(a*b+9223372036854775808) % 18446744073709551616-9223372036854775808)(ho:a*b< -9223372036854775808\/9223372036854775807<a*b):p.tdiv b≠a:=by
 intro e;have h1:b*p.tdiv b+p.tmod b=p:=Int.mul_tdiv_add_tmod p b;rw[e,Int.mul_comm]at h1;have h2:(p.tmod b).natAbs<b.natAbs:=by
  rw[Int.natAbs_tmod];exact Nat.mod_lt _ (by omega)
 generalize a*b=q at*;generalize p.tmod b=r at*;omega
theorem qop:Num2 180 (-9223372036854775808) (-1) none:=by
 intro w;show Calls prog 180 #[.int .i64 (-9223372036854775808),.int .i64 (-1)] w fun e w'=>e=.panicked (stopP (stopV 8))/\∃o,w'=w.alloc o
 go_enter func180,ntmps180
 go_wp2_with (go_at_call 212;refine(qb1 _).mono ?_;rintro e w2 ⟨rfl,o,rfl⟩)
 all_goals exact⟨rfl,rfl,o,rfl⟩
theorem qrw(a b:Int)(ha:-9223372036854775808<=a)(ha':a<=9223372036854775807)(hb:-9223372036854775808<=b)(hb':b<=9223372036854775807)(h:b≠0)(hl:¬(a=-9223372036854775808/\b=-1))(ho:a*b< -9223372036854775808\/9223372036854775807<a*b):Num2 180 a b none:=by
 intro w;show Calls prog 180 #[.int .i64 a,.int .i64 b] w fun e w'=>e=.panicked (stopP (stopV 8))/\∃o,w'=w.alloc o
 obtain⟨p,hp⟩:∃p,p=(a*b+9223372036854775808) % 18446744073709551616-9223372036854775808:=⟨_,rfl⟩;have hne:=mul_ne a b p hb hb' h hp ho;have hw:IntKind.i64.wrap (a*b)=p:=by rw[hp,IntKind.wrap_i64]
 have h1:-9223372036854775808<=p:=by omega
 have h2:p<=9223372036854775807:=by omega
 have hb1:b≠-1:=by rintro rfl;omega
 have hq:-9223372036854775808<=p.tdiv b/\p.tdiv b<=9223372036854775807:=by
  have hn:(p.tdiv b).natAbs=p.natAbs / b.natAbs:=Int.natAbs_tdiv p b;by_cases hb2:b.natAbs=1
  ·have:b=1:=by omega
   subst this;rw[Int.tdiv_one];exact⟨h1,h2⟩
  ·have h3:p.natAbs / b.natAbs<=p.natAbs / 2:=Nat.div_le_div_left (by omega) (by omega);generalize p.natAbs / b.natAbs=z at*;omega
 obtain⟨hq1,hq2⟩:=hq;have hd:(b==0)=false:=by simp[h]
 have hqe:(p.tdiv b==a)=false:=by simp[hne]
 clear hp ho hl hne hb1;go_enter func180,ntmps180
 go_wp2_with (go_at_call 212;refine(qb1 _).mono ?_;rintro e w2 ⟨rfl,o,rfl⟩)
 all_goals exact⟨rfl,rfl,o,rfl⟩
end
section
open Sc
def NumOk(S:Sub)(G:Gh)(m:Mc)(p:Pm)(f:Nat):Prop:=∀a b,-9223372036854775808<=a->a<=9223372036854775807->-9223372036854775808<=b->b<=9223372036854775807->(∃v x,value S m p [.num a,.num b]=(.ok v,m)/\VRep G v x/\Num2 f a b (some x))\/(value S m p [.num a,.num b]=(.error 8,m)/\Num2 f a b none)
theorem qd3{n:Int}(h1:-9223372036854775808<=n)(h2:n<=9223372036854775807):num n=.ok (.num n):=by simp[num,fits,h1,h2]
theorem qf9{n:Int}(h:n< -9223372036854775808\/9223372036854775807<n):num n=.error 8:=by
 have:fits n=false:=by simp[fits];omega
 simp[num,this]
theorem tdiv_in{a b:Int}(ha:-9223372036854775808<=a)(ha':a<=9223372036854775807)(h:b≠0)(hl:¬(a=-9223372036854775808/\b=-1)):-9223372036854775808<=a.tdiv b/\a.tdiv b<=9223372036854775807:=by
 have hn:(a.tdiv b).natAbs=a.natAbs / b.natAbs:=Int.natAbs_tdiv a b;by_cases hb2:b.natAbs=1
 ·rcases (show b=1\/b=-1 by omega)with rfl|rfl
  ·rw[Int.tdiv_one];exact⟨ha,ha'⟩
  ·have:a.tdiv (-1)=-a:=by simp[Int.tdiv_neg]
   rw[this];omega
 ·have h3:a.natAbs / b.natAbs<=a.natAbs / 2:=Nat.div_le_div_left (by omega) (by omega);generalize a.natAbs / b.natAbs=z at*;omega
theorem tmod_in{a b:Int}(hb:-9223372036854775808<=b)(hb':b<=9223372036854775807)(h:b≠0):-9223372036854775808<=a.tmod b/\a.tmod b<=9223372036854775807:=by
 have h2:(a.tmod b).natAbs<b.natAbs:=by
  rw[Int.natAbs_tmod];exact Nat.mod_lt _ (by omega)
 omega
theorem add_num(S:Sub)(G:Gh)(m:Mc):NumOk S G m .add 178:=fun a b a0 a1 b0 b1=>by
 by_cases h:-9223372036854775808<=a+b/\a+b<=9223372036854775807
 ·exact .inl ⟨_,_,by simp only[value,qd3 h.1 h.2],.num _ h.1 h.2,qtk a b a0 a1 b0 b1 h.1 h.2⟩
 ·have ho:a+b< -9223372036854775808\/9223372036854775807<a+b:=by omega
  exact .inr ⟨by simp only[value,qf9 ho],qtj a b a0 a1 b0 b1 ho⟩
theorem sub_num(S:Sub)(G:Gh)(m:Mc):NumOk S G m .sub 179:=fun a b a0 a1 b0 b1=>by
 by_cases h:-9223372036854775808<=a-b/\a-b<=9223372036854775807
 ·exact .inl ⟨_,_,by simp only[value,qd3 h.1 h.2],.num _ h.1 h.2,qqv a b a0 a1 b0 b1 h.1 h.2⟩
 ·have ho:a-b< -9223372036854775808\/9223372036854775807<a-b:=by omega
  exact .inr ⟨by simp only[value,qf9 ho],qqu a b a0 a1 b0 b1 ho⟩
theorem mul_num(S:Sub)(G:Gh)(m:Mc):NumOk S G m .mul 180:=fun a b a0 a1 b0 b1=>by
 by_cases hb:b=0
 ·subst hb;exact .inl ⟨.num 0,_,by simp[value,num,fits],.num 0 (by decide) (by decide),mul_zero a a0 a1⟩
 ·by_cases h:-9223372036854775808<=a*b/\a*b<=9223372036854775807
  ·exact .inl ⟨_,_,by simp only[value,qd3 h.1 h.2],.num _ h.1 h.2,qrx a b a0 a1 b0 b1 hb h.1 h.2⟩
  ·have ho:a*b< -9223372036854775808\/9223372036854775807<a*b:=by omega
   refine .inr ⟨by simp only[value,qf9 ho],?_⟩;by_cases hl:a=-9223372036854775808/\b=-1
   ·obtain⟨rfl,rfl⟩:=hl;exact qop
   ·exact qrw a b a0 a1 b0 b1 hb hl ho
theorem qro(S:Sub)(G:Gh)(m:Mc):NumOk S G m .quot 181:=fun a b a0 a1 b0 b1=>by
 by_cases hb:b=0
 ·subst hb;exact .inr ⟨by simp[value],qoa a⟩
 ·by_cases hl:a=-9223372036854775808/\b=-1
  ·obtain⟨rfl,rfl⟩:=hl;exact .inr ⟨by simp[value,num,fits],qlp⟩
  ·obtain⟨h1,h2⟩:=tdiv_in a0 a1 hb hl;exact .inl ⟨_,_,by simp only[value,if_neg hb,qd3 h1 h2],.num _ h1 h2,qob a b a0 a1 b0 b1 hb hl h1 h2⟩
theorem rem_num(S:Sub)(G:Gh)(m:Mc):NumOk S G m .rem 182:=fun a b a0 a1 b0 b1=>by
 by_cases hb:b=0
 ·subst hb;exact .inr ⟨by simp[value],qrj a⟩
 ·obtain⟨h1,h2⟩:=tmod_in (a:=a) b0 b1 hb;exact .inl ⟨_,_,by simp only[value,if_neg hb],.num _ h1 h2,qrk a b a0 a1 b0 b1 hb⟩
end
section
open Sc
theorem qpd(S:Sub)(G:Gh)(m:Mc):NumOk S G m .eql 183:=fun a b _ _ _ _=>.inl ⟨_,_,rfl,.bool _,eql_num a b⟩
theorem qot(S:Sub)(G:Gh)(m:Mc):NumOk S G m .lss 184:=fun a b _ _ _ _=>.inl ⟨_,_,rfl,.bool _,lss_num a b⟩
theorem qik(r:Nat)(a b:ByteArray)(w:World)(hl:1200<(a.size:Int)+(b.size:Int))(ha:(a.size:Int)<=1000000000)(hb:(b.size:Int)<=1000000000):
  Calls prog 211 #[.string a,.string b,.pointer (some ⟨r,0,none⟩)] w fun e w'=>e=.panicked (stopP (stopV 8))/\∃o,w'=w.alloc o:=by
 have hd:¬((a.size:Int)+(b.size:Int)<=1200):=by omega
 go_enter func211,ntmps211
 go_wp2_with (go_at_call 212;refine(qb1 _).mono ?_;rintro e w2 ⟨rfl,o,rfl⟩)
 exact⟨rfl,rfl,o,rfl⟩
end
section
open Sc
theorem Inv.lt{G:Gh}{S:Sub}{m:Mc}{w:World}(i:Inv G S m w){b:Nat}{o:Obj}(h:G.I b=some o):b<w.heap.size:=by
 have:=i.imm h;rcases Nat.lt_or_ge b w.heap.size with h|h
 ·exact h
 ·rw[Array.getElem?_eq_none h]at this;cases this
theorem Inv.grown{G:Gh}{S:Sub}{m:Mc}{w w':World}(i:Inv G S m w){row:Option Nat}(hg:w.grownBy w' row)(hr:∀b,row=some b->G.I b=Option.none/\b∉G.mut/\¬G.F b):Inv G S m w':=by
 have k:∀c,c<w.heap.size->(G.I c≠Option.none\/c∈G.mut\/G.F c)->w'.heap[c]? =w.heap[c]?:=fun c hc h=>hg.block c hc fun e=>by
  obtain⟨h1,h2,h3⟩:=hr c e.symm;rcases h with h|h|h
  ·exact h h1
  ·exact h2 h
  ·exact h3 h
 have km:∀{c:Nat},c∈G.mut->w'.heap[c]? =w.heap[c]?:=fun {c} hc=>k c (i.ml hc) (.inr (.inl hc))
 refine⟨fun {c x} hc=>by rw[k c (i.lt hc) (.inl (by rw[hc];exact nofun))];exact i.imm hc,i.nd,i.mi,fun h=>Nat.lt_of_lt_of_le (i.ml h) hg.size,i.st.keep (km i.m2),i.ce.keep (km i.m3),i.sl,i.cl,by rw[km i.m1];exact i.ma,by rw[km i.m4];exact i.mp,fun {s c} h=>by rw[km (i.m5 h)];exact i.gl h,i.gd,i.gk,?_,i.el,i.jl,i.jn,i.ji,⟨hg.os.trans i.fo.1,hg.tape.trans i.fo.2.1,hg.output.trans i.fo.2.2⟩,fun {b} h=>⟨by rw[k b (i.ff h).2 (.inr (.inr h))];exact(i.ff h).1,Nat.lt_of_lt_of_le (i.ff h).2 hg.size⟩,i.fm,i.fi⟩;intro j vs e hj;obtain⟨fb,sv,pf,h1,h2,h3,h4⟩:=i.en hj;exact⟨fb,sv,pf,h1,h2,h3,h4.mono (Gh.le.refl _) fun g o n cap hsv=>km (i.m6 (by rw[h1,hsv]))⟩
theorem qcj{w:World}{lo e s:Nat}{v:Value}{n:Nat}{xs:List Value}{a:Addr}{x:Value}(h:w.ownsRow lo e s v n xs)(ha:a.block<lo):(w.setCell a x).ownsRow lo e s v n xs:=by
 refine⟨h.1,?_⟩;rcases h.2 with h|⟨g,cap,cur,hv,hb,hg,hr⟩
 ·exact .inl h
 ·exact .inr ⟨g,cap,cur,hv,hb,by rw[qaa _ (by omega)];exact hg,hr⟩
theorem qki{w w':World}{lo e s:Nat}{v:Value}{n:Nat}{xs:List Value}(h:w.ownsRow lo e s v n xs)(hl:Lk w w'):w'.ownsRow lo e s v n xs:=by
 refine⟨h.1,?_⟩;rcases h.2 with h|⟨g,cap,cur,hv,hb,hg,hr⟩
 ·exact .inl h
 ·exact .inr ⟨g,cap,cur,hv,hb,by rw[hl.heap];exact hg,hr⟩
theorem qkr{w w1 w2:World}{row:Option Nat}(hl:Lk w w1)(h:w1.grownBy w2 row):w.grownBy w2 row:=
 ⟨h.os.trans hl.os,h.tape.trans hl.tape,h.output.trans hl.output,by have:=h.size;rw[hl.heap]at this;exact this,fun k hk hr=>by rw[h.block k (by rw[hl.heap];exact hk) hr,hl.heap]⟩
theorem qbf{w w2:World}{row:Option Nat}{o:Obj}(h:(w.alloc o).grownBy w2 row):w.grownBy w2 row:=
 have a:=World.grownBy_alloc w o row
 ⟨h.os.trans a.os,h.tape.trans a.tape,h.output.trans a.output,Nat.le_trans a.size h.size,fun k hk hr=>by rw[h.block k (Nat.lt_of_lt_of_le hk a.size) hr,a.block k hk hr]⟩
def Pushed(c lo:Nat)(sl:Value)(n:Nat)(xs:List Value)(x:Value)(w w':World):Prop:=
 ∃g cap w2,w.grownBy w2 sl.ownBlock/\w2.ownsRow lo 116 1 (.slice (some ⟨g,0,none⟩) (n+1) cap) (n+1) (xs++[x])/\Lk (w2.setCell ⟨c,0,none⟩ (.slice (some ⟨g,0,none⟩) (n+1) cap)) w'
theorem qlq(q c mb sb tx lo n sc:Nat)(sa:Option Addr)(x:Value)(xs:List Value)(t mo:Int)(w:World)
  (h1:w.cell? ⟨q,0,none⟩=some (.pointer (some ⟨mb,0,none⟩)))(h2:w.cell? ⟨mb,0,none⟩=some (.pointer (some ⟨sb,0,none⟩)))(hM:Mt sb t mo 10 w)(h0:0<=t)(ht:t+1<=mo)(hm:mo<=1000000)
  (hc:w.heap[c]? =some (.cells #[.slice sa n sc] 184 (0,0)))(hcs:c≠sb)(hown:w.ownsRow lo 116 1 (.slice sa n sc) n xs)(hlo:lo<=w.heap.size)(hcl:c<lo)(hsl:sb<lo)(hn:n<=1000000):
  Calls prog 282 #[.iface tx x,.pointer (some ⟨q,0,none⟩),.pointer (some ⟨c,0,none⟩)] w fun e w'=>e=.returned (.tuple #[])/\Pushed c lo (.slice sa n sc) n xs (.iface tx x) (w.setCell ⟨sb,0,none⟩ (.int .i64 (t+1))) w':=by
 obtain⟨i0,hi,hz0',hz1',hz2'⟩:=info_parts qet;have HT:=hZ (qba sb t mo 10 1 w hM h0 ht (by omega) hm);have hcc:∀k,((w.setCell ⟨sb,0,none⟩ (.int .i64 (t+1))).drewN k).cell? ⟨c,0,none⟩=some (.slice sa n sc):=fun k=>by
  rw[qa6,qag hcs];simp[World.cell?,hc]
 have HOwn:Hid (∀k,((w.setCell ⟨sb,0,none⟩ (.int .i64 (t+1))).drewN k).ownsRow lo 116 1 (.slice sa n sc) n xs):=fun k=>qki (qcj hown hsl) ⟨rfl,rfl,rfl,rfl⟩
 have HC:=hZ hc;clear hM hc hown;go_enter func282,ntmps282
 go_wp2_with (go_at_call 200;refine HT.out.mono ?_;rintro e w2 ⟨rfl,k,rfl⟩;refine Hid.out ?_)
 refine hZ ?_;go_wp2_with (at_builtin;refine wpList_append_lies _ rfl _ _ 184 rfl lo 116 i0 .nilIface 1 16 underlying184 hi hz0' hz1' hz2' rfl (by decide) _ _ _ rfl ((HOwn.out _).alloc _) ⟨w.heap.size,0,none⟩ 1 1 [.iface tx x] rfl rfl ?c1 ?c2 (by decide) ?c3 ?c4 ?c5 (w.heap.size+1) ?c6 ?_)
 case c1=>exact World.news_of_block (cs:=#[.iface tx x]) (by have:=heap_alloc_new ((w.setCell ⟨sb,0,none⟩ (.int .i64 (t+1))).drewN k) (.cells #[.iface tx x] 116);simpa using this)
 case c2=>intro u hu;simp at hu;rcases hu with rfl;rfl
 case c3=>unfold maxLen;omega
 case c4=>omega
 case c5=>simp;omega
 case c6=>simp
 intro g cap w3 hown3 hgrow3 hat3 hlt3;refine Hid.out ?_;have hg3:(w.setCell ⟨sb,0,none⟩ (.int .i64 (t+1))).grownBy w3 (Value.slice sa n sc).ownBlock:=qkr (by exact⟨rfl,rfl,rfl,rfl⟩) (qbf hgrow3);have hne:some c≠(Value.slice sa n sc).ownBlock:=fun e=>by
  have:=((HOwn.out 0).lt c e.symm).1;omega
 have hc3:w3.heap[c]? =some (.cells #[.slice sa n sc] 184 (0,0)):=by
  rw[hg3.block c (by simp;omega) hne,qaa (a:=⟨sb,0,none⟩) _ hcs];exact HC.out
 have hc4:w3.cell? ⟨c,0,none⟩=some (.slice sa n sc):=by simp[World.cell?,hc3]
 have hfz:w3.frozen? ⟨c,0,none⟩=false:=by simp[World.frozen?,hc3]
 have HOwn3:=hZ hown3;have HG3:=hZ hg3;clear hown3 hgrow3 hat3 hlt3 hg3 hc3 hne;refine hZ ?_;go_wp2;go_end0;exact⟨rfl,g,cap,w3,HG3.out,HOwn3.out,⟨rfl,rfl,rfl,rfl⟩⟩
theorem qit(q c mb sb tx:Nat)(x:Value)(t:Int)(w:World)
  (h1:w.cell? ⟨q,0,none⟩=some (.pointer (some ⟨mb,0,none⟩)))(h2:w.cell? ⟨mb,0,none⟩=some (.pointer (some ⟨sb,0,none⟩)))(hM:Mt sb t t 10 w)(h0:0<=t)(hm:t<=1000000):
  Calls prog 282 #[.iface tx x,.pointer (some ⟨q,0,none⟩),.pointer (some ⟨c,0,none⟩)] w fun e w'=>e=.panicked (stopP (stopV 10))/\Below w.heap.size (w.setCell ⟨sb,0,none⟩ (.int .i64 t)) w':=by
 have HT:=hZ (qa1 sb t t 10 1 w hM h0 (by omega) (by omega) (by omega) hm);clear hM;go_enter func282,ntmps282
 go_wp2_with (go_at_call 200;refine HT.out.mono ?_;rintro e w2 ⟨rfl,hb⟩)
 exact⟨rfl,rfl,hb⟩
theorem qiu(q c mb sb tx:Nat)(x:Value)(t:Int)(w:World)
  (h1:w.cell? ⟨q,0,none⟩=some (.pointer (some ⟨mb,0,none⟩)))(h2:w.cell? ⟨mb,0,none⟩=some (.pointer (some ⟨sb,0,none⟩)))(hM:Mt sb t t 10 w)(h0:0<=t)(hm:t<=1000000):
  Calls prog 209 #[.iface tx x,.pointer (some ⟨q,0,none⟩),.pointer (some ⟨c,0,none⟩)] w fun e w'=>e=.panicked (stopP (stopV 10))/\Below w.heap.size (w.setCell ⟨sb,0,none⟩ (.int .i64 t)) w':=by
 have HT:=hZ (qa1 sb t t 10 1 w hM h0 (by omega) (by omega) (by omega) hm);clear hM;go_enter func209,ntmps209
 go_wp2_with (go_at_call 200;refine HT.out.mono ?_;rintro e w2 ⟨rfl,hb⟩)
 exact⟨rfl,rfl,hb⟩
theorem qhe(q c mb sb cb tx:Nat)(x:Value)(t mo u:Int)(w:World)
  (h1:w.cell? ⟨q,0,none⟩=some (.pointer (some ⟨mb,0,none⟩)))(h2:w.cell? ⟨mb,0,none⟩=some (.pointer (some ⟨sb,0,none⟩)))(h3:w.cell? ⟨mb,1,none⟩=some (.pointer (some ⟨cb,0,none⟩)))(hM:Mt sb t mo 10 w)(h0:0<=t)(ht:t+1<=mo)(hm:mo<=1000000)
  (hC:Mt cb u u 11 w)(hu0:0<=u)(hu:u<=1000000)(hqs:q≠sb)(hms:mb≠sb)(hcs:cb≠sb):
  Calls prog 209 #[.iface tx x,.pointer (some ⟨q,0,none⟩),.pointer (some ⟨c,0,none⟩)] w fun e w'=>e=.panicked (stopP (stopV 11))/\Below w.heap.size ((w.setCell ⟨sb,0,none⟩ (.int .i64 (t+1))).setCell ⟨cb,0,none⟩ (.int .i64 u)) w':=by
 have HT:=hZ (qba sb t mo 10 1 w hM h0 ht (by omega) hm);have HU:Hid (∀k,Calls prog 200 #[.pointer (some ⟨cb,0,none⟩),.int .i64 1] ((w.setCell ⟨sb,0,none⟩ (.int .i64 (t+1))).drewN k) fun e w'=>e=.panicked (stopP (stopV 11))/\Below ((w.setCell ⟨sb,0,none⟩ (.int .i64 (t+1))).drewN k).heap.size (((w.setCell ⟨sb,0,none⟩ (.int .i64 (t+1))).drewN k).setCell ⟨cb,0,none⟩ (.int .i64 u)) w'):=fun k=>
  qa1 cb u u 11 1 _ (by unfold Mt at*;show(w.setCell ⟨sb,0,none⟩ (.int .i64 (t+1))).heap[cb]? =_;rw[qaa (a:=⟨sb,0,none⟩) _ hcs];exact hC) hu0 (by omega) (by omega) (by omega) hu
 have hq1:∀k,((w.setCell ⟨sb,0,none⟩ (.int .i64 (t+1))).drewN k).cell? ⟨q,0,none⟩=some (.pointer (some ⟨mb,0,none⟩)):=fun k=>by rw[qa6,qag hqs];exact h1
 have hq2:∀k,((w.setCell ⟨sb,0,none⟩ (.int .i64 (t+1))).drewN k).cell? ⟨mb,1,none⟩=some (.pointer (some ⟨cb,0,none⟩)):=fun k=>by rw[qa6,qag hms];exact h3
 clear hM hC;go_enter func209,ntmps209
 go_wp2_with (go_at_call 200;refine HT.out.mono ?_;rintro e w2 ⟨rfl,k,rfl⟩;refine Hid.out ?_)
 refine hZ ?_;go_wp2_with (go_at_call 200;refine(HU.out k).mono ?_;rintro e w2 ⟨rfl,hb⟩)
 exact⟨rfl,rfl,hb.os,hb.tape,hb.output,hb.size,fun j hj=>hb.block j (by show j<(w.setCell ⟨sb,0,none⟩ (.int .i64 (t+1))).heap.size;rw[qaf];exact hj)⟩
theorem qlr(q c mb sb cb tx lo n sc:Nat)(sa:Option Addr)(x:Value)(xs:List Value)(t mo u uo:Int)(w:World)
  (h1:w.cell? ⟨q,0,none⟩=some (.pointer (some ⟨mb,0,none⟩)))(h2:w.cell? ⟨mb,0,none⟩=some (.pointer (some ⟨sb,0,none⟩)))(h3:w.cell? ⟨mb,1,none⟩=some (.pointer (some ⟨cb,0,none⟩)))(hM:Mt sb t mo 10 w)(h0:0<=t)(ht:t+1<=mo)(hm:mo<=1000000)
  (hC:Mt cb u uo 11 w)(hu0:0<=u)(hu:u+1<=uo)(huo:uo<=1000000)(hqs:q≠sb)(hms:mb≠sb)(hbs:cb≠sb)
  (hc:w.heap[c]? =some (.cells #[.slice sa n sc] 184 (0,0)))(hcs:c≠sb)(hcb:c≠cb)(hown:w.ownsRow lo 116 1 (.slice sa n sc) n xs)(hlo:lo<=w.heap.size)(hcl:c<lo)(hsl:sb<lo)(hbl:cb<lo)(hn:n<=1000000):
  Calls prog 209 #[.iface tx x,.pointer (some ⟨q,0,none⟩),.pointer (some ⟨c,0,none⟩)] w fun e w'=>e=.returned (.tuple #[])/\Pushed c lo (.slice sa n sc) n xs (.iface tx x) ((w.setCell ⟨sb,0,none⟩ (.int .i64 (t+1))).setCell ⟨cb,0,none⟩ (.int .i64 (u+1))) w':=by
 obtain⟨i0,hi,hz0',hz1',hz2'⟩:=info_parts qet;have HT:=hZ (qba sb t mo 10 1 w hM h0 ht (by omega) hm);have HU:Hid (∀k,Calls prog 200 #[.pointer (some ⟨cb,0,none⟩),.int .i64 1] ((w.setCell ⟨sb,0,none⟩ (.int .i64 (t+1))).drewN k) fun e w'=>e=.returned (.tuple #[])/\∃k',w'=(((w.setCell ⟨sb,0,none⟩ (.int .i64 (t+1))).drewN k).setCell ⟨cb,0,none⟩ (.int .i64 (u+1))).drewN k'):=fun k=>
  qba cb u uo 11 1 _ (by unfold Mt at*;show(w.setCell ⟨sb,0,none⟩ (.int .i64 (t+1))).heap[cb]? =_;rw[qaa (a:=⟨sb,0,none⟩) _ hbs];exact hC) hu0 (by omega) (by omega) huo
 have hq1:∀k,((w.setCell ⟨sb,0,none⟩ (.int .i64 (t+1))).drewN k).cell? ⟨q,0,none⟩=some (.pointer (some ⟨mb,0,none⟩)):=fun k=>by rw[qa6,qag hqs];exact h1
 have hq2:∀k,((w.setCell ⟨sb,0,none⟩ (.int .i64 (t+1))).drewN k).cell? ⟨mb,1,none⟩=some (.pointer (some ⟨cb,0,none⟩)):=fun k=>by rw[qa6,qag hms];exact h3
 have hcc:∀k k',((((w.setCell ⟨sb,0,none⟩ (.int .i64 (t+1))).drewN k).setCell ⟨cb,0,none⟩ (.int .i64 (u+1))).drewN k').cell? ⟨c,0,none⟩=some (.slice sa n sc):=fun k k'=>by
  rw[qa6,qag hcb,qa6,qag hcs];simp[World.cell?,hc]
 have HOwn:Hid (∀k k',((((w.setCell ⟨sb,0,none⟩ (.int .i64 (t+1))).drewN k).setCell ⟨cb,0,none⟩ (.int .i64 (u+1))).drewN k').ownsRow lo 116 1 (.slice sa n sc) n xs):=fun k k'=>qki (qcj (qki (qcj hown hsl) (by exact⟨rfl,rfl,rfl,rfl⟩)) hbl) (by exact⟨rfl,rfl,rfl,rfl⟩)
 have HC:=hZ hc;clear hM hC hc hown;go_enter func209,ntmps209
 go_wp2_with (go_at_call 200;refine HT.out.mono ?_;rintro e w2 ⟨rfl,k,rfl⟩;refine Hid.out ?_)
 refine hZ ?_;go_wp2_with (go_at_call 200;refine(HU.out k).mono ?_;rintro e w2 ⟨rfl,k',rfl⟩;refine Hid.out ?_)
 refine hZ ?_;go_wp2_with (at_builtin;refine wpList_append_lies _ rfl _ _ 184 rfl lo 116 i0 .nilIface 1 16 underlying184 hi hz0' hz1' hz2' rfl (by decide) _ _ _ rfl ((HOwn.out _ _).alloc _) ⟨w.heap.size,0,none⟩ 1 1 [.iface tx x] rfl rfl ?c1 ?c2 (by decide) ?c3 ?c4 ?c5 (w.heap.size+1) ?c6 ?_)
 case c1=>exact World.news_of_block (cs:=#[.iface tx x]) (by have:=heap_alloc_new ((((w.setCell ⟨sb,0,none⟩ (.int .i64 (t+1))).drewN k).setCell ⟨cb,0,none⟩ (.int .i64 (u+1))).drewN k') (.cells #[.iface tx x] 116);simpa using this)
 case c2=>intro u hu;simp at hu;rcases hu with rfl;rfl
 case c3=>unfold maxLen;omega
 case c4=>omega
 case c5=>simp;omega
 case c6=>simp
 intro g cap w3 hown3 hgrow3 hat3 hlt3;refine Hid.out ?_;have hg3:((w.setCell ⟨sb,0,none⟩ (.int .i64 (t+1))).setCell ⟨cb,0,none⟩ (.int .i64 (u+1))).grownBy w3 (Value.slice sa n sc).ownBlock:=qkr (by exact⟨rfl,rfl,rfl,rfl⟩) (qbf hgrow3);have hne:some c≠(Value.slice sa n sc).ownBlock:=fun e=>by
  have:=((HOwn.out 0 0).lt c e.symm).1;omega
 have hc3:w3.heap[c]? =some (.cells #[.slice sa n sc] 184 (0,0)):=by
  rw[hg3.block c (by simp;omega) hne,qaa (a:=⟨cb,0,none⟩) _ hcb,qaa (a:=⟨sb,0,none⟩) _ hcs];exact HC.out
 have hc4:w3.cell? ⟨c,0,none⟩=some (.slice sa n sc):=by simp[World.cell?,hc3]
 have hfz:w3.frozen? ⟨c,0,none⟩=false:=by simp[World.frozen?,hc3]
 have HOwn3:=hZ hown3;have HG3:=hZ hg3;clear hown3 hgrow3 hat3 hlt3 hg3 hc3 hne;refine hZ ?_;go_wp2;go_end0;exact⟨rfl,g,cap,w3,HG3.out,HOwn3.out,⟨rfl,rfl,rfl,rfl⟩⟩
end
section
open Sc
def oneMore(S:Sub)(b:Bool)(m:Mc):Except Nat Unit×Mc:=match Sc.step S m with
 |(.error e,m)=>(.error e,m)
 |(.ok _,m)=>if b then Sc.cell S m else(.ok (),m)
def gath(acc:List Vl):Except Nat (List Vl)×Mc->Except Nat (List Vl)×Mc
 |(.error e,m)=>(.error e,m)
 |(.ok l,m)=>(.ok (acc++l),m)
theorem gath_ok{S:Sub}{b:Bool}{acc:List Vl}{id:Nat}{a d:Vl}{m m':Mc}{u:Unit}(h:oneMore S b m=(.ok u,m')):gath acc (membersOf S b (.pair id a d) m)=gath (acc++[a]) (membersOf S b d m'):=by
 unfold oneMore at h;simp only[membersOf];rcases hs:Sc.step S m with⟨e|u1,m1⟩
 ·rw[hs]at h;cases h
 ·rw[hs]at h;simp only at h|-;have hx:(if b=true then Sc.cell S m1 else(.ok (),m1))=((.ok u,m'):Except Nat Unit×Mc):=h;rw[hx];simp only;rcases membersOf S b d m' with⟨e|l,m2⟩
  ·rfl
  ·simp[gath]
theorem qsm{S:Sub}{b:Bool}{acc:List Vl}{id:Nat}{a d:Vl}{m m':Mc}{e:Nat}(h:oneMore S b m=(.error e,m')):gath acc (membersOf S b (.pair id a d) m)=(.error e,m'):=by
 unfold oneMore at h;simp only[membersOf];rcases hs:Sc.step S m with⟨e|u1,m1⟩
 ·rw[hs]at h;cases h;rfl
 ·rw[hs]at h;simp only at h|-;have hx:(if b=true then Sc.cell S m1 else(.ok (),m1))=((.error e,m'):Except Nat Unit×Mc):=h;rw[hx];rfl
def RowW(H:Gh)(c lo:Nat)(acc:List Vl)(w:World):Prop:=∃sa n sc xs,w.heap[c]? =some (.cells #[.slice sa n sc] 184 (0,0))/\w.ownsRow lo 116 1 (.slice sa n sc) n xs/\VsRep H acc xs/\lo<=w.heap.size
def Loose(H:Gh)(c:Nat):Prop:=∀b,c<=b->H.I b=none/\b∉H.mut/\¬H.F b
theorem Loose.lt{H:Gh}{c:Nat}(h:Loose H c){b:Nat}(hb:b∈H.mut):b<c:=by
 rcases Nat.lt_or_ge b c with h1|h1
 ·exact h1
 ·exact absurd hb (h b h1).2.1
theorem Inv.looses{G:Gh}{S:Sub}{m:Mc}{w:World}(i:Inv G S m w):Loose G w.heap.size:=fun _b hb=>
 ⟨i.fresh hb,fun h=>Nat.lt_irrefl _ (Nat.lt_of_lt_of_le (i.ml h) hb),fun h=>Nat.lt_irrefl _ (Nat.lt_of_lt_of_le (i.ff h).2 hb)⟩
theorem qfk{H:Gh}{S:Sub}{m:Mc}{W w':World}{c lo n sc:Nat}{sa:Option Addr}{xs:List Value}{acc:List Vl}{v:Vl}{x:Value}(i:Inv H S m W)(hL:Loose H c)(hc:W.heap[c]? =some (.cells #[.slice sa n sc] 184 (0,0)))(ho:W.ownsRow lo 116 1 (.slice sa n sc) n xs)
  (hcl:c<lo)(hlo:lo<=W.heap.size)(hvs:VsRep H acc xs)(hv:VRep H v x)(hp:Pushed c lo (.slice sa n sc) n xs x W w'):Inv H S m w'/\RowW H c lo (acc++[v]) w':=by
 obtain⟨g,cap,w2,hg,hown,hl⟩:=hp;have i2:=i.grown hg fun b hb=>hL b (by have:=(ho.lt b hb).1;omega)
 obtain⟨l1,l2,l3⟩:=hL c (Nat.le_refl _);have hc2:w2.heap[c]? =some (.cells #[.slice sa n sc] 184 (0,0)):=by
  rw[hg.block c (by omega) fun e=>by have:=(ho.lt c e.symm).1;omega];exact hc
 refine⟨Inv.lk hl (i2.loose l1 l2 l3),_,_,_,_,by rw[hl.heap];exact qbc hc2,qki (qcj hown hcl) hl,hvs.snoc hv,?_⟩;rw[hl.heap,qaf];exact Nat.le_trans hlo hg.size
def VisOk(H:Gh)(S:Sub)(c lo:Nat)(acc:List Vl)(v:Vl)(rv:Except Nat Unit×Mc)(e:Ending)(w2:World):Prop:=
 (∃u m',rv=(.ok u,m')/\e=.returned (.tuple #[])/\Inv H S m' w2/\RowW H c lo (acc++[v]) w2/\acc.length+1<=m'.steps)\/(∃vd m',rv=(.error vd,m')/\e=.panicked (stopP (stopW vd m'))/\Cnt H S m' w2)
theorem qqn{H:Gh}{S:Sub}{m:Mc}{w:World}{c lo r t0:Nat}{y0:Value}{acc:List Vl}{v:Vl}(i:Inv H S m w)(hr:H.mbox r)(hL:Loose H c)(hcl:c<lo)(hrow:RowW H c lo acc w)(hal:acc.length<=m.steps)(hv:VRep H v (.iface t0 y0)):
  Calls prog 282 (#[.iface t0 y0]++#[bp r,bp c]) w (VisOk H S c lo acc v (oneMore S false m)):=by
 have hfu:(m.steps:Int)<=S.fuel:=i.sl.1;have hf2:S.fuel<=20000:=i.sl.2;have c1:w.cell? ⟨r,0,none⟩=some (.pointer (some ⟨H.mb,0,none⟩)):=by rw[i.cell hr];rfl
 have hsl:=hL.lt i.m2;obtain⟨sa,n,sc,xs,hc,ho,hvs,hlo⟩:=hrow;have hn:n=acc.length:=by have:=ho.1;have:=hvs.1;omega
 by_cases hst:(m.steps:Int)<S.fuel
 ·refine Calls.mono (qlq r c H.mb H.sb t0 lo n sc sa y0 xs m.steps S.fuel w c1 i.mb0 i.st (by omega) (by omega) (by omega) hc (by omega) ho hlo hcl (by omega) (by omega)) ?_;rintro e w2 ⟨rfl,hp⟩;have is:=i.steps (m.steps+1) (by push_cast;omega);have is:Inv H S {m with steps:=m.steps+1} (w.setCell ⟨H.sb,0,none⟩ (.int .i64 ((m.steps:Int)+1))):=by simpa using is
  obtain⟨i2,r2⟩:=qfk is hL (by rw[qaa (a:=⟨H.sb,0,none⟩) _ (show c≠H.sb by omega)];exact hc) (qcj ho (show H.sb<lo by omega)) hcl (by rw[qaf];exact hlo) hvs hv hp;exact .inl ⟨(),_,by simp[oneMore,Sc.step,hst],rfl,i2,r2,by simp;omega⟩
 ·have hm:(m.steps:Int)=S.fuel:=by omega
  have hM:Mt H.sb m.steps S.fuel 10 w:=i.st;rw[<-hm]at hM;refine Calls.mono (qit r c H.mb H.sb t0 y0 m.steps w c1 i.mb0 hM (by omega) (by omega)) ?_;rintro e w2 ⟨rfl,hb2⟩;have i1:=i.steps m.steps (by omega);exact .inr ⟨10,m,by simp[oneMore,Sc.step,hst],rfl,i1.cntB (by rw[qaf];exact Nat.le_refl _) hb2⟩
theorem qqo{H:Gh}{S:Sub}{m:Mc}{w:World}{c lo r t0:Nat}{y0:Value}{acc:List Vl}{v:Vl}(i:Inv H S m w)(hr:H.mbox r)(hL:Loose H c)(hcl:c<lo)(hrow:RowW H c lo acc w)(hal:acc.length<=m.steps)(hv:VRep H v (.iface t0 y0)):
  Calls prog 209 (#[.iface t0 y0]++#[bp r,bp c]) w (VisOk H S c lo acc v (oneMore S true m)):=by
 have hfu:(m.steps:Int)<=S.fuel:=i.sl.1;have hf2:S.fuel<=20000:=i.sl.2;have hqu:(m.cells:Int)<=S.quota:=i.cl.1;have hq2:S.quota<=5000:=i.cl.2;have c1:w.cell? ⟨r,0,none⟩=some (.pointer (some ⟨H.mb,0,none⟩)):=by rw[i.cell hr];rfl
 have hsl:=hL.lt i.m2;have hbl:=hL.lt i.m3;have hrs:r≠H.sb:=fun e=>by have h1:=i.mi i.m2;have h2:H.I r=some _:=hr;rw[e,h1]at h2;cases h2
 obtain⟨sa,n,sc,xs,hc,ho,hvs,hlo⟩:=hrow;have hn:n=acc.length:=by have:=ho.1;have:=hvs.1;omega
 by_cases hst:(m.steps:Int)<S.fuel
 ·have is:=i.steps (m.steps+1) (by push_cast;omega);have is:Inv H S {m with steps:=m.steps+1} (w.setCell ⟨H.sb,0,none⟩ (.int .i64 ((m.steps:Int)+1))):=by simpa using is
  by_cases hce:(m.cells:Int)<S.quota
  ·refine Calls.mono (qlr r c H.mb H.sb H.cb t0 lo n sc sa y0 xs m.steps S.fuel m.cells S.quota w c1 i.mb0 i.mb1 i.st (by omega) (by omega) (by omega) i.ce (by omega) (by omega) (by omega) hrs i.sb_mb.symm i.cb_sb hc (by omega) (by omega) ho hlo hcl (by omega) (by omega) (by omega)) ?_;rintro e w2 ⟨rfl,hp⟩;have ic:=is.cells (m.cells+1) (by push_cast;omega);have ic:Inv H S {m with steps:=m.steps+1,cells:=m.cells+1} ((w.setCell ⟨H.sb,0,none⟩ (.int .i64 ((m.steps:Int)+1))).setCell ⟨H.cb,0,none⟩ (.int .i64 ((m.cells:Int)+1))):=by simpa using ic
   obtain⟨i2,r2⟩:=qfk ic hL (by rw[qaa (a:=⟨H.cb,0,none⟩) _ (show c≠H.cb by omega),qaa (a:=⟨H.sb,0,none⟩) _ (show c≠H.sb by omega)];exact hc) (qcj (qcj ho (show H.sb<lo by omega)) (show H.cb<lo by omega)) hcl (by rw[qaf,qaf];exact hlo) hvs hv hp;exact .inl ⟨(),_,by simp[oneMore,Sc.step,hst,Sc.cell,hce],rfl,i2,r2,by simp;omega⟩
  ·have hm:(m.cells:Int)=S.quota:=by omega
   have hM:Mt H.cb m.cells S.quota 11 w:=i.ce;rw[<-hm]at hM;refine Calls.mono (qhe r c H.mb H.sb H.cb t0 y0 m.steps S.fuel m.cells w c1 i.mb0 i.mb1 i.st (by omega) (by omega) (by omega) hM (by omega) (by omega) hrs i.sb_mb.symm i.cb_sb) ?_;rintro e w2 ⟨rfl,hb2⟩;have i1:=is.cells m.cells (by show(m.cells:Int)<=S.quota;omega);exact .inr ⟨11,{m with steps:=m.steps+1},by simp[oneMore,Sc.step,hst,Sc.cell,hce],rfl,i1.cntB (by rw[qaf,qaf];exact Nat.le_refl _) hb2⟩
 ·have hm:(m.steps:Int)=S.fuel:=by omega
  have hM:Mt H.sb m.steps S.fuel 10 w:=i.st;rw[<-hm]at hM;refine Calls.mono (qiu r c H.mb H.sb t0 y0 m.steps w c1 i.mb0 hM (by omega) (by omega)) ?_;rintro e w2 ⟨rfl,hb2⟩;have i1:=i.steps m.steps (by omega);exact .inr ⟨10,m,by simp[oneMore,Sc.step,hst],rfl,i1.cntB (by rw[qaf];exact Nat.le_refl _) hb2⟩
end
section
open Sc
theorem eg209:Eg 209:=qak func209 (by kernel_rfl) (by kernel_rfl)
theorem eg282:Eg 282:=qak func282 (by kernel_rfl) (by kernel_rfl)
def GathOk(H:Gh)(S:Sub)(c lo:Nat)(rv:Except Nat (List Vl)×Mc)(e:Ending)(w2:World):Prop:=
 (∃l m',rv=(.ok l,m')/\e=.returned (.tuple #[])/\Inv H S m' w2/\RowW H c lo l w2/\l.length<=m'.steps)\/(∃vd m',rv=(.error vd,m')/\e=.panicked (stopP (stopW vd m'))/\Cnt H S m' w2)
def GathR(H:Gh)(S:Sub)(c lo:Nat)(b:Bool)(rv:Except Nat (List Vl)×Mc)(k:Nat)(x:Value)(w:World):Prop:=
 ∃(v:Vl) (m:Mc) (acc:List Vl),SizeOf.sizeOf v<=k/\acc.length<=m.steps/\Inv H S m w/\VRep H v x/\RowW H c lo acc w/\rv=gath acc (membersOf S b v m)
theorem qhu{H:Gh}{S:Sub}{c lo r f:Nat}{b:Bool}(ef:Eg f)
  (hvis:∀(m:Mc) (w:World) (t0:Nat) (y0:Value) (acc:List Vl) (v:Vl),Inv H S m w->RowW H c lo acc w->acc.length<=m.steps->VRep H v (.iface t0 y0)->Calls prog f (#[.iface t0 y0]++#[bp r,bp c]) w (VisOk H S c lo acc v (oneMore S b m)))
  (v:Vl)(m:Mc)(x:Value)(w:World)(i:Inv H S m w)(hv:VRep H v x)(hrow:RowW H c lo [] w):
  Calls prog 206 #[x,.func (.func f) #[] #[bp r,bp c]] w (GathOk H S c lo (membersOf S b v m)):=by
 have h0:membersOf S b v m=gath [] (membersOf S b v m):=by rcases membersOf S b v m with⟨e|l,m'⟩ <;> rfl
 generalize hrv:membersOf S b v m=rv;rw[hrv]at h0;refine qpk f #[bp r,bp c] ef (GathR H S c lo b rv) _ (SizeOf.sizeOf v) x w ⟨v,m,[],Nat.le_refl _,Nat.zero_le _,i,hv,hrow,by rw[hrv];exact h0⟩ ?_;clear hrv h0 i hv hrow;rintro k x w1 ⟨v,m,acc,hk,hcm,i,hv,hrow,hrv⟩;have other:∀t y,x=.iface t y->t≠246->t≠186->membersOf S b v m=(.error 6,m)->(∃t y,t≠246/\t≠186/\x=.iface t y/\∀o,GathOk H S c lo rv (.panicked (stopP (stopV 6))) (w1.alloc o)):=fun t y e h1 h2 h3=>by
  rw[h3]at hrv;exact⟨t,y,h1,h2,e,fun o=>.inr ⟨6,m,hrv,rfl,i.cntB (Nat.le_refl _) ((Below.refl _ _).alloc (Nat.le_refl _) _)⟩⟩
 cases hv with
 |pair id p v u x y hj hb h1 h2=>
  left;obtain⟨t0,y0,rfl⟩:=h1.form;obtain⟨t1,y1,rfl⟩:=h2.form;refine⟨p,t0,y0,t1,y1,SizeOf.sizeOf u,by simp at hk;omega,rfl,by rw[i.cell hb];rfl,?_⟩;refine Calls.mono (hvis m w1 t0 y0 acc v i hrow hcm h1) ?_;rintro e w2 (⟨uu,m',h3,rfl,i2,hr2,hst⟩|⟨vd,m',h3,rfl,hcn⟩)
  ·rw[gath_ok h3]at hrv;exact .inl ⟨rfl,by rw[i2.cell hb];rfl,u,m',acc++[v],Nat.le_refl _,by simpa using hst,i2,h2,hr2,hrv⟩
  ·rw[qsm h3]at hrv;exact .inr ⟨_,rfl,.inr ⟨vd,m',hrv,rfl,hcn⟩⟩
 |nil=>
  right;left;exact⟨rfl,.inl ⟨acc,m,by rw[hrv];simp[membersOf,gath],rfl,i,hrow,hcm⟩⟩
 |proc v b h=>right;right;exact other _ _ rfl (by decide) (by decide) (by cases h <;> rfl)
 |_=>right;right;exact other _ _ rfl (by decide) (by decide) rfl
theorem qti(r tx ty:Nat)(x y:Value)(w:World)(Q:Ending->World->Prop)(hQ:∀e w,Q e w->(∃t y,e=.returned (.iface t y))\/∃ps,e=.panicked ps)
  (hE:∀w',Lk (w.alloc (.cells #[.slice none 0 0] 184)) w'->Calls prog 206 #[.iface tx x,.func (.func 209) #[] #[.pointer (some ⟨r,0,none⟩),.pointer (some ⟨w.heap.size,0,none⟩)]] w' fun e w2=>(∃sa n sc,e=.returned (.tuple #[])/\w2.cell? ⟨w.heap.size,0,none⟩=some (.slice sa n sc)/\∀w3,Lk w2 w3->Calls prog 91 #[.slice sa n sc,.iface ty y] w3 Q)\/(∃ps,e=.panicked ps/\Q e w2)):
  Calls prog 208 #[.iface tx x,.iface ty y,.pointer (some ⟨r,0,none⟩)] w Q:=by
 have HE:=hZ hE;have HQ:=hZ hQ;clear hE hQ;go_enter func208,ntmps208
 go_wp2_with (go_at_call 206;refine(HE.out _ (by exact⟨rfl,rfl,rfl,rfl⟩)).mono ?_;rintro e w2 (⟨sa,n,sc,rfl,hc,hq⟩|⟨ps,rfl,hq⟩);all_goals have HK:=hZ hq;clear hq;refine Hid.out ?_)
 ·refine hZ ?_;go_wp2_with (go_at_call 91;refine(HK.out _ (by exact⟨rfl,rfl,rfl,rfl⟩)).mono ?_;intro e w2 hq;rcases HQ.out _ _ hq with⟨t,y,rfl⟩|⟨ps,rfl⟩)
  ·go_wp2;exact hq
  ·exact⟨rfl,hq⟩
 ·exact⟨rfl,HK.out⟩
end
section
open Sc
theorem qhh{w:World}{lo n sc:Nat}{sa:Option Addr}{xs:List Value}(h:w.ownsRow lo 116 1 (.slice sa n sc) n xs):
  n=xs.length/\(xs=[]\/∃(g:Nat) (cur:Array Value),sa=some ⟨g,0,none⟩/\lo<=g/\w.heap[g]? =some (.cells cur 116 (0,0))/\xs.length<=sc/\∀(j:Nat) (x:Value),xs[j]? =some x->cur[j]? =some x):=by
 have h1:n=xs.length:=by have:=h.1;omega
 refine⟨h1,?_⟩;rcases h.2 with⟨_,h0⟩|⟨g,cap,cur,hv,hb,hg,hn,hm,hs,ht⟩
 ·left;subst h0;exact List.eq_nil_of_length_eq_zero h1.symm
 ·right;cases hv;refine⟨g,cur,rfl,hb,hg,by omega,fun j x hj=>?_⟩;rw[<-ht,List.getElem?_take]at hj;split at hj
  ·simpa using hj
  ·cases hj
theorem qfj{H:Gh}{w w':World}(hw:Lk (w.alloc (.cells #[.slice none 0 0] 184)) w'):RowW H w.heap.size (w.heap.size+1) [] w':=
 ⟨none,0,0,[],by rw[hw.heap];exact heap_alloc_new _ _,⟨rfl,.inl ⟨rfl,rfl⟩⟩,⟨rfl,fun i v x h=>by simp at h⟩,by rw[hw.heap];simp⟩
theorem qj3{S:Sub}(m:Mc)(H:Gh)(w:World)(v u:Vl)(x y:Value)(r:Nat)(hr:H.mbox r)(i:Inv H S m w)(hv:VRep H v x)(hu:VRep H u y):Calls prog 208 (#[x,y]++#[bp r]) w (WorkOk H S (value S m .append [v,u])):=by
 obtain⟨t,x',rfl⟩:=hv.form;obtain⟨t',y',rfl⟩:=hu.form;refine qti r t t' x' y' w _ (fun e w h=>h.ends) fun w' hw=>?_
 have i':Inv H S m w':=Inv.lk hw (i.below ((Below.refl _ _).alloc (Nat.le_refl _) _));have hL:=i.looses;refine Calls.mono (qhu eg209 (fun m w t0 y0 acc v i hrow hal hv=>qqo i hr hL (Nat.lt_succ_self _) hrow hal hv) v m _ w' i' hv (qfj hw)) ?_;rintro e w2 (⟨l,m',h3,rfl,i2,⟨sa,n,sc,xs,hc,ho,hvs,hlo⟩,hst⟩|⟨vd,m',h3,rfl,hcn⟩)
 ·refine .inl ⟨sa,n,sc,rfl,by simp[World.cell?,hc],fun w3 hw3=>?_⟩;have hsl:(m'.steps:Int)<=S.fuel:=i2.sl.1;have hs2:S.fuel<=20000:=i2.sl.2;obtain⟨rfl,hrow⟩:=qhh ho;have hlx:=hvs.1;refine Calls.mono (qc9 H S m' w3 sa sc l xs u (.iface t' y') (Inv.lk hw3 i2) hvs hu ?_ (by omega)) ?_
  ·rcases hrow with h|⟨g,cur,rfl,_,hg,_,hx⟩
   ·exact .inl h
   ·refine .inr ⟨g,0,rfl,fun j hj=>?_⟩;have:=hx j xs[j] (List.getElem?_eq_getElem hj);simp[World.cell?,hw3.heap,hg,this]
  ·rintro e w4 ⟨L,z,rfl,hx,hi,hz,_⟩;exact .inl ⟨L,_,_,z,by simp[value,h3],rfl,hx.up,hi,hz⟩
 ·exact .inr ⟨_,rfl,.inr ⟨vd,m',by simp[value,h3],rfl,hcn⟩⟩
theorem qj2(g o cap q mb b ku t1:Nat)(y1:Value)(cu:Array Value)(w:World)(Q:Ending->World->Prop)
  (hQ:∀e w,Q e w->(∃v,e=.returned v)\/(∃ps,e=.panicked ps))
  (h0:w.cell? ⟨g,o,none⟩=some (.iface 281 (.pointer (some ⟨b,0,none⟩))))(h1:w.cell? ⟨g,o+1,none⟩=some (.iface t1 y1))
  (hE:∀w',Lk (w.alloc (.cells #[.slice none 0 0] 184)) w'->Calls prog 206 #[.iface t1 y1,.func (.func 282) #[] #[.pointer (some ⟨q,0,none⟩),.pointer (some ⟨w.heap.size,0,none⟩)]] w' fun e w2=>(∃sa n sc,e=.returned (.tuple #[])/\w2.cell? ⟨w.heap.size,0,none⟩=some (.slice sa n sc)/\w2.cell? ⟨q,0,none⟩=some (.pointer (some ⟨mb,0,none⟩))/\∀w3,Lk w2 w3->Calls prog 283 #[.pointer (some ⟨mb,0,none⟩),.iface 281 (.pointer (some ⟨b,0,none⟩)),.slice sa n sc,.func (.func ku) #[] cu] w3 Q)\/(∃ps,e=.panicked ps/\Q e w2)):
  Calls prog 280 #[.slice (some ⟨g,o,none⟩) 2 cap,.func (.func ku) #[] cu,.pointer (some ⟨q,0,none⟩)] w Q:=by
 have HE:=hZ hE;have HQ:=hZ hQ;have HM:=hZ (qao (some ⟨g,o,none⟩) 2 cap w (by omega));have HA:=hZ (fun w=>qb0 b w);have l1:=qac h0;have l2:=qac h1;clear hE hQ;go_enter func280,ntmps280
 go_wp2_with (first|(go_at_call 258;refine HM.out.mono ?_;rintro e w2 ⟨rfl,hww⟩;obtain rfl:=hww.symm)|(go_at_call 281;refine(HA.out _).mono ?_;rintro e w2 ⟨rfl,hww⟩;obtain rfl:=hww.symm)|(go_at_call 206;refine(HE.out _ (by exact⟨rfl,rfl,rfl,rfl⟩)).mono ?_;rintro e w2 (⟨sa,n,sc,rfl,hc,hc2,hq⟩|⟨ps,rfl,hq⟩);all_goals have HK:=hZ hq;clear hq;refine Hid.out ?_))
 ·refine hZ ?_;go_wp2_with (go_at_call 283;refine(HK.out _ (by exact⟨rfl,rfl,rfl,rfl⟩)).mono ?_;intro e w2 hq;rcases HQ.out _ _ hq with⟨v,rfl⟩|⟨ps,rfl⟩)
  ·go_wp2;exact hq
  ·exact⟨rfl,hq⟩
 ·exact⟨rfl,HK.out⟩
theorem qia(a:Option Addr)(n cap q:Nat)(ku:Nat)(cu:Array Value)(w:World)(hn:n<=1000000)(hne:n≠2):
  Calls prog 280 #[.slice a n cap,.func (.func ku) #[] cu,.pointer (some ⟨q,0,none⟩)] w fun e w'=>e=.panicked (stopP (stopV 7))/\∃o,w'=w.alloc o:=by
 have HM:=hZ (qa4 a n 2 cap w hn hne);go_enter func280,ntmps280
 go_wp2_with (go_at_call 258;refine HM.out.mono ?_;rintro e w2 ⟨rfl,o,rfl⟩)
 exact⟨rfl,rfl,o,rfl⟩
theorem qh9(g o cap q ku t0:Nat)(y0:Value)(cu:Array Value)(w:World)
  (h0:w.cell? ⟨g,o,none⟩=some (.iface t0 y0))(ht:t0≠281):
  Calls prog 280 #[.slice (some ⟨g,o,none⟩) 2 cap,.func (.func ku) #[] cu,.pointer (some ⟨q,0,none⟩)] w fun e w'=>e=.panicked (stopP (stopV 6))/\∃o,w'=w.alloc o:=by
 have HM:=hZ (qao (some ⟨g,o,none⟩) 2 cap w (by omega));have HA:=hZ (fun w=>qcq t0 y0 w ht);clear ht;go_enter func280,ntmps280
 go_wp2_with (first|(go_at_call 258;refine HM.out.mono ?_;rintro e w2 ⟨rfl,hww⟩;obtain rfl:=hww.symm)|(go_at_call 281;refine(HA.out _).mono ?_;rintro e w2 ⟨rfl,o',rfl⟩))
 exact⟨rfl,rfl,o',rfl⟩
theorem qp3(a:Option Addr)(n cap q:Nat)(ku:Nat)(cu:Array Value)(w:World)(hn:n<=1000000)(hne:n≠1):
  Calls prog 284 #[.slice a n cap,.func (.func ku) #[] cu,.pointer (some ⟨q,0,none⟩)] w fun e w'=>e=.panicked (stopP (stopV 7))/\∃o,w'=w.alloc o:=by
 have HM:=hZ (qa4 a n 1 cap w hn hne);go_enter func284,ntmps284
 go_wp2_with (go_at_call 258;refine HM.out.mono ?_;rintro e w2 ⟨rfl,o,rfl⟩)
 exact⟨rfl,rfl,o,rfl⟩
theorem qp2(g o cap q ku t0:Nat)(y0:Value)(cu:Array Value)(w:World)
  (h0:w.cell? ⟨g,o,none⟩=some (.iface t0 y0))(ht:t0≠281):
  Calls prog 284 #[.slice (some ⟨g,o,none⟩) 1 cap,.func (.func ku) #[] cu,.pointer (some ⟨q,0,none⟩)] w fun e w'=>e=.panicked (stopP (stopV 6))/\∃o,w'=w.alloc o:=by
 have HM:=hZ (qao (some ⟨g,o,none⟩) 1 cap w (by omega));have HA:=hZ (fun w=>qcq t0 y0 w ht);clear ht;go_enter func284,ntmps284
 go_wp2_with (first|(go_at_call 258;refine HM.out.mono ?_;rintro e w2 ⟨rfl,hww⟩;obtain rfl:=hww.symm)|(go_at_call 281;refine(HA.out _).mono ?_;rintro e w2 ⟨rfl,o',rfl⟩))
 exact⟨rfl,rfl,o',rfl⟩
theorem qp1(g o cap q mb cb b ku:Nat)(t:Int)(cu:Array Value)(w:World)
  (h0:w.cell? ⟨g,o,none⟩=some (.iface 281 (.pointer (some ⟨b,0,none⟩))))(hq1:w.cell? ⟨q,0,none⟩=some (.pointer (some ⟨mb,0,none⟩)))(hq2:w.cell? ⟨mb,1,none⟩=some (.pointer (some ⟨cb,0,none⟩)))
  (hM:Mt cb t t 11 w)(ht0:0<=t)(hm:t<=1000000):
  Calls prog 284 #[.slice (some ⟨g,o,none⟩) 1 cap,.func (.func ku) #[] cu,.pointer (some ⟨q,0,none⟩)] w fun e w'=>e=.panicked (stopP (stopV 11))/\Below w.heap.size (w.setCell ⟨cb,0,none⟩ (.int .i64 t)) w':=by
 have HM:=hZ (qao (some ⟨g,o,none⟩) 1 cap w (by omega));have HA:=hZ (fun w=>qb0 b w);have HT:=hZ (qa1 cb t t 11 1 w hM ht0 (by omega) (by omega) (by omega) hm);clear hM;go_enter func284,ntmps284
 go_wp2_with (first|(go_at_call 258;refine HM.out.mono ?_;rintro e w2 ⟨rfl,hww⟩;obtain rfl:=hww.symm)|(go_at_call 281;refine(HA.out _).mono ?_;rintro e w2 ⟨rfl,hww⟩;obtain rfl:=hww.symm)|(go_at_call 200;refine HT.out.mono ?_;rintro e w2 ⟨rfl,hb⟩))
 exact⟨rfl,rfl,hb⟩
theorem qie(a:Option Addr)(n cap q:Nat)(ku:Nat)(cu:Array Value)(w:World)(hn:n<=1000000)(hne:n≠3):
  Calls prog 286 #[.slice a n cap,.func (.func ku) #[] cu,.pointer (some ⟨q,0,none⟩)] w fun e w'=>e=.panicked (stopP (stopV 7))/\∃o,w'=w.alloc o:=by
 have HM:=hZ (qa4 a n 3 cap w hn hne);go_enter func286,ntmps286
 go_wp2_with (go_at_call 258;refine HM.out.mono ?_;rintro e w2 ⟨rfl,o,rfl⟩)
 exact⟨rfl,rfl,o,rfl⟩
theorem qid(g o cap q ku t0 t1 t2:Nat)(y0 y1 y2:Value)(cu:Array Value)(w:World)
  (h0:w.cell? ⟨g,o,none⟩=some (.iface t0 y0))(h1:w.cell? ⟨g,o+1,none⟩=some (.iface t1 y1))(h2:w.cell? ⟨g,o+2,none⟩=some (.iface t2 y2))
  (ht:¬(t0=281/\t1=281/\t2=281))(hp:(t0=281->∃b,y0=.pointer (some ⟨b,0,none⟩))/\(t1=281->∃b,y1=.pointer (some ⟨b,0,none⟩))):
  Calls prog 286 #[.slice (some ⟨g,o,none⟩) 3 cap,.func (.func ku) #[] cu,.pointer (some ⟨q,0,none⟩)] w fun e w'=>e=.panicked (stopP (stopV 6))/\∃o,w'=w.alloc o:=by
 have HM:=hZ (qao (some ⟨g,o,none⟩) 3 cap w (by omega));by_cases e0:t0=281
 ·obtain⟨b0,rfl⟩:=hp.1 e0;subst e0;have HA:=hZ (fun w=>qb0 b0 w);by_cases e1:t1=281
  ·obtain⟨b1,rfl⟩:=hp.2 e1;subst e1;have HB:=hZ (fun w=>qb0 b1 w);have HC:=hZ (fun w=>qcq t2 y2 w fun e=>ht ⟨rfl,rfl,e⟩);clear ht hp;go_enter func286,ntmps286
   go_wp2_with (first|(go_at_call 258;refine HM.out.mono ?_;rintro e w2 ⟨rfl,hww⟩;obtain rfl:=hww.symm)|(go_at_call 281;refine(HA.out _).mono ?_;rintro e w2 ⟨rfl,hww⟩;obtain rfl:=hww.symm;refine Hid.out ?_))
   refine hZ ?_;go_wp2_with (go_at_call 281;refine(HB.out _).mono ?_;rintro e w2 ⟨rfl,hww⟩;obtain rfl:=hww.symm;refine Hid.out ?_)
   refine hZ ?_;go_wp2_with (go_at_call 281;refine(HC.out _).mono ?_;rintro e w2 ⟨rfl,o',rfl⟩)
   exact⟨rfl,rfl,o',rfl⟩
  ·have HC:=hZ (fun w=>qcq t1 y1 w e1);clear ht hp e1;go_enter func286,ntmps286
   go_wp2_with (first|(go_at_call 258;refine HM.out.mono ?_;rintro e w2 ⟨rfl,hww⟩;obtain rfl:=hww.symm)|(go_at_call 281;refine(HA.out _).mono ?_;rintro e w2 ⟨rfl,hww⟩;obtain rfl:=hww.symm;refine Hid.out ?_))
   refine hZ ?_;go_wp2_with (go_at_call 281;refine(HC.out _).mono ?_;rintro e w2 ⟨rfl,o',rfl⟩)
   exact⟨rfl,rfl,o',rfl⟩
 ·have HC:=hZ (fun w=>qcq t0 y0 w e0);clear ht hp e0;go_enter func286,ntmps286
  go_wp2_with (first|(go_at_call 258;refine HM.out.mono ?_;rintro e w2 ⟨rfl,hww⟩;obtain rfl:=hww.symm)|(go_at_call 281;refine(HC.out _).mono ?_;rintro e w2 ⟨rfl,o',rfl⟩))
  exact⟨rfl,rfl,o',rfl⟩
theorem qk4(g o cap q mb b0 b1 b2 ku:Nat)(cu:Array Value)(w:World)(Q:Ending->World->Prop)
  (hQ:∀e w,Q e w->(∃v,e=.returned v)\/(∃ps,e=.panicked ps))
  (h0:w.cell? ⟨g,o,none⟩=some (.iface 281 (.pointer (some ⟨b0,0,none⟩))))(h1:w.cell? ⟨g,o+1,none⟩=some (.iface 281 (.pointer (some ⟨b1,0,none⟩))))(h2:w.cell? ⟨g,o+2,none⟩=some (.iface 281 (.pointer (some ⟨b2,0,none⟩))))
  (hq:w.cell? ⟨q,0,none⟩=some (.pointer (some ⟨mb,0,none⟩)))
  (hK:∀w',Lk w w'->Calls prog 287 #[.pointer (some ⟨mb,0,none⟩),.pointer (some ⟨b0,0,none⟩),.pointer (some ⟨b1,0,none⟩),.pointer (some ⟨b2,0,none⟩),.func (.func ku) #[] cu] w' Q):
  Calls prog 286 #[.slice (some ⟨g,o,none⟩) 3 cap,.func (.func ku) #[] cu,.pointer (some ⟨q,0,none⟩)] w Q:=by
 have HK:=hZ hK;have HQ:=hZ hQ;have HM:=hZ (qao (some ⟨g,o,none⟩) 3 cap w (by omega));have HA:=hZ (fun w=>qb0 b0 w);have HB:=hZ (fun w=>qb0 b1 w);have HC:=hZ (fun w=>qb0 b2 w);clear hK hQ;go_enter func286,ntmps286
 go_wp2_with (first|(go_at_call 258;refine HM.out.mono ?_;rintro e w2 ⟨rfl,hww⟩;obtain rfl:=hww.symm)|(go_at_call 281;refine(HA.out _).mono ?_;rintro e w2 ⟨rfl,hww⟩;obtain rfl:=hww.symm;refine Hid.out ?_))
 refine hZ ?_;go_wp2_with (go_at_call 281;refine(HB.out _).mono ?_;rintro e w2 ⟨rfl,hww⟩;obtain rfl:=hww.symm;refine Hid.out ?_)
 refine hZ ?_;go_wp2_with (go_at_call 281;refine(HC.out _).mono ?_;rintro e w2 ⟨rfl,hww⟩;obtain rfl:=hww.symm;refine Hid.out ?_)
 refine hZ ?_;go_wp2_with (go_at_call 287;refine(HK.out _ (by exact⟨rfl,rfl,rfl,rfl⟩)).mono ?_;intro e w2 hq;rcases HQ.out _ _ hq with⟨v,rfl⟩|⟨ps,rfl⟩)
 ·go_wp2;exact hq
 ·exact⟨rfl,hq⟩
end
section
open Sc
theorem qnd(mb b0 b1 b2 ku:Nat)(cu:Array Value)(w:World)(Q:Ending->World->Prop)
  (hQ:∀e w,Q e w->(∃v,e=.returned v)\/(∃ps,e=.panicked ps))
  (hK:∀w',Lk (((((w.alloc (.cells #[.pointer (some ⟨mb,0,none⟩)] 107)).alloc (.cells #[.pointer (some ⟨b0,0,none⟩)] 281)).alloc (.cells #[.pointer (some ⟨b1,0,none⟩)] 281)).alloc (.cells #[.pointer (some ⟨b2,0,none⟩)] 281)).alloc (.cells #[.func (.func ku) #[] cu] 295)) w'->
   Calls prog 283 #[.pointer (some ⟨mb,0,none⟩),.iface 281 (.pointer (some ⟨b0,0,none⟩)),.slice none 0 0,.func (.func 315) #[] #[.pointer (some ⟨w.heap.size,0,none⟩),.pointer (some ⟨w.heap.size+1,0,none⟩),.pointer (some ⟨w.heap.size+3,0,none⟩),.pointer (some ⟨w.heap.size+2,0,none⟩),.pointer (some ⟨w.heap.size+4,0,none⟩)]] w' Q):
  Calls prog 287 #[.pointer (some ⟨mb,0,none⟩),.pointer (some ⟨b0,0,none⟩),.pointer (some ⟨b1,0,none⟩),.pointer (some ⟨b2,0,none⟩),.func (.func ku) #[] cu] w Q:=by
 have HK:=hZ hK;have HQ:=hZ hQ;clear hK hQ;go_enter func287,ntmps287
 go_wp2_with (go_at_call 283;refine(HK.out _ (by exact⟨rfl,rfl,rfl,rfl⟩)).mono ?_;intro e w2 hq;rcases HQ.out _ _ hq with⟨v,rfl⟩|⟨ps,rfl⟩)
 ·go_wp2;exact hq
 ·exact⟨rfl,hq⟩
theorem qm0(mb ku:Nat)(wp:Option Addr)(cu:Array Value)(w:World)(h:w.cell? ⟨mb,4,none⟩=some (.pointer wp)):
  Calls prog 285 #[.pointer (some ⟨mb,0,none⟩),.func (.func ku) #[] cu] w fun e w'=>e=.returned (.pointer (some ⟨w.heap.size+3,0,none⟩))/\
   Lk ((((w.alloc (.cells #[.pointer (some ⟨mb,0,none⟩)] 107)).alloc (.cells #[.func (.func ku) #[] cu] 295)).alloc (.cells #[.pointer wp] 117)).alloc (.cells #[.func (.func 312) #[] #[.pointer (some ⟨w.heap.size,0,none⟩),.pointer (some ⟨w.heap.size+2,0,none⟩),.pointer (some ⟨w.heap.size+1,0,none⟩)]] 300)) w':=by
 have l:=qac h;go_enter func285,ntmps285
 go_wp2;go_ret;exact⟨rfl,rfl,rfl,rfl,rfl⟩
theorem qs8(g o cap q mb cb b ku:Nat)(t mo:Int)(cu:Array Value)(w:World)(Q:Ending->World->Prop)
  (hQ:∀e w,Q e w->(∃v,e=.returned v)\/(∃ps,e=.panicked ps))
  (hS:∀v w',Q (.returned v) w'->w'.cell? ⟨q,0,none⟩=some (.pointer (some ⟨mb,0,none⟩)))
  (h0:w.cell? ⟨g,o,none⟩=some (.iface 281 (.pointer (some ⟨b,0,none⟩))))(hq1:w.cell? ⟨q,0,none⟩=some (.pointer (some ⟨mb,0,none⟩)))(hq2:w.cell? ⟨mb,1,none⟩=some (.pointer (some ⟨cb,0,none⟩)))
  (hM:Mt cb t mo 11 w)(ht0:0<=t)(ht:t+1<=mo)(hm:mo<=1000000)(hqc:q≠cb)
  (hC:∀w',Lk (w.setCell ⟨cb,0,none⟩ (.int .i64 (t+1))) w'->Calls prog 285 #[.pointer (some ⟨mb,0,none⟩),.func (.func ku) #[] cu] w' fun e w1=>∃n,e=.returned (.pointer (some ⟨n,0,none⟩))/\w1.cell? ⟨q,0,none⟩=some (.pointer (some ⟨mb,0,none⟩))/\
   ∀w2,Lk (w1.alloc (.cells #[.iface 281 (.pointer (some ⟨n,0,none⟩))] 116)) w2->Calls prog 283 #[.pointer (some ⟨mb,0,none⟩),.iface 281 (.pointer (some ⟨b,0,none⟩)),.slice (some ⟨w1.heap.size,0,none⟩) 1 1,.func (.func ku) #[] cu] w2 Q):
  Calls prog 284 #[.slice (some ⟨g,o,none⟩) 1 cap,.func (.func ku) #[] cu,.pointer (some ⟨q,0,none⟩)] w Q:=by
 have HC:=hZ hC;have HQ:=hZ hQ;have HS:=hZ hS;have HM:=hZ (qao (some ⟨g,o,none⟩) 1 cap w (by omega));have HA:=hZ (fun w=>qb0 b w);have HT:=hZ (qba cb t mo 11 1 w hM ht0 ht (by omega) hm);have hq3:∀k,((w.setCell ⟨cb,0,none⟩ (.int .i64 (t+1))).drewN k).cell? ⟨q,0,none⟩=some (.pointer (some ⟨mb,0,none⟩)):=fun k=>by rw[qa6,qag hqc];exact hq1
 clear hC hQ hS hM;go_enter func284,ntmps284
 go_wp2_with (first|(go_at_call 258;refine HM.out.mono ?_;rintro e w2 ⟨rfl,hww⟩;obtain rfl:=hww.symm)|(go_at_call 281;refine(HA.out _).mono ?_;rintro e w2 ⟨rfl,hww⟩;obtain rfl:=hww.symm)|(go_at_call 200;refine HT.out.mono ?_;rintro e w2 ⟨rfl,k,rfl⟩;refine Hid.out ?_))
 refine hZ ?_;go_wp2_with (fail)
 have hq4:=hq3 k;have HL:Hid (Lk (w.setCell ⟨cb,0,none⟩ (.int .i64 (t+1))) ((w.setCell ⟨cb,0,none⟩ (.int .i64 (t+1))).drewN k)):=⟨rfl,rfl,rfl,rfl⟩;generalize (w.setCell ⟨cb,0,none⟩ (.int .i64 (t+1))).drewN k=W at hq4 HL|-;have HL2:Hid (∀w',Lk W w'->Lk (w.setCell ⟨cb,0,none⟩ (.int .i64 (t+1))) w'):=fun w' h=>⟨h.1.trans HL.out.1,h.2.trans HL.out.2,h.3.trans HL.out.3,h.4.trans HL.out.4⟩
 clear hq3 HL HM HA HT h0 hq2;go_region_held2 (fun w'=>w'.cell? ⟨q,0,none⟩=some (.pointer (some ⟨mb,0,none⟩))) (first|(exact HS.out _ _ hq)|(exact HC1.out.1)|go_keep)
  (first|(go_at_call 285;refine(HC.out _ (HL2.out _ (by exact⟨rfl,rfl,rfl,rfl⟩))).mono ?_;rintro e w1 ⟨n,rfl,hc⟩;have HC1:=hZ hc;clear hc)|(go_at_call 283;refine(HC1.out.2 _ (by exact⟨rfl,rfl,rfl,rfl⟩)).mono ?_;intro e w3 hq;rcases HQ.out _ _ hq with⟨v,rfl⟩|⟨ps,rfl⟩;rotate_left;(exact⟨rfl,hq⟩)))
 all_goals(go_wp2;exact hq)
end
end Go.Proofs.YtldaocpojcfljaaGreatDoor
